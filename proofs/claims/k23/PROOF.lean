import PyProof.Rows.All
import Wide.All
import OpenK.AllK
import Wide.FinOn
import Lean
import PyProof.EqAt
import PyProof.EqKinds
import PyProof.TupleCall
import PySem.Challenge.RW_dialvault_k23_steps_walked
set_option Elab.async false
set_option linter.all false
set_option maxRecDepth 100000
set_option maxHeartbeats 0
noncomputable section
namespace L2
open PySem PySem.Spec PyProof.Rows
abbrev Key:=Sum Int Str
def E3:Key->Value->Bool
 | .inl k,v=>Value.isInt k v
 | .inr x,v=>Value.isStrOf x v
def MS (w:World):Key->Int
 | .inl k=>hashInt k
 | .inr x=>hashStr w x
theorem bV:∀ {k:Key} {v:Value},E3 k v=true->(∃ i t,k=Sum.inl i/\v=Value.int i t)\/(∃ x t,k=Sum.inr x/\v=Value.str x t)
 | .inl i,v,h=>by
  obtain ⟨t,e⟩:=Value.isInt_shape (k:=i) (v:=v) h
  exact .inl ⟨i,t,rfl,e⟩
 | .inr x,v,h=>by
  obtain ⟨t,e⟩:=Value.isStrOf_shape (x:=x) (v:=v) h
  exact .inr ⟨x,t,rfl,e⟩
theorem FW (a b:Int):decide ((Sum.inl a:Key)=Sum.inl b)=(a==b):=by
 by_cases e:a=b
 ·subst e;simp
 ·have h:¬ (Sum.inl a:Key)=Sum.inl b:=fun q=>e (Sum.inl.inj q)
  rw [decide_eq_false h]
  exact (beq_eq_false_iff_ne.mpr e).symm
theorem FY (a b:Str):decide ((Sum.inr a:Key)=Sum.inr b)=decide (a=b):=by
 by_cases e:a=b
 ·subst e;simp
 ·have h:¬ (Sum.inr a:Key)=Sum.inr b:=fun q=>e (Sum.inr.inj q)
  rw [decide_eq_false h,decide_eq_false e]
theorem Gs (a:Int) (b:Str):decide ((Sum.inl a:Key)=Sum.inr b)=false:=decide_eq_false (fun q=>nomatch q)
theorem Gw (a:Str) (b:Int):decide ((Sum.inr a:Key)=Sum.inl b)=false:=decide_eq_false (fun q=>nomatch q)
def xR (prog:Program) (w:World):PySem.KeyKind prog w Key where
 is:=E3
 hash:=MS w
 inj:=fun v a b ha hb=>by
  rcases bV ha with ⟨i,t,rfl,rfl⟩ | ⟨x,t,rfl,rfl⟩
  ·rcases bV hb with ⟨j,u,rfl,e⟩ | ⟨y,u,rfl,e⟩
   ·injection e with e1 _;rw [e1]
   ·exact nomatch e
  ·rcases bV hb with ⟨j,u,rfl,e⟩ | ⟨y,u,rfl,e⟩
   ·exact nomatch e
   ·injection e with e1 _;rw [e1]
 byValue:=fun k v h=>by
  rcases bV h with ⟨i,t,rfl,rfl⟩ | ⟨x,t,rfl,rfl⟩ <;> rfl
 pyHash:=fun hv h=>by
  rcases bV hv with ⟨i,t,rfl,rfl⟩ | ⟨x,t,rfl,rfl⟩
  ·exact wpAny_pyHash_int h
  ·exact wpAny_pyHash_str h
 eqBool:=fun hu hv h=>by
  rcases bV hu with ⟨i,t,rfl,rfl⟩ | ⟨x,t,rfl,rfl⟩
  ·rcases bV hv with ⟨j,u,rfl,rfl⟩ | ⟨y,u,rfl,rfl⟩
   ·rw [FW] at h;exact wpAny_eqBool_int h
   ·rw [Gs] at h;exact SeqAt.EqAt.int_str i t y u _ _ _ _ h
  ·rcases bV hv with ⟨j,u,rfl,rfl⟩ | ⟨y,u,rfl,rfl⟩
   ·rw [Gw] at h;exact SeqAt.EqAt.str_int x t j u _ _ _ _ h
   ·rw [FY] at h;exact wpAny_eqBool_str h
 «strs»:=fun k x t v h=>by
  rcases bV h with ⟨i,u,rfl,e⟩ | ⟨y,u,rfl,e⟩
  ·exact nomatch e
  ·injection e with e1 _
   subst e1
   cases v <;> rfl
end L2
namespace L2
open PySem PySem.Spec PyProof.Rows
inductive V where
 | cI | bl (b:Bool) | int (i:Int) | str (x:Str) | byt (b:Array UInt8) | ES (b:UInt64) | ref (a:Addr) | ty (n:String)
 deriving DecidableEq
def RelV:V->Value->Prop
 | .cI,u=>u=Value.none
 | .bl b,u=>u=Value.bool b
 | .int i,u=>∃ t,u=Value.int i t
 | .str x,u=>∃ t,u=Value.str x t
 | .byt b,u=>∃ t,u=Value.bytes b t
 | .ES b,u=>∃ t,u=Value.float b t
 | .ref a,u=>u=Value.ref a
 | .ty n,u=>u=Value.type n
abbrev Vals:List V->List Value->Prop:=Paired RelV
theorem Vals.length {xs:List V} {us:List Value} (r:Vals xs us):xs.length=us.length:=Paired.length r
theorem Vals.get:∀ {xs:List V} {us:List Value} {i:Nat} {x:V},Vals xs us->xs[i]?=some x->∃ u,us[i]?=some u/\RelV x u
 | _,_,_,_,.nil,e=>by simp at e
 | _,_,0,_,.cons r _,e=>by simp at e;subst e;exact ⟨_,rfl,r⟩
 | _,_,i+1,x,.cons _ t,e=>by
  obtain ⟨u,h1,h2⟩:=Vals.get (i:=i) (x:=x) t (by simpa using e)
  exact ⟨u,by simpa using h1,h2⟩
theorem Vals.append:∀ {xs ys:List V} {us ws:List Value},Vals xs us->Vals ys ws->Vals (xs++ys) (us++ws)
 | _,_,_,_,.nil,s=>s
 | _,_,_,_,.cons r t,s=>.cons r (Vals.append t s)
theorem Vals.take:∀ {xs:List V} {us:List Value} (n:Nat),Vals xs us->Vals (xs.take n) (us.take n)
 | _,_,0,_=>.nil
 | _,_,_+1,.nil=>.nil
 | _,_,n+1,.cons r t=>.cons r (Vals.take n t)
theorem Vals.drop:∀ {xs:List V} {us:List Value} (n:Nat),Vals xs us->Vals (xs.drop n) (us.drop n)
 | _,_,0,r=>r
 | _,_,_+1,.nil=>.nil
 | _,_,n+1,.cons _ t=>Vals.drop n t
def mF:Option V->Option Value->Prop
 | some v,some u=>RelV v u
 | none,none=>True
 | _,_=>False
def KV {κ:Type}:List (κ×V)->List (κ×Value)->Prop:=Paired fun (p:κ×V) (q:κ×Value)=>p.1=q.1/\RelV p.2 q.2
def kV:Key->V
 | .inl i=>.int i
 | .inr x=>.str x
inductive HO where
 | lst (xs:List V)
 | tup (xs:List V)
 | dK (kvs:List (Key×V)) | dT (kvs:List (List Key×V))
 | set (S:Int->Bool) (n:Nat)
 | ins (C dx:Addr) (fs:List (Str×V))
 | own (x:Addr)
 | xd (fs:List (Str×V))
 | met (f x:Addr)
 | jS (lo hi:Int)
 | qU (o:Obj) (u:HO)
 | EV (ps:Array Value)
 | ext (φ:Heap->Prop)
abbrev Hp:=Addr->Option HO
def upd (H:Hp) (a:Addr) (o:HO):Hp:=fun b=>if b=a then some o else H b
theorem aC {H:Hp} {a:Addr} {o:HO}:upd H a o a=some o:=by unfold upd;rw [if_pos rfl]
theorem au {H:Hp} {a b:Addr} {o:HO} (h:b≠a):upd H a o b=H b:=by unfold upd;rw [if_neg h]
theorem uR {H:Hp} {a:Addr} {o u:HO}:upd (upd H a o) a u=upd H a u:=by
 funext b;unfold upd;split <;> rfl
theorem bF {H:Hp} {a b:Addr} {o:HO} (h:H a=some o) (h':H b=none):a≠b:=by
 intro e;subst e;rw [h] at h';cases h'
section
variable (P:Program) (w:World)
def bT (H:Hp) (h:Heap) (a:Addr):HO->Prop
 | .lst xs=>xs.length<=sizeLine/\∃ (its:List Value) (n:Nat),Vals xs its/\h.get? a=some { cls:=.type "list", data:=.seq its.toArray n }
 | .tup xs=>xs.length<=sizeLine/\∃ its:List Value,Vals xs its/\IsTup h a its.toArray
 | .dK kvs=>kvs.length<=sizeLine/\(a==sysModules)=false/\∃ vs,KV kvs vs/\h.DictOf (xR P w) a vs
 | .dT kvs=>kvs.length<=sizeLine/\(a==sysModules)=false/\∃ xs:List (List Key×Addr×Value),
   Paired (fun (p:List Key×V) (q:List Key×Addr×Value)=>p.1=q.1/\H q.2.1=some (.tup (p.1.map kV))/\RelV p.2 q.2.2) kvs xs ∧
   ∃ o es ep,h.get? a=some o/\o.ExactDict/\o.data=.dict es ep/\es.toList=xs.map (entryOfKey (tupleKind (xR P w)))/\(xs.map (·.1)).Nodup
 | .set S n=>h.SetOf (intKind P w) a S n
 | .ins C dx fs=>H dx=some (.own a)/\fs.length<=1000/\dx≠a/\h.get? a=some (PySem.W.instObj C dx) ∧
   ∃ mA,h.Ns1 dx mA/\(∀ f,mF (fs.lookup f) (mA f))/\PySem.Within mA (fs.map (·.1))
 | .own _=>∃ o,h.get? a=some o
 | .xd fs=>∃ mA,h.Ns1 a mA/\∀ f,mF (fs.lookup f) (mA f)
 | .jS lo hi=>∃ t u v,h.get? a=some { cls:=.type "range", data:=.fields #[.int lo t,.int hi u,.int 1 v] }
 | .qU o u=>h.get? a=some o/\bT H h a u
 | .EV ps=>h.get? a=some { cls:=.none,data:=.fields ps }
 | .met f x=>h.get? a=some (PySem.W.methodObj (.ref f) (.ref x))
 | .ext φ=>φ h/\(∃ o,h.get? a=some o)/\∀ h1 h2:Heap,φ h1->(∀ o,h1.get? a=some o->h2.get? a=some o)->φ h2
def nJ (H:Hp) (h:Heap):Prop:=∀ a o,H a=some o->bT P w H h a o
end
section
variable {P:Program} {w:World} {H H':Hp} {h h':Heap} {a:Addr} {o:HO}
theorem bT.lt (x:bT P w H h a o):a<h.objs.size:=by
 cases o with
 | lst xs=>obtain ⟨_,_,_,_,e⟩:=x;exact Heap.lt_size e
 | tup xs=>obtain ⟨_,_,_,p⟩:=x;exact p.lt
 | dK kvs=>obtain ⟨_,_,_,_,o,_,_,e,_⟩:=x;exact Heap.lt_size e
 | dT kvs=>obtain ⟨_,_,_,_,o,_,_,e,_⟩:=x;exact Heap.lt_size e
 | set S n=>obtain ⟨o,_,_,_,e,_⟩:=x;exact Heap.lt_size e
 | ins C dx fs=>obtain ⟨_,_,_,e,_⟩:=x;exact Heap.lt_size e
 | own y=>obtain ⟨_,e⟩:=x;exact Heap.lt_size e
 | xd fs=>obtain ⟨_,⟨_,_,_,e,_⟩,_⟩:=x;exact Heap.lt_size e
 | jS lo hi=>obtain ⟨_,_,_,e⟩:=x;exact Heap.lt_size e
 | qU ob u=>obtain ⟨e,_⟩:=x;exact Heap.lt_size e
 | EV ps=>exact Heap.lt_size (show h.get? a=some _ from x)
 | met f y=>exact Heap.lt_size (show h.get? a=some _ from x)
 | ext φ=>obtain ⟨_,⟨_,e⟩,_⟩:=x;exact Heap.lt_size e
theorem Paired.JP {α β:Type} {F G:α->β->Prop}:∀ {l₁:List α} {l₂:List β},Paired F l₁ l₂->(∀ a b,F a b->G a b)->Paired G l₁ l₂
 | _,_,.nil,_=>.nil
 | _,_,.cons r t,f=>.cons (f _ _ r) (Paired.JP t f)
theorem bT.og (x:bT P w H h a o) (k:∀ b u,(b=a\/H b=some (.own a))->h.get? b=some u->h'.get? b=some u)
  (ho:∀ b,H b=some (.own a)->H' b=some (.own a)) (ht:∀ b xs,H b=some (.tup xs)->H' b=some (.tup xs)):bT P w H' h' a o:=by
 induction o with
 | lst xs=>obtain ⟨z,its,n,r,e⟩:=x;exact ⟨z,its,n,r,k _ _ (.inl rfl) e⟩
 | tup xs=>obtain ⟨z,its,r,ob,e,c⟩:=x;exact ⟨z,its,r,ob,k _ _ (.inl rfl) e,c⟩
 | dK kvs=>obtain ⟨z,y,vs,r,ob,es,ep,e,c⟩:=x;exact ⟨z,y,vs,r,ob,es,ep,k _ _ (.inl rfl) e,c⟩
 | dT kvs =>
  obtain ⟨z,y,xs,r,ob,es,ep,e,c⟩:=x
  exact ⟨z,y,xs,Paired.JP r fun p q z=>⟨z.1,ht _ _ z.2.1,z.2.2⟩,ob,es,ep,k _ _ (.inl rfl) e,c⟩
 | set S n=>obtain ⟨ob,es,ep,t,e,c⟩:=x;exact ⟨ob,es,ep,t,k _ _ (.inl rfl) e,c⟩
 | ins C dx fs =>
  obtain ⟨d,z,ne,e,mA,⟨od,es,ep,e2,c⟩,r⟩:=x
  exact ⟨ho _ d,z,ne,k _ _ (.inl rfl) e,mA,⟨od,es,ep,k _ _ (.inr d) e2,c⟩,r⟩
 | own y=>obtain ⟨ob,e⟩:=x;exact ⟨ob,k _ _ (.inl rfl) e⟩
 | xd fs=>obtain ⟨mA,⟨od,es,ep,e,c⟩,r⟩:=x;exact ⟨mA,⟨od,es,ep,k _ _ (.inl rfl) e,c⟩,r⟩
 | jS lo hi=>obtain ⟨t,u,v,e⟩:=x;exact ⟨t,u,v,k _ _ (.inl rfl) e⟩
 | qU ob u ih=>obtain ⟨e,q⟩:=x;exact ⟨k _ _ (.inl rfl) e,ih q⟩
 | EV ps =>
  have e:h.get? a=some { cls:=.none,data:=.fields ps }:=x
  show h'.get? a=some { cls:=.none,data:=.fields ps }
  exact k a _ (.inl rfl) e
 | met f y =>
  have e:h.get? a=some (PySem.W.methodObj (.ref f) (.ref y)):=x
  show h'.get? a=some (PySem.W.methodObj (.ref f) (.ref y))
  exact k a _ (.inl rfl) e
 | ext φ=>obtain ⟨p,⟨o,e⟩,st⟩:=x;exact ⟨st _ _ p fun o q=>k _ _ (.inl rfl) q,⟨o,k _ _ (.inl rfl) e⟩,st⟩
theorem nJ.lt (x:nJ P w H h) (e:H a=some o):a<h.objs.size:=(x a o e).lt
theorem nJ.fresh (x:nJ P w H h) (e:h.objs.size<=a):H a=none:=by
 cases q:H a with
 | none=>rfl
 | some u=>exact absurd (Nat.lt_of_lt_of_le (x.lt q) e) (Nat.lt_irrefl _)
theorem nJ.kept (x:nJ P w H h) (k:∀ b u,h.get? b=some u->h'.get? b=some u):nJ P w H h':=fun a o e =>
 (x a o e).og (fun b u _ q=>k b u q) (fun _ q=>q) fun _ _ q=>q
theorem nJ.laid (x:nJ P w H h) (k:∀ b u,h.get? b=some u->h'.get? b=some u) (hp:h.objs.size<=a) (new:bT P w (upd H a o) h' a o):nJ P w (upd H a o) h':=fun b u e=>by
 have hn:=x.fresh hp
 by_cases hb:b=a
 ·subst hb;rw [aC] at e;cases e;exact new
 ·rw [au hb] at e
  exact (x b u e).og (fun c v _ q=>k c v q) (fun c q=>by rw [au (bF q hn)];exact q) fun c xs q=>by rw [au (bF q hn)];exact q
end
def Rd (H:Hp) (a:Addr) (u:HO):Prop:=H a=some u\/∃ o,H a=some (.qU o u)
theorem Rd.ok {P:Program} {w:World} {H:Hp} {h:Heap} {a:Addr} {u:HO} (r:Rd H a u) (x:nJ P w H h):bT P w H h a u:=by
 rcases r with r | ⟨o,r⟩
 ·exact x a u r
 ·obtain ⟨_,q⟩:=x a _ r
  exact q
def Kp:Option HO->Prop
 | some (.lst _)=>True
 | some (.dK _)=>True
 | some (.dT _)=>True
 | some (.set _ _)=>True
 | some (.ins _ _ _)=>True
 | some (.ext _)=>True
 | _=>False
section
variable {P:Program} {w:World} {H:Hp} {h h':Heap} {x e:Addr} {o':HO}
theorem nJ.write (ok:nJ P w H h) (mu:Kp (H x)) (he:e=x\/H e=some (.own x)) (k:∀ b u,b≠e->h.get? b=some u->h'.get? b=some u) (heo:∃ u,h'.get? e=some u)
  (new:bT P w (upd H x o') h' x o'):nJ P w (upd H x o') h':=fun b u q=>by
 have nown:∀ c y,H c=some (.own y)->c≠x:=fun c y r z=>by subst z;rw [r] at mu;exact mu
 have ntup:∀ c xs,H c=some (.tup xs)->c≠x:=fun c xs r z=>by subst z;rw [r] at mu;exact mu
 by_cases hb:b=x
 ·subst hb;rw [aC] at q;cases q;exact new
 ·rw [au hb] at q
  by_cases hbe:b=e
  ·have q':H b=some (.own x):=by
    rcases he with z | z
    ·exact absurd (hbe.trans z) hb
    ·rw [hbe];exact z
   rw [q] at q';cases q'
   obtain ⟨v,hv⟩:=heo
   exact ⟨v,by rw [hbe];exact hv⟩
  ·refine (ok b u q).og (fun c v hc r=>k c v ?_ r) (fun c r=>by rw [au (nown c b r)];exact r) fun c xs r=>by rw [au (ntup c xs r)];exact r
   rcases hc with rfl | hc
   ·exact hbe
   ·rintro rfl
    rcases he with z | z
    ·exact nown c b hc z
    ·rw [hc] at z;cases z;exact hb rfl
end
structure Un (fs ex:List Addr) (H H':Hp) (h h':Heap):Prop where
 keep:∀ b o,h.get? b=some o->H b=none->b ∉ fs->b ∉ ex->h'.get? b=some o
 slot:∀ b o,h.get? b=some o->H b=none->b∈fs->b ∉ ex->∃ sl,h'.get? b=some { o with slots:=sl }
 free:∀ b o,h.get? b=some o->H b=none->b ∉ ex->H' b=none
 there:∀ b o,h.get? b=some o->b ∉ ex->∃ o',h'.get? b=some o'
 uS:∀ b xs,H b=some (.tup xs)->H' b=some (.tup xs)
 mO:∀ b o u,H b=some (.qU o u)->H' b=some (.qU o u)
 ui:∀ b ps,H b=some (.EV ps)->∃ more,H' b=some (.EV (ps++more))
section
variable {fs fs' ex ex':List Addr} {H H1 H2:Hp} {h h1 h2 h':Heap} {a x e:Addr} {o:HO}
theorem Un.any (u:Un fs ex H H1 h h1) {b:Addr} {ob:Obj} (q:h.get? b=some ob) (n:H b=none) (hx:b ∉ ex):∃ sl,h1.get? b=some { ob with slots:=sl }:=by
 by_cases hb:b∈fs
 ·exact u.slot b ob q n hb hx
 ·exact ⟨ob.slots,u.keep b ob q n hb hx⟩
theorem Un.kept (k:∀ b u,h.get? b=some u->h'.get? b=some u):Un fs ex H H h h' :=
 ⟨fun b ob q _ _ _=>k b ob q,fun b ob q _ _ _=>⟨ob.slots,k b ob q⟩,fun _ _ _ n _=>n,fun b ob q _=>⟨ob,k b ob q⟩,fun _ _ q=>q,fun _ _ _ q=>q,fun _ ps q=>⟨#[],by rw [q];simp⟩⟩
theorem Un.refl:Un fs ex H H h h:=Un.kept fun _ _ q=>q
theorem Un.laid (k:∀ b u,h.get? b=some u->h'.get? b=some u) (hp:h.objs.size<=a) (hn:H a=none):Un fs ex H (upd H a o) h h' where
 keep:=fun b u q _ _ _=>k b u q
 slot:=fun b u q _ _ _=>⟨u.slots,k b u q⟩
 free:=fun b u q n _=>by rw [au (Nat.ne_of_lt (Nat.lt_of_lt_of_le (Heap.lt_size q) hp))];exact n
 there:=fun b u q _=>⟨u,k b u q⟩
 uS:=fun b xs q=>by rw [au (bF q hn)];exact q
 mO:=fun b u xs q=>by rw [au (bF q hn)];exact q
 ui:=fun b ps q=>⟨#[],by rw [au (bF q hn),q];simp⟩
theorem Un.write (mu:Kp (H x)) (he:e=x\/H e=some (.own x)) (k:∀ b u,b≠e->h.get? b=some u->h'.get? b=some u) (heo:∃ u,h'.get? e=some u):Un fs ex H (upd H x o) h h':=by
 have hx:∀ b,H b=none->b≠x:=fun b n z=>by subst z;rw [n] at mu;exact mu
 have hb:∀ b,H b=none->b≠e:=fun b n z=>by
  subst z
  rcases he with r | r
  ·exact hx b n r
  ·rw [n] at r;cases r
 have hm:∀ b u,H b=some u->¬ Kp (some u)->b≠x:=fun b u q nm z=>by subst z;rw [q] at mu;exact nm mu
 refine ⟨fun b u q n _ _=>k b u (hb b n) q,fun b u q n _ _=>⟨u.slots,k b u (hb b n) q⟩,fun b u q n _=>by rw [au (hx b n)];exact n,fun b u q _=>?_,
  fun b xs q=>by rw [au (hm b _ q fun z=>z)];exact q,fun b u xs q=>by rw [au (hm b _ q fun z=>z)];exact q,fun b ps q=>⟨#[],by rw [au (hm b _ q fun z=>z),q];simp⟩⟩
 by_cases hbe:b=e
 ·subst hbe;exact heo
 ·exact ⟨u,k b u hbe q⟩
end
def Ke (h:Heap) (H:Hp):List Addr:=(List.range h.objs.size).filter fun a=>(H a).isSome
def tX (h:Heap) (H:Hp):Heap:=PySem.W.hideAll h (Ke h H)
theorem yS (h:Heap) (H:Hp):(tX h H).objs.size=h.objs.size:=PySem.W.hideAll_size _ _
theorem A8 {h:Heap} {H:Hp} {b:Addr} {o:Obj} (e:h.get? b=some o) (n:H b=none):(tX h H).get? b=some o :=
 PySem.W.hideAll_get _ e fun hm=>by
  have q:(H b).isSome=true:=(List.mem_filter.mp hm).2
  rw [n] at q;simp at q
theorem Eo {h:Heap} {H:Hp} {b:Addr} {o:Obj} (e:(tX h H).get? b=some o):h.get? b=some o/\H b=none:=by
 have e':h.get? b=some o:=PySem.W.of_hideAll (Ke h H) e
 refine ⟨e',?_⟩
 cases q:H b with
 | none=>rfl
 | some x =>
  have hm:b∈Ke h H:=List.mem_filter.mpr ⟨List.mem_range.mpr (Heap.lt_size e'),by simp [q]⟩
  have z:(tX h H).get? b=none:=PySem.W.hideAll_none (Ke h H) hm
  rw [z] at e;cases e
def CV (g h:Heap) (L:Addr):List (Addr×Obj):=(List.range h.objs.size).filterMap fun a=>if a=L\/(g.get? a).isSome=true then none else (h.get? a).map fun o=>(a,o)
def rest (g h:Heap) (L d:Addr):List (Addr×Obj):=(CV g h L).filter fun p=>decide (p.1≠d)
end L2
namespace L2
open PySem PySem.Spec PyProof.Rows
structure Mod (K:PySem.W.Frag) (mg:Str->Option Value) (base:Heap):Prop where
 Ez:K.In base
 glob:base.Ns mainGlobals mg
 blt:∃ mb,base.Ns builtinsNs mb/\∀ x:Str,x ≠ "__name__" -> mb x=bootBuiltins x
 nolimit:base.NoLimit
structure Cx where
 prog:Program
 w:World
 K:PySem.W.Frag
 mg:Str->Option Value
 base:Heap
 A:Around
 N:List Str
 s₀:Shared
 H₀:Hp
 env:Env
 outer:List Env
 stack:List Env
 ex:List Addr
 fn:Str->Bool
 calm:Bool
 pn:List (Addr×Obj)
 xe:Value->Shared->Prop
def wy (l:List Env):List Addr:=l.filterMap (·.frame)
abbrev Cx.fs (X:Cx):List Addr:=wy X.outer
def DF (sc:Scope) (x:Str):Prop:=sc.names.lookup x=some .local\/sc.names.lookup x=some .cell\/sc.names.lookup x=some .free
def Loc (sc:Scope) (x:Str):Prop:=sc.names.lookup x=some .local\/sc.names.lookup x=some .cell
def Look (env:Env) (h:Heap) (m:Str->Option Value) (x:Str) (u:Value):Prop :=
 (env.kindOf x=some .local/\m x=some u)\/((env.kindOf x=some .cell\/env.kindOf x=some .free)/\∃ c,env.cells.lookup x=some c/\h.IsCell c (some u))
structure Cx.Ok (X:Cx):Prop where
 mod:Mod X.K X.mg X.base
 kind:X.env.scope.kind=.function
 glob:X.env.globals=mainGlobals
 blt:X.env.builtins=builtinsNs
 above:X.s₀.heap.objs.size<=X.env.locals
 inj:∀ x y c,X.env.cells.lookup x=some c->X.env.cells.lookup y=some c->x=y
 has:∀ x,(X.env.kindOf x=some .cell\/X.env.kindOf x=some .free)->∃ c,X.env.cells.lookup x=some c
 JC:∀ x c,X.fn x=true->X.env.cells.lookup x=some c->X.s₀.heap.objs.size<=c
 hd:X.calm=true->X.A.handled=none
 frames:X.A.frames=some X.stack
 Kr:X.stack=X.outer\/(X.stack=X.env::X.outer/\X.env.frame=some X.env.locals)
 LY:∀ b∈X.ex,b≠X.env.locals/\∀ x c,X.env.cells.lookup x=some c->c≠b
 bs:∀ b o,X.base.get? b=some o->X.s₀.heap.get? b=some o/\X.H₀ b=none
 EL:X.base.objs.size<=X.s₀.heap.objs.size
 yE:∀ b o,X.base.get? b=some o->b ∉ X.ex
 AZ:∀ b∈X.ex,b ∉ X.fs
 nZ:X.s₀.heap.FunFrames X.base X.outer
 FD:∀ b∈X.fs,X.H₀ b=none
structure Inv (X:Cx) (pins:List (Addr×Obj)) (σ:List (Option V)) (H:Hp) (s:Shared):Prop where
 ok:X.Ok
 os:s.os=X.s₀.os
 bare:AllBare s.gens
 base:Un X.fs X.ex X.H₀ H X.s₀.heap s.heap
 loc:∃ m,s.heap.Ns X.env.locals m/\∀ (i:Nat) (x:Str) (v:V),X.N[i]?=some x->σ[i]?=some (some v)->DF X.env.scope x->∃ u,RelV v u/\Look X.env s.heap m x u
 cell:∀ x c,X.env.cells.lookup x=some c->∃ v,s.heap.IsCell c v
 free:H X.env.locals=none
 kR:∀ x c,X.env.cells.lookup x=some c->H c=none
 pin:∀ p∈X.pn++pins,s.heap.get? p.1=some p.2/\H p.1=none/\p.1≠X.env.locals/\p.1 ∉ X.fs/\∀ v,p.2.data≠.cell v
 bx:nJ X.prog X.w H s.heap
 len:σ.length=X.N.length
section
variable {X:Cx} {pins:List (Addr×Obj)} {σ:List (Option V)} {H H':Hp} {s:Shared} {h':Heap}
theorem Cx.Ok.LQ (ok:X.Ok) {b:Addr} {o:Obj} (e:X.base.get? b=some o):b ∉ X.fs:=fun hb=>by
 have:=(ok.nZ.mem hb).1
 rw [e] at this;cases this
theorem Inv.bs (I:Inv X pins σ H s):∀ b o,X.base.get? b=some o->s.heap.get? b=some o/\H b=none:=fun b o e =>
 ⟨I.base.keep b o (I.ok.bs b o e).1 (I.ok.bs b o e).2 (I.ok.LQ e) (I.ok.yE b o e),I.base.free b o (I.ok.bs b o e).1 (I.ok.bs b o e).2 (I.ok.yE b o e)⟩
theorem Inv.bk (I:Inv X pins σ H s):∀ b o,X.base.get? b=some o->s.heap.get? b=some o:=fun b o e=>(I.bs b o e).1
theorem Inv.mod (I:Inv X pins σ H s):Mod X.K X.mg X.base:=I.ok.mod
theorem Inv.j0 (I:Inv X pins σ H s):X.K.In s.heap:=I.ok.mod.Ez.keeps I.bk
theorem Inv.lt (I:Inv X pins σ H s):X.env.locals<s.heap.objs.size:=let ⟨_,hn,_⟩:=I.loc;hn.lt
theorem Inv.sz (I:Inv X pins σ H s):X.s₀.heap.objs.size<=s.heap.objs.size:=Nat.le_trans I.ok.above (Nat.le_of_lt I.lt)
theorem Inv.MX (I:Inv X pins σ H s) {a:Addr} (h:s.heap.objs.size<=a):a ∉ X.fs:=fun hb=>by
 obtain ⟨_,o,ho,_⟩:=I.ok.nZ.mem hb
 exact absurd (Nat.lt_of_lt_of_le (Heap.lt_size ho) (Nat.le_trans I.sz h)) (Nat.lt_irrefl _)
theorem Inv.G7 (I:Inv X pins σ H s):∀ x c,X.env.cells.lookup x=some c->c≠X.env.locals:=fun x c e z=>by
 obtain ⟨v,o,ho,hd⟩:=I.cell x c e
 obtain ⟨m,⟨o',es,ep,ho',hd',_⟩,_⟩:=I.loc
 rw [z,ho'] at ho;cases ho;rw [hd'] at hd;cases hd
theorem Inv.nZ (I:Inv X pins σ H s):s.heap.FunFrames X.base X.outer:=by
 have all:∀ (l:List Env),(∀ b∈wy l,b∈X.fs)->X.s₀.heap.FunFrames X.base l->s.heap.FunFrames X.base l:=by
  intro l
  induction l with
  | nil=>intro _ _;trivial
  | cons env r ih =>
   intro hs hl
   obtain ⟨hk,⟨L,o,hf,hn,ho,hd⟩,hr⟩:=hl
   have hL:L∈X.fs:=hs L (by unfold wy;rw [List.filterMap_cons,hf];exact List.mem_cons_self)
   obtain ⟨sl,e⟩:=I.base.slot L o ho (I.ok.FD L hL) hL fun z=>I.ok.AZ L z hL
   exact ⟨hk,⟨L,_,hf,hn,e,hd⟩,ih (fun b hb=>hs b (by unfold wy;rw [List.filterMap_cons,hf];exact List.mem_cons_of_mem _ hb)) hr⟩
 exact all X.outer (fun _ hb=>hb) I.ok.nZ
theorem Inv.stack (I:Inv X pins σ H s):s.heap.FunFrames X.base X.stack:=by
 rcases I.ok.Kr with e | ⟨e,hf⟩
 ·rw [e];exact I.nZ
 ·rw [e]
  obtain ⟨m,hn,_⟩:=I.loc
  refine .cons (by rw [I.ok.kind];decide) hf hn ?_ I.nZ
  exact Heap.get?_none_of_le (Nat.le_trans I.ok.EL I.ok.above)
theorem Inv.tU (I:Inv X pins σ H s):∀ b∈wy X.stack,b∈X.env.locals::X.fs:=fun b hb=>by
 rcases I.ok.Kr with e | ⟨e,hf⟩
 ·rw [e] at hb;exact List.mem_cons_of_mem _ hb
 ·rw [e] at hb
  unfold wy at hb
  rw [List.filterMap_cons,hf] at hb
  exact hb
theorem Inv.t8 (I:Inv X pins σ H s):∀ b∈wy X.stack,H b=none:=fun b hb=>by
 rcases List.mem_cons.mp (I.tU b hb) with e | hb
 ·rw [e];exact I.free
 ·obtain ⟨_,o,ho,_⟩:=I.ok.nZ.mem hb
  exact I.base.free b o ho (I.ok.FD b hb) fun z=>I.ok.AZ b z hb
theorem Inv.step {g':Array GenState} {t':Nat} {d':Drawn} {ch:List Addr} (I:Inv X pins σ H s)
  (hch:∀ b∈ch,(b∈X.ex\/X.s₀.heap.objs.size<=b)/\b≠X.env.locals/\(∀ x c,X.env.cells.lookup x=some c->c≠b)/\∀ p∈X.pn++pins,p.1≠b)
  (keep:∀ b o,b≠X.env.locals->b ∉ X.fs->b ∉ ch->s.heap.get? b=some o->H b=none->h'.get? b=some o)
  (slot:∀ b o,b≠X.env.locals->b∈X.fs->b ∉ ch->s.heap.get? b=some o->H b=none->∃ sl,h'.get? b=some { o with slots:=sl }) (free:∀ b o,b ∉ ch->s.heap.get? b=some o->H b=none->H' b=none)
  (there:∀ b o,b ∉ ch->s.heap.get? b=some o->∃ o',h'.get? b=some o')
  (uS:∀ b xs,H b=some (.tup xs)->H' b=some (.tup xs)) (mO:∀ b o u,H b=some (.qU o u)->H' b=some (.qU o u)) (ui:∀ b ps,H b=some (.EV ps)->∃ more,H' b=some (.EV (ps++more)))
  (ns:∀ m,s.heap.Ns X.env.locals m->h'.Ns X.env.locals m) (bx:nJ X.prog X.w H' h') (hg:AllBare g') :
  Inv X pins σ H' { s with heap:=h',gens:=g',drawn:=d',toks:=t' }:=by
 have neL:∀ b o,X.s₀.heap.get? b=some o->b≠X.env.locals:=fun b o e=>Nat.ne_of_lt (Nat.lt_of_lt_of_le (Heap.lt_size e) I.ok.above)
 have neC:∀ b o,X.s₀.heap.get? b=some o->b ∉ X.ex->b ∉ ch:=fun b o e hx hb=>by
  rcases (hch b hb).1 with z | z
  ·exact hx z
  ·exact absurd (Nat.lt_of_lt_of_le (Heap.lt_size e) z) (Nat.lt_irrefl _)
 have cellK:∀ x c,X.env.cells.lookup x=some c->∀ v,s.heap.IsCell c v->h'.IsCell c v:=fun x c e v ⟨o,ho,hd⟩=>by
  have nch:c ∉ ch:=fun z=>(hch c z).2.2.1 x c e rfl
  by_cases hc:c∈X.fs
  ·obtain ⟨sl,q⟩:=slot c o (I.G7 x c e) hc nch ho (I.kR x c e)
   exact ⟨_,q,hd⟩
  ·exact ⟨o,keep c o (I.G7 x c e) hc nch ho (I.kR x c e),hd⟩
 refine ⟨I.ok,I.os,hg,⟨fun b o e n hb hx=>?_,fun b o e n hb hx=>?_,fun b o e n hx=>?_,fun b o e hx=>?_,fun b xs e=>uS b xs (I.base.uS b xs e),fun b o xs e=>mO b o xs (I.base.mO b o xs e),fun b ps e=>?_⟩,?_,fun x c e=>?_,?_,fun x c e=>?_,fun p hp=>?_,bx,I.len⟩
 ·exact keep b o (neL b o e) hb (neC b o e hx) (I.base.keep b o e n hb hx) (I.base.free b o e n hx)
 ·obtain ⟨sl,e1⟩:=I.base.slot b o e n hb hx
  obtain ⟨sl',e2⟩:=slot b _ (neL b o e) hb (neC b o e hx) e1 (I.base.free b o e n hx)
  exact ⟨sl',e2⟩
 ·obtain ⟨o',e1⟩:=I.base.there b o e hx
  exact free b o' (neC b o e hx) e1 (I.base.free b o e n hx)
 ·obtain ⟨o',e1⟩:=I.base.there b o e hx
  exact there b o' (neC b o e hx) e1
 ·obtain ⟨m1,e1⟩:=I.base.ui b ps e
  obtain ⟨m2,e2⟩:=ui b _ e1
  exact ⟨m1++m2,by rw [e2,Array.append_assoc]⟩
 ·obtain ⟨m,hn,hl⟩:=I.loc
  refine ⟨m,ns m hn,fun i x v e1 e2 e3=>?_⟩
  obtain ⟨u,r,l⟩:=hl i x v e1 e2 e3
  refine ⟨u,r,?_⟩
  rcases l with l | ⟨k,c,e,z⟩
  ·exact .inl l
  ·exact .inr ⟨k,c,e,cellK x c e _ z⟩
 ·obtain ⟨v,z⟩:=I.cell x c e
  exact ⟨v,cellK x c e v z⟩
 ·obtain ⟨m,⟨o,_,_,ho,_⟩,_⟩:=I.loc
  exact free _ o (fun z=>(hch _ z).2.1 rfl) ho I.free
 ·obtain ⟨v,o,ho,hd⟩:=I.cell x c e
  exact free c o (fun z=>(hch c z).2.2.1 x c e rfl) ho (I.kR x c e)
 ·obtain ⟨e,n,ne,nf,d⟩:=I.pin p hp
  have nch:p.1 ∉ ch:=fun z=>(hch p.1 z).2.2.2 p hp rfl
  exact ⟨keep p.1 p.2 ne nf nch e n,free p.1 p.2 nch e n,ne,nf,d⟩
theorem Inv.un {t':Nat} (I:Inv X pins σ H s) (u:Un X.fs [] H H' s.heap h') (bx:nJ X.prog X.w H' h'):Inv X pins σ H' { s with heap:=h',toks:=t' }:=by
 obtain ⟨m,⟨o,es,ep,ho,r⟩,_⟩:=id I.loc
 obtain ⟨sl,hL⟩:=u.any ho I.free (by simp)
 exact I.step (g':=s.gens) (d':=s.drawn) (ch:=[]) (fun _ z=>nomatch z) (fun b o _ hb _ e n=>u.keep b o e n hb (by simp)) (fun b o _ hb _ e n=>u.slot b o e n hb (by simp)) (fun b o _ e n=>u.free b o e n (by simp)) (fun b o _ e=>u.there b o e (by simp)) u.uS u.mO u.ui (fun m' hm=>by
  obtain ⟨o',es',ep',ho',r'⟩:=hm
  rw [ho] at ho';cases ho'
  exact ⟨_,es',ep',hL,r'⟩) bx I.bare
theorem Inv.call {g':Array GenState} {t':Nat} {d':Drawn} {ch:List Addr} (I:Inv X pins σ H s) (u:Un (wy X.stack) ch H H' s.heap h') (bx:nJ X.prog X.w H' h') (hg:AllBare g')
  (hch:∀ b∈ch,(b∈X.ex\/X.s₀.heap.objs.size<=b)/\b≠X.env.locals/\(∀ x c,X.env.cells.lookup x=some c->c≠b)/\∀ p∈X.pn++pins,p.1≠b) :
  Inv X pins σ H' { s with heap:=h',gens:=g',drawn:=d',toks:=t' }:=by
 obtain ⟨m,⟨o,es,ep,ho,r⟩,_⟩:=id I.loc
 obtain ⟨sl,hL⟩:=u.any ho I.free fun z=>(hch _ z).2.1 rfl
 exact I.step (ch:=ch) hch (fun b o hL hb hc e n=>u.keep b o e n (fun z=>(List.mem_cons.mp (I.tU b z)).elim hL hb) hc) (fun b o _ _ hc e n=>u.any e n hc) (fun b o hc e n=>u.free b o e n hc) (fun b o hc e=>u.there b o e hc) u.uS u.mO u.ui (fun m' hm=>by
  obtain ⟨o',es',ep',ho',r'⟩:=hm
  rw [ho] at ho';cases ho'
  exact ⟨_,es',ep',hL,r'⟩) bx hg
theorem Inv.turned {t':Nat} {it:Addr} (I:Inv X pins σ H s) (k:∀ b o,b≠it->s.heap.get? b=some o->h'.get? b=some o) (hn:H it=none) (hL:it≠X.env.locals)
  (h1:it∈X.ex\/X.s₀.heap.objs.size<=it) (h2:∀ x c,X.env.cells.lookup x=some c->c≠it) (h3:∀ p∈X.pn++pins,p.1≠it):Inv X pins σ H { s with heap:=h',toks:=t' }:=by
 have nit:∀ b u,H b=some u->b≠it:=fun b u e z=>by rw [z,hn] at e;cases e
 refine I.step (g':=s.gens) (d':=s.drawn) (ch:=[it]) (fun b hb=>?_) (fun b o _ _ hc e _=>k b o (fun z=>hc (by simp [z])) e) (fun b o _ _ hc e _=>⟨o.slots,k b o (fun z=>hc (by simp [z])) e⟩) (fun _ _ _ _ n=>n)
  (fun b o hc e=>⟨o,k b o (fun z=>hc (by simp [z])) e⟩) (fun _ _ e=>e) (fun _ _ _ e=>e) (fun b ps e=>⟨#[],by rw [e];simp⟩) (fun m hm=>?_) (fun b u e=>?_) I.bare
 ·have e:b=it:=by simpa using hb
  subst e
  exact ⟨h1,hL,h2,h3⟩
 ·obtain ⟨o,es,ep,ho,r⟩:=hm
  exact ⟨o,es,ep,k _ o (Ne.symm hL) ho,r⟩
 ·refine (I.bx b u e).og (fun c v hc q=>k c v ?_ q) (fun _ q=>q) fun _ _ q=>q
  rcases hc with z | z
  ·rw [z];exact nit b u e
  ·exact nit c _ z
theorem Inv.tok (I:Inv X pins σ H s) (t:Nat):Inv X pins σ H { s with toks:=t }:=I.un (h':=s.heap) (t':=t) Un.refl I.bx
theorem Inv.kept {t':Nat} (I:Inv X pins σ H s) (k:∀ b u,s.heap.get? b=some u->h'.get? b=some u):Inv X pins σ H { s with heap:=h',toks:=t' }:=I.un (Un.kept k) (I.bx.kept k)
theorem Inv.laid {a:Addr} {o:HO} {t':Nat} (I:Inv X pins σ H s) (k:∀ b u,s.heap.get? b=some u->h'.get? b=some u) (hp:s.heap.objs.size<=a) (new:bT X.prog X.w (upd H a o) h' a o) :
  Inv X pins σ (upd H a o) { s with heap:=h',toks:=t' }:=I.un (Un.laid k hp (I.bx.fresh hp)) (I.bx.laid k hp new)
theorem Inv.write {x e:Addr} {o:HO} {t':Nat} (I:Inv X pins σ H s) (mu:Kp (H x)) (he:e=x\/H e=some (.own x)) (k:∀ b u,b≠e->s.heap.get? b=some u->h'.get? b=some u) (heo:∃ u,h'.get? e=some u)
  (new:bT X.prog X.w (upd H x o) h' x o):Inv X pins σ (upd H x o) { s with heap:=h',toks:=t' }:=I.un (Un.write mu he k heo) (I.bx.write mu he k heo new)
theorem Inv.yn {pins':List (Addr×Obj)} (I:Inv X pins σ H s) (h:∀ p∈pins',s.heap.get? p.1=some p.2/\H p.1=none/\p.1≠X.env.locals/\p.1 ∉ X.fs/\∀ v,p.2.data≠.cell v):Inv X pins' σ H s :=
 ⟨I.ok,I.os,I.bare,I.base,I.loc,I.cell,I.free,I.kR,fun p hp=>(List.mem_append.mp hp).elim (fun z=>I.pin p (List.mem_append_left _ z)) (h p),I.bx,I.len⟩
theorem vO {N:List Str} (hN:N.Nodup) {i j:Nat} {x:Str} (a:N[i]?=some x) (b:N[j]?=some x):i=j:=by
 obtain ⟨h1,e1⟩:=List.getElem?_eq_some_iff.mp a
 obtain ⟨h2,e2⟩:=List.getElem?_eq_some_iff.mp b
 exact (List.getElem_inj hN).mp (e1.trans e2.symm)
theorem zp {M:Model} {A:Around} {E:Value->Shared->Prop} {i:Nat} {x:Str} {v:V} {u:Value} {Q:Unit->Shared->Prop} (I:Inv X pins σ H s) (hN:X.N.Nodup) (hi:X.N[i]?=some x) (hx:Loc X.env.scope x) (r:RelV v u)
  (h:∀ s',Inv X pins (σ.set i (some v)) H s'->(∃ a,Heap.SameBut a s.heap s'.heap/\(a=X.env.locals\/X.env.cells.lookup x=some a))->Q () s') (hf:X.fn x=true\/X.env.scope.names.lookup x=some .local:=by first | exact .inl rfl | exact .inr rfl | assumption):wpAny M A (storeName X.env x u) Q E s:=by
 obtain ⟨m,hn,hl⟩:=id I.loc
 have hcls:(X.env.scope.kind==.class||(X.env.scope.kind==.module&&X.env.locals != X.env.globals))=false:=by rw [I.ok.kind];rfl
 have hiσ:i<σ.length:=by rw [I.len];exact (List.getElem?_eq_some_iff.mp hi).1
 have G7:=I.G7
 have tracked:∀ {a:Addr} {h':Heap},(∃ o,s.heap.get? a=some o/\H a=none)->Heap.SameBut a s.heap h'->nJ X.prog X.w H h':=fun {a h'} ha hs b ob e=>by
  obtain ⟨_,_,hfree⟩:=ha
  refine (I.bx b ob e).og (fun c w' hc q=>(hs.2 c ?_).trans q) (fun _ q=>q) fun _ _ q=>q
  rintro rfl
  rcases hc with rfl | hc
  ·rw [hfree] at e;cases e
  ·rw [hfree] at hc;cases hc
 rcases hx with hk | hk
 ·refine wpAny_storeName_local hk hn (fun h' hn' hs=>?_) hcls
  obtain ⟨oL,_,_,hoL,_⟩:=id hn
  refine h _ ⟨I.ok,I.os,I.bare,⟨fun b o e n hb hx=>?_,fun b o e n hb hx=>?_,I.base.free,fun b o e hx=>?_,I.base.uS,I.base.mO,I.base.ui⟩,⟨_,hn',fun j y v' e1 e2 e3=>?_⟩,fun y c e=>?_,I.free,I.kR,fun p hp=>?_,tracked ⟨oL,hoL,I.free⟩ hs,by simpa using I.len⟩ ⟨_,hs,.inl rfl⟩
  ·exact (hs.2 b (Nat.ne_of_lt (Nat.lt_of_lt_of_le (Heap.lt_size e) I.ok.above))).trans (I.base.keep b o e n hb hx)
  ·obtain ⟨sl,e1⟩:=I.base.slot b o e n hb hx
   exact ⟨sl,(hs.2 b (Nat.ne_of_lt (Nat.lt_of_lt_of_le (Heap.lt_size e) I.ok.above))).trans e1⟩
  ·obtain ⟨o',e1⟩:=I.base.there b o e hx
   exact ⟨o',(hs.2 b (Nat.ne_of_lt (Nat.lt_of_lt_of_le (Heap.lt_size e) I.ok.above))).trans e1⟩
  ·by_cases hj:j=i
   ·subst hj
    rw [hi] at e1;cases e1
    rw [List.getElem?_set_self hiσ] at e2
    cases e2
    exact ⟨u,r,.inl ⟨hk,by simp⟩⟩
   ·rw [List.getElem?_set_ne (Ne.symm hj)] at e2
    obtain ⟨u',r',q⟩:=hl j y v' e1 e2 e3
    refine ⟨u',r',?_⟩
    rcases q with ⟨k,e⟩ | ⟨k,c,e,z⟩
    ·refine .inl ⟨k,?_⟩
     have:y≠x:=fun e=>hj (vO hN e1 (e▸hi))
     simp [this,e]
    ·exact .inr ⟨k,c,e,z.sameBut hs (G7 y c e)⟩
  ·obtain ⟨w',z⟩:=I.cell y c e
   exact ⟨w',z.sameBut hs (G7 y c e)⟩
  ·obtain ⟨e,n,ne,nf,d⟩:=I.pin p hp
   exact ⟨(hs.2 p.1 ne).trans e,n,ne,nf,d⟩
 ·have hfn:X.fn x=true:=by
   rcases hf with z | z
   ·exact z
   ·rw [z] at hk;cases hk
  obtain ⟨c,hc⟩:=I.ok.has x (.inl hk)
  obtain ⟨w',z⟩:=I.cell x c hc
  refine wpAny_storeName_cell I.ok.kind hk hc z (fun h' hc' hs=>?_)
  obtain ⟨oc,hoc,hocd⟩:=id z
  refine h { s with heap:=h' } ⟨I.ok,I.os,I.bare,⟨fun b o e n hb hx=>?_,fun b o e n hb hx=>?_,I.base.free,fun b o e hx=>?_,I.base.uS,I.base.mO,I.base.ui⟩,⟨m,hn.sameBut hs (Ne.symm (G7 x c hc)),fun j y v' e1 e2 e3=>?_⟩,fun y c' e=>?_,I.free,I.kR,fun p hp=>?_,tracked ⟨oc,hoc,I.kR x c hc⟩ hs,by simpa using I.len⟩ ⟨c,hs,.inr hc⟩
  ·exact (hs.2 b (Nat.ne_of_lt (Nat.lt_of_lt_of_le (Heap.lt_size e) (I.ok.JC x c hfn hc)))).trans (I.base.keep b o e n hb hx)
  ·obtain ⟨sl,e1⟩:=I.base.slot b o e n hb hx
   exact ⟨sl,(hs.2 b (Nat.ne_of_lt (Nat.lt_of_lt_of_le (Heap.lt_size e) (I.ok.JC x c hfn hc)))).trans e1⟩
  ·obtain ⟨o',e1⟩:=I.base.there b o e hx
   exact ⟨o',(hs.2 b (Nat.ne_of_lt (Nat.lt_of_lt_of_le (Heap.lt_size e) (I.ok.JC x c hfn hc)))).trans e1⟩
  ·by_cases hj:j=i
   ·subst hj
    rw [hi] at e1;cases e1
    rw [List.getElem?_set_self hiσ] at e2
    cases e2
    exact ⟨u,r,.inr ⟨.inl hk,c,hc,hc'⟩⟩
   ·rw [List.getElem?_set_ne (Ne.symm hj)] at e2
    obtain ⟨u',r',q⟩:=hl j y v' e1 e2 e3
    refine ⟨u',r',?_⟩
    rcases q with q | ⟨k,c',e,z'⟩
    ·exact .inl q
    ·refine .inr ⟨k,c',e,z'.sameBut hs ?_⟩
     rintro rfl
     exact hj (vO hN e1 (I.ok.inj _ _ _ e hc▸hi))
  ·by_cases hcc:c'=c
   ·subst hcc;exact ⟨_,hc'⟩
   ·obtain ⟨w2,z2⟩:=I.cell y c' e
    exact ⟨w2,z2.sameBut hs hcc⟩
  ·obtain ⟨e,n,ne,nf,d⟩:=I.pin p hp
   refine ⟨(hs.2 p.1 ?_).trans e,n,ne,nf,d⟩
   intro q
   rw [q,hoc] at e
   have q':oc=p.2:=Option.some.inj e
   exact d w' (by rw [← q'];exact hocd)
theorem lR {M:Model} {A:Around} {E:Value->Shared->Prop} {i:Nat} {x:Str} {v:V} {u:Value} {Q:Unit->Shared->Prop} (I:Inv X pins σ H s) (hN:X.N.Nodup) (hi:X.N[i]?=some x) (hx:Loc X.env.scope x) (r:RelV v u)
  (h:∀ s',Inv X pins (σ.set i (some v)) H s'->Q () s') (hf:X.fn x=true\/X.env.scope.names.lookup x=some .local:=by first | exact .inl rfl | exact .inr rfl | assumption):wpAny M A (storeName X.env x u) Q E s :=
 zp I hN hi hx r (fun s' I' _=>h s' I') hf
theorem Inv.EY {s':Shared} {ch:List Addr} (I:Inv X pins σ H s) (ho:s'.os=s.os) (u:Un (wy X.stack) ch H H' s.heap s'.heap) (bx:nJ X.prog X.w H' s'.heap) (hg:AllBare s'.gens)
  (hch:∀ b∈ch,(b∈X.ex\/X.s₀.heap.objs.size<=b)/\b≠X.env.locals/\(∀ x c,X.env.cells.lookup x=some c->c≠b)/\∀ p∈X.pn++pins,p.1≠b):Inv X pins σ H' s':=by
 obtain ⟨h',g',d',t',o'⟩:=s'
 have e:o'=s.os:=ho
 subst e
 exact I.call (g':=g') (t':=t') (d':=d') u bx hg hch
end
abbrev XK:=Value->Option Addr->Hp->Prop
abbrev St:=List (Option V)
abbrev VK:=V->Hp->Prop
abbrev TE:=St->Hp->VK->Prop
abbrev TT:=St->Hp->(Bool->Hp->Prop)->Prop
abbrev TA:=St->Hp->(List V->Hp->Prop)->Prop
structure Ends where
 nx:St->Hp->Prop
 rt:VK
 bk:St->Hp->Prop:=fun _ _=>False
 ct:St->Hp->Prop:=fun _ _=>False
abbrev TS:=Ends->St->Hp->Prop
def EP (X:Cx) (pins:List (Addr×Obj)) (σ:St) (Q:VK) (u:Value) (s':Shared):Prop:=∃ v H',Inv X pins σ H' s'/\RelV v u/\Q v H'
def TP (X:Cx) (pins:List (Addr×Obj)) (σ:St) (Q:Bool->Hp->Prop) (b:Bool) (s':Shared):Prop:=∃ H',Inv X pins σ H' s'/\Q b H'
def AP (X:Cx) (pins:List (Addr×Obj)) (σ:St) (Q:List V->Hp->Prop) (us:List Value) (s':Shared):Prop:=∃ vs H',Inv X pins σ H' s'/\Vals vs us/\Q vs H'
def SP (X:Cx) (pins:List (Addr×Obj)) (D:Ends) (f:Flow) (s':Shared):Prop :=
 match f with
 | .next=>∃ σ' H',Inv X pins σ' H' s'/\D.nx σ' H'
 | .brk=>∃ σ' H',Inv X pins σ' H' s'/\D.bk σ' H'
 | .cont=>∃ σ' H',Inv X pins σ' H' s'/\D.ct σ' H'
 | .ret u=>∃ v σ' H',Inv X pins σ' H' s'/\RelV v u/\D.rt v H'
def PE (X:Cx) (e:Expr) (t:TE):Prop :=
 ∀ (pins:List (Addr×Obj)) (s:Shared) (σ:St) (H:Hp) (Q:VK),Inv X pins σ H s->t σ H Q->wpAny (model X.prog X.w) X.A (eval e X.env) (EP X pins σ Q) X.xe s
def PT (X:Cx) (e:Expr) (t:TT):Prop :=
 ∀ (pins:List (Addr×Obj)) (s:Shared) (σ:St) (H:Hp) (Q:Bool->Hp->Prop),Inv X pins σ H s->t σ H Q->wpAny (model X.prog X.w) X.A (isTrue e X.env (eval e X.env)) (TP X pins σ Q) X.xe s
def PW (X:Cx) (e:Expr) (t:TT):Prop :=
 ∀ (whole:Sem Value) (pins:List (Addr×Obj)) (s:Shared) (σ:St) (H:Hp) (Q:Bool->Hp->Prop),Inv X pins σ H s->t σ H Q->wpAny (model X.prog X.w) X.A (isTrue e X.env whole) (TP X pins σ Q) X.xe s
theorem PW.pt {X:Cx} {e:Expr} {t:TT} (h:PW X e t):PT X e t:=h _
def PA (X:Cx) (es:List Expr) (t:TA):Prop :=
 ∀ (pos:Pos) (pins:List (Addr×Obj)) (s:Shared) (σ:St) (H:Hp) (Q:List V->Hp->Prop),Inv X pins σ H s->t σ H Q->wpAny (model X.prog X.w) X.A (spliced (backTo pos (starEach es X.env))) (AP X pins σ Q) X.xe s
def PS (X:Cx) (st:Stmt) (t:TS):Prop :=
 ∀ (pins:List (Addr×Obj)) (s:Shared) (σ:St) (H:Hp) (D:Ends),Inv X pins σ H s->t D σ H->wpAny (model X.prog X.w) X.A (exec st X.env) (SP X pins D) X.xe s
def mW (X:Cx) (st:List Stmt) (t:TS):Prop :=
 ∀ (pins:List (Addr×Obj)) (s:Shared) (σ:St) (H:Hp) (D:Ends),Inv X pins σ H s->t D σ H->wpAny (model X.prog X.w) X.A (execs st X.env) (SP X pins D) X.xe s
theorem cG {α:Type} {t:Sem α} {Q Q':α->Shared->Prop} {M:Model} {A:Around} {E:Value->Shared->Prop} {s:Shared} (h:wpAny M A t Q E s) (hQ:∀ a s,Q a s->Q' a s):wpAny M A t Q' E s:=wpAny_mono h hQ fun _ _ x=>x
end L2
namespace L2
open PySem PySem.Spec PyProof.Rows
section
variable {X:Cx}
def Q0 (i:Nat):TE:=fun σ H Q=>∃ v,σ[i]?=some (some v)/\Q v H
def tC (v:V):TE:=fun _ H Q=>Q v H
theorem pd {i:Nat} {x:Str} {pos:Pos} (hN:X.N[i]?=some x) (hv:DF X.env.scope x) (hd:(x==("__debug__" : Str))=false:=by decide) (hcd:(x==("__classdict__" : Str))=false:=by decide):PE X (.Name x pos) (Q0 i):=by
 intro pins s σ H Q I h
 obtain ⟨v,e,h⟩:=h
 obtain ⟨m,hn,hl⟩:=I.loc
 obtain ⟨u,r,l⟩:=hl i x v hN e hv
 have fin:EP X pins σ Q u s:=⟨v,H,I,r,h⟩
 rcases l with ⟨hk,hm⟩ | ⟨hk,c,hc,hcell⟩
 ·exact wpAny_Name (wpAny_loadName_local I.ok.kind hk hn hm fin) hd
 ·rcases hk with hk | hk
  ·exact wpAny_Name (wpAny_loadName_cell I.ok.kind hk hc hcell fin) hd
  ·exact wpAny_Name (wpAny_loadName_free I.ok.kind hk hc hcell fin hcd) hd
theorem Gm {i j pos}:PE X (.Constant (.int i) j pos) (tC (.int i)):=fun _ _ _ H _ I h=>wpAny_Constant_int ⟨.int i,H,I.tok _,⟨_,rfl⟩,h⟩
theorem IY {b j pos}:PE X (.Constant (.bool b) j pos) (tC (.bl b)):=fun _ _ _ H _ I h=>Constant_bool ⟨.bl b,H,I,rfl,h⟩
theorem GH {j pos}:PE X (.Constant .none j pos) (tC .cI):=fun _ _ _ H _ I h=>Constant_none ⟨.cI,H,I,rfl,h⟩
theorem FT {x j pos}:PE X (.Constant (.str x) j pos) (tC (.str x)):=fun _ _ _ H _ I h=>Calls.Constant_str ⟨.str x,H,I.tok _,⟨_,rfl⟩,h⟩
def Gl (X:Cx) (x:Str):Prop:=X.env.kindOf x=some .globalImplicit
theorem mh {E:Value->Shared->Prop} {pins:List (Addr×Obj)} {s:Shared} {σ:St} {H:Hp} {x:Str} {u:Value} {pos:Pos} {Q:Value->Shared->Prop} (I:Inv X pins σ H s) (hg:Gl X x) (hm:X.mg x=some u) (h:Q u s)
  (hd:(x==("__debug__" : Str))=false:=by decide):wpAny (model X.prog X.w) X.A (eval (.Name x pos) X.env) Q E s :=
 Calls.Name_function_global I.ok.kind hg (Calls.loadGlobal_global (by rw [I.ok.glob];exact I.mod.glob.keeps I.bk) hm h) hd
theorem jl {E:Value->Shared->Prop} {pins:List (Addr×Obj)} {s:Shared} {σ:St} {H:Hp} {x:Str} {u:Value} {pos:Pos} {Q:Value->Shared->Prop} (I:Inv X pins σ H s) (hg:Gl X x) (hm:X.mg x=none) (hv:bootBuiltins x=some u) (h:Q u s)
  (hn:x ≠ "__name__" := by decide) (hd:(x==("__debug__" : Str))=false:=by decide):wpAny (model X.prog X.w) X.A (eval (.Name x pos) X.env) Q E s:=by
 obtain ⟨mb,h1,h2⟩:=I.mod.blt
 exact Calls.Name_function_global I.ok.kind hg (Calls.loadGlobal_builtin (by rw [I.ok.glob];exact I.mod.glob.keeps I.bk) hm (by rw [I.ok.blt];exact h1.keeps I.bk) ((h2 x hn).trans hv) h) hd
theorem DE {x:Str} {v:V} {u:Value} {pos:Pos} (hg:Gl X x) (hm:X.mg x=some u) (r:RelV v u) (hd:(x==("__debug__" : Str))=false:=by decide):PE X (.Name x pos) (tC v) :=
 fun _ _ _ H _ I h=>mh I hg hm ⟨v,H,I,r,h⟩ hd
theorem cJ {x:Str} {v:V} {u:Value} {pos:Pos} (hg:Gl X x) (hm:X.mg x=none) (hv:bootBuiltins x=some u) (r:RelV v u) (hn:x ≠ "__name__" := by decide) (hd:(x==("__debug__" : Str))=false:=by decide):PE X (.Name x pos) (tC v) :=
 fun _ _ _ H _ I h=>jl I hg hm hv ⟨v,H,I,r,h⟩ hn hd
variable {a b:Expr} {ta tb:TE} {pos:Pos}
def tB (t:TE):TT:=fun σ H Q=>t σ H fun x H1=>∃ c,x=.bl c/\Q c H1
theorem Gq {e:Expr} {t:TE} (h:PE X e t) (he:∀ whole,isTrue e X.env whole=(do let v ← whole;standAt e.pos;holding [v] (truthy v)):=by intro _;rfl):PT X e (tB t):=by
 intro pins s σ H Q I hw
 refine isTrue_plain (cG (h pins s σ H _ I hw) fun v s1 ⟨x,H1,I1,r1,q1⟩=>?_) (he _)
 obtain ⟨d,rfl,q⟩:=q1
 cases r1
 exact wpAny_truthy_bool ⟨H1,I1,q⟩
variable {tA tB':TT} {rest:List Expr}
def KU (t u:TT):TT:=fun σ H Q=>t σ H fun c H1=>if c=true then u σ H1 Q else Q false H1
def VZ (t u:TT):TT:=fun σ H Q=>t σ H fun c H1=>if c=true then Q true H1 else u σ H1 Q
def RL (t:TT):TT:=fun σ H Q=>t σ H fun c H1=>Q (!c) H1
theorem pw_and1 (ha:PT X a tA):PW X (.BoolOp .And [a] pos) tA:=by
 intro wh pins s σ H Q I h
 refine isTrue_and (cG (ha pins s σ H Q I h) fun c s1 e=>?_)
 cases c with
 | true=>exact isTrue_and_nil e
 | false=>exact e
theorem pw_or1 (ha:PT X a tA):PW X (.BoolOp .Or [a] pos) tA:=by
 intro wh pins s σ H Q I h
 refine isTrue_or (cG (ha pins s σ H Q I h) fun c s1 e=>?_)
 cases c with
 | false=>exact isTrue_or_nil e
 | true=>exact e
theorem pw_and (ha:PT X a tA) (hb:PW X (.BoolOp .And (b::rest) pos) tB'):PW X (.BoolOp .And (a::b::rest) pos) (KU tA tB'):=by
 intro wh pins s σ H Q I h
 refine isTrue_and (cG (ha pins s σ H _ I h) fun c s1 ⟨H1,I1,q1⟩=>?_)
 cases c with
 | true=>exact hb wh pins s1 σ H1 Q I1 q1
 | false=>exact ⟨H1,I1,q1⟩
theorem pw_or (ha:PT X a tA) (hb:PW X (.BoolOp .Or (b::rest) pos) tB'):PW X (.BoolOp .Or (a::b::rest) pos) (VZ tA tB'):=by
 intro wh pins s σ H Q I h
 refine isTrue_or (cG (ha pins s σ H _ I h) fun c s1 ⟨H1,I1,q1⟩=>?_)
 cases c with
 | true=>exact ⟨H1,I1,q1⟩
 | false=>exact hb wh pins s1 σ H1 Q I1 q1
theorem Gy (ha:PT X a tA):PT X (.UnaryOp .Not a pos) (RL tA):=by
 intro pins s σ H Q I h
 exact isTrue_not (ha pins s σ H (fun c H1=>Q (!c) H1) I h)
def Jd (ta tb:TE):TE:=fun σ H Q=>ta σ H fun x H1=>∃ c,x=.bl c/\if c=true then tb σ H1 Q else Q (.bl false) H1
def JO (ta:TE):TE:=fun σ H Q=>ta σ H fun x H1=>∃ c,x=.bl c/\Q (.bl (!c)) H1
theorem wU {op} {t:TE} (h:PE X a t):PE X (.BoolOp op [a] pos) t:=fun pins s σ H Q I hw=>BoolOp_one (h pins s σ H Q I hw)
theorem F3 (ha:PE X a ta) (hb:PE X (.BoolOp .And (b::rest) pos) tb):PE X (.BoolOp .And (a::b::rest) pos) (Jd ta tb):=by
 intro pins s σ H Q I h
 refine BoolOp_and (cG (ha pins s σ H _ I h) fun v s1 ⟨x,H1,I1,r1,q1⟩=>?_)
 obtain ⟨c,rfl,q1⟩:=q1
 cases r1
 refine wpAny_truthy_bool ?_
 cases c with
 | true=>exact hb pins s1 σ H1 Q I1 q1
 | false=>exact ⟨.bl false,H1,I1,rfl,q1⟩
theorem Fe (ha:PE X a ta):PE X (.UnaryOp .Not a pos) (JO ta):=by
 intro pins s σ H Q I h
 refine UnaryOp_ (cG (ha pins s σ H _ I h) fun v s1 ⟨x,H1,I1,r1,q1⟩=>?_)
 obtain ⟨c,rfl,q1⟩:=q1
 cases r1
 exact not_of (wpAny_truthy_bool ⟨.bl (!c),H1,I1,rfl,q1⟩)
def UX (t:TT) (ta tb:TE):TE:=fun σ H Q=>t σ H fun c H1=>if c=true then ta σ H1 Q else tb σ H1 Q
theorem Ba {c:Expr} (hc:PT X c tA) (ha:PE X a ta) (hb:PE X b tb):PE X (.IfExp c a b pos) (UX tA ta tb):=by
 intro pins s σ H Q I h
 refine wpAny_IfExp (cG (hc pins s σ H _ I h) fun d s1 ⟨H1,I1,q1⟩=>?_)
 cases d with
 | true=>exact ha pins s1 σ H1 Q I1 q1
 | false=>exact hb pins s1 σ H1 Q I1 q1
end
end L2
namespace L2
open PySem PySem.Spec PyProof.Rows
def jg (K:PySem.W.Frag) (H:Hp) (a:Addr) (xs:List V):Prop :=
 Rd H a (.lst xs) ∨
  ∃ (o:Obj) (its:Array Value) (n:Nat),K.lookup a=some o/\o.cls=.type "list" /\ o.dict=none/\o.data=.seq its n/\its.size<=sizeLine/\Vals xs its.toList
def ib (K:PySem.W.Frag) (H:Hp) (a:Addr) (xs:List V):Prop :=
 Rd H a (.tup xs) ∨
  ∃ (o:Obj) (its:Array Value) (n:Nat),K.lookup a=some o/\o.cls=.type "tuple" /\ o.data=.seq its n/\its.size<=sizeLine/\Vals xs its.toList
def QW:Value->Option V
 | .none=>some .cI
 | .bool b=>some (.bl b)
 | .int i _=>some (.int i)
 | .str x _=>some (.str x)
 | .bytes b _=>some (.byt b)
 | .float b _=>some (.ES b)
 | .ref a=>some (.ref a)
 | .type n=>some (.ty n)
 | _=>none
theorem RelV.abs {x:V} {u:Value} (r:RelV x u):QW u=some x:=by
 cases x with
 | cI=>cases r;rfl
 | bl _=>cases r;rfl
 | int _=>obtain ⟨t,rfl⟩:=r;rfl
 | str _=>obtain ⟨t,rfl⟩:=r;rfl
 | byt _=>obtain ⟨t,rfl⟩:=r;rfl
 | ES _=>obtain ⟨t,rfl⟩:=r;rfl
 | ref _=>cases r;rfl
 | ty _=>cases r;rfl
theorem RelV.inj {x y:V} {u:Value} (r:RelV x u) (q:RelV y u):x=y:=Option.some.inj (r.abs.symm.trans q.abs)
theorem Vals.inj:∀ {xs ys:List V} {us:List Value},Vals xs us->Vals ys us->xs=ys
 | _,_,_,.nil,.nil=>rfl
 | _,_,_,.cons r t,.cons r' t'=>by rw [r.inj r',Vals.inj t t']
section
variable {X:Cx} {pins:List (Addr×Obj)} {σ:St} {H:Hp} {s:Shared} {a:Addr} {xs ys:List V}
theorem jg.of {K:PySem.W.Frag} (h:H a=some (.lst xs)):jg K H a xs:=.inl (.inl h)
theorem ib.of {K:PySem.W.Frag} (h:H a=some (.tup xs)):ib K H a xs:=.inl (.inl h)
theorem Inv.list (I:Inv X pins σ H s) (h:jg X.K H a xs):∃ its:List Value,Vals xs its/\PlainL s.heap a its.toArray/\xs.length<=sizeLine:=by
 rcases h with h | ⟨o,its,n,hk,hc,hd,hs,hz,r⟩
 ·obtain ⟨z,its,n,r,e⟩:=h.ok I.bx
  exact ⟨its,r,⟨_,n,e,rfl,rfl,rfl⟩,z⟩
 ·refine ⟨its.toList,r,⟨o,n,I.j0 a o hk,hc,hd,by simpa using hs⟩,?_⟩
  have e:=r.length
  simp only [Array.length_toList] at e
  omega
theorem Inv.tuple (I:Inv X pins σ H s) (h:ib X.K H a xs):∃ its:List Value,Vals xs its/\IsTup s.heap a its.toArray/\xs.length<=sizeLine:=by
 rcases h with h | ⟨o,its,n,hk,hc,hs,hz,r⟩
 ·obtain ⟨z,its,r,p⟩:=h.ok I.bx
  exact ⟨its,r,p,z⟩
 ·refine ⟨its.toList,r,⟨o,I.j0 a o hk,hc,n,by simpa using hs⟩,?_⟩
  have e:=r.length
  simp only [Array.length_toList] at e
  omega
theorem Inv.pY (I:Inv X pins σ H s) (h:jg X.K H a xs) (h':jg X.K H a ys):xs=ys:=by
 obtain ⟨its,r,⟨o,n,e,_,_,d⟩,_⟩:=I.list h
 obtain ⟨its',r',⟨o',n',e',_,_,d'⟩,_⟩:=I.list h'
 rw [e] at e';cases e'
 rw [d] at d'
 injection d' with d1 _
 have:its=its':=by simpa using congrArg Array.toList d1
 subst this
 exact r.inj r'
theorem Inv.mV (I:Inv X pins σ H s) (h:ib X.K H a xs) (h':ib X.K H a ys):xs=ys:=by
 obtain ⟨its,r,⟨o,e,_,n,d⟩,_⟩:=I.tuple h
 obtain ⟨its',r',⟨o',e',_,n',d'⟩,_⟩:=I.tuple h'
 rw [e] at e';cases e'
 rw [d] at d'
 injection d' with d1 _
 have:its=its':=by simpa using congrArg Array.toList d1
 subst this
 exact r.inj r'
end
abbrev Cx.qD (X:Cx) (E:Value->Shared->Prop):Cx:={ X with xe:=E }
theorem Cx.Ok.qD {X:Cx} (ok:X.Ok) (E:Value->Shared->Prop):(X.qD E).Ok :=
 ⟨ok.mod,ok.kind,ok.glob,ok.blt,ok.above,ok.inj,ok.has,ok.JC,ok.hd,ok.frames,ok.Kr,ok.LY,ok.bs,ok.EL,ok.yE,ok.AZ,ok.nZ,ok.FD⟩
theorem Cx.Ok.iR {X:Cx} {E:Value->Shared->Prop} (ok:(X.qD E).Ok):X.Ok :=
 ⟨ok.mod,ok.kind,ok.glob,ok.blt,ok.above,ok.inj,ok.has,ok.JC,ok.hd,ok.frames,ok.Kr,ok.LY,ok.bs,ok.EL,ok.yE,ok.AZ,ok.nZ,ok.FD⟩
section
variable {X:Cx} {pins:List (Addr×Obj)} {σ:St} {H:Hp} {s:Shared} {E:Value->Shared->Prop}
theorem Inv.qD (I:Inv X pins σ H s) (E:Value->Shared->Prop):Inv (X.qD E) pins σ H s:=⟨I.ok.qD E,I.os,I.bare,I.base,I.loc,I.cell,I.free,I.kR,I.pin,I.bx,I.len⟩
theorem Inv.iR (I:Inv (X.qD E) pins σ H s):Inv X pins σ H s:=⟨I.ok.iR,I.os,I.bare,I.base,I.loc,I.cell,I.free,I.kR,I.pin,I.bx,I.len⟩
theorem SP.iR {D:Ends} {f:Flow} {s':Shared} (h:SP (X.qD E) pins D f s'):SP X pins D f s':=by
 cases f with
 | next=>obtain ⟨σ',H',I,q⟩:=h;exact ⟨σ',H',I.iR,q⟩
 | brk=>obtain ⟨σ',H',I,q⟩:=h;exact ⟨σ',H',I.iR,q⟩
 | cont=>obtain ⟨σ',H',I,q⟩:=h;exact ⟨σ',H',I.iR,q⟩
 | ret u=>obtain ⟨v,σ',H',I,r,q⟩:=h;exact ⟨v,σ',H',I.iR,r,q⟩
end
section
variable {X:Cx} {st:Stmt} {rest:List Stmt} {t u:TS} {e:Expr} {te:TE} {pos:Pos}
def IS:TS:=fun D σ H=>D.nx σ H
def Rf (t u:TS):TS:=fun D σ H=>t { D with nx:=u D } σ H
theorem Du:mW X [] IS:=fun _ _ σ H _ I h=>wpAny_execs_nil ⟨σ,H,I,h⟩
theorem Cg (h1:PS X st t) (h2:mW X rest u):mW X (st::rest) (Rf t u):=by
 intro pins s σ H D I h
 refine wpAny_execs_cons (cG (h1 pins s σ H { D with nx:=u D } I h) fun f s1 q=>?_)
 cases f with
 | next =>
  obtain ⟨σ',H',I',q⟩:=q
  exact h2 pins s1 σ' H' D I' q
 | ret v=>exact q
 | brk=>exact q
 | cont=>exact q
theorem xX (h1:PS X st t):mW X [st] t:=by
 intro pins s σ H D I h
 refine wpAny_execs_cons (cG (h1 pins s σ H D I h) fun f s1 q=>?_)
 cases f with
 | next=>exact wpAny_execs_nil q
 | ret v=>exact q
 | brk=>exact q
 | cont=>exact q
theorem Inv.quiet {pins:List (Addr×Obj)} {σ:St} {H:Hp} {s:Shared} (I:Inv X pins σ H s):interactive X.env=false:=by simp [interactive,I.ok.kind]
def Iw (te:TE):TS:=fun D σ H=>te σ H fun _ H1=>D.nx σ H1
theorem xY (he:PE X e te) (hs:swapsWith e none pos.line X.env=pure false:=by rfl):PS X (.Expr e pos) (Iw te):=by
 intro pins s σ H D I h
 exact wpAny_Expr_any (cG (he pins s σ H _ I h) fun v s1 ⟨x,H1,I1,r1,q1⟩=>⟨σ,H1,I1,q1⟩) I.quiet hs
def M4 (te:TE):TS:=fun D σ H=>te σ H D.rt
theorem AX (he:PE X e te):PS X (.Return (some e) pos) (M4 te):=by
 intro pins s σ H D I h
 exact wpAny_Return_some (cG (he pins s σ H _ I h) fun v s1 ⟨x,H1,I1,r1,q1⟩=>⟨x,σ,H1,I1,r1,q1⟩)
def Qq (c:TT) (t u:TS):TS:=fun D σ H=>c σ H fun b H1=>if b=true then t D σ H1 else u D σ H1
theorem Ig {c:Expr} {a b:List Stmt} {tc:TT} (hc:PT X c tc) (ha:mW X a t) (hb:mW X b u):PS X (.If c a b pos) (Qq tc t u):=by
 intro pins s σ H D I h
 refine wpAny_If (cG (hc pins s σ H _ I h) fun d s1 ⟨H1,I1,q1⟩=>?_)
 cases d with
 | true=>exact ha pins s1 σ H1 D I1 q1
 | false=>exact hb pins s1 σ H1 D I1 q1
end
abbrev TG:=V->St->Hp->(St->Hp->Prop)->Prop
abbrev Gj:=List V->St->Hp->(St->Hp->Prop)->Prop
def PG (X:Cx) (target:Expr) (t:TG):Prop :=
 ∀ (pins:List (Addr×Obj)) (s:Shared) (σ:St) (H:Hp) (v:V) (u:Value) (Q:St->Hp->Prop),Inv X pins σ H s->RelV v u->t v σ H Q ->
  wpAny (model X.prog X.w) X.A (assign target X.env u) (fun _ s'=>∃ σ' H',Inv X pins σ' H' s'/\Q σ' H') X.xe s
def Kb (X:Cx) (ts:List Expr) (t:Gj):Prop :=
 ∀ (pins:List (Addr×Obj)) (s:Shared) (σ:St) (H:Hp) (vs:List V) (us:List Value) (Q:St->Hp->Prop),Inv X pins σ H s->Vals vs us->t vs σ H Q ->
  wpAny (model X.prog X.w) X.A (assignInOrder ((assignEach ts X.env).map (·.2)) us) (fun _ s'=>∃ σ' H',Inv X pins σ' H' s'/\Q σ' H') X.xe s
section
variable {X:Cx} {pos:Pos}
def aI (i:Nat):TG:=fun v σ H Q=>Q (σ.set i (some v)) H
theorem aD {i:Nat} {x:Str} (hN:X.N.Nodup) (hi:X.N[i]?=some x) (hx:Loc X.env.scope x) (hf:X.fn x=true\/X.env.scope.names.lookup x=some .local:=by first | exact .inl rfl | exact .inr rfl | assumption):PG X (.Name x pos) (aI i):=by
 intro pins s σ H v u Q I r h
 exact wpAny_assign_Name (lR I hN hi hx r (fun s' I'=>⟨_,H,I',h⟩) hf)
def jP:Gj:=fun vs σ H Q=>vs=[]/\Q σ H
def bp (t:TG) (u:Gj):Gj:=fun vs σ H Q=>∃ v r,vs=v::r/\t v σ H fun σ' H'=>u r σ' H' Q
theorem cM:Kb X [] jP:=by
 intro pins s σ H vs us Q I r h
 obtain ⟨e,h⟩:=h
 subst e
 cases r
 exact assignInOrder_nil ⟨σ,H,I,h⟩
theorem aH {e:Expr} {es:List Expr} {t:TG} {u:Gj} (h1:PG X e t) (h2:Kb X es u)
  (hs:(assignEach (e::es) X.env).map (·.2)=assign e X.env::(assignEach es X.env).map (·.2):=by rfl):Kb X (e::es) (bp t u):=by
 intro pins s σ H vs us Q I r h
 obtain ⟨v,vr,e1,h⟩:=h
 subst e1
 cases r with
 | cons r rr =>
  rw [hs]
  refine assignInOrder_cons (cG (h1 pins s σ H _ _ _ I r h) fun _ s1 ⟨σ1,H1,I1,q1⟩=>?_)
  exact h2 pins s1 σ1 H1 _ _ Q I1 rr q1
def jM (K:PySem.W.Frag) (n:Nat) (t:Gj):TG:=fun v σ H Q=>∃ a xs,v=.ref a/\ib K H a xs/\xs.length=n/\t xs σ H Q
theorem eC {es:List Expr} {k:Nat} {t:Gj} {n:Nat} (hc:X.calm=true) (h:Kb X es t)
  (hn:(assignEach es X.env).length=n:=by rfl) (hst:(assignEach es X.env).findIdx? (·.1)=none:=by rfl):PG X (.Tuple es k pos) (jM X.K n t):=by
 intro pins s σ H v u Q I r hw
 obtain ⟨a,xs,e1,hq,hl,hw⟩:=hw
 subst e1
 cases r
 obtain ⟨its,rv,ht,hz⟩:=I.tuple hq
 refine assign_Tuple_tuple (I.ok.hd hc) ht (by simp [hn,← hl,rv.length]) hst fun h' hx=>?_
 have I1:Inv X pins σ H { s with heap:=h' }:=I.kept (t':=s.toks) fun b o e=>hx b o (Nat.ne_of_lt (Heap.lt_size e)) e
 exact h pins _ σ H xs _ Q I1 (by simpa using rv) hw
def M5 (te:TE) (g:TG):TS:=fun D σ H=>te σ H fun x H1=>g x σ H1 D.nx
theorem Ck {i:Nat} {x:Str} {e:Expr} {te:TE} {pos':Pos} (hN:X.N.Nodup) (hi:X.N[i]?=some x) (hx:Loc X.env.scope x) (he:PE X e te) (hs:swapsWith e (some (.Name x pos')) pos.line X.env=pure false:=by rfl) (hf:X.fn x=true\/X.env.scope.names.lookup x=some .local:=by first | exact .inl rfl | exact .inr rfl | assumption) :
  PS X (.Assign [.Name x pos'] e pos) (M5 te (aI i)):=by
 intro pins s σ H D I h
 refine wpAny_Assign_Name (cG (he pins s σ H _ I h) fun v s1 ⟨y,H1,I1,r1,q1⟩=>?_) hs
 exact lR I1 hN hi hx r1 (fun s2 I2=>⟨_,H1,I2,q1⟩) hf
def Sq (i j:Nat) (ta:TA):TS:=fun D σ H=>ta σ H fun vs H1=>∃ v w,vs=[v,w]/\D.nx ((σ.set i (some v)).set j (some w)) H1
theorem Gb {i j:Nat} {x y:Str} {a b:Expr} {ta:TA} {px py pt:Pos} {kt k2 pt2} (hc:X.calm=true) (hN:X.N.Nodup) (hi:X.N[i]?=some x) (hj:X.N[j]?=some y) (hij:i≠j)
  (hx:X.env.scope.names.lookup x=some .local) (hy:X.env.scope.names.lookup y=some .local) (ha:PA X [a,b] ta)
  (hw:swappedStores [.Tuple [.Name x px,.Name y py] kt pt] (.Tuple [a,b] k2 pt2) X.env=pure (some [x,y]))
  (hs:swapsWithSole [.Tuple [.Name x px,.Name y py] kt pt] (.Tuple [a,b] k2 pt2) pos.line X.env=pure false:=by rfl) :
  PS X (.Assign [.Tuple [.Name x px,.Name y py] kt pt] (.Tuple [a,b] k2 pt2) pos) (Sq i j ta):=by
 intro pins s σ H D I h
 rw [exec_Assign_arm]
 refine wpAny_bind (wpAny_standAt ?_)
 rw [hs]
 refine wpAny_bind (wpAny_pure ?_)
 rw [if_neg (by decide)]
 refine wpAny_bind (Tuple_ (cG (ha _ pins s σ H _ I h) fun us s1 ⟨vs,H1,I1,r1,q1⟩=>?_))
 obtain ⟨v,w,e1,q1⟩:=q1
 subst e1
 obtain ⟨u1,u2,rfl,rv,rw'⟩:∃ u1 u2,us=[u1,u2]/\RelV v u1/\RelV w u2:=by
  cases r1 with
  | cons p q =>
   cases q with
   | cons p' q' =>
    cases q'
    exact ⟨_,_,rfl,p,p'⟩
 refine wpAny_newObj_type ?_ (by show 2<=sizeLine;decide)
 have I2:Inv X pins σ H1 { s1 with heap:=s1.heap.push { cls:=.type "tuple", data:=.seq [u1,u2].toArray } }:=I1.kept (t':=s1.toks) fun b o e=>Heap.get?_push_of_some _ e
 rw [hw]
 refine wpAny_bind (wpAny_pure ?_)
 show wpAny (model X.prog X.w) X.A (do rule "assign.swapped-stores";let items ← unpackItems (.ref s1.heap.objs.size) 2 none;assignInOrder [fun v=>bindName X.env y v,fun v=>bindName X.env x v] items.reverse;pure Flow.next) _ _ _
 refine wpAny_bind (wpAny_rule (wpAny_bind (unpackItems_tuple (items:=#[u1,u2]) (I.ok.hd hc) (IsTup.new s1.heap _) fun h' hx'=>?_)))
 have I3:=I2.kept (h':=h') (t':=s1.toks) fun b o e=>hx' b o (Nat.ne_of_lt (Heap.lt_size e)) e
 show wpAny _ _ (assignInOrder [fun v=>bindName X.env y v,fun v=>bindName X.env x v] [u2,u1] >>= fun _=>pure Flow.next) _ _ _
 refine wpAny_bind (assignInOrder_cons (wpAny_bindName (lR I3 hN hj (.inl hy) rw' (fun s2 I4=>?_) (.inr hy))))
 refine assignInOrder_cons (wpAny_bindName (lR I4 hN hi (.inl hx) rv (fun s3 I5=>assignInOrder_nil (wpAny_pure ?_)) (.inr hx)))
 rw [List.set_comm _ _ (Ne.symm hij)] at I5
 exact ⟨_,H1,I5,q1⟩
end
section
variable {X:Cx} {pos:Pos}
def HJ (c:TT) (tb:TS):TS:=fun D σ H=>∃ W:Nat->St->Hp->Prop,(∃ m,W m σ H)/\∀ m σ H,W m σ H ->
 c σ H fun b H1=>if b=true then ∃ N:St->Hp->Prop,(∀ σ' H',N σ' H'->∃ m',m'<m/\W m' σ' H')/\tb { D with nx:=N,ct:=N,bk:=D.nx } σ H1 else D.nx σ H1
theorem Au {c:Expr} {body:List Stmt} {tc:TT} {tb:TS} (hp:PassesOwn (model X.prog X.w) X.A X.env X.xe) (hc:PT X c tc) (hb:mW X body tb):PS X (.While c body [] pos) (HJ tc tb):=by
 intro pins s σ H D I h
 obtain ⟨W,⟨m0,w0⟩,turn⟩:=h
 refine wpAny_While (codeAny_whileLoop (fun n s'=>∃ σ' H',Inv X pins σ' H' s'/\W n σ' H') ?_ m0 ⟨σ,H,I,w0⟩)
 rintro n s1 ⟨σ1,H1,I1,w1⟩
 refine wpAny_passesOwn hp (cG (hc pins s1 σ1 H1 _ I1 (turn n σ1 H1 w1)) fun b s2 ⟨H2,I2,q2⟩=>?_)
 cases b with
 | true =>
  obtain ⟨N,hN,q2⟩:=q2
  rw [if_pos rfl]
  refine wpAny_passesOwn hp (cG (hb pins s2 σ1 H2 _ I2 q2) fun f s3 q3=>?_)
  cases f with
  | next =>
   obtain ⟨σ3,H3,I3,n3⟩:=q3
   obtain ⟨m',hm,w3⟩:=hN σ3 H3 n3
   exact ⟨m',hm,σ3,H3,I3,w3⟩
  | cont =>
   obtain ⟨σ3,H3,I3,n3⟩:=q3
   obtain ⟨m',hm,w3⟩:=hN σ3 H3 n3
   exact ⟨m',hm,σ3,H3,I3,w3⟩
  | brk=>exact q3
  | ret v=>exact q3
 | false =>
  rw [if_neg Bool.false_ne_true]
  exact wpAny_execs_nil ⟨σ1,H2,I2,q2⟩
end
structure It where
 go:Nat->Hp->Prop
 xa:Nat->Hp->V->Hp->Prop
 stop:Nat->Hp->Prop
def n5 (X:Cx) (pins:List (Addr×Obj)) (H:Hp) (b:Addr):Prop :=
 H b=none/\b≠X.env.locals/\b ∉ X.fs/\(b∈X.ex\/X.s₀.heap.objs.size<=b)/\(∀ x c,X.env.cells.lookup x=some c->c≠b)/\∀ p∈X.pn++pins,p.1≠b
theorem Inv.vk {X:Cx} {pins:List (Addr×Obj)} {σ:St} {H H':Hp} {s:Shared} {b:Addr} (I:Inv X pins σ H s) (hb:s.heap.objs.size<=b) (hn:H' b=none):n5 X pins H' b:=by
 refine ⟨hn,Nat.ne_of_gt (Nat.lt_of_lt_of_le I.lt hb),I.MX hb,.inr (Nat.le_trans I.sz hb),fun x c e z=>?_,fun p hp z=>?_⟩
 ·obtain ⟨v,q⟩:=I.cell x c e
  exact absurd (Nat.lt_of_lt_of_le q.lt (by rw [z];exact hb)) (Nat.lt_irrefl _)
 ·exact absurd (Nat.lt_of_lt_of_le (Heap.lt_size (I.pin p hp).1) (by rw [z];exact hb)) (Nat.lt_irrefl _)
structure Turn (P:Program) (w:World) (K:PySem.W.Frag) (tg:Expr) (J:It) (fp:List Addr) (it:Addr) (tn:Nat->Heap->Prop):Prop where
 mem:it∈fp
 obj:∀ i h,tn i h->∀ b∈fp,∃ o,h.get? b=some o/\∀ v,o.data≠.cell v
 keep:∀ i h h',tn i h->(∀ b∈fp,∀ o,h.get? b=some o->h'.get? b=some o)->tn i h'
 item:∀ (X:Cx),X.prog=P->X.w=w->X.K=K->X.calm=true->∀ (i:Nat) (pins:List (Addr×Obj)) (s:Shared) (σ:St) (H:Hp) (E:Value->Shared->Prop),Inv X pins σ H s->(∀ b∈fp,n5 X pins H b)->tn i s.heap->J.go i H ->
  wpAny (model P w) X.A (pyNext (.ref it)) (fun r s1=>∃ u,r=some u ∧
   wpAny (model P w) X.A (letOwnedTupleGo tg (.ref it) u) (fun _ s2=>∃ x H',Inv X pins σ H' s2/\RelV x u/\J.xa i H x H'/\tn (i+1) s2.heap/\∀ b∈fp,H' b=none) E s1) E s
 done:∀ (X:Cx),X.prog=P->X.w=w->X.K=K->X.calm=true->∀ (i:Nat) (pins:List (Addr×Obj)) (s:Shared) (σ:St) (H:Hp) (E:Value->Shared->Prop),Inv X pins σ H s->(∀ b∈fp,n5 X pins H b)->tn i s.heap->J.stop i H ->
  wpAny (model P w) X.A (pyNext (.ref it)) (fun r s1=>r=none/\Inv X pins σ H s1) E s
 self:∀ (A:Around) (i:Nat) (s:Shared) (Q:Value->Shared->Prop) (E:Value->Shared->Prop),tn i s.heap->Q (.ref it) s->wpAny (model P w) A (pyIter (.ref it)) Q E s
abbrev TI:=St->Hp->(It->Hp->Prop)->Prop
def Mj (X:Cx) (pins:List (Addr×Obj)) (σ:St) (tg:Expr) (R:It->Hp->Prop) (itv:Value) (s2:Shared):Prop :=
 ∃ (it:Addr) (fp:List Addr) (tn:Nat->Heap->Prop) (J:It) (H':Hp),itv=.ref it/\Inv X pins σ H' s2/\Turn X.prog X.w X.K tg J fp it tn/\tn 0 s2.heap/\(∀ b∈fp,n5 X pins H' b)/\R J H'
def PI (X:Cx) (tg iter:Expr) (wi:TI):Prop :=
 ∀ (pins:List (Addr×Obj)) (s:Shared) (σ:St) (H:Hp) (R:It->Hp->Prop),Inv X pins σ H s->wi σ H R ->
  wpAny (model X.prog X.w) X.A (eval iter X.env) (fun v s1=>wpAny (model X.prog X.w) X.A (pyIter v) (Mj X pins σ tg R) X.xe s1) X.xe s
theorem xU {M : Model} {A : Around} {E : Value -> Shared -> Prop} {s : Shared} {tg : Expr} {it : Addr} {u : Value} {o : Obj} {n : String} {vs : Array Value} {Q : Unit -> Shared -> Prop} (ho : s.heap.get? it = some o) (hc : o.cls = .type n) (hd : o.data = .fields vs)
    (hn : ["enumerate", "zip", "dict_itemiterator", "dict_reverseitemiterator", "odict_iterator", "itertools.zip_longest", "itertools.pairwise"].contains n = false) (hQ : Q () s) : wpAny M A (letOwnedTupleGo tg (.ref it) u) Q E s := by
  unfold letOwnedTupleGo
  cases tg <;> first
    | exact wpAny_pure hQ
    | (cases u <;> first
        | exact wpAny_pure hQ
        | (refine wpAny_bind (wpAny_load ho ?_)
           rw [hc, hd]
           show wpAny M A (if (["enumerate", "zip", "dict_itemiterator", "dict_reverseitemiterator", "odict_iterator", "itertools.zip_longest", "itertools.pairwise"].contains n && vs[0]? == some (rawInt _)) = true then _ else _) Q E s
           rw [if_neg (by intro h; rw [hn, Bool.false_and] at h; cases h)]
           exact wpAny_pure hQ))
def UJ (K:PySem.W.Frag) (a:Addr):It :=
 ⟨fun i H=>∃ xs x,jg K H a xs/\xs[i]?=some x,fun i H x H'=>H'=H/\∀ xs,jg K H a xs->xs[i]?=some x,fun i H=>∃ xs,jg K H a xs/\xs.length<=i⟩
def UN (K:PySem.W.Frag) (a:Addr):It :=
 ⟨fun i H=>∃ xs x,ib K H a xs/\xs[i]?=some x,fun i H x H'=>H'=H/\∀ xs,ib K H a xs->xs[i]?=some x,fun i H=>∃ xs,ib K H a xs/\xs.length<=i⟩
def IJ (lo:Int) (n:Nat):It:=⟨fun i _=>i<n,fun i H x H'=>H'=H/\x=.int (lo+i),fun i _=>n<=i⟩
theorem zO {P:Program} {w:World} {K:PySem.W.Frag} {tg:Expr} (a it:Addr):Turn P w K tg (UJ K a) [it] it (fun i h=>h.IsListIter it a i) where
 mem:=by simp
 obj:=fun i h st b hb=>by
  have e:b=it:=by simpa using hb
  subst e
  obtain ⟨o,e,c,d⟩:=st
  exact ⟨o,e,fun v z=>by rw [d] at z;cases z⟩
 keep:=fun i h h' st k=>st.at fun o e=>k it (by simp) o e
 item:=by
  intro X hP hw hK hc i pins s σ H E I hf st hg
  subst hP hw hK
  obtain ⟨xs,x,hq,hx⟩:=hg
  obtain ⟨its,rv,p,hz⟩:=I.list hq
  obtain ⟨u,hu,ru⟩:=rv.get hx
  obtain ⟨f0,f1,f2,f3,f4,f5⟩:=hf it (by simp)
  refine wpAny_pyNext_list_item st p.isList (x:=u) (by simpa using hu) fun h' st' sb=>?_
  have I1:Inv X pins σ H { s with heap:=h' }:=I.turned (t':=s.toks) (fun b o hb e=>(sb.2 b hb).trans e) f0 f1 f3 f4 f5
  obtain ⟨o,e,c,d⟩:=id st'
  exact ⟨u,rfl,xU (s:={ s with heap:=h' }) e c d (by decide) ⟨x,H,I1,ru,⟨rfl,fun ys hy=>by rw [I.pY hy hq];exact hx⟩,st',fun b hb=>(hf b hb).1⟩⟩
 done:=by
  intro X hP hw hK hc i pins s σ H E I hf st hg
  subst hP hw hK
  obtain ⟨xs,hq,hx⟩:=hg
  obtain ⟨its,rv,p,hz⟩:=I.list hq
  obtain ⟨f0,f1,f2,f3,f4,f5⟩:=hf it (by simp)
  have hl:=rv.length
  exact wpAny_pyNext_list_end (I.ok.hd hc) st p.isList (by simp;omega) fun h' eb=>⟨rfl,I.turned (t':=s.toks) (fun b o hb e=>eb b o hb e) f0 f1 f3 f4 f5⟩
 self:=fun _ _ _ _ _ st h=>wpAny_pyIter_listiter st h
theorem xg {P:Program} {w:World} {K:PySem.W.Frag} {tg:Expr} (a it:Addr):Turn P w K tg (UN K a) [it] it (fun i h=>h.IsTupleIter it a i) where
 mem:=by simp
 obj:=fun i h st b hb=>by
  have e:b=it:=by simpa using hb
  subst e
  obtain ⟨o,e,c,d⟩:=st
  exact ⟨o,e,fun v z=>by rw [d] at z;cases z⟩
 keep:=fun i h h' st k=>st.at fun o e=>k it (by simp) o e
 item:=by
  intro X hP hw hK hc i pins s σ H E I hf st hg
  subst hP hw hK
  obtain ⟨xs,x,hq,hx⟩:=hg
  obtain ⟨its,rv,p,hz⟩:=I.tuple hq
  obtain ⟨u,hu,ru⟩:=rv.get hx
  obtain ⟨f0,f1,f2,f3,f4,f5⟩:=hf it (by simp)
  refine wpAny_pyNext_tuple_item st (show s.heap.IsTuple a its.toArray from p) (x:=u) (by simpa using hu) fun h' st' sb=>?_
  have I1:Inv X pins σ H { s with heap:=h' }:=I.turned (t':=s.toks) (fun b o hb e=>(sb.2 b hb).trans e) f0 f1 f3 f4 f5
  obtain ⟨o,e,c,d⟩:=id st'
  exact ⟨u,rfl,xU (s:={ s with heap:=h' }) e c d (by decide) ⟨x,H,I1,ru,⟨rfl,fun ys hy=>by rw [I.mV hy hq];exact hx⟩,st',fun b hb=>(hf b hb).1⟩⟩
 done:=by
  intro X hP hw hK hc i pins s σ H E I hf st hg
  subst hP hw hK
  obtain ⟨xs,hq,hx⟩:=hg
  obtain ⟨its,rv,p,hz⟩:=I.tuple hq
  obtain ⟨f0,f1,f2,f3,f4,f5⟩:=hf it (by simp)
  have hl:=rv.length
  exact wpAny_pyNext_tuple_end (I.ok.hd hc) st (show s.heap.IsTuple a its.toArray from p) (by simp;omega) fun h' eb=>⟨rfl,I.turned (t':=s.toks) (fun b o hb e=>eb b o hb e) f0 f1 f3 f4 f5⟩
 self:=fun _ _ _ _ _ st h=>wpAny_pyIter_tupleiter st h
theorem wL {P:Program} {w:World} {K:PySem.W.Frag} {tg:Expr} (it:Addr) (lo:Int) (n:Nat):Turn P w K tg (IJ lo n) [it] it (fun i h=>IsRangeIter h it (lo+(i:Nat)*1) ((n:Int)-(i:Nat)) 1) where
 mem:=by simp
 obj:=fun i h st b hb=>by
  have e:b=it:=by simpa using hb
  subst e
  exact ⟨_,st,fun v z=>by
   have z':Data.fields _=Data.cell v:=z
   cases z'⟩
 keep:=fun i h h' st k=>k it (by simp) _ st
 item:=by
  intro X hP hw hK hc i pins s σ H E I hf st hg
  subst hP hw hK
  obtain ⟨f0,f1,f2,f3,f4,f5⟩:=hf it (by simp)
  have W:=Walks.range (prog:=X.prog) (w:=X.w) (I.ok.hd hc) it lo 1 n
  refine W.item i s _ _ hg st fun v h' tk hv st' kk=>?_
  obtain ⟨t,rfl⟩:=hv
  have I1:Inv X pins σ H { s with heap:=h',toks:=tk }:=I.turned (fun b o hb e=>kk b o (by simpa using hb) e) f0 f1 f3 f4 f5
  refine ⟨_,rfl,xU (s:={ s with heap:=h',toks:=tk }) (n := "range_iterator") st' rfl rfl (by decide) ⟨.int (lo+i),H,I1,⟨t,?_⟩,⟨rfl,rfl⟩,st',fun b hb=>(hf b hb).1⟩⟩
  rw [Int.mul_one]
 done:=by
  intro X hP hw hK hc i pins s σ H E I hf st hg
  subst hP hw hK
  obtain ⟨f0,f1,f2,f3,f4,f5⟩:=hf it (by simp)
  exact wpAny_pyNext_range_end (I.ok.hd hc) st (by have:n<=i:=hg;omega) fun h' eb=>⟨rfl,I.turned (t':=s.toks) (fun b o hb e=>eb b o hb e) f0 f1 f3 f4 f5⟩
 self:=fun _ _ _ _ _ st h=>wpAny_pyIter_rangeiter st h
end L2
namespace L2
open PySem PySem.Spec PyProof.Rows
section
variable {X:Cx} {tg:Expr}
theorem vN {pins:List (Addr×Obj)} {σ:St} {H:Hp} {s:Shared} {R:It->Hp->Prop} {E:Value->Shared->Prop} {lo hi:Int} {t u v:Tok} {tk:Nat} (I:Inv X pins σ H s) (h1:-(2^62)<=lo) (h2:lo<2^62) (h3:-(2^62)<=hi) (h4:hi<2^62)
  (q:R (IJ lo (hi-lo).toNat) H):wpAny (model X.prog X.w) X.A (pyIter (.ref s.heap.objs.size)) (Mj X pins σ tg R) E { s with heap:=s.heap.push { cls:=.type "range", data:=.fields #[.int lo t,.int hi u,.int 1 v] },toks:=tk }:=by
 refine wpAny_pyIter_range (IsRange.new ..) (small_one h1 h2 h3 h4) ?_
 have I1:Inv X pins σ H { s with heap:=s.heap.push { cls:=.type "range", data:=.fields #[.int lo t,.int hi u,.int 1 v] },toks:=tk }:=I.kept fun b o e=>Heap.get?_push_of_some _ e
 refine ⟨(s.heap.push { cls:=.type "range", data:=.fields #[.int lo t,.int hi u,.int 1 v] }).objs.size,[(s.heap.push { cls:=.type "range", data:=.fields #[.int lo t,.int hi u,.int 1 v] }).objs.size],_,_,H,rfl,
  I1.kept (t':=tk) fun b o e=>Heap.get?_push_of_some _ e,wL _ lo (hi-lo).toNat,?_,fun b hb=>?_,q⟩
 ·have e1:lo+((0:Nat):Int)*1=lo:=by simp
  have e2:(((hi-lo).toNat:Nat):Int)-((0:Nat):Int)=Builtin.Range.rangeSize lo hi 1:=by rw [rangeSize_one];split <;> omega
  show IsRangeIter _ _ (lo+((0:Nat):Int)*1) ((((hi-lo).toNat:Nat):Int)-((0:Nat):Int)) 1
  rw [e1,e2]
  exact Heap.get?_push_size _ rfl
 ·have e:b=(s.heap.push { cls:=.type "range", data:=.fields #[.int lo t,.int hi u,.int 1 v] }).objs.size:=by simpa using hb
  subst e
  exact I1.vk (Nat.le_refl _) (I1.bx.fresh (Nat.le_refl _))
def E4 (ta:TA):TI:=fun σ H R=>ta σ H fun vs H1=>∃ j:Int,vs=[.int j]/\-(2^62)<=j/\j<2^62/\R (IJ 0 j.toNat) H1
def EN (ta:TA):TI:=fun σ H R=>ta σ H fun vs H1=>∃ i j:Int,vs=[.int i,.int j]/\(-(2^62)<=i/\i<2^62/\-(2^62)<=j/\j<2^62)/\R (IJ i (j-i).toNat) H1
theorem fE {a:Expr} {ta:TA} {p pos:Pos} (hg:Gl X "range") (hm:X.mg "range" = none) (ha:PA X [a] ta) (hs:starEach [a] X.env=[(false,eval a X.env)]:=by rfl):PI X tg (.Call (.Name "range" p) [a] [] pos) (E4 ta):=by
 intro pins s σ H R I h
 refine Call_ (jl I hg hm boot_range (PyProof.Rows.callWith_type1 (cG (ha pos pins s σ H _ I h) fun us s1 ⟨vs,H1,I1,r1,q1⟩=>?_) hs rfl))
 obtain ⟨j,e,q1,q2,q⟩:=q1
 subst e
 cases r1 with
 | cons r rr =>
  cases rr
  obtain ⟨t,rfl⟩:=r
  exact call_range_1 (vN I1 (by omega) (by omega) q1 q2 (by simpa using q))
theorem zI {a b:Expr} {ta:TA} {p pos:Pos} (hg:Gl X "range") (hm:X.mg "range" = none) (ha:PA X [a,b] ta) (hs:starEach [a,b] X.env=[(false,eval a X.env),(false,eval b X.env)]:=by rfl) (hs2:starEach [b] X.env=[(false,eval b X.env)]:=by rfl) :
  PI X tg (.Call (.Name "range" p) [a,b] [] pos) (EN ta):=by
 intro pins s σ H R I h
 refine Call_ (jl I hg hm boot_range (PyProof.Rows.callWith_type1 (cG (ha pos pins s σ H _ I h) fun us s1 ⟨vs,H1,I1,r1,q1⟩=>?_) (by rw [hs,hs2]) (by rw [hs2];rfl)))
 obtain ⟨i,j,e,⟨q1,q2,q3,q4⟩,q⟩:=q1
 subst e
 cases r1 with
 | cons r rr =>
  cases rr with
  | cons r' rr =>
   cases rr
   obtain ⟨t,rfl⟩:=r
   obtain ⟨t',rfl⟩:=r'
   exact call_range_2 (vN I1 q1 q2 q3 q4 q)
def K6 (wi:TI) (g:TG) (tb:TS):TS:=fun D σ H=>wi σ H fun J H1=>∃ W:Nat->Nat->St->Hp->Prop,(∃ m,W 0 m σ H1)/\∀ i m σ H,W i m σ H ->
 (J.stop i H/\D.nx σ H)\/(J.go i H/\∃ N:St->Hp->Prop,(∀ σ' H',N σ' H'->∃ m',m'<m/\W (i+1) m' σ' H')/\∀ x H',J.xa i H x H'->g x σ H' fun σ2 H2=>tb { D with nx:=N,ct:=N,bk:=D.nx } σ2 H2)
def mM (fp:List Addr) (h:Heap):List (Addr×Obj):=fp.filterMap fun b=>(h.get? b).map fun o=>(b,o)
theorem jB {fp:List Addr} {h:Heap} {b:Addr} {o:Obj} (hb:b∈fp) (e:h.get? b=some o):(b,o)∈mM fp h:=List.mem_filterMap.mpr ⟨b,hb,by rw [e];rfl⟩
theorem yM {fp:List Addr} {h:Heap} {p:Addr×Obj} (hp:p∈mM fp h):p.1∈fp/\h.get? p.1=some p.2:=by
 obtain ⟨b,hb,e⟩:=List.mem_filterMap.mp hp
 cases q:h.get? b with
 | none=>rw [q] at e;cases e
 | some o =>
  rw [q] at e
  have e':(b,o)=p:=Option.some.inj e
  subst e'
  exact ⟨hb,q⟩
theorem Inv.pinned {pins:List (Addr×Obj)} {σ:St} {H:Hp} {s:Shared} {fp:List Addr} (I:Inv X pins σ H s) (hf:∀ b∈fp,n5 X pins H b) (ho:∀ b∈fp,∃ o,s.heap.get? b=some o/\∀ v,o.data≠.cell v):Inv X (pins++mM fp s.heap) σ H s :=
 I.yn fun p hp=>(List.mem_append.mp hp).elim (fun z=>I.pin p (List.mem_append_right _ z)) fun z=>by
  obtain ⟨hb,e⟩:=yM z
  obtain ⟨f0,f1,f2,_⟩:=hf p.1 hb
  obtain ⟨o,e',d⟩:=ho p.1 hb
  rw [e] at e';cases e'
  exact ⟨e,f0,f1,f2,d⟩
theorem Inv.lU {pins pl:List (Addr×Obj)} {σ:St} {H:Hp} {s:Shared} (I:Inv X (pins++pl) σ H s):Inv X pins σ H s:=I.yn fun p hp=>I.pin p (List.mem_append_right _ (List.mem_append_left _ hp))
theorem FO {iter:Expr} {body:List Stmt} {wi:TI} {g:TG} {tb:TS} {pos:Pos} (hp:PassesOwn (model X.prog X.w) X.A X.env X.xe) (hc:X.calm=true) (hi:PI X tg iter wi) (hg:PG X tg g) (hb:mW X body tb)
  (hs:∀ x,foldedSetIterable iter X.env x=pure x:=by intro _;rfl):PS X (.For tg iter body [] pos) (K6 wi g tb):=by
 intro pins s σ H D I h
 refine wpAny_For (cG (hi pins s σ H _ I h) fun v s1 h1=>cG h1 fun itv s2 h2=>?_) hs
 obtain ⟨it,fp,tn,J,H2,e,I2,T,st2,f2,W,⟨m0,w0⟩,turn⟩:=h2
 subst e
 have stat:∀ {H':Hp},(∀ b∈fp,H' b=none)->∀ b∈fp,n5 X pins H' b:=fun hn b hb=>⟨hn b hb,(f2 b hb).2⟩
 refine codeAny_forLoop_any (fun n s'=>∃ i σ' H',Inv X pins σ' H' s'/\tn i s'.heap/\(∀ b∈fp,H' b=none)/\W i n σ' H') ?_ m0 ⟨0,σ,H2,I2,st2,fun b hb=>(f2 b hb).1,w0⟩
 rintro n s3 ⟨i,σ3,H3,I3,st3,fr3,w3⟩
 rcases turn i n σ3 H3 w3 with ⟨stop,qn⟩ | ⟨go,N,hN,step⟩
 ·refine wpAny_passesOwn hp (cG (T.done X rfl rfl rfl hc i pins s3 σ3 H3 X.xe I3 (stat fr3) st3 stop) fun r s4 ⟨hr,I4⟩=>?_)
  subst hr
  exact wpAny_execs_nil ⟨σ3,H3,I4,qn⟩
 ·refine wpAny_passesOwn hp (cG (T.item X rfl rfl rfl hc i pins s3 σ3 H3 X.xe I3 (stat fr3) st3 go) fun r s4 ⟨u,hr,h4⟩=>?_)
  subst hr
  refine wpAny_passesOwn hp (cG h4 fun _ s5 ⟨x,H5,I5,r5,y5,st5,fr5⟩=>?_)
  have I5':=I5.pinned (stat fr5) (T.obj _ _ st5)
  refine wpAny_passesOwn hp (cG (hg _ s5 σ3 H5 x u _ I5' r5 (step x H5 y5)) fun _ s6 ⟨σ6,H6,I6,q6⟩=>?_)
  refine wpAny_passesOwn hp (cG (hb _ s6 σ6 H6 _ I6 q6) fun f s7 q7=>?_)
  have again:∀ {σ7:St} {H7:Hp},Inv X (pins++mM fp s5.heap) σ7 H7 s7->N σ7 H7->∃ m,m<n/\∃ i σ' H',Inv X pins σ' H' s7/\tn i s7.heap/\(∀ b∈fp,H' b=none)/\W i m σ' H':=fun {σ7 H7} I7 n7=>by
   obtain ⟨m',hm,w7⟩:=hN σ7 H7 n7
   refine ⟨m',hm,i+1,σ7,H7,I7.lU,T.keep _ _ _ st5 fun b hb o e=>(I7.pin (b,o) (List.mem_append_right _ (List.mem_append_right _ (jB hb e)))).1,fun b hb=>?_,w7⟩
   obtain ⟨o,e,d⟩:=T.obj _ _ st5 b hb
   exact (I7.pin (b,o) (List.mem_append_right _ (List.mem_append_right _ (jB hb e)))).2.1
  cases f with
  | next=>obtain ⟨σ7,H7,I7,n7⟩:=q7;exact again I7 n7
  | cont=>obtain ⟨σ7,H7,I7,n7⟩:=q7;exact again I7 n7
  | brk=>obtain ⟨σ7,H7,I7,q7⟩:=q7;exact ⟨σ7,H7,I7.lU,q7⟩
  | ret v=>obtain ⟨x7,σ7,H7,I7,r7,q7⟩:=q7;exact ⟨x7,σ7,H7,I7.lU,r7,q7⟩
end
end L2
namespace L2
open PySem PySem.Spec PyProof.Rows
abbrev R2:=V->V->Hp->VK->Prop
def gW (X:Cx) (f:Value->Value->Sem Value) (r:R2):Prop :=
 ∀ (pins:List (Addr×Obj)) (s:Shared) (σ:St) (H:Hp) (x y:V) (v u:Value) (Q:VK),Inv X pins σ H s->RelV x v->RelV y u->r x y H Q ->
  wpAny (model X.prog X.w) X.A (f v u) (EP X pins σ Q) X.xe s
def R5 (X:Cx) (f:Value->Sem Value) (r:V->Hp->VK->Prop):Prop :=
 ∀ (pins:List (Addr×Obj)) (s:Shared) (σ:St) (H:Hp) (x:V) (v:Value) (Q:VK),Inv X pins σ H s->RelV x v->r x H Q ->
  wpAny (model X.prog X.w) X.A (f v) (EP X pins σ Q) X.xe s
def dJ (X:Cx) (f:Value) (r:List V->Hp->VK->Prop):Prop :=
 ∀ (pins:List (Addr×Obj)) (s:Shared) (σ:St) (H:Hp) (xs:List V) (us:List Value) (Q:VK),Inv X pins σ H s->Vals xs us->r xs H Q ->
  wpAny (model X.prog X.w) X.A (call f us) (EP X pins σ Q) X.xe s
def Iz (r:R2) (ta tb:TE):TE:=fun σ H Q=>ta σ H fun x H1=>tb σ H1 fun y H2=>r x y H2 Q
def Uc (r:V->Hp->VK->Prop) (ta:TE):TE:=fun σ H Q=>ta σ H fun x H1=>r x H1 Q
def rI (C:Int->Int->Prop) (g:Int->Int->V):R2:=fun x y H Q=>∃ i j,x=.int i/\y=.int j/\C i j/\Q (g i j) H
def xJ (g:Int->Int->V):R2:=fun x y H Q=>∃ i j,x=.int i/\y=.int j/\Q (g i j) H
def rU (g:Int->V):V->Hp->VK->Prop:=fun x H Q=>∃ i,x=.int i/\Q (g i) H
section
variable {X:Cx} {a b c:Expr} {ta tb tc:TE} {pos:Pos}
theorem GS (ha:PE X a ta) (hb:PE X b tb) {pins:List (Addr×Obj)} {s:Shared} {σ:St} {H:Hp} {R:V->V->Hp->Prop} (I:Inv X pins σ H s)
  (h:ta σ H fun x H1=>tb σ H1 fun y H2=>R x y H2) {Q:Value->Shared->Prop} {f:Value->Value->Sem Value}
  (hf:∀ v u s2 x y H2,Inv X pins σ H2 s2->RelV x v->RelV y u->R x y H2->wpAny (model X.prog X.w) X.A (f v u) Q X.xe s2) :
  wpAny (model X.prog X.w) X.A (eval a X.env) (fun v s₁=>wpAny (model X.prog X.w) X.A (eval b X.env) (fun u s₂=>wpAny (model X.prog X.w) X.A (f v u) Q X.xe s₂) X.xe s₁) X.xe s:=by
 refine cG (ha pins s σ H _ I h) fun v s1 ⟨x,H1,I1,r1,q1⟩=>?_
 refine cG (hb pins s1 σ H1 _ I1 q1) fun u s2 ⟨y,H2,I2,r2,q2⟩=>?_
 exact hf v u s2 x y H2 I2 r1 r2 q2
theorem JZ {op:Operator} {r:R2} (ho:gW X (binaryOp op) r) (ha:PE X a ta) (hb:PE X b tb):PE X (.BinOp a op b pos) (Iz r ta tb):=by
 intro pins s σ H Q I h
 exact wpAny_BinOp (GS ha hb I h fun v u s2 x y H2 I2 rx ry q=>ho pins s2 σ H2 x y v u Q I2 rx ry q)
theorem JW {op:UnaryOp} {r:V->Hp->VK->Prop} (ho:R5 X (unaryOp op) r) (ha:PE X a ta):PE X (.UnaryOp op a pos) (Uc r ta):=by
 intro pins s σ H Q I h
 exact UnaryOp_ (cG (ha pins s σ H _ I h) fun v s1 ⟨x,H1,I1,r1,q1⟩=>ho pins s1 σ H1 x v Q I1 r1 q1)
theorem Ki {f:Value->Value->Sem Value} {C:Int->Int->Prop} {g:Int->Int->Int}
  (rule:∀ (i j:Int) (t u:Tok) (s:Shared) (Q:Value->Shared->Prop) (E:Value->Shared->Prop),C i j->Q (.int (g i j) s.toks) { s with toks:=s.toks+1 }->wpAny (model X.prog X.w) X.A (f (.int i t) (.int j u)) Q E s) :
  gW X f (rI C fun i j=>.int (g i j)):=by
 intro pins s σ H x y v u Q I rx ry h
 obtain ⟨i,j,rfl,rfl,hc,q⟩:=h
 obtain ⟨t,rfl⟩:=rx
 obtain ⟨t',rfl⟩:=ry
 exact rule i j t t' s _ _ hc ⟨.int (g i j),H,I.tok _,⟨_,rfl⟩,q⟩
theorem IG {f:Value->Value->Sem Value} {g:Int->Int->Int}
  (rule:∀ (i j:Int) (t u:Tok) (s:Shared) (Q:Value->Shared->Prop) (E:Value->Shared->Prop),Q (.int (g i j) s.toks) { s with toks:=s.toks+1 }->wpAny (model X.prog X.w) X.A (f (.int i t) (.int j u)) Q E s) :
  gW X f (xJ fun i j=>.int (g i j)):=by
 intro pins s σ H x y v u Q I rx ry h
 obtain ⟨i,j,rfl,rfl,q⟩:=h
 obtain ⟨t,rfl⟩:=rx
 obtain ⟨t',rfl⟩:=ry
 exact rule i j t t' s _ _ ⟨.int (g i j),H,I.tok _,⟨_,rfl⟩,q⟩
theorem Es {f:Value->Value->Sem Value} {g:Int->Int->Bool}
  (rule:∀ (i j:Int) (t u:Tok) (s:Shared) (Q:Value->Shared->Prop) (E:Value->Shared->Prop),Q (.bool (g i j)) s->wpAny (model X.prog X.w) X.A (f (.int i t) (.int j u)) Q E s) :
  gW X f (xJ fun i j=>.bl (g i j)):=by
 intro pins s σ H x y v u Q I rx ry h
 obtain ⟨i,j,rfl,rfl,q⟩:=h
 obtain ⟨t,rfl⟩:=rx
 obtain ⟨t',rfl⟩:=ry
 exact rule i j t t' s _ _ ⟨.bl (g i j),H,I,rfl,q⟩
def G6 (i j:Int):Prop:=0<=j/\j<=1000000/\i.natAbs<2^64
theorem Hv:gW X (binaryOp .Add) (xJ fun i j=>.int (i+j)):=IG fun _ _ _ _ _ _ _ q=>add_int q
theorem Fz:gW X (binaryOp .Sub) (xJ fun i j=>.int (i-j)):=IG fun _ _ _ _ _ _ _ q=>sub_int q
theorem DL:gW X (binaryOp .Mod) (rI (fun _ j=>j≠0) fun i j=>.int (i.fmod j)):=Ki fun _ _ _ _ _ _ _ hc q=>mod_int' hc q
theorem FP:gW X (binaryOp .Pow) (rI G6 fun i j=>.int (i^j.toNat)):=Ki fun _ _ _ _ _ _ _ hc q=>pow_int_small hc.1 hc.2.1 hc.2.2 q
theorem Vw {f:Value->Sem Value} {g:Int->Int}
  (rule:∀ (i:Int) (t:Tok) (s:Shared) (Q:Value->Shared->Prop) (E:Value->Shared->Prop),Q (.int (g i) s.toks) { s with toks:=s.toks+1 }->wpAny (model X.prog X.w) X.A (f (.int i t)) Q E s) :
  R5 X f (rU fun i=>.int (g i)):=by
 intro pins s σ H x v Q I rx h
 obtain ⟨i,rfl,q⟩:=h
 obtain ⟨t,rfl⟩:=rx
 exact rule i t s _ _ ⟨.int (g i),H,I.tok _,⟨_,rfl⟩,q⟩
theorem Fb:R5 X (unaryOp .USub) (rU fun i=>.int (-i)):=Vw fun _ _ _ _ _ q=>neg_int q
end
section
variable {X:Cx} {a b c:Expr} {ta tb tc:TE} {pos:Pos}
theorem xr {pins:List (Addr×Obj)} {σ:St} {H:Hp} {s:Shared} {Q:VK} {k k':Bool} (I:Inv X pins σ H s) (q:Q (.bl k) H) (e:k=k'):EP X pins σ Q (.bool k') s:=by
 subst e
 exact ⟨.bl k,H,I,rfl,q⟩
theorem vt:gW X (compareOp .Lt) (xJ fun i j=>.bl (decide (i<j))):=Es fun _ _ _ _ _ _ _ q=>lt_int q
theorem ph:gW X (compareOp .LtE) (xJ fun i j=>.bl (decide (i<=j))):=Es fun _ _ _ _ _ _ _ q=>le_int q
theorem ED:gW X (compareOp .Gt) (xJ fun i j=>.bl (decide (j<i))):=Es fun _ _ _ _ _ _ _ q=>gt_int q
theorem EE:gW X (compareOp .GtE) (xJ fun i j=>.bl (decide (j<=i))):=Es fun _ _ _ _ _ _ _ q=>ge_int q
theorem Ae:gW X (compareOp .Is) (fun x y H Q=>y=.cI/\Q (.bl (decide (x=.cI))) H):=by
 intro pins s σ H x y v u Q I rx ry h
 obtain ⟨rfl,q⟩:=h
 cases ry
 refine is_none_gen (xr I q ?_)
 cases x <;> first
  | (cases rx;rfl)
  | (obtain ⟨t,rfl⟩:=rx;rfl)
theorem gW.or {f:Value->Value->Sem Value} {r r':R2} (h:gW X f r) (h':gW X f r'):gW X f (fun x y H Q=>r x y H Q\/r' x y H Q):=by
 intro pins s σ H x y v u Q I rx ry q
 rcases q with q | q
 ·exact h pins s σ H x y v u Q I rx ry q
 ·exact h' pins s σ H x y v u Q I rx ry q
theorem dM (b:Expr) {op:CmpOp} (h:op≠.In:=by decide) (h2:op≠.NotIn:=by decide):behindInMarks op b=false:=by
 have e1:(op==CmpOp.In)=false:=by cases op <;> first | rfl | exact absurd rfl h
 have e2:(op==CmpOp.NotIn)=false:=by cases op <;> first | rfl | exact absurd rfl h2
 cases b <;> simp [behindInMarks,e1,e2]
theorem Df {op:CmpOp} {r:R2} (ho:gW X (compareOp op) r) (ha:PE X a ta) (hb:PE X b tb) (hm:behindInMarks op b=false):PE X (.Compare a [op] [b] pos) (Iz r ta tb):=by
 intro pins s σ H Q I h
 exact wpAny_Compare1 (GS ha hb I h fun v u s2 x y H2 I2 rx ry q=>ho pins s2 σ H2 x y v u Q I2 rx ry q) hm
def EG (t:TE):TT:=fun σ H Q=>t σ H fun x H'=>∃ k,x=.bl k/\Q k H'
theorem C2 {op:CmpOp} {r:R2} (ho:gW X (compareOp op) r) (ha:PE X a ta) (hb:PE X b tb) (hm:behindInMarks op b=false):PT X (.Compare a [op] [b] pos) (EG (Iz r ta tb)):=by
 intro pins s σ H Q I h
 refine wpAny_isTrue_Compare1 (cG (ha pins s σ H _ I h) fun v s1 ⟨x,H1,I1,r1,q1⟩=>cG (hb pins s1 σ H1 _ I1 q1) fun u s2 ⟨y,H2,I2,r2,q2⟩ =>
  cG (ho pins s2 σ H2 x y v u _ I2 r1 r2 q2) fun c s3 ⟨z,H3,I3,r3,k,e,q3⟩=>?_) hm
 subst e
 cases r3
 exact wpAny_truthy_bool ⟨H3,I3,q3⟩
def xj (r r':R2) (ta tb tc:TE):TE:=fun σ H Q=>ta σ H fun x H1=>tb σ H1 fun y H2=>r x y H2 fun z H3=>∃ k,z=.bl k ∧
 (if k=true then tc σ H3 fun w' H4=>r' y w' H4 Q else Q (.bl false) H3)
theorem Ab {op op':CmpOp} {r r':R2} (ho:gW X (compareOp op) r) (ho':gW X (compareOp op') r') (ha:PE X a ta) (hb:PE X b tb) (hc:PE X c tc)
  (hm:lastMarks [op,op'] [b,c]=false:=by with_unfolding_all rfl):PE X (.Compare a [op,op'] [b,c] pos) (xj r r' ta tb tc):=by
 intro pins s σ H Q I h
 refine Compare_chain (cG (ha pins s σ H _ I h) fun v s1 ⟨x,H1,I1,r1,q1⟩=>chain_link (cG (hb pins s1 σ H1 _ I1 q1) fun u s2 ⟨y,H2,I2,r2,q2⟩ =>
  cG (ho pins s2 σ H2 x y v u _ I2 r1 r2 q2) fun d s3 ⟨z,H3,I3,r3,k,e,q3⟩=>?_)) hm
 subst e
 cases r3
 refine wpAny_truthy_bool ?_
 cases k with
 | false=>exact ite_ff ⟨.bl false,H3,I3,rfl,q3⟩
 | true=>exact ite_tt (chain_last (cG (hc pins s3 σ H3 _ I3 q3) fun w' s4 ⟨z',H4,I4,r4,q4⟩=>ho' pins s4 σ H4 y z' u w' Q I4 r2 r4 q4))
theorem A_ {op op':CmpOp} {r r':R2} (ho:gW X (compareOp op) r) (ho':gW X (compareOp op') r') (ha:PE X a ta) (hb:PE X b tb) (hc:PE X c tc)
  (hm:lastMarks [op,op'] [b,c]=false:=by with_unfolding_all rfl):PT X (.Compare a [op,op'] [b,c] pos) (EG (xj r r' ta tb tc)):=by
 intro pins s σ H Q I h
 refine isTrue_chain (cG (ha pins s σ H _ I h) fun v s1 ⟨x,H1,I1,r1,q1⟩=>test_link (cG (hb pins s1 σ H1 _ I1 q1) fun u s2 ⟨y,H2,I2,r2,q2⟩ =>
  cG (ho pins s2 σ H2 x y v u _ I2 r1 r2 q2) fun d s3 ⟨z,H3,I3,r3,k,e,q3⟩=>?_)) hm
 subst e
 cases r3
 refine wpAny_truthy_bool ?_
 cases k with
 | false =>
  obtain ⟨k',e',q'⟩:=q3
  cases e'
  exact ite_ff ⟨H3,I3,q'⟩
 | true =>
  refine ite_tt (test_last (cG (hc pins s3 σ H3 _ I3 q3) fun w' s4 ⟨z',H4,I4,r4,q4⟩=>cG (ho' pins s4 σ H4 y z' u w' _ I4 r2 r4 q4) fun d' s5 ⟨z2,H5,I5,r5,k2,e2,q5⟩=>?_))
  subst e2
  cases r5
  exact wpAny_truthy_bool ⟨H5,I5,q5⟩
theorem pq:(sizeLine:Nat)<2^63:=by rw [sizeLine_eq];decide
theorem xi:gW X (binaryOp .Add) (fun x y H Q=>∃ i j,x=.str i/\y=.str j/\i.length+j.length<=sizeLine/\Q (.str (i++j)) H):=by
 intro pins s σ H x y v u Q I rx ry h
 obtain ⟨i,j,rfl,rfl,hz,q⟩:=h
 obtain ⟨t,rfl⟩:=rx
 obtain ⟨t',rfl⟩:=ry
 exact add_str (fun t' tk=>⟨.str (i++j),H,I.tok _,⟨_,rfl⟩,q⟩) hz
theorem vals1 {x:V} {us:List Value} (r:Vals [x] us):∃ u,us=[u]/\RelV x u:=by
 cases r with
 | cons r1 r2=>cases r2;exact ⟨_,rfl,r1⟩
theorem vals2 {x y:V} {us:List Value} (r:Vals [x,y] us):∃ u w',us=[u,w']/\RelV x u/\RelV y w':=by
 cases r with
 | cons r1 r2 =>
  cases r2 with
  | cons r3 r4=>cases r4;exact ⟨_,_,rfl,r1,r3⟩
theorem za (hc:X.calm=true):dJ X (.builtin "max") (fun xs H Q=>∃ i j,xs=[.int i,.int j]/\Q (.int (if j>i then j else i)) H):=by
 intro pins s σ H xs us Q I r h
 obtain ⟨i,j,rfl,q⟩:=h
 obtain ⟨u,w',rfl,⟨t,rfl⟩,⟨t',rfl⟩⟩:=vals2 r
 refine max_two_ints (I.ok.hd hc) fun h' tk k=>⟨_,H,I.kept k,?_,q⟩
 by_cases hj:j>i
 ·rw [if_pos hj,if_pos hj];exact ⟨_,rfl⟩
 ·rw [if_neg hj,if_neg hj];exact ⟨_,rfl⟩
end
end L2
namespace L2
open PySem PySem.Spec PyProof.Rows
structure xF (h:Heap) (x dx C:Addr) (mA:Str->Option Value):Prop where
 obj:h.get? x=some (PySem.W.instObj C dx)
 ns:h.Ns1 dx mA
 ne:dx≠x
theorem m5 {h:Heap} {dx:Addr} {mA:Str->Option Value} (n:h.Ns1 dx mA):∃ od,h.get? dx=some od/\∀ name,PySem.W.lookIn name od=some (mA name):=by
 obtain ⟨o,es,ep,ho,hd,hk,_,hm⟩:=n
 refine ⟨o,ho,fun name=>?_⟩
 have e:=hm name
 unfold nsFind findBy at e
 rw [← Array.find?_toList] at e
 unfold PySem.W.lookIn
 rw [hd]
 dsimp only
 split
 ·rename_i y q
  rw [q] at e
  exact congrArg some e
 ·rename_i q
  rw [q] at e
  have a:es.toList.any (·.refKey)=false:=by
   rw [List.any_eq_false]
   intro y hy
   obtain ⟨z,t,hkey⟩:=hk y (Array.mem_toList_iff.mp hy)
   simp [DictEntry.refKey,hkey]
  have a':¬ es.toList.any (·.refKey)=true:=by rw [a];exact Bool.false_ne_true
  rw [if_neg a']
  exact congrArg some e
theorem xF.look {h:Heap} {x dx C:Addr} {mA:Str->Option Value} (I:xF h x dx C mA):∃ od,PySem.W.InstAt h x (PySem.W.instObj C dx) C (some od)/\∀ name,PySem.W.lookIn name od=some (mA name) :=
 let ⟨od,ho,hl⟩:=m5 I.ns
 ⟨od,⟨I.obj,rfl,rfl,ho⟩,hl⟩
section
variable {prog:Program} {w:World} {A:Around} {E:Value->Shared->Prop} {s:Shared} {K:PySem.W.Frag} {x dx C f:Addr} {mA:Str->Option Value} {name:Str} {v:Value}
theorem get_map {expr:Bool} {Q:Value->Shared->Prop} (X:K.In s.heap) (I:xF s.heap x dx C mA) (hg:PySem.W.plainGet K C name=true) (hh:PySem.W.hasDictIn K C=true)
  (ha:PySem.W.findIn K (.ref C) name=some none) (hv:mA name=some v) (hv':PySem.W.handedIn v=true) (h:Q v { s with toks:=s.toks+1 }) :
  wpAny (model prog w) A (getAttr (.ref x) name expr) Q E s:=by
 obtain ⟨od,J,hl⟩:=I.look
 exact PySem.W.get_value X J (PySem.W.plainGet_of hg).1 (PySem.W.findObj_own hh ha rfl (by rw [hl,hv])) hv' h
theorem BG {pl:Sem Bool} {Q:Value×List Value->Shared->Prop} (X:K.In s.heap) (I:xF s.heap x dx C mA) (hg:PySem.W.plainGet K C name=true)
  (hf:PySem.W.findIn K (.ref C) name=some (some (.ref f))) (ht:PySem.W.isFn K (.ref f)=true) (hv:mA name=none) (h:Q (.ref f,[.ref x]) s) :
  wpAny (model prog w) A (getMethod (.ref x) name pl) Q E s:=by
 obtain ⟨od,J,hl⟩:=I.look
 exact PySem.W.method_fn X J (PySem.W.plainGet_of hg).1 (PySem.W.plainGet_of hg).2 hf (beq_iff_eq.mp ht) (by show (PySem.W.lookIn name od).map (·.isSome)=some false;rw [hl,hv];rfl) h
theorem Dl {ns:List Str} {Q:Unit->Shared->Prop} (X:K.In s.heap) (I:xF s.heap x dx C mA)
  (hs:PySem.W.findIn K (.ref C) "__setattr__" = some (some (.builtin "object.__setattr__"))) (hp:PySem.W.plainOver K C=true) (ht:PySem.W.takerIn K C name=some none) (hh:PySem.W.hasDictIn K C=true)
  (hw:PySem.Within mA ns) (hsz:ns.length<=sizeLine)
  (h:∀ h',xF h' x dx C (fun y=>if y=name then some v else mA y)->Heap.SameBut dx s.heap h'->Q () { s with heap:=h',toks:=s.toks+2 }) :
  wpAny (model prog w) A (setAttr (.ref x) name v) Q E s:=by
 obtain ⟨od,J,hl⟩:=I.look
 refine PySem.W.set_plain X J hs (PySem.W.osa_open (s:={ s with toks:=s.toks+1 }) (r:=none) X J hp ht fun b=>?_)
 obtain ⟨cd,hc,hd'⟩:=PySem.W.any_some hh
 have hx:s.heap.get? x=some ⟨.ref C,some dx,.plain,#[]⟩:=I.obj
 refine wpAny_bind (wpAny_pure (wpAny_bind (wpAny_bind (wpAny_loadPart hx (wpAny_bind (PySem.W.Looks.here (s:={ s with toks:=s.toks+1 }) (PySem.W.looks_clsIn X hc) ?_))))))
 rw [hd']
 refine wpAny_pure (a:=some dx) (wpAny_bind (wpAny_pure (wpAny_bind ?_)))
 refine wpAny_nsSet1 (s:={ s with toks:=s.toks+1 }) I.ns fun h' hn2 hs2=>?_
 obtain ⟨oD,esD,epD,hoD,hdD,hcD⟩:=hn2.count (PySem.Within.cons name v hw)
 refine wpAny_bind (wpAny_lookBehind hoD (by rw [hdD];exact pastItsLine_dict (Nat.le_trans hcD (by rw [List.length_cons];omega))) ?_)
 exact wpAny_pure (h _ ⟨(hs2.2 _ (Ne.symm I.ne)).trans I.obj,hn2,I.ne⟩ hs2)
theorem A0 {R:Result->Shared->Prop} {vs:List Value} {kw:List (Str×Value)} (X:K.In s.heap) (hm:PySem.W.makesIn K C=true)
  (hi:PySem.W.findIn K (.ref C) "__init__" = some (some (.ref f))) (hf:PySem.W.typeIn K (.ref f)=some (.type "function"))
  (h:codeAny (model prog w) (A.under (.builtin "type.__call__" ⟨.ref C::vs,kw⟩)) (.call (.ref f) ⟨.ref (s.heap.objs.size+1)::vs,kw⟩) (PySem.W.InitBack (s.heap.objs.size+1) R)
   { s with heap:=(s.heap.push PySem.W.emptyDict).push (PySem.W.instObj C s.heap.objs.size) }) :
  codeAny (model prog w) A (.call (.ref C) ⟨vs,kw⟩) R s:=by
 obtain ⟨hh,g,d,t,os⟩:=s
 exact PySem.W.make_core (PySem.W.makes_of X hm) (PySem.W.looks_findIn X hi) (fun self=>PySem.W.bind_fn X self hf) (.inl rfl) h
end
def jN (f:Str) (v:V):List (Str×V)->List (Str×V)
 | []=>[(f,v)]
 | (g,x)::r=>if g=f then (g,v)::r else (g,x)::jN f v r
theorem nN (f g:Str) (v:V):∀ fs:List (Str×V),(jN f v fs).lookup g=if g=f then some v else fs.lookup g
 | []=>by
  show List.lookup g [(f,v)]=_
  by_cases h:g=f
  ·have hb:(g==f)=true:=beq_iff_eq.mpr h
   simp only [List.lookup,hb,if_pos h]
  ·have hb:(g==f)=false:=beq_eq_false_iff_ne.mpr h
   simp only [List.lookup,hb,if_neg h]
 | (k,x)::r=>by
  have ih:=nN f g v r
  rw [show jN f v ((k,x)::r)=(if k=f then (k,v)::r else (k,x)::jN f v r) from rfl]
  by_cases hk:k=f
  ·rw [if_pos hk]
   by_cases h:g=k
   ·have hb:(g==k)=true:=beq_iff_eq.mpr h
    simp only [List.lookup,hb,if_pos (h.trans hk)]
   ·have hb:(g==k)=false:=beq_eq_false_iff_ne.mpr h
    simp only [List.lookup,hb,if_neg (fun e:g=f=>h (e.trans hk.symm))]
  ·rw [if_neg hk]
   by_cases h:g=k
   ·have hb:(g==k)=true:=beq_iff_eq.mpr h
    simp only [List.lookup,hb,if_neg (fun e:g=f=>hk (h.symm.trans e))]
   ·have hb:(g==k)=false:=beq_eq_false_iff_ne.mpr h
    simp only [List.lookup,hb]
    exact ih
theorem nB (f:Str) (v:V):∀ fs:List (Str×V),f∈(jN f v fs).map (·.1)/\∀ g,g∈fs.map (·.1)->g∈(jN f v fs).map (·.1)
 | []=>⟨by simp [jN],fun g h=>by simp at h⟩
 | (k,x)::r=>by
  obtain ⟨i1,i2⟩:=nB f v r
  rw [show jN f v ((k,x)::r)=(if k=f then (k,v)::r else (k,x)::jN f v r) from rfl]
  by_cases hk:k=f
  ·rw [if_pos hk]
   subst hk
   exact ⟨by simp,fun g h=>by simpa using h⟩
  ·rw [if_neg hk]
   refine ⟨?_,fun g h=>?_⟩
   ·rw [List.map_cons]
    exact List.mem_cons_of_mem _ i1
   ·rw [List.map_cons] at h ⊢
    rcases List.mem_cons.mp h with e | e
    ·exact List.mem_cons.mpr (.inl e)
    ·exact List.mem_cons_of_mem _ (i2 g e)
theorem nO (f:Str) (v:V):∀ fs:List (Str×V),(jN f v fs).length<=fs.length+1
 | []=>by simp [jN]
 | (k,x)::r=>by
  have ih:=nO f v r
  rw [show jN f v ((k,x)::r)=(if k=f then (k,v)::r else (k,x)::jN f v r) from rfl]
  by_cases hk:k=f
  ·rw [if_pos hk,List.length_cons,List.length_cons];omega
  ·rw [if_neg hk,List.length_cons,List.length_cons];omega
theorem mF.some_of {v:V} {o:Option Value} (r:mF (some v) o):∃ u,o=some u/\RelV v u:=by
 cases o with
 | none=>exact (show False from r).elim
 | some u=>exact ⟨u,rfl,r⟩
theorem mF.none_of {o:Option Value} (r:mF none o):o=none:=by
 cases o with
 | none=>rfl
 | some u=>exact (show False from r).elim
theorem zK {v:V} {u:Value} (r:RelV v u):PySem.W.handedIn u=true:=by
 cases v with
 | cI=>cases (show u=Value.none from r);rfl
 | bl b=>cases (show u=Value.bool b from r);rfl
 | int i=>obtain ⟨t,e⟩:=(show ∃ t,u=Value.int i t from r);cases e;rfl
 | str x=>obtain ⟨t,e⟩:=(show ∃ t,u=Value.str x t from r);cases e;rfl
 | byt b=>obtain ⟨t,e⟩:=(show ∃ t,u=Value.bytes b t from r);cases e;rfl
 | ES b=>obtain ⟨t,e⟩:=(show ∃ t,u=Value.float b t from r);cases e;rfl
 | ref a=>cases (show u=Value.ref a from r);rfl
 | ty n=>cases (show u=Value.type n from r);rfl
section
variable {P:Program} {w:World} {H H':Hp} {h h':Heap} {a C dx:Addr} {fs fs':List (Str×V)}
theorem lG (bx:nJ P w H h) (e:H a=some (.ins C dx fs)):∃ mA,xF h a dx C mA/\(∀ f,mF (fs.lookup f) (mA f))/\PySem.Within mA (fs.map (·.1))/\fs.length<=1000/\H dx=some (.own a):=by
 obtain ⟨d,z,ne,ob,mA,n,r,q⟩:=(show bT P w H h a (.ins C dx fs) from bx a _ e)
 exact ⟨mA,⟨ob,n,ne⟩,r,q,z,d⟩
end
structure mj (K:PySem.W.Frag) (C:Addr):Prop where
 pg:PySem.W.plainGet K C Str.empty=true
 hd:PySem.W.hasDictIn K C=true
 po:PySem.W.plainOver K C=true
 sa:PySem.W.findIn K (.ref C) "__setattr__" = some (some (.builtin "object.__setattr__"))
theorem mj.get {K:PySem.W.Frag} {C:Addr} (c:mj K C) (f:Str):PySem.W.plainGet K C f=true:=c.pg
def bK (K:PySem.W.Frag) (C:Addr) (f:Str):Prop:=PySem.W.findIn K (.ref C) f=some none
theorem bK.EH {K:PySem.W.Frag} {C:Addr} {f:Str} (n:bK K C f):PySem.W.takerIn K C f=some none:=by
 unfold PySem.W.takerIn
 rw [show PySem.W.findIn K (.ref C) f=some none from n]
 rfl
structure Meth (K:PySem.W.Frag) (C:Addr) (m:Str) (f:Addr):Prop where
 at_:PySem.W.findIn K (.ref C) m=some (some (.ref f))
 fn:PySem.W.isFn K (.ref f)=true
 kp:PySem.W.keepIn K (.ref f)=true
section
variable {X:Cx} {pins:List (Addr×Obj)} {σ:St} {H:Hp} {s:Shared} {a C dx:Addr} {fs:List (Str×V)} {f:Str} {v:V} {A:Around} {E:Value->Shared->Prop}
theorem xm {b:Bool} {Q:Value->Shared->Prop} (I:Inv X pins σ H s) (e:H a=some (.ins C dx fs)) (c:mj X.K C) (n:bK X.K C f) (l:fs.lookup f=some v)
  (h:∀ u s',Inv X pins σ H s'->RelV v u->Q u s'):wpAny (model X.prog X.w) A (getAttr (.ref a) f b) Q E s:=by
 obtain ⟨mA,O,r,_,_,_⟩:=lG I.bx e
 obtain ⟨u,hu,ru⟩:=mF.some_of (v:=v) (o:=mA f) (by rw [← l];exact r f)
 exact get_map I.j0 O (c.get f) c.hd n hu (zK ru) (h u _ (I.tok _) ru)
theorem pC {m:Str} {g:Addr} {pl:Sem Bool} {Q:Value×List Value->Shared->Prop} (I:Inv X pins σ H s) (e:H a=some (.ins C dx fs)) (c:mj X.K C) (k:Meth X.K C m g) (l:fs.lookup m=none)
  (h:Q (.ref g,[.ref a]) s):wpAny (model X.prog X.w) A (getMethod (.ref a) m pl) Q E s:=by
 obtain ⟨mA,O,r,_,_,_⟩:=lG I.bx e
 have hn:mA m=none:=mF.none_of (by rw [← l];exact r m)
 exact BG I.j0 O (c.get m) k.at_ k.fn hn h
theorem xh {y:V} {u:Value} {Q:Unit->Shared->Prop} (I:Inv X pins σ H s) (e:H a=some (.ins C dx fs)) (c:mj X.K C) (n:bK X.K C f) (hl:fs.length<1000) (ry:RelV y u)
  (h:∀ s',Inv X pins σ (upd H a (.ins C dx (jN f y fs))) s'->Q () s'):wpAny (model X.prog X.w) A (setAttr (.ref a) f u) Q E s:=by
 obtain ⟨mA,O,r,wi,_,ho⟩:=lG I.bx e
 have hz:(fs.map (·.1)).length<=sizeLine:=by rw [List.length_map,sizeLine_eq];omega
 refine Dl I.j0 O c.sa c.po n.EH c.hd wi hz fun h' O' sb=>h _ ?_
 have hd:∃ o,h'.get? dx=some o:=let ⟨o,_,_,e',_⟩:=O'.ns;⟨o,e'⟩
 refine I.write (x:=a) (e:=dx) (by rw [e];exact True.intro) (.inr ho) (fun b q hb z=>(sb.2 b hb).trans z) hd ?_
 refine ⟨by rw [au O.ne];exact ho,?_,O.ne,O'.obj,_,O'.ns,fun g=>?_,fun g hg=>?_⟩
 ·have:=nO f y fs;omega
 ·show mF ((jN f y fs).lookup g) (if g=f then some u else mA g)
  rw [nN]
  by_cases q:g=f
  ·rw [if_pos q,if_pos q];exact ry
  ·rw [if_neg q,if_neg q];exact r g
 ·by_cases q:g=f
  ·rw [q];exact (nB f y fs).1
  ·refine (nB f y fs).2 g (wi g fun z=>hg ?_)
   show (if g=f then some u else mA g)=none
   rw [if_neg q];exact z
theorem Inv.made (I:Inv X pins σ H s):Inv X pins σ (upd (upd H s.heap.objs.size (.own (s.heap.objs.size+1))) (s.heap.objs.size+1) (.ins C s.heap.objs.size []))
  { s with heap:=(s.heap.push PySem.W.emptyDict).push (PySem.W.instObj C s.heap.objs.size) }:=by
 have e1:(s.heap.push PySem.W.emptyDict).get? s.heap.objs.size=some PySem.W.emptyDict:=Heap.get?_push_size s.heap rfl
 have e2:((s.heap.push PySem.W.emptyDict).push (PySem.W.instObj C s.heap.objs.size)).get? (s.heap.objs.size+1)=some (PySem.W.instObj C s.heap.objs.size):=by
  have:=Heap.get?_push_size (s.heap.push PySem.W.emptyDict) (o:=PySem.W.instObj C s.heap.objs.size) rfl
  rwa [Heap.size_push] at this
 have e3:(s.heap.push PySem.W.emptyDict).Ns s.heap.objs.size (fun _=>none):=⟨PySem.W.emptyDict,#[],_,e1,rfl,(fun e he=>absurd he (by simp)),fun _=>rfl⟩
 have I1:=I.laid (a:=s.heap.objs.size) (o:=.own (s.heap.objs.size+1)) (h':=s.heap.push PySem.W.emptyDict) (t':=s.toks) (fun b u q=>Heap.get?_push_of_some _ q) (Nat.le_refl _) ⟨_,e1⟩
 refine I1.laid (a:=s.heap.objs.size+1) (o:=.ins C s.heap.objs.size []) (t':=s.toks) (fun b u q=>Heap.get?_push_of_some _ q) (Nat.le_of_eq (Heap.size_push _ _)) ?_
 have ne:s.heap.objs.size≠s.heap.objs.size+1:=Nat.ne_of_lt (Nat.lt_succ_self _)
 refine ⟨by rw [au ne,aC],Nat.zero_le _,ne,e2,fun _=>none,(Heap.Ns1.of_empty e3).at fun o q=>Heap.get?_push_of_some _ q,fun _=>True.intro,fun y hy=>absurd rfl hy⟩
theorem Ec {prog:Program} {w:World} {env:Env} {e:Expr} {f:Str} {pos:Pos} {s:Shared} {Q:Value->Shared->Prop} (hb:attributeBase e f env (eval e env)=eval e env)
  (h:wpAny (model prog w) A (eval e env) (fun o s₁=>wpAny (model prog w) A (getAttr o f true) Q E s₁) E s):wpAny (model prog w) A (eval (.Attribute e f pos) env) Q E s :=
 Attribute_any_ h (by rw [arm_eval_Attribute,hb])
end
def Ss (K:PySem.W.Frag) (ta:TE) (f:Str):TE:=fun σ H Q=>ta σ H fun x H1=>∃ a C dx fs v,x=.ref a/\H1 a=some (.ins C dx fs)/\mj K C/\bK K C f/\fs.lookup f=some v/\Q v H1
def R8 (K:PySem.W.Frag) (ta tv:TE) (f:Str):TS:=fun D σ H=>tv σ H fun y H1=>ta σ H1 fun x H2=>∃ a C dx fs,x=.ref a/\H2 a=some (.ins C dx fs)/\mj K C/\bK K C f/\fs.length<1000 ∧
 D.nx σ (upd H2 a (.ins C dx (jN f y fs)))
section
variable {X:Cx} {o e value:Expr} {f:Str} {pos pos' tpos:Pos} {ta tv:TE}
theorem FV (he:PE X e ta) (hb:attributeBase e f X.env (eval e X.env)=eval e X.env):PE X (.Attribute e f pos) (Ss X.K ta f):=by
 intro pins s σ H Q I h
 refine Ec hb (cG (he pins s σ H _ I h) fun u s1 ⟨x,H1,I1,rx,a,C,dx,fs,v,ex,ea,c,n,l,q⟩=>?_)
 subst ex
 obtain rfl:u=Value.ref a:=rx
 exact xm I1 ea c n l fun u' s2 I2 ru=>⟨v,H1,I2,ru,q⟩
theorem HI (ha:PE X o ta) (hv:PE X value tv) (hs:swapsWith value (some (.Attribute o f pos')) pos.line X.env=pure false):PS X (.Assign [.Attribute o f pos'] value pos) (R8 X.K ta tv f):=by
 intro pins s σ H D I h
 refine plainObj_wpAny_Assign_Attribute (cG (hv pins s σ H _ I h) fun u s1 ⟨y,H1,I1,ry,q⟩=>cG (ha pins s1 σ H1 _ I1 q) fun ov s2 ⟨x,H2,I2,rx,a,C,dx,fs,ex,ea,c,n,l,q2⟩=>?_) hs
 subst ex
 obtain rfl:ov=Value.ref a:=rx
 exact xh I2 ea c n l ry fun s3 I3=>⟨σ,_,I3,q2⟩
end
section
variable {X:Cx} {pins:List (Addr×Obj)} {σ:St} {H:Hp} {s:Shared} {A:Around} {E:Value->Shared->Prop} {Q:Value->Shared->Prop} {c:Value} {b:Bool}
inductive jT (K:PySem.W.Frag) (H:Hp):V->Value->Prop where
 | cI:jT K H .cI (.type "NoneType")
 | bl (x:Bool):jT K H (.bl x) (.type "bool")
 | int (i:Int):jT K H (.int i) (.type "int")
 | str (x:Str):jT K H (.str x) (.type "str")
 | ES (x:UInt64):jT K H (.ES x) (.type "float")
 | lst {a:Addr} {xs:List V} (e:H a=some (.lst xs)):jT K H (.ref a) (.type "list")
 | qU {a:Addr} {o:Obj} {xs:List V} (e:H a=some (.qU o (.lst xs))):jT K H (.ref a) (.type "list")
 | tup {a:Addr} {xs:List V} (e:H a=some (.tup xs)):jT K H (.ref a) (.type "tuple")
 | dK {a:Addr} {kvs:List (Key×V)} (e:H a=some (.dK kvs)):jT K H (.ref a) (.type "dict")
 | dT {a:Addr} {kvs:List (List Key×V)} (e:H a=some (.dT kvs)):jT K H (.ref a) (.type "dict")
 | ins {a C dx:Addr} {fs:List (Str×V)} (e:H a=some (.ins C dx fs)) (cl:mj K C) (ha:PySem.W.findIn K (.ref C) "__class__" = some (some (.builtin "object.__class__")))
   (hn:PySem.W.specialIn K (.builtin "object.__class__") "__get__" = some (some (.builtin "getset_descriptor.__get__"))) (HN:PySem.W.takesIn K (.builtin "object.__class__")=some true)
   (hm:PySem.W.mroIn K C (.type "object")=some true):jT K H (.ref a) (.ref C)
theorem zk {x:V} {u t:Value} (I:Inv X pins σ H s) (rx:RelV x u) (ty:jT X.K H x t) (e:PySem.W.kitOne X.K t c=some b) (h:∀ tk,Q (.bool b) { s with toks:=tk }) :
  wpAny (model X.prog X.w) A (call (.builtin "isinstance") [u,c]) Q E s:=by
 cases ty with
 | cI=>cases (show u=Value.none from rx);exact PySem.W.kia_one PySem.W.kitx_none I.j0 True.intro e (fun z=>nomatch z) h
 | bl y=>cases (show u=Value.bool y from rx);exact PySem.W.kia_one PySem.W.kitx_bool I.j0 True.intro e (fun z=>nomatch z) h
 | int i=>obtain ⟨t,q⟩:=(show ∃ t,u=Value.int i t from rx);cases q;exact PySem.W.kia_one PySem.W.kitx_int I.j0 True.intro e (fun z=>nomatch z) h
 | str y=>obtain ⟨t,q⟩:=(show ∃ t,u=Value.str y t from rx);cases q;exact PySem.W.kia_one PySem.W.kitx_str I.j0 True.intro e (fun z=>nomatch z) h
 | ES y=>obtain ⟨t,q⟩:=(show ∃ t,u=Value.float y t from rx);cases q;exact PySem.W.kia_one PySem.W.kitx_float I.j0 True.intro e (fun z=>nomatch z) h
 | @lst a xs ea =>
  cases (show u=Value.ref a from rx)
  obtain ⟨_,_,n,_,h1⟩:=(show bT X.prog X.w H s.heap a (.lst xs) from I.bx a _ ea)
  exact PySem.W.kia_one PySem.W.kitx_list I.j0 ⟨_,h1,rfl⟩ e (fun z=>nomatch z) h
 | @qU a ob xs ea =>
  cases (show u=Value.ref a from rx)
  obtain ⟨_,_,_,n,_,h1⟩:=(show bT X.prog X.w H s.heap a (.qU ob (.lst xs)) from I.bx a _ ea)
  exact PySem.W.kia_one PySem.W.kitx_list I.j0 ⟨_,h1,rfl⟩ e (fun z=>nomatch z) h
 | @tup a xs ea =>
  cases (show u=Value.ref a from rx)
  obtain ⟨_,_,_,p⟩:=(show bT X.prog X.w H s.heap a (.tup xs) from I.bx a _ ea)
  obtain ⟨o,h1,h2,_⟩:=p
  exact PySem.W.kia_one PySem.W.kitx_tuple I.j0 ⟨o,h1,h2⟩ e (fun z=>nomatch z) h
 | @dK a kvs ea =>
  cases (show u=Value.ref a from rx)
  obtain ⟨_,_,vs,_,p⟩:=(show bT X.prog X.w H s.heap a (.dK kvs) from I.bx a _ ea)
  obtain ⟨o,es,ep,h1,h2,_⟩:=p
  exact PySem.W.kia_one PySem.W.kitx_dict I.j0 ⟨o,h1,h2.1⟩ e (fun z=>nomatch z) h
 | @dT a kvs ea =>
  cases (show u=Value.ref a from rx)
  obtain ⟨_,_,xs,_,o,es,ep,h1,h2,_⟩:=(show bT X.prog X.w H s.heap a (.dT kvs) from I.bx a _ ea)
  exact PySem.W.kia_one PySem.W.kitx_dict I.j0 ⟨o,h1,h2.1⟩ e (fun z=>nomatch z) h
 | @ins a C dx fs ea cl ha hn HN hm =>
  cases (show u=Value.ref a from rx)
  obtain ⟨mA,O,_⟩:=lG I.bx ea
  obtain ⟨od,J,_⟩:=O.look
  exact PySem.W.kia_one (PySem.W.kitx_own (cl.get _) cl.hd ha hn HN hm) I.j0 J e (fun z=>nomatch z) h
end
end L2
namespace L2
open PySem PySem.Spec PyProof.Rows
structure bR (k:Nat) (A:Around):Prop where
 hd:A.handled=none
 dp:A.depth+3*k+5<recursionLimit
 un:A.units+16*k+200<cLine
theorem bR.mono {j k:Nat} {A:Around} (r:bR k A) (h:j<=k):bR j A:=⟨r.hd,by have:=r.dp;omega,by have:=r.un;omega⟩
theorem bR.deeper {k:Nat} {A:Around} (r:bR (k+1) A) (env:Env):bR k (A.deeper env) :=
 ⟨r.hd,by have:=r.dp;show A.depth+1+3*k+5<_;omega,by have:=r.un;show A.units+3+16*k+200<_;omega⟩
theorem wZ {A:Around} {C:Addr} {us:List Value} {kw:List (Str×Value)}:(A.under (.builtin "type.__call__" ⟨.ref C::us,kw⟩)).depth=A.depth+1:=by
 first | rfl | simp [Around.under,Code.weight,Code.isCreation,Code.isGuard,Code.isCaller,Code.frames,Code.isFrame,guardIds]
theorem w6 {A:Around} {C:Addr} {us:List Value} {kw:List (Str×Value)}:(A.under (.builtin "type.__call__" ⟨.ref C::us,kw⟩)).units=A.units+1:=by
 first | rfl | simp [Around.under,Code.cUnits,Code.frames,Code.isFrame]
theorem bR.make {k:Nat} {A:Around} (r:bR (k+1) A) (C:Addr) (us:List Value) (kw:List (Str×Value)):bR k (A.under (.builtin "type.__call__" ⟨.ref C::us,kw⟩)) :=
 ⟨r.hd,by have:=r.dp;rw [wZ];omega,by have:=r.un;rw [w6];omega⟩
theorem bR.depth {k:Nat} {A:Around} (r:bR k A):A.depth<recursionLimit:=by have:=r.dp;omega
theorem bR.units {k:Nat} {A:Around} (r:bR k A):A.units+64<cLine:=by have:=r.un;omega
def Jb:TA:=fun _ H Q=>Q [] H
def JI (ta:TE) (tr:TA):TA:=fun σ H Q=>ta σ H fun x H1=>tr σ H1 fun xs H2=>Q (x::xs) H2
section
variable {X:Cx} {e:Expr} {es:List Expr} {te:TE} {t:TA} {pos:Pos}
theorem pI:PA X [] Jb:=fun _ _ _ _ H Q I h=>Calls.spliced_nil ⟨[],H,I,.nil,h⟩
theorem iH (ha:PE X e te) (hr:PA X es t) (hs:starEach (e::es) X.env=(false,eval e X.env)::starEach es X.env:=by rfl):PA X (e::es) (JI te t):=by
 intro pos pins s σ H Q I h
 rw [hs]
 show wpAny _ _ (spliced ((false,eval e X.env)::backTo pos (starEach es X.env))) _ _ s
 refine Calls.spliced_cons (cG (ha pins s σ H _ I h) fun u s1 ⟨x,H1,I1,r1,q1⟩=>?_)
 exact cG (hr pos pins s1 σ H1 _ I1 q1) fun us s2 ⟨xs,H2,I2,r2,q2⟩=>⟨x::xs,H2,I2,.cons r1 r2,q2⟩
def Tg (t:TA):TE:=fun σ H Q=>t σ H fun xs H1=>xs.length<=sizeLine/\∀ p,H1 p=none->Q (.ref p) (upd H1 p (.tup xs))
def S3 (t:TA):TE:=fun σ H Q=>t σ H fun xs H1=>xs.length<=sizeLine/\∀ p,H1 p=none->Q (.ref p) (upd H1 p (.lst xs))
theorem AG {x1} (h:PA X es t):PE X (.Tuple es x1 pos) (Tg t):=by
 intro pins s σ H Q I hq
 refine wpAny_Tuple_spliced (cG (h pos pins s σ H _ I hq) fun us s1 ⟨xs,H1,I1,r,z,q⟩=>⟨by rw [← r.length];exact z,?_⟩)
 have hf:H1 s1.heap.objs.size=none:=I1.bx.fresh (Nat.le_refl _)
 refine ⟨.ref s1.heap.objs.size,upd H1 s1.heap.objs.size (.tup xs),I1.laid (t':=s1.toks) (fun b u e=>Heap.get?_push_of_some _ e) (Nat.le_refl _) ?_,rfl,q _ hf⟩
 exact ⟨z,us,r,⟨_,Heap.get?_push_size _ rfl,rfl,_,rfl⟩⟩
theorem BD (h:PA X es t):PE X (.List es pos) (S3 t):=by
 intro pins s σ H Q I hq
 refine wpAny_List_spliced (cG (h pos pins s σ H _ I hq) fun us s1 ⟨xs,H1,I1,r,z,q⟩=>⟨by rw [← r.length];exact z,?_⟩)
 have hf:H1 s1.heap.objs.size=none:=I1.bx.fresh (Nat.le_refl _)
 refine ⟨.ref s1.heap.objs.size,upd H1 s1.heap.objs.size (.lst xs),I1.laid (t':=s1.toks) (fun b u e=>Heap.get?_push_of_some _ e) (Nat.le_refl _) ?_,rfl,q _ hf⟩
 exact ⟨z,us,0,r,Heap.get?_push_size _ rfl⟩
end
abbrev Sp:=List V->Hp->VK->XK->Prop
abbrev DG:=List Env->Hp->Shared->XK->Value->Shared->Prop
structure wJ (P:Program) (w:World) (K:PySem.W.Frag) (mg:Str->Option Value) (base:Heap) (A:Around) (outer:List Env) (s:Shared) (H:Hp):Prop where
 frames:A.frames=some outer
 mod:Mod K mg base
 bs:∀ b o,base.get? b=some o->s.heap.get? b=some o/\H b=none
 EL:base.objs.size<=s.heap.objs.size
 nZ:s.heap.FunFrames base outer
 FD:∀ b∈wy outer,H b=none
 bx:nJ P w H s.heap
 bare:AllBare s.gens
def CE (outer:List Env) (P:Program) (w:World) (H:Hp) (s:Shared) (Q:VK) (u:Value) (s':Shared):Prop :=
 ∃ v H',s'.os=s.os/\AllBare s'.gens/\Un (wy outer) [] H H' s.heap s'.heap/\nJ P w H' s'.heap/\RelV v u/\Q v H'
def CR (CX:DG) (outer:List Env) (P:Program) (w:World) (H:Hp) (s:Shared) (Q:VK) (E:XK) (r:Result) (s':Shared):Prop :=
 match r with
 | .ok (.ret u)=>CE outer P w H s Q u s'
 | .ok _=>False
 | .error e=>CX outer H s E e s'
structure aN (P:Program) (w:World) (K:PySem.W.Frag) (mg:Str->Option Value) (base:Heap) (CX:DG) (k:Nat) (f:Addr) (fd:FuncData) (ps:List Str) (sp:Sp):Prop where
 len:∀ vs H Q E,sp vs H Q E->vs.length=ps.length
 run:∀ (A:Around) (outer:List Env) (s:Shared) (H:Hp) (args:Args) (us:List Value) (vs:List V) (Q:VK) (E:XK),bR k A->wJ P w K mg base A outer s H->BindsTo s fd args (ps.zip us)->Vals vs us->sp vs H Q E ->
  codeAny (model P w) A (.call (.ref f) args) (CR CX outer P w H s Q E) s
theorem wJ.make {P:Program} {w:World} {K:PySem.W.Frag} {mg:Str->Option Value} {base:Heap} {A:Around} {outer:List Env} {s:Shared} {H:Hp} (e:wJ P w K mg base A outer s H) (C:Addr) (us:List Value) (kw:List (Str×Value)) :
  wJ P w K mg base (A.under (.builtin "type.__call__" ⟨.ref C::us,kw⟩)) outer s H:=⟨by first | exact e.frames | (simpa [Around.under,Code.envs,Code.isFrame,pushEnvs] using e.frames),e.mod,e.bs,e.EL,e.nZ,e.FD,e.bx,e.bare⟩
section
variable {X:Cx} {pins:List (Addr×Obj)} {σ:St} {H:Hp} {s s':Shared}
theorem Inv.jo (I:Inv X pins σ H s):wJ X.prog X.w X.K X.mg X.base X.A X.stack s H :=
 ⟨I.ok.frames,I.ok.mod,I.bs,Nat.le_trans I.ok.EL I.sz,I.stack,I.t8,I.bx,I.bare⟩
theorem Inv.after {Q:VK} {u:Value} (I:Inv X pins σ H s) (h:CE X.stack X.prog X.w H s Q u s'):EP X pins σ Q u s':=by
 obtain ⟨v,H',os,bare,un,bx,r,q⟩:=h
 obtain ⟨hh,g,d,t,os'⟩:=s'
 obtain rfl:os'=s.os:=os
 exact ⟨v,H',I.call (h':=hh) (g':=g) (d':=d) (t':=t) (ch:=[]) un bx bare (fun b z=>absurd z (by simp)),r,q⟩
end
def Binds (K:PySem.W.Frag) (fd:FuncData) (ps:List Str) (ds:List Value):Prop :=
 ∀ (s:Shared) (us:List Value),K.In s.heap->(us++ds).length=ps.length->BindsTo s fd ⟨us,[]⟩ (ps.zip (us++ds))
theorem Binds.all {K:PySem.W.Frag} {fd:FuncData} {ps:List Str} (h:∀ us:List Value,us.length=ps.length->bindArgs fd ⟨us,[]⟩=pure (ps.zip us)):Binds K fd ps []:=fun s us _ hl=>by
 rw [List.append_nil] at hl ⊢
 exact .of_eq (h us hl)
section
variable {X:Cx} {CX:DG} {k:Nat} {f C:Addr} {fd:FuncData} {ps:List Str} {sp:Sp} {dvs:List V} {ds:List Value} {E:XK} {x m:Str} {p pos apos:Pos} {e o:Expr} {es:List Expr} {ta:TE} {t:TA}
structure Mk (K:PySem.W.Frag) (C f:Addr):Prop where
 makes:PySem.W.makesIn K C=true
 init:PySem.W.findIn K (.ref C) "__init__" = some (some (.ref f))
 fn:PySem.W.isFn K (.ref f)=true
 kp:PySem.W.keepIn K (.ref C)=true
end
section
variable {X:Cx} {CX:DG} {k:Nat} {f C:Addr} {fd:FuncData} {ps ks:List Str} {sp:Sp} {E:XK} {x m:Str} {p pos apos kpos:Pos} {e o:Expr} {es:List Expr} {kws:List Keyword} {te ta:TE} {t tk:TA} {nm:Option Str}
variable {g:List Value->List Value->List Value} {gV:List V->List V->List V}
end
structure ax (N P:List Str) (sc:Scope):Prop where
 kind:sc.kind=.function
 co:sc.isCoroutine=false
 gen:sc.isGenerator=false
 nd:N.Nodup
 pre:N.take P.length=P
 par:∀ x∈P,sc.names.lookup x=some .local\/sc.names.lookup x=some .cell
 Gr:∀ y∈sc.names,y.2≠.free
theorem sI {kindOf:Str->Option NameKind} {x:Str}:∀ {binds:List (Str×Value)} {m:Str->Option Value},(∀ v,(x,v) ∉ binds)->bindL kindOf binds m x=m x
 | [],_,_=>rfl
 | (n,v)::r,m,h=>by
  unfold bindL
  rw [sI fun w hw=>h w (List.mem_cons_of_mem _ hw)]
  split
  ·have:x≠n:=by rintro rfl;exact h v List.mem_cons_self
   simp [this]
  ·rfl
theorem sv {kindOf:Str->Option NameKind} {x:Str}:∀ {binds:List (Str×Value)} {m:Str->Option Value},(∀ v,(x,v) ∉ binds)->bindC kindOf binds m x=m x
 | [],_,_=>rfl
 | (n,v)::r,m,h=>by
  unfold bindC
  rw [sv fun w hw=>h w (List.mem_cons_of_mem _ hw)]
  split
  ·rfl
  ·have:x≠n:=by rintro rfl;exact h v List.mem_cons_self
   simp [this]
theorem sj {kindOf:Str->Option NameKind} {x:Str} {v:Value}:∀ {P:List Str} {vs:List Value} {i:Nat} {m:Str->Option Value},P.Nodup->P[i]?=some x->vs[i]?=some v->kindOf x=some .local ->
  bindL kindOf (P.zip vs) m x=some v
 | [],_,_,_,_,h,_,_=>by simp at h
 | _::_,[],_,_,_,_,h,_=>by simp at h
 | p::P,w::vs,0,m,nd,h1,h2,hk=>by
  simp at h1 h2;subst h1;subst h2
  show bindL kindOf ((p,w)::P.zip vs) m p=_
  unfold bindL
  rw [sI fun v hv=>(List.nodup_cons.mp nd).1 (List.of_mem_zip hv).1,if_pos hk]
  simp
 | p::P,w::vs,i+1,m,nd,h1,h2,hk=>by
  show bindL kindOf ((p,w)::P.zip vs) m x=_
  unfold bindL
  exact sj (i:=i) (List.nodup_cons.mp nd).2 (by simpa using h1) (by simpa using h2) hk
theorem rQ {kindOf:Str->Option NameKind} {x:Str} {v:Value}:∀ {P:List Str} {vs:List Value} {i:Nat} {m:Str->Option Value},P.Nodup->P[i]?=some x->vs[i]?=some v->kindOf x≠some .local ->
  bindC kindOf (P.zip vs) m x=some v
 | [],_,_,_,_,h,_,_=>by simp at h
 | _::_,[],_,_,_,_,h,_=>by simp at h
 | p::P,w::vs,0,m,nd,h1,h2,hk=>by
  simp at h1 h2;subst h1;subst h2
  show bindC kindOf ((p,w)::P.zip vs) m p=_
  unfold bindC
  rw [sv fun v hv=>(List.nodup_cons.mp nd).1 (List.of_mem_zip hv).1,if_neg hk]
  simp
 | p::P,w::vs,i+1,m,nd,h1,h2,hk=>by
  show bindC kindOf ((p,w)::P.zip vs) m x=_
  unfold bindC
  exact rQ (i:=i) (List.nodup_cons.mp nd).2 (by simpa using h1) (by simpa using h2) hk
def start (N:List Str) (vs:List V):St:=vs.map some++List.replicate (N.length-vs.length) none
def k_ (CX:DG) (P:Program) (w:World) (K:PySem.W.Frag) (mg:Str->Option Value) (base:Heap) (N:List Str) (qual:Str) (scope:Scope) (f:Addr) (cd:Value) (A:Around) (outer:List Env) (s:Shared) (H:Hp) (E:XK):Cx where
 prog:=P
 w:=w
 K:=K
 mg:=mg
 base:=base
 A:=A.deeper (envOfC qual scope s.heap.objs.size f cd)
 N:=N
 s₀:=s
 H₀:=H
 env:=envOfC qual scope s.heap.objs.size f cd
 outer:=outer
 stack:=envOfC qual scope s.heap.objs.size f cd::outer
 ex:=[]
 calm:=true
 fn:=fun _=>true
 pn:=[]
 xe:=fun e s'=>wpAny (model P w) (A.deeper (envOfC qual scope s.heap.objs.size f cd)) (leaving (envOfC qual scope s.heap.objs.size f cd) e) (fun _ s''=>CX outer H s E e s'') (fun e' s''=>CX outer H s E e' s'') s'
theorem vp {sc:Scope} {n:Nat} {x:Str} (h:sc.names.lookup x=some .cell):∃ c,(cellsFrom n sc.names []).lookup x=some c:=by
 have q:=PySem.W.cellsFrom_some sc.names n [] (.inl h)
 exact Option.isSome_iff_exists.mp q
theorem yO {CX:DG} {P:Program} {w:World} {K:PySem.W.Frag} {mg:Str->Option Value} {base:Heap} {N ps:List Str} {qual:Str} {scope:Scope} {f:Addr} {cd:Value} {A:Around} {outer:List Env} {s s1:Shared} {H:Hp} {E:XK} {us:List Value} {vs:List V}
  (S:ax N ps scope) (hd:A.handled=none) (e0:wJ P w K mg base A outer s H) (hl:vs.length=ps.length) (r:Vals vs us)
  (x:InCallC s s.heap.objs.size (bindL (envOfC qual scope s.heap.objs.size f cd).kindOf (ps.zip us) fun _=>none) (cellsFrom (s.heap.objs.size+1) scope.names []) (bindC (envOfC qual scope s.heap.objs.size f cd).kindOf (ps.zip us) fun _=>none) s1) :
  Inv (k_ CX P w K mg base N qual scope f cd A outer s H E) [] (start N vs) H s1:=by
 have hpl:ps.length<=N.length:=by have:=congrArg List.length S.pre;rw [List.length_take] at this;omega
 obtain ⟨h1,tk,rfl,hk⟩:=x.done
 have kc:∀ b:Addr,b ∉ (k_ CX P w K mg base N qual scope f cd A outer s H E).ex:=fun b z=>absurd (show b∈([]:List Addr) from z) (by simp)
 refine ⟨⟨e0.mod,S.kind,rfl,rfl,Nat.le_refl _,fun y z c h1 h2=>?_,fun y hy=>?_,fun y c _ h=>?_,fun _=>hd,Around.frames_deeper e0.frames,.inr ⟨rfl,rfl⟩,fun b z=>absurd z (kc b),e0.bs,e0.EL,fun b _ _=>kc b,fun b z=>absurd z (kc b),e0.nZ,e0.FD⟩,
  rfl,e0.bare,Un.kept hk,⟨_,x.toInCall.ns,fun i y v h1 h2 h3=>?_⟩,fun y c h=>⟨_,x.cell y c h⟩,e0.bx.fresh (Nat.le_refl _),fun y c h=>?_,fun p hp=>absurd (show p∈([]:List (Addr×Obj)) from hp) (by simp),e0.bx.kept hk,?_⟩
 ·exact name_of_addr x.apart (PySem.mem_of_lookup h1) (PySem.mem_of_lookup h2)
 ·have hy:scope.names.lookup y=some .cell\/scope.names.lookup y=some .free:=hy
  rcases hy with hy | hy
  ·exact vp hy
  ·exact absurd rfl (S.Gr _ (PySem.mem_of_lookup hy))
 ·exact Nat.le_of_lt (x.above y c (PySem.mem_of_lookup h))
 ·have hi:i<vs.length:=by
   unfold start at h2
   by_cases hi:i<vs.length
   ·exact hi
   ·rw [List.getElem?_append_right (by simpa using hi)] at h2
    rw [List.getElem?_replicate] at h2
    split at h2 <;> cases h2
  have ha:vs[i]?=some v:=by
   unfold start at h2
   rw [List.getElem?_append_left (by simpa using hi),List.getElem?_map] at h2
   cases e:vs[i]? with
   | none=>rw [e] at h2;cases h2
   | some a=>rw [e] at h2;cases h2;rfl
  obtain ⟨u,hu,rv⟩:=r.get ha
  have hp:ps[i]?=some y:=by
   rw [← S.pre,List.getElem?_take_of_lt (by omega)];exact h1
  have ndP:ps.Nodup:=by rw [← S.pre];exact S.nd.sublist (List.take_sublist _ _)
  refine ⟨u,rv,?_⟩
  rcases S.par y (List.mem_of_getElem? hp) with k | k
  ·exact .inl ⟨k,sj ndP hp hu k⟩
  ·obtain ⟨c,e⟩:=vp (n:=s.heap.objs.size+1) k
   refine .inr ⟨.inl k,c,e,?_⟩
   have q:=x.cell y c e
   rw [rQ ndP hp hu (by show scope.names.lookup y≠_;rw [k];decide)] at q
   exact q
 ·exact e0.bx.fresh (Nat.le_of_lt (x.above y c (PySem.mem_of_lookup h)))
 ·unfold start
  show _=N.length
  rw [List.length_append,List.length_map,List.length_replicate]
  omega
theorem Ic {CX:DG} {P:Program} {w:World} {K:PySem.W.Frag} {mg:Str->Option Value} {base:Heap} {k:Nat} {f:Addr} {name qual:Str} {params:Arguments} {body:List Stmt} {scope:Scope} {dV kV doc pm cdv ct oc:Value} {an od:Option Addr}
  {osl:Array (Option Value)} {N ps:List Str} {sp:Sp} (lk:K.lookup f=some ⟨oc,od,.func (PySem.W.fnOf name qual params body scope dV kV doc pm an cdv ct),osl⟩) (hcd:PySem.W.codeIn K cdv qual=true) (S:ax N ps scope)
  (len:∀ vs H Q E,sp vs H Q E->vs.length=ps.length)
  (hbody:∀ (A:Around) (outer:List Env) (s:Shared) (H:Hp) (vs:List V) (Q:VK) (E:XK),bR k (A.deeper (envOfC qual scope s.heap.objs.size f cdv))->sp vs H Q E ->
   ∃ t,mW (k_ CX P w K mg base N qual scope f cdv A outer s H E) body t/\t { nx:=fun _ H'=>Q .cI H',rt:=Q } (start N vs) H) :
  aN P w K mg base CX (k+1) f (PySem.W.fnOf name qual params body scope dV kV doc pm an cdv ct) ps sp:=by
 refine ⟨len,fun A outer s H args us vs Q E hr e0 hb r hsp=>?_⟩
 have hl:=len _ _ _ _ hsp
 have KX:K.In s.heap:=e0.mod.Ez.keeps fun b o e=>(e0.bs b o e).1
 have lim:s.heap.NoLimit:=e0.mod.nolimit.keeps fun b o e=>(e0.bs b o e).1
 have hkind:∀ y∈ps.zip us,scope.names.lookup y.1=some .local\/(scope.names.lookup y.1=some .cell/\((cellsFrom (s.heap.objs.size+1) scope.names []).lookup y.1).isSome=true):=fun ⟨n,v⟩ hy=>by
  rcases S.par n (List.of_mem_zip hy).1 with q | q
  ·exact .inl q
  ·exact .inr ⟨q,PySem.W.cellsFrom_some _ _ _ (.inl q)⟩
 refine codeAny_call_function hr.depth (KX _ _ lk) rfl S.co S.gen rfl (PySem.W.codeRec_of KX hcd) (hb _ _ _ _ ?_)
 refine wpAny_newFunctionEnv_cells S.kind hkind fun env he s1 x=>?_
 subst he
 refine ⟨lim.keeps x.toInCall.keep,codeAny_func ?_⟩
 obtain ⟨t,ht,hq⟩:=hbody A outer s H vs Q E (hr.deeper _) hsp
 have I:Inv (k_ CX P w K mg base N qual scope f cdv A outer s H E) [] (start N vs) H s1:=yO S hr.hd e0 hl r x
 refine wpAny_mono (ht [] s1 (start N vs) H _ I hq) (fun fl s' hs=>?_) fun e s' hs=>hs
 have fin:∀ {σ':St} {H':Hp} {v:V} {u:Value},Inv (k_ CX P w K mg base N qual scope f cdv A outer s H E) [] σ' H' s'->RelV v u->Q v H'->CE outer P w H s Q u s' :=
  fun {σ' H' v u} J rv q=>⟨v,H',J.os,J.bare,J.base,J.bx,rv,q⟩
 cases fl with
 | ret u =>
  obtain ⟨v,σ',H',J,rv,q⟩:=hs
  exact fin J rv q
 | next =>
  obtain ⟨σ',H',J,q⟩:=hs
  exact fin (v:=V.cI) (u:=Value.none) J rfl q
 | brk =>
  obtain ⟨_,_,_,q⟩:=hs
  exact False.elim q
 | cont =>
  obtain ⟨_,_,_,q⟩:=hs
  exact False.elim q
end L2
namespace L2
open PySem PySem.Spec PyProof.Rows
section
variable {X:Cx} {x:Str} {p pos:Pos} {e:Expr} {es:List Expr} {t:TA} {id T:String} {r:List V->Hp->VK->Prop}
def SM (r:List V->Hp->VK->Prop) (t:TA):TE:=fun σ H Q=>t σ H fun vs H1=>r vs H1 Q
theorem pb (hc:dJ X (.builtin id) r) (hg:Gl X x) (hm:X.mg x=none) (hv:bootBuiltins x=some (.builtin id)) (ha:PA X (e::es) t) (hn:x ≠ "__name__" := by decide) (hdb:(x==("__debug__" : Str))=false:=by decide)
  (he:starEach (e::es) X.env=(false,eval e X.env)::starEach es X.env:=by rfl) (hpl:(backTo pos (starEach es X.env)).any (·.1)=false:=by rfl):PE X (.Call (.Name x p) (e::es) [] pos) (SM r t):=by
 intro pins s σ H Q I h
 refine wpAny_Call_Name_kw (jl I hg hm hv ?_ hn hdb)
 exact PyProof.Rows.callWith_builtin1 (cG (ha pos pins s σ H _ I h) fun us s1 ⟨vs,H1,I1,r1,q1⟩=>hc pins s1 σ H1 vs us Q I1 r1 q1) he hpl
theorem zJ (hc:dJ X (.type T) r) (hg:Gl X x) (hm:X.mg x=none) (hv:bootBuiltins x=some (.type T)) (ha:PA X (e::es) t) (hn:x ≠ "__name__" := by decide) (hdb:(x==("__debug__" : Str))=false:=by decide)
  (he:starEach (e::es) X.env=(false,eval e X.env)::starEach es X.env:=by rfl) (hpl:(backTo pos (starEach es X.env)).any (·.1)=false:=by rfl):PE X (.Call (.Name x p) (e::es) [] pos) (SM r t):=by
 intro pins s σ H Q I h
 refine wpAny_Call_Name_kw (jl I hg hm hv ?_ hn hdb)
 exact PyProof.Rows.callWith_type1 (cG (ha pos pins s σ H _ I h) fun us s1 ⟨vs,H1,I1,r1,q1⟩=>hc pins s1 σ H1 vs us Q I1 r1 q1) he hpl
end
end L2
namespace HT
open PySem PyProof.Rows
section
open PySem.SeqAt
open PySem.AutoSeq1 (wpAny_loadPart')
open PySem.MeetsSeq PySem.MeetsSeq2 PySem.MeetsSeq3
end
section
variable {prog:Program} {w:World} {A:Around} {E:Value->Shared->Prop} {s:Shared}
theorem Ds {t b:Addr} {vs ws:List Value} {Q:Value->Shared->Prop} (ht:IsTup s.heap t vs.toArray) (hb:IsTup s.heap b ws.toArray) (hv:vs≠[])
  (h1:ws=[]->Q (.ref t) s) (h2:ws≠[]->Q (.ref s.heap.objs.size) { s with heap:=s.heap.push { cls:=.type "tuple", data:=.seq (vs++ws).toArray } })
  (hsz:vs.length+ws.length<=sizeLine):wpAny (model prog w) A (binaryOp .Add (.ref t) (.ref b)) Q E s:=by
 obtain ⟨⟨cls,dd,data,sl⟩,ho,hc,n,hd⟩:=id ht
 obtain ⟨⟨cls2,dd2,data2,sl2⟩,ho2,hc2,n2,hd2⟩:=id hb
 simp only at hc hd hc2 hd2
 subst hc hd hc2 hd2
 have e:vs.toArray++ws.toArray=(vs++ws).toArray:=by simp
 by_cases hw:ws=[]
 ·exact concat_meets ⟨_,ho,rfl⟩ ⟨_,ho2,rfl⟩ noFill_tuple_add seq_tuple_add PySem.F.slot_tuple_add PySem.F.entry_tuple_add (PySem.F.args_tuple_add_2 _ _)
   (tuple_addW1 t b vs.toArray ws.toArray n n2 dd dd2 sl sl2 (by simpa using hv) (by simp [hw])) ⟨ho,ho2,h1 hw⟩
 ·refine concat_meets ⟨_,ho,rfl⟩ ⟨_,ho2,rfl⟩ noFill_tuple_add seq_tuple_add PySem.F.slot_tuple_add PySem.F.entry_tuple_add (PySem.F.args_tuple_add_2 _ _)
   (tuple_addW2 t b vs.toArray ws.toArray n n2 dd dd2 sl sl2 (by simpa using hv) (by simpa using hw) (by rw [List.size_toArray,List.size_toArray];exact hsz)) ⟨ho,ho2,?_⟩
  rw [e]
  exact h2 hw
def dh (n d:Nat):Option Int->Nat
 | none=>d
 | some v=>if v<0 then (v+(n:Int)).toNat else min v.toNat n
theorem vb (n d:Nat):dh n d none=d:=rfl
theorem oE (n d k:Nat):dh n d (some (k:Int))=min k n:=by
 show (if (k:Int)<0 then ((k:Int)+(n:Int)).toNat else min (k:Int).toNat n)=min k n
 rw [if_neg (by omega),Int.toNat_natCast]
theorem G8 (n d:Nat) (hd:d<=n) (o:Option Int):dh n d o<=n:=by
 cases o with
 | none=>exact hd
 | some v =>
  show (if v<0 then (v+(n:Int)).toNat else min v.toNat n)<=n
  by_cases hv:v<0
  ·rw [if_pos hv];omega
  ·rw [if_neg hv];exact Nat.min_le_right _ _
theorem x9 (v:Int) (n d:Nat):(if v<0 then max (v+(n:Int)) 0 else min v (n:Int))=((dh n d (some v):Nat):Int):=by
 show (if v<0 then max (v+(n:Int)) 0 else min v (n:Int))=(((if v<0 then (v+(n:Int)).toNat else min v.toNat n):Nat):Int)
 by_cases hv:v<0
 ·simp only [if_pos hv];omega
 ·simp only [if_neg hv];omega
theorem wF (lo hi:Option Int) (n:Nat):Builtin.Slice.sliceAdjust lo hi 1 (n:Int)=(((dh n 0 lo:Nat):Int),((dh n n hi:Nat):Int)):=by
 have h1:¬ ((1:Int)<0):=by omega
 unfold Builtin.Slice.sliceAdjust
 simp only [h1,if_false]
 refine Prod.ext ?_ ?_
 ·cases lo with
  | none=>rfl
  | some v=>exact x9 v n 0
 ·cases hi with
  | none=>rfl
  | some v=>exact x9 v n n
theorem xc (i j:Nat):Builtin.Slice.slicePlaces (i:Int) (j:Int) 1=j-i:=by
 unfold Builtin.Slice.slicePlaces
 have h1:(1:Int)>0:=by omega
 simp only [h1,if_true,Int.ediv_one]
 split <;> omega
theorem qg {v:Value} {o:Option Int} {Q:Option Int->Shared->Prop} (p:IsPart v o) (h:Q o s):wpAny (model prog w) A (Builtin.Slice.slicePartIndex v) Q E s:=by
 cases p with
 | none=>exact slicePart_none h
 | int i t=>exact slicePart_int h
theorem je {sl:Addr} {vl vu:Value} {lo hi:Option Int} {n:Nat} {Q:Int×Int×Nat->Shared->Prop} (hs:s.heap.IsSliceOf sl vl vu .none) (pl:IsPart vl lo) (pu:IsPart vu hi)
  (h:Q (((dh n 0 lo:Nat):Int),1,dh n n hi-dh n 0 lo) s):wpAny (model prog w) A (Builtin.Slice.sliceApplied (.ref sl) (pure (n:Int))) Q E s:=by
 obtain ⟨os,hos,hcs,hds⟩:=id hs
 unfold Builtin.Slice.sliceApplied Builtin.Slice.sliceFields
 refine wpAny_bind (wpAny_bind (wpAny_field hos hds (x:=vl) rfl (wpAny_bind (wpAny_field hos hds (x:=vu) rfl (wpAny_bind (wpAny_field hos hds (x:=.none) rfl (wpAny_pure ?_)))))))
 refine wpAny_bind (slicePart_none ?_)
 show wpAny _ _ (if ((1:Int)==0)=true then _ else _) _ _ s
 rw [if_neg (by decide)]
 refine wpAny_bind (qg pl (wpAny_bind (qg pu (wpAny_bind (wpAny_pure ?_)))))
 show wpAny _ _ (match Builtin.Slice.sliceAdjust lo hi 1 (n:Int) with | (lo,hi)=>pure (lo,(1:Int),Builtin.Slice.slicePlaces lo hi 1)) _ _ s
 rw [wF lo hi n]
 show wpAny _ _ (pure (((dh n 0 lo:Nat):Int),(1:Int),Builtin.Slice.slicePlaces ((dh n 0 lo:Nat):Int) ((dh n n hi:Nat):Int) 1)) _ _ s
 rw [xc]
 exact wpAny_pure h
theorem Cp (xs:Array Value) (i k:Nat):((List.range k).filterMap fun (m:Nat)=>xs[((i:Int)+(m:Int)*1).toNat]?).toArray=((xs.toList.drop i).take k).toArray:=by
 have e:(fun (m:Nat)=>xs[((i:Int)+(m:Int)*1).toNat]?)=fun m=>xs[i+m]?:=by
  funext m
  have:((i:Int)+(m:Int)*1).toNat=i+m:=by omega
  rw [this]
 rw [e]
 have:=pick_run xs i k
 rw [List.filterMap_map] at this
 have e2:((fun x=>xs[x]?)∘fun x=>i+x)=fun m=>xs[i+m]?:=rfl
 rw [e2] at this
 rw [this]
theorem lZ {t sl:Addr} {items:Array Value} {vl vu:Value} {lo hi:Option Int} {Q:Value->Shared->Prop} (ht:IsTup s.heap t items) (hs:s.heap.IsSliceOf sl vl vu .none) (pl:IsPart vl lo) (pu:IsPart vu hi)
  (hw:¬ (dh items.size 0 lo=0/\dh items.size items.size hi=items.size))
  (h:Q (.ref s.heap.objs.size) { s with heap:=s.heap.push { cls:=.type "tuple", data:=.seq ((items.toList.drop (dh items.size 0 lo)).take (dh items.size items.size hi-dh items.size 0 lo)).toArray } })
  (hsz:items.size<=sizeLine):wpAny (model prog w) A (getItem (.ref t) (.ref sl)) Q E s:=by
 have htake:sizeOk (.seq ((items.toList.drop (dh items.size 0 lo)).take (dh items.size items.size hi-dh items.size 0 lo)).toArray):=by
  show ((items.toList.drop (dh items.size 0 lo)).take (dh items.size items.size hi-dh items.size 0 lo)).toArray.size<=sizeLine
  rw [List.size_toArray,List.length_take,List.length_drop,Array.length_toList]
  omega
 have hj:dh items.size items.size hi<=items.size:=G8 _ _ (Nat.le_refl _) hi
 obtain ⟨os,hos,hcs,hds⟩:=id hs
 have hTs:s.TypeIs (.ref sl) "slice" := ⟨os,hos,hcs⟩
 unfold getItem
 try with_reducible refine wpAny_holding ?_
 first | refine wpAny_bind (wpAny_pure ?_) | skip
 refine wpAny_bind (wpAny_sequenceKey ht.typeIs (by decide) ?_)
 refine wpAny_bind (wpAny_callSpecial?_slot (name:=Str.ofString "__getitem__") ht.typeIs PyProof.Rows.slot_tuple_getitem
  (wpAny_call_entry PyProof.Rows.slot_tuple_getitem ht.typeIs entry_tuple_getitem ?_ (args_tuple_getitem _ _)))
 show wpAny _ _ (Builtin.Tuple.tupleItemsOf (.ref t) >>= _) _ _ s
 refine wpAny_bind (tupleItemsOf_ ht ?_)
 refine wpAny_bind (wpAny_typeOf hTs ?_)
 rw [if_pos (by decide)]
 refine wpAny_bind (je hs pl pu ?_)
 have hno:¬ ((((dh items.size 0 lo:Nat):Int)==0&&(1:Int)==1&&(dh items.size items.size hi-dh items.size 0 lo)==items.size)=true):=by
  intro q
  rw [Bool.and_eq_true,Bool.and_eq_true] at q
  have q1:((dh items.size 0 lo:Nat):Int)=0:=eq_of_beq q.1.1
  have q2:dh items.size items.size hi-dh items.size 0 lo=items.size:=eq_of_beq q.2
  exact hw ⟨by omega,by omega⟩
 show wpAny _ _ (if (((dh items.size 0 lo:Nat):Int)==0&&(1:Int)==1&&(dh items.size items.size hi-dh items.size 0 lo)==items.size)=true then _ else _) _ _ s
 rw [if_neg hno,Cp]
 first
  | exact wpAny_bind (m:=Builtin.Tuple.tupleExact _) (wpAny_newObj_type (wpAny_pure ⟨_,rfl,wpAny_pure h⟩) htake)
  | exact wpAny_bind (m:=Builtin.Tuple.tupleExact _) (wpAny_newObj_type (wpAny_bind (wpAny_pure (wpAny_pure ⟨_,rfl,wpAny_pure h⟩))) htake)
  | exact wpAny_bind (wpAny_bind (m:=Builtin.Tuple.tupleExact _) (wpAny_newObj_type (wpAny_pure (wpAny_pure ⟨_,rfl,wpAny_pure h⟩)) htake))
  | exact wpAny_bind (wpAny_bind (m:=Builtin.Tuple.tupleExact _) (wpAny_newObj_type (wpAny_pure ⟨_,rfl,wpAny_pure h⟩) htake))
end
end HT
namespace L2
open PySem PySem.Spec PyProof.Rows
abbrev TO:=St->Hp->(Option Int->Hp->Prop)->Prop
def PO (X:Cx) (e:Option Expr) (t:TO):Prop :=
 ∀ (pins:List (Addr×Obj)) (s:Shared) (σ:St) (H:Hp) (Q:Option Int->Hp->Prop),Inv X pins σ H s->t σ H Q ->
  wpAny (model X.prog X.w) X.A (evalPart e X.env) (fun u s'=>∃ o H',Inv X pins σ H' s'/\IsPart u o/\Q o H') X.xe s
def Dx:TO:=fun _ H Q=>Q none H
def IM (t:TE):TO:=fun σ H Q=>t σ H fun x H1=>∃ i,x=.int i/\Q (some i) H1
section
variable {X:Cx} {e:Expr} {te:TE} {lo hi:Option Expr} {tl th:TO} {pos p2:Pos}
theorem D9:PO X none Dx:=by
 intro pins s σ H Q I h
 rw [evalPart_none]
 exact wpAny_pure ⟨none,H,I,.none,h⟩
theorem DT (h:PE X e te):PO X (some e) (IM te):=by
 intro pins s σ H Q I hw
 rw [evalPart_some]
 refine cG (h pins s σ H _ I hw) fun u s1 ⟨x,H1,I1,r1,q1⟩=>?_
 obtain ⟨i,rfl,q⟩:=q1
 obtain ⟨t,rfl⟩:=r1
 exact ⟨some i,H1,I1,.int i t,q⟩
def CG (X:Cx) (r:V->Option Int->Option Int->Hp->VK->Prop):Prop :=
 ∀ (pins:List (Addr×Obj)) (s:Shared) (σ:St) (H:Hp) (x:V) (v vl vu:Value) (lo hi:Option Int) (sl:Addr) (Q:VK),Inv X pins σ H s->RelV x v->s.heap.IsSliceOf sl vl vu .none->IsPart vl lo->IsPart vu hi->r x lo hi H Q ->
  ∃ T id,typeLookup (.type T) "__getitem__" = pure (some (.builtin id))/\s.TypeIs v T/\wpAny (model X.prog X.w) X.A (getItem v (.ref sl)) (EP X pins σ Q) X.xe s
theorem CG.or {r r':V->Option Int->Option Int->Hp->VK->Prop} (h:CG X r) (h':CG X r'):CG X (fun x lo hi H Q=>r x lo hi H Q\/r' x lo hi H Q):=by
 intro pins s σ H x v vl vu lo hi sl Q I rx hs pl pu q
 rcases q with q | q
 ·exact h pins s σ H x v vl vu lo hi sl Q I rx hs pl pu q
 ·exact h' pins s σ H x v vl vu lo hi sl Q I rx hs pl pu q
def VG (r:V->Option Int->Option Int->Hp->VK->Prop) (te:TE) (tl th:TO):TE:=fun σ H Q=>te σ H fun x H1=>tl σ H1 fun l H2=>th σ H2 fun u H3=>r x l u H3 Q
theorem Ct {r:V->Option Int->Option Int->Hp->VK->Prop} (hr:CG X r) (he:PE X e te) (hl:PO X lo tl) (hu:PO X hi th):PE X (.Subscript e (.Slice lo hi none p2) pos) (VG r te tl th):=by
 intro pins s σ H Q I h
 refine Subscript_ (cG (he pins s σ H _ I h) fun v s1 ⟨x,H1,I1,r1,q1⟩=>?_)
 refine wpAny_Slice (cG (hl pins s1 σ H1 _ I1 q1) fun vl s2 ⟨l,H2,I2,pl,q2⟩=>cG (hu pins s2 σ H2 _ I2 q2) fun vu s3 ⟨u,H3,I3,pu,q3⟩=>?_)
 rw [evalPart_none]
 refine wpAny_pure ?_
 have I4:Inv X pins σ H3 { s3 with heap:=s3.heap.push { cls:=.type "slice", data:=.fields #[vl,vu,.none] } }:=I3.kept (t':=s3.toks) fun b ob q=>Heap.get?_push_of_some _ q
 obtain ⟨T,id,hT,ht,hg⟩:=hr pins { s3 with heap:=s3.heap.push { cls:=.type "slice", data:=.fields #[vl,vu,.none] } } σ H3 x v vl vu l u s3.heap.objs.size Q I4 r1 (Heap.IsSliceOf.new ..) pl pu q3
 show wpAny (model X.prog X.w) X.A (subscriptTail e (.Slice lo hi none p2) v (.ref s3.heap.objs.size)) (EP X pins σ Q) X.xe { s3 with heap:=s3.heap.push { cls:=.type "slice", data:=.fields #[vl,vu,.none] } }
 exact tail_any (ops:=[.ref s3.heap.objs.size,v]) ht hT hg (by with_unfolding_all rfl)
def vR (xs:List V) (lo hi:Option Int):List V:=(xs.drop (HT.dh xs.length 0 lo)).take (HT.dh xs.length xs.length hi-HT.dh xs.length 0 lo)
theorem nR (xs:List V) (lo hi:Option Int):(vR xs lo hi).length<=xs.length:=by
 unfold vR
 rw [List.length_take,List.length_drop]
 omega
def MM (K:PySem.W.Frag):V->Option Int->Option Int->Hp->VK->Prop:=fun x lo hi H Q=>∃ a xs,x=.ref a/\ib K H a xs ∧
 ¬ (HT.dh xs.length 0 lo=0/\HT.dh xs.length xs.length hi=xs.length)/\∀ p,H p=none->Q (.ref p) (upd H p (.tup (vR xs lo hi)))
theorem Hn:CG X (MM X.K):=by
 intro pins s σ H x v vl vu lo hi sl Q I rx hs pl pu h
 obtain ⟨a,xs,rfl,hx,hw,q⟩:=h
 cases rx
 obtain ⟨its,r,ht,hz⟩:=I.tuple hx
 have hlen:its.toArray.size=xs.length:=by rw [List.size_toArray];exact r.length.symm
 refine ⟨"tuple", _,PyProof.Rows.slot_tuple_getitem.lookup,ht.typeIs,?_⟩
 refine HT.lZ ht hs pl pu (by rw [hlen];exact hw) ?_ (by rw [hlen];exact hz)
 rw [hlen]
 refine ⟨.ref s.heap.objs.size,_,I.laid (t':=s.toks) (o:=.tup (vR xs lo hi)) (fun b ob q=>Heap.get?_push_of_some _ q) (Nat.le_refl _) ?_,rfl,q _ (I.bx.fresh (Nat.le_refl _))⟩
 exact ⟨Nat.le_trans (nR xs lo hi) hz,_,(r.drop (HT.dh xs.length 0 lo)).take (HT.dh xs.length xs.length hi-HT.dh xs.length 0 lo),IsTup.new _ _⟩
def EW (K:PySem.W.Frag):R2:=fun x y H Q=>∃ a b xs ys,x=.ref a/\y=.ref b/\ib K H a xs/\ib K H b ys/\xs≠[]/\xs.length+ys.length<=sizeLine ∧
 (ys=[]->Q (.ref a) H)/\(ys≠[]->∀ p,H p=none->Q (.ref p) (upd H p (.tup (xs++ys))))
theorem Vals.mf {xs:List V} {us:List Value} (r:Vals xs us):us=[] ↔ xs=[]:=by
 cases r with
 | nil=>simp
 | cons _ _=>simp
theorem Dd:gW X (binaryOp .Add) (EW X.K):=by
 intro pins s σ H x y v u Q I rx ry h
 obtain ⟨a,b,xs,ys,rfl,rfl,ha,hb,hx,hz,q1,q2⟩:=h
 cases rx
 cases ry
 obtain ⟨its,r1,p1,_⟩:=I.tuple ha
 obtain ⟨its2,r2,p2,_⟩:=I.tuple hb
 refine HT.Ds p1 p2 (fun z=>hx (r1.mf.mp z)) (fun z=>⟨.ref a,H,I,rfl,q1 (r2.mf.mp z)⟩) (fun z=>?_) (by rw [← r1.length,← r2.length];exact hz)
 refine ⟨.ref s.heap.objs.size,_,I.laid (t':=s.toks) (o:=.tup (xs++ys)) (fun b ob q=>Heap.get?_push_of_some _ q) (Nat.le_refl _) ?_,rfl,q2 (fun w=>z (r2.mf.mpr w)) _ (I.bx.fresh (Nat.le_refl _))⟩
 exact ⟨by rw [List.length_append];exact hz,_,r1.append r2,IsTup.new _ _⟩
end
end L2
namespace L2
open PySem PySem.Spec PyProof.Rows
def HS (n:Nat) (i:Int):Option Nat:=if 0<=i then (if i<n then some i.toNat else none) else if -(n:Int)<=i then some (i+n).toNat else none
def uW {α:Type} (xs:List α) (i:Int):Option α:=(HS xs.length i).bind fun j=>xs[j]?
theorem C7 {n:Nat} {i:Int} {j:Nat} (h:HS n i=some j):seqIndex? i n=some j/\j<n/\-(n:Int)<=i/\i<n:=by
 unfold HS at h
 by_cases h0:0<=i
 ·rw [if_pos h0] at h
  by_cases h1:i<n
  ·rw [if_pos h1] at h
   have e:i.toNat=j:=Option.some.inj h
   exact ⟨by rw [seqIndex_of h0 h1,e],by omega,by omega,h1⟩
  ·rw [if_neg h1] at h;cases h
 ·rw [if_neg h0] at h
  by_cases h1:-(n:Int)<=i
  ·rw [if_pos h1] at h
   have e:(i+n).toNat=j:=Option.some.inj h
   exact ⟨by rw [seqIndex_neg (by omega) h1,e],by omega,h1,by omega⟩
  ·rw [if_neg h1] at h;cases h
theorem uN {α:Type} {xs:List α} {i:Int} {v:α} (h:uW xs i=some v):∃ j,seqIndex? i xs.length=some j/\xs[j]?=some v/\j<xs.length/\-(xs.length:Int)<=i/\i<xs.length:=by
 unfold uW at h
 cases e:HS xs.length i with
 | none=>rw [e] at h;cases h
 | some j =>
  rw [e] at h
  obtain ⟨h1,h2,h3,h4⟩:=C7 e
  exact ⟨j,h1,h,h2,h3,h4⟩
theorem tj {α:Type} {xs:List α} {j:Nat} {v:α} (h:xs[j]?=some v):uW xs (j:Int)=some v:=by
 have hj:j<xs.length:=(List.getElem?_eq_some_iff.mp h).1
 have e:HS xs.length (j:Int)=some j:=by
  unfold HS
  rw [if_pos (by omega),if_pos (by omega)];simp
 unfold uW;rw [e];exact h
def uB (b:Expr):Prop:=∀ o i,subscripted b false o i=operate [o,i] (getItem o i)
def CM (X:Cx) (r:R2):Prop :=
 ∀ (value slice:Expr) (pins:List (Addr×Obj)) (s:Shared) (σ:St) (H:Hp) (x y:V) (v u:Value) (Q:VK),Inv X pins σ H s->RelV x v->RelV y u->r x y H Q ->
  subscripted slice false v u=operate [v,u] (getItem v u)->wpAny (model X.prog X.w) X.A (subscriptTail value slice v u) (EP X pins σ Q) X.xe s
def UH (X:Cx) (id:String) (r:V->List V->Hp->VK->Prop):Prop :=
 ∀ (pins:List (Addr×Obj)) (s:Shared) (σ:St) (H:Hp) (x:V) (xs:List V) (v:Value) (us:List Value) (Q:VK),Inv X pins σ H s->RelV x v->Vals xs us->r x xs H Q ->
  wpAny (model X.prog X.w) X.A (call (.builtin id) (v::us)) (EP X pins σ Q) X.xe s
section
variable {X:Cx} {a b:Expr} {ta tb:TE} {pos:Pos}
theorem CM.or {r r':R2} (h:CM X r) (h':CM X r'):CM X (fun x y H Q=>r x y H Q\/r' x y H Q):=by
 intro value slice pins s σ H x y v u Q I rx ry q hs
 rcases q with q | q
 ·exact h value slice pins s σ H x y v u Q I rx ry q hs
 ·exact h' value slice pins s σ H x y v u Q I rx ry q hs
theorem IB {r:R2} (hr:CM X r) (ha:PE X a ta) (hb:PE X b tb) (hs:uB b):PE X (.Subscript a b pos) (Iz r ta tb):=by
 intro pins s σ H Q I h
 exact Subscript_ (GS ha hb I h fun v u s2 x y H2 I2 rx ry q=>hr a b pins s2 σ H2 x y v u Q I2 rx ry q (hs _ _))
def JK (K:PySem.W.Frag):R2:=fun x y H Q=>∃ p xs i v,x=.ref p/\y=.int i/\jg K H p xs/\uW xs i=some v/\Q v H
def Ii (K:PySem.W.Frag):R2:=fun x y H Q=>∃ p xs i v,x=.ref p/\y=.int i/\ib K H p xs/\uW xs i=some v/\Q v H
def Im:R2:=fun x y H Q=>∃ z i c,x=.str z/\y=.int i/\z.length<=sizeLine/\uW z.cps.toList i=some c/\Q (.str ⟨#[c]⟩) H
theorem Et:CM X (JK X.K):=by
 intro value slice pins s σ H x y v u Q I rx ry h hs
 obtain ⟨p,xs,i,z,rfl,rfl,hq,he,q⟩:=h
 cases rx
 obtain ⟨t,rfl⟩:=ry
 obtain ⟨its,r,pl,hz⟩:=I.list hq
 obtain ⟨j,h1,h2,h3,h4,h5⟩:=uN he
 obtain ⟨w,ew,rw'⟩:=r.get h2
 have hl:=r.length
 have hn:=pq
 have fin:EP X pins σ Q w s:=⟨z,H,I,rw',q⟩
 by_cases h0:0<=i
 ·have hj:i.toNat=j:=by
   rw [seqIndex_of h0 h5] at h1
   exact Option.some.inj h1
  exact item_listR pl.isList h0 (by omega) (by rw [hj];simpa using ew) fin hs
 ·have hj:(i+(its.toArray.size:Int)).toNat=j:=by
   rw [seqIndex_neg (by omega) h4] at h1
   rw [List.size_toArray,← hl]
   exact Option.some.inj h1
  exact subscriptTail_builtinR (x:=w) pl.isList.typeIs slot_list_getitem.lookup
   (wpAny_getItem_list_neg (Q:=fun r s'=>r=w/\EP X pins σ Q r s') pl.isList (by omega) (by rw [List.size_toArray] <;> omega) (by omega) (by rw [hj];simpa using ew) ⟨rfl,fin⟩) hs
theorem FH:CM X (Ii X.K):=by
 intro value slice pins s σ H x y v u Q I rx ry h hs
 obtain ⟨p,xs,i,z,rfl,rfl,hq,he,q⟩:=h
 cases rx
 obtain ⟨t,rfl⟩:=ry
 obtain ⟨its,r,pl,hz⟩:=I.tuple hq
 obtain ⟨j,h1,h2,h3,h4,h5⟩:=uN he
 obtain ⟨w,ew,rw'⟩:=r.get h2
 have hl:=r.length
 have hn:=pq
 have fin:EP X pins σ Q w s:=⟨z,H,I,rw',q⟩
 exact subscriptTail_builtinR (x:=w) pl.typeIs slot_tuple_getitem.lookup
  (getItem_tuple (j:=j) (Q:=fun r s'=>r=w/\EP X pins σ Q r s') pl (by omega) (by omega) (by rw [List.size_toArray,← hl];exact h1) (by simpa using ew) ⟨rfl,fin⟩) hs
theorem Ht:CM X Im:=by
 intro value slice pins s σ H x y v u Q I rx ry h hs
 obtain ⟨z,i,c,rfl,rfl,hz,he,q⟩:=h
 obtain ⟨t,rfl⟩:=rx
 obtain ⟨t',rfl⟩:=ry
 obtain ⟨j,h1,h2,h3,h4,h5⟩:=uN he
 have hl:z.cps.toList.length=z.length:=by simp [Str.length]
 rw [hl] at h1 h4 h5
 have hn:=pq
 exact tail_any (typeIs_str s z t) slot_str_getitem.lookup (getItem_str (c:=c) (by
  have e1:decide (i < -(2^63:Int))=false:=decide_eq_false (by omega)
  have e2:decide (i>=2^63)=false:=decide_eq_false (by omega)
  rw [e1,e2,Bool.or_false]) (by rw [h1];simpa using h2) ⟨.str ⟨#[c]⟩,H,I.tok _,⟨_,rfl⟩,q⟩) hs
def Uk (K:PySem.W.Frag):R2:=fun x y H Q=>JK K x y H Q\/Ii K x y H Q\/Im x y H Q
theorem G0:CM X (Uk X.K):=Et.or (FH.or Ht)
theorem sP (lo hi:Option Int) (n:Nat):(sliceBounds lo hi none n).1=((HT.dh n 0 lo:Nat):Int)/\(sliceBounds lo hi none n).2.1=((HT.dh n n hi:Nat):Int)/\(sliceBounds lo hi none n).2.2=1:=by
 refine ⟨?_,?_,rfl⟩
 ·cases lo with
  | none=>simp [sliceBounds,HT.dh]
  | some i =>
   simp only [sliceBounds,HT.dh,Option.getD_none,show (1:Int)>0 by decide,if_true]
   by_cases h:i<0
   ·simp only [h,if_true] <;> omega
   ·simp only [h,if_false] <;> omega
 ·cases hi with
  | none=>simp [sliceBounds,HT.dh]
  | some i =>
   simp only [sliceBounds,HT.dh,Option.getD_none,show (1:Int)>0 by decide,if_true]
   by_cases h:i<0
   ·simp only [h,if_true] <;> omega
   ·simp only [h,if_false] <;> omega
theorem qR (its:List Value) (lo hi:Option Int):slicePick its.toArray lo hi none=((its.drop (HT.dh its.length 0 lo)).take (HT.dh its.length its.length hi-HT.dh its.length 0 lo)).toArray:=by
 obtain ⟨h1,h2,h3⟩:=sP lo hi its.toArray.size
 unfold slicePick
 rw [h1,h2,h3]
 simp only [sliceRange_one,pick_run,List.size_toArray] <;> rfl
def OS (K:PySem.W.Frag):V->Option Int->Option Int->Hp->VK->Prop:=fun x lo hi H Q=>∃ a xs,x=.ref a/\jg K H a xs/\∀ p,H p=none->Q (.ref p) (upd H p (.lst (vR xs lo hi)))
theorem Dg:CG X (OS X.K):=by
 intro pins s σ H x v vl vu lo hi sl Q I rx hs pl pu h
 obtain ⟨a,xs,rfl,hx,q⟩:=h
 cases rx
 obtain ⟨its,r,ht,hz⟩:=I.list hx
 have hlen:=r.length
 refine ⟨"list", _,slot_list_getitem.lookup,ht.isList.typeIs,?_⟩
 refine wpAny_getItem_list_slice ht.isList hs pl pu .none (by simp) ?_ (by rw [List.size_toArray] <;> omega)
 rw [qR,← hlen]
 refine ⟨.ref s.heap.objs.size,_,I.laid (t':=s.toks) (o:=.lst (vR xs lo hi)) (fun b ob q=>Heap.get?_push_of_some _ q) (Nat.le_refl _) ?_,rfl,q _ (I.bx.fresh (Nat.le_refl _))⟩
 exact ⟨Nat.le_trans (nR xs lo hi) hz,_,0,(r.drop (HT.dh xs.length 0 lo)).take (HT.dh xs.length xs.length hi-HT.dh xs.length 0 lo),Heap.get?_push_size _ rfl⟩
theorem s_:dJ X (.builtin "len") (fun xs H Q=>∃ p ys,xs=[.ref p]/\(jg X.K H p ys\/ib X.K H p ys)/\Q (.int ys.length) H):=by
 intro pins s σ H xs us Q I r h
 obtain ⟨p,ys,rfl,hq,q⟩:=h
 obtain ⟨u,rfl,rx⟩:=vals1 r
 cases rx
 have hn:=pq
 rcases hq with hq | hq
 ·obtain ⟨its,r',pl,hz⟩:=I.list hq
  have hlen:=r'.length
  exact Calls.call_len_list pl.isList (by simp only [List.size_toArray] <;> omega) ⟨.int ys.length,H,I.tok _,⟨s.toks+1,by rw [List.size_toArray,hlen]⟩,q⟩
 ·obtain ⟨its,r',pl,hz⟩:=I.tuple hq
  have hlen:=r'.length
  exact len_tuple pl (by simp only [List.size_toArray] <;> omega) ⟨.int ys.length,H,I.tok _,⟨s.toks+1,by rw [List.size_toArray,hlen]⟩,q⟩
theorem ux:dJ X (.builtin "len") (fun xs H Q=>∃ z,xs=[.str z]/\z.length<=sizeLine/\Q (.int z.length) H):=by
 intro pins s σ H xs us Q I r h
 obtain ⟨z,rfl,hz,q⟩:=h
 obtain ⟨u,rfl,t,rfl⟩:=vals1 r
 have hn:=pq
 exact len_str (by omega) ⟨.int z.length,H,I.tok _,⟨_,rfl⟩,q⟩
theorem dJ.or {f:Value} {r r':List V->Hp->VK->Prop} (h:dJ X f r) (h':dJ X f r'):dJ X f (fun xs H Q=>r xs H Q\/r' xs H Q):=by
 intro pins s σ H xs us Q I rs q
 rcases q with q | q
 ·exact h pins s σ H xs us Q I rs q
 ·exact h' pins s σ H xs us Q I rs q
theorem uT:dJ X (.type "list") (fun xs H Q=>∃ p ys,xs=[.ref p]/\(jg X.K H p ys\/ib X.K H p ys)/\∀ l,H l=none->Q (.ref l) (upd H l (.lst ys))):=by
 intro pins s σ H xs us Q I r h
 obtain ⟨p,ys,rfl,hq,q⟩:=h
 obtain ⟨u,rfl,rx⟩:=vals1 r
 cases rx
 have fin:∀ (its:List Value),Vals ys its->ys.length<=sizeLine->∀ (h':Heap) (c':Nat),(∀ b o',s.heap.get? b=some o'->h'.get? b=some o') ->
   h'.get? s.heap.objs.size=some { cls:=.type "list", dict:=none,data:=.seq its.toArray c',slots:=#[] }->EP X pins σ Q (.ref s.heap.objs.size) { s with heap:=h' }:=fun its r' hz h' c' kp e =>
  ⟨.ref s.heap.objs.size,_,I.laid (t':=s.toks) kp (Nat.le_refl _) (show bT X.prog X.w _ h' _ (.lst ys) from ⟨hz,its,c',r',e⟩),rfl,q _ (I.bx.fresh (Nat.le_refl _))⟩
 rcases hq with hq | hq
 ·obtain ⟨its,r',pl,hz⟩:=I.list hq
  have hlen:=r'.length
  obtain ⟨o,ho,hc,n,hd⟩:=pl.isList
  exact call_list_seq p (.inl rfl) ho hc hd (fun h' c' kp e=>fin its r' hz h' c' kp e) (by simp only [List.size_toArray] <;> omega)
 ·obtain ⟨its,r',pl,hz⟩:=I.tuple hq
  have hlen:=r'.length
  obtain ⟨o,ho,hc,n,hd⟩:=pl
  exact call_list_seq p (.inr rfl) ho hc hd (fun h' c' kp e=>fin its r' hz h' c' kp e) (by simp only [List.size_toArray] <;> omega)
theorem qE:dJ X (.type "tuple") (fun xs H Q=>∃ p ys,xs=[.ref p]/\((jg X.K H p ys/\∀ l,H l=none->Q (.ref l) (upd H l (.tup ys)))\/(ib X.K H p ys/\Q (.ref p) H))):=by
 intro pins s σ H xs us Q I r h
 obtain ⟨p,ys,rfl,h⟩:=h
 obtain ⟨u,rfl,rx⟩:=vals1 r
 cases rx
 rcases h with ⟨hq,q⟩ | ⟨hq,q⟩
 ·obtain ⟨its,r',pl,hz⟩:=I.list hq
  have hlen:=r'.length
  refine call_tuple_list pl.isList (fun h' kp=>?_) (by simp only [List.size_toArray] <;> omega)
  have I1:Inv X pins σ H { s with heap:=h' }:=I.kept (t':=s.toks) kp
  have I2:Inv X pins σ (upd H h'.objs.size (.tup ys)) { s with heap:=h'.push { cls:=.type "tuple", data:=.seq its.toArray } } :=
   I1.laid (t':=s.toks) (fun b o e=>Heap.get?_push_of_some _ e) (Nat.le_refl _) (show bT X.prog X.w _ _ _ (.tup ys) from ⟨hz,its,r',IsTup.new _ _⟩)
  exact ⟨.ref h'.objs.size,_,I2,rfl,q _ (I1.bx.fresh (Nat.le_refl _))⟩
 ·obtain ⟨its,r',pl,hz⟩:=I.tuple hq
  exact call_tuple_same pl ⟨.ref p,H,I,rfl,q⟩
def TV (K:PySem.W.Frag) (T:String) (x:V) (H:Hp):Prop:=match x with
 | .str _=>T = "str"
 | .int _=>T = "int"
 | .ref p=>(T = "list" /\ ∃ xs,jg K H p xs)\/(T = "tuple" /\ ∃ o,K.lookup p=some o/\o.cls=.type "tuple" /\ o.dict=none) ∨
   (T = "dict" /\ ((∃ kvs,H p=some (.dK kvs))\/∃ kvs,H p=some (.dT kvs)))\/(T = "set" /\ ∃ S n,H p=some (.set S n))
 | _=>False
theorem Az {pins:List (Addr×Obj)} {σ:St} {H:Hp} {s:Shared} {T:String} {x:V} {v:Value} (I:Inv X pins σ H s) (r:RelV x v) (ty:TV X.K T x H) :
  s.TypeIs v T/\∀ a,v=.ref a->∃ ob,s.heap.get? a=some ob/\ob.dict=none:=by
 cases x with
 | str z =>
  obtain ⟨t,rfl⟩:=r
  cases (show T = "str" from ty)
  exact ⟨typeIs_str s z t,fun _ e=>nomatch e⟩
 | int i =>
  obtain ⟨t,rfl⟩:=r
  cases (show T = "int" from ty)
  exact ⟨typeIs_int s i t,fun _ e=>nomatch e⟩
 | ref p =>
  cases r
  rcases ty with ⟨rfl,xs,hq⟩ | ⟨rfl,o,hk,hc,hd⟩ | ⟨rfl,hk⟩ | ⟨rfl,S,n,hk⟩
  ·obtain ⟨its,_,pl,_⟩:=I.list hq
   refine ⟨pl.isList.typeIs,fun a e=>?_⟩
   cases e
   obtain ⟨o,n,e,c,hd,_⟩:=pl
   exact ⟨o,e,hd⟩
  ·refine ⟨⟨o,I.j0 p o hk,hc⟩,fun a e=>?_⟩
   cases e
   exact ⟨o,I.j0 _ o hk,hd⟩
  ·have z:∃ o,s.heap.get? p=some o/\o.ExactDict:=by
    rcases hk with ⟨kvs,hk⟩ | ⟨kvs,hk⟩
    ·obtain ⟨_,_,_,_,o,_,_,e,ex,_⟩:=I.bx p _ hk
     exact ⟨o,e,ex⟩
    ·obtain ⟨_,_,_,_,o,_,_,e,ex,_⟩:=I.bx p _ hk
     exact ⟨o,e,ex⟩
   obtain ⟨o,e,ex⟩:=z
   refine ⟨⟨o,e,ex.1⟩,fun a e2=>?_⟩
   cases e2
   exact ⟨o,e,ex.2.1⟩
  ·obtain ⟨o,_,_,_,e,ex,_⟩:=I.bx p _ hk
   refine ⟨⟨o,e,ex.1⟩,fun a e2=>?_⟩
   cases e2
   exact ⟨o,e,ex.2.1⟩
 | _=>exact False.elim ty
def Qw (K:PySem.W.Frag) (T:String) (r:V->List V->Hp->VK->Prop) (to:TE):TE:=fun σ H Q=>to σ H fun x H1=>TV K T x H1/\r x [] H1 Q
def WB (K:PySem.W.Frag) (T:String) (r:V->List V->Hp->VK->Prop) (to:TE) (t:TA):TE:=fun σ H Q=>to σ H fun x H1=>TV K T x H1/\t σ H1 fun xs H2=>r x xs H2 Q
variable {o e:Expr} {es:List Expr} {to:TE} {t:TA} {name:Str} {apos cpos:Pos} {T id:String} {r:V->List V->Hp->VK->Prop}
theorem Hm (pa:PlainAttrs T) (slot:Slot T name id) (hty:typeOf (.builtin id)=pure (.type "method_descriptor")) (hm:UH X id r) (ho:PE X o to)
  (hbase:attributeBase o name X.env (eval o X.env)=eval o X.env:=by rfl) (hline:(apos.endLine==cpos.line)=true:=by rfl):PE X (.Call (.Attribute o name apos) [] [] cpos) (Qw X.K T r to):=by
 intro pins s σ H Q I h
 refine wpAny_Call_method0_late hbase hline (cG (ho pins s σ H _ I h) fun v s1 ⟨x,H1,I1,r1,ty,q1⟩=>?_)
 obtain ⟨h1,h2⟩:=Az I1 r1 ty
 exact ⟨T,id,pa,slot,hty,h1,h2,Calls.callWith_builtin rfl (PySem.evalArgs_none (hm pins s1 σ H1 x [] v [] Q I1 r1 .nil q1))⟩
theorem IF (pa:PlainAttrs T) (slot:Slot T name id) (hty:typeOf (.builtin id)=pure (.type "method_descriptor")) (hm:UH X id r) (ho:PE X o to) (ha:PA X (e::es) t)
  (hbase:attributeBase o name X.env (eval o X.env)=eval o X.env:=by rfl)
  (hfew:((backTo cpos (starEach (e::es) X.env)).all (fun x=>!x.1)&&(backToKw cpos (keywordEach [] X.env)).all (fun x=>x.1.isSome)
   && decide ((e::es).length+([]:List Keyword).length+(if ([]:List Keyword).isEmpty then 0 else 1)<30))=true:=by rfl)
  (hline:(apos.endLine==cpos.line)=true:=by rfl) (hs:starEach (e::es) X.env=(false,eval e X.env)::starEach es X.env:=by rfl) (hplain:(backTo cpos (starEach es X.env)).any (·.1)=false:=by rfl) :
  PE X (.Call (.Attribute o name apos) (e::es) [] cpos) (WB X.K T r to t):=by
 intro pins s σ H Q I h
 refine wpAny_Call_method_late hbase hfew hline rfl (cG (ho pins s σ H _ I h) fun v s1 ⟨x,H1,I1,r1,ty,q1⟩=>?_)
 obtain ⟨h1,h2⟩:=Az I1 r1 ty
 refine ⟨T,id,pa,slot,hty,h1,h2,?_⟩
 have hA:=ha cpos pins s1 σ H1 _ I1 q1
 rw [hs] at hA ⊢
 refine Calls.callWith_builtin (by show (false||(backTo cpos (starEach es X.env)).any (·.1))=false;rw [hplain] <;> rfl) (Calls.evalArgs_plain ?_)
 exact cG hA fun us s2 ⟨vs,H2,I2,r2,q2⟩=>hm pins s2 σ H2 x vs v us Q I2 r1 r2 q2
end
end L2
namespace L2
open PySem PySem.Spec PyProof.Rows
def UK (X:Cx) (id:String) (r:V->List V->Hp->VK->Prop):Prop :=
 ∀ (pins:List (Addr×Obj)) (s:Shared) (σ:St) (H:Hp) (x:V) (xs:List V) (v:Value) (us:List Value) (Q:VK),Inv X pins σ H s->RelV x v->Vals xs us->r x xs H Q ->
  wpAny (model X.prog X.w) X.A (call (.builtin id) (v::us)) (EP X pins σ Q) X.xe s
theorem Vals.one:∀ {x:V} {us:List Value},Vals [x] us->∃ u,us=[u]/\RelV x u
 | _,_,.cons r .nil=>⟨_,rfl,r⟩
theorem Vals.zero:∀ {us:List Value},Vals [] us->us=[]
 | _,.nil=>rfl
theorem Vals.rep {xs:List V} {us:List Value} (h:Vals xs us):∀ k:Nat,Vals (List.replicate k xs).flatten (List.replicate k us).flatten
 | 0=>.nil
 | k+1=>by
  rw [List.replicate_succ,List.replicate_succ,List.flatten_cons,List.flatten_cons]
  exact Vals.append h (Vals.rep h k)
theorem foldl_rep (its:List Value):∀ (k:Nat) (acc:List Value),
  List.foldl (fun x1 x2=>x1++x2) acc.toArray (List.replicate k its.toArray)=(acc++(List.replicate k its).flatten).toArray
 | 0,acc=>by simp
 | k+1,acc=>by
  have e:acc.toArray++its.toArray=(acc++its).toArray:=by simp
  have e2:(acc++its)++(List.replicate k its).flatten=acc++(List.replicate (k+1) its).flatten:=by
   rw [List.replicate_succ,List.flatten_cons,List.append_assoc]
  rw [← e2,← foldl_rep its k (acc++its),← e,List.replicate_succ,List.foldl_cons]
section
variable {X:Cx} {pins:List (Addr×Obj)} {σ:St} {H:Hp} {s:Shared} {l b:Addr} {xs ys zs:List V}
theorem Inv.J7 {its its':List Value} {n:Nat} {f:Array Value->Array Value} {t':Nat} (I:Inv X pins σ H s) (hH:H l=some (.lst xs))
  (e:s.heap.get? l=some { cls:=.type "list", data:=.seq its.toArray n }) (hf:f its.toArray=its'.toArray) (hv:Vals ys its') (hz:ys.length<=sizeLine) :
  Inv X pins σ (upd H l (.lst ys)) { s with heap:=s.heap.update l (Obj.mapSeq f),toks:=t' }:=by
 have q:=PySem.IsL.update e f
 rw [hf] at q
 refine I.write (x:=l) (e:=l) (by rw [hH];exact trivial) (.inl rfl) (fun b' u hb hu=>(Heap.get?_update_other s.heap (Obj.mapSeq f) (Ne.symm hb)).trans hu) ⟨_,q⟩ ?_
 exact ⟨hz,its',_,hv,q⟩
theorem Inv.Jp {its:List Value} {t':Nat} (I:Inv X pins σ H s) (hv:Vals ys its) (hz:ys.length<=sizeLine) :
  Inv X pins σ (upd H s.heap.objs.size (.lst ys)) { s with heap:=s.heap.push { cls:=.type "list", data:=.seq its.toArray },toks:=t' } :=
 I.laid (fun _ _ q=>Heap.get?_push_of_some _ q) (Nat.le_refl _) ⟨hz,its,0,hv,Heap.get?_push_size _ rfl⟩
theorem Inv.fresh (I:Inv X pins σ H s):H s.heap.objs.size=none:=I.bx.fresh (Nat.le_refl _)
theorem Inv.B8 (I:Inv X pins σ H s) (hH:H l=some (.lst xs)):xs.length<=sizeLine/\∃ (its:List Value) (n:Nat),Vals xs its/\xs.length=its.length/\s.heap.get? l=some { cls:=.type "list", data:=.seq its.toArray n }:=by
 obtain ⟨z,its,n,r,e⟩:=I.bx l _ hH
 exact ⟨z,its,n,r,r.length,e⟩
theorem BS {n:Nat} (h:n<=sizeLine):Builtin.List.listTooLong n=false:=by
 unfold Builtin.List.listTooLong
 exact decide_eq_false (by omega)
end
section
variable {X:Cx}
def Ed:V->List V->Hp->VK->Prop:=fun x vs H Q=>∃ l xs y,x=.ref l/\vs=[y]/\H l=some (.lst xs)/\xs.length<sizeLine/\Q .cI (upd H l (.lst (xs++[y])))
theorem sy:UK X "list.append" Ed:=by
 intro pins s σ H x vs v us Q I rx rv h
 obtain ⟨l,xs,y,rfl,rfl,hH,hz,q⟩:=h
 cases rx
 obtain ⟨u,rfl,ru⟩:=rv.one
 obtain ⟨z,its,n,r,hl,e⟩:=I.B8 hH
 refine call_meets F.slot_list_append ⟨_,e,rfl⟩ F.entry_list_append (F.args_list_append_2 _ _) (PySem.list_append l its.toArray n u (by rw [List.size_toArray];omega)) ⟨e,?_⟩
 refine ⟨.cI,_,I.J7 (its':=its++[u]) hH e (by simp) (r.append (.cons ru .nil)) ?_,rfl,q⟩
 rw [List.length_append,List.length_singleton]
 omega
def HM:V->List V->Hp->VK->Prop:=fun x vs H Q=>∃ l xs,x=.ref l/\vs=[]/\H l=some (.lst xs)/\Q .cI (upd H l (.lst []))
theorem Ah:UK X "list.clear" HM:=by
 intro pins s σ H x vs v us Q I rx rv h
 obtain ⟨l,xs,rfl,rfl,hH,q⟩:=h
 cases rx
 have hus:=rv.zero
 subst hus
 obtain ⟨z,its,n,r,hl,e⟩:=I.B8 hH
 refine call_meets F.slot_list_clear ⟨_,e,rfl⟩ F.entry_list_clear (F.args_list_clear_1 _) (AutoSeq1.list_clear_list_0 l its.toArray n (by rw [List.size_toArray];omega)) ⟨e,?_⟩
 exact ⟨.cI,_,I.J7 (its':=[]) (ys:=[]) hH e rfl .nil (Nat.zero_le _),rfl,q⟩
def Jj:R2:=fun x y H Q=>∃ l b xs zs,x=.ref l/\y=.ref b/\H l=some (.lst xs)/\H b=some (.lst zs)/\xs.length+zs.length<=sizeLine/\∀ p,H p=none->Q (.ref p) (upd H p (.lst (xs++zs)))
theorem HA:gW X (binaryOp .Add) Jj:=by
 intro pins s σ H x y v u Q I rx ry h
 obtain ⟨l,b,xs,zs,rfl,rfl,hH,hB,hz,q⟩:=h
 cases rx
 cases ry
 obtain ⟨z,its,n,r,hl,e⟩:=I.B8 hH
 obtain ⟨z2,its2,n2,r2,hl2,e2⟩:=I.B8 hB
 refine PySem.P.add_list e e2 ?_ (by rw [List.size_toArray,List.size_toArray];omega)
 have ea:its.toArray++its2.toArray=(its++its2).toArray:=by simp
 rw [ea]
 exact ⟨.ref _,_,I.Jp (t':=s.toks) (r.append r2) (by rw [List.length_append];omega),rfl,q _ I.fresh⟩
def Ji:R2:=fun x y H Q=>∃ l k xs,x=.ref l/\y=.int k/\H l=some (.lst xs)/\-(2^63)<=k/\k<2^63/\xs.length*k.toNat<=sizeLine ∧
 ∀ p,H p=none->Q (.ref p) (upd H p (.lst (List.replicate k.toNat xs).flatten))
theorem len_rep {α:Type} (xs:List α) (k:Nat):(List.replicate k xs).flatten.length=k*xs.length:=by
 induction k with
 | zero=>simp
 | succ k ih=>rw [List.replicate_succ,List.flatten_cons,List.length_append,ih,Nat.succ_mul,Nat.add_comm]
theorem GN:gW X (binaryOp .Mult) Ji:=by
 intro pins s σ H x y v u Q I rx ry h
 obtain ⟨l,k,xs,rfl,rfl,hH,h1,h2,hz,q⟩:=h
 cases rx
 obtain ⟨t,rfl⟩:=ry
 obtain ⟨z,its,n,r,hl,e⟩:=I.B8 hH
 have hlen:its.toArray.size*k.toNat<=sizeLine:=by rw [List.size_toArray,← hl];exact hz
 have hcap:¬ its.toArray.size*k.toNat>(2^63-1)/8:=by
  have:(sizeLine:Nat)<=(2^63-1)/8:=by decide
  omega
 have hfit:¬ (!Builtin.List.listFitsIndex k)=true:=by
  rw [fitsIndex_both h1 h2]
  exact Bool.false_ne_true
 have hlong:¬ Builtin.List.listTooLong (its.toArray.size*k.toNat)=true:=by
  rw [BS hlen]
  exact Bool.false_ne_true
 have hnew:List.foldl (fun x1 x2=>x1++x2) #[] (List.replicate (if its.toArray.isEmpty=true then 0 else k.toNat) its.toArray)=(List.replicate k.toNat its).flatten.toArray:=by
  have f0:∀ m:Nat,List.foldl (fun x1 x2=>x1++x2) #[] (List.replicate m its.toArray)=(List.replicate m its).flatten.toArray:=fun m=>by
   have:=foldl_rep its m []
   rw [List.nil_append] at this
   exact this
  rw [f0]
  cases its with
  | nil=>simp
  | cons a r'=>rw [if_neg (by simp)]
 refine wpAny_binaryOp_repeat_ref (T := "list") (U := "int") (by decide) ⟨_,e,rfl⟩ (fun s'=>typeIs_int s' k t) noFill_list_mul F.fills_int_mul F.slot_int_rmul repeat_list F.slot_int_index.lookup
  (call_meets F.slot_int_rmul (typeIs_int s k t) F.entry_int_rmul (F.args_int_rmul_2 _ _) (int___rmul___int_list k t l its.toArray n)
   ⟨e,rfl,⟨_,e,rfl⟩,call_meets F.slot_list_mul ⟨_,e,rfl⟩ F.entry_list_mul (F.args_list_mul_2 _ _) (AutoListH.list___mul___list_int_3 l its.toArray n k t hfit hcap hlong) ⟨e,?_⟩⟩)
 rw [hnew]
 exact ⟨.ref _,_,I.Jp (t':=s.toks) (r.rep k.toNat) (by rw [len_rep,Nat.mul_comm];exact hz),rfl,q _ I.fresh⟩
end
section
variable {prog:Program} {w:World} {A:Around} {E:Value->Shared->Prop} {s:Shared}
end
section
variable {X:Cx}
end
end L2
namespace L2
open PySem PySem.Spec PyProof.Rows
section
variable {κ:Type} [DecidableEq κ]
end
section
variable {P:Program} {w:World} {H:Hp} {h:Heap} {a:Addr}
end
section
variable {X:Cx} {pins:List (Addr×Obj)} {σ:St} {H:Hp} {s:Shared} {a:Addr} {y v:V} {u r:Value} {o:Option V} {A:Around} {E:Value->Shared->Prop}
end
section
variable {X:Cx} {pins:List (Addr×Obj)} {σ:St} {H:Hp} {s:Shared} {a:Addr} {kvs:List (Key×V)} {k:Key} {u:Value} {A:Around} {E:Value->Shared->Prop}
end
section
variable {X:Cx} {o i e value:Expr} {pos pos' tpos:Pos} {td ty tv:TE}
end
section
variable {X:Cx} {pos:Pos}
end
section
variable {X:Cx} {pins:List (Addr×Obj)} {σ:St} {H:Hp} {s:Shared} {a:Addr} {y d:V} {u r:Value} {o:Option V} {A:Around} {E:Value->Shared->Prop}
end
section
variable {X:Cx} {o e f:Expr} {apos cpos:Pos} {td ty tx:TE}
end
section
variable {X:Cx} {pins:List (Addr×Obj)} {σ:St} {H:Hp} {s:Shared} {a:Addr} {kvs:List (Key×V)} {A:Around} {E:Value->Shared->Prop}
end
section
variable {X:Cx} {pins:List (Addr×Obj)} {σ:St} {H:Hp} {s:Shared} {a:Addr} {y:V} {u:Value} {A:Around} {E:Value->Shared->Prop}
end
end L2
namespace Att
open PySem PySem.W PySem.Calls PyProof.Rows
theorem oA {P:Params} {h:Heap}:∀ (ns:List Int) (vs:List Value),WellAll P h vs (ns.map WData.int)->IntsAre vs ns:=by
 intro ns
 induction ns with
 | nil =>
  intro vs w
  rw [List.map_nil] at w
  cases w
  exact .nil
 | cons n ns ih =>
  intro vs w
  rw [List.map_cons] at w
  cases w with
  | cons a b =>
   cases a
   exact .cons _ _ (ih _ b)
theorem yZ {l:OpenLaw} {n:Nat} (hn:l.most=some n) {P:Params} {h:Heap} {args:List WData} {vals:List Value}
  (yy:l.row.toRowW.claim.pre args=true) (hwl:WellAll P h vals args) :
  ∃ a vs ns,vals=[Value.ref a]/\args=[WData.list (ns.map WData.int)]/\h.get? a=some { cls:=.type "list", data:=.seq vs.toArray }/\IntsAre vs ns/\ns.length<=n:=by
 have hsh:WShape.hasAll [] args [.list .int]=true:=(pre_splitW yy).1
 have hc:l.pre.holds [] { args:=args }=true:=(pre_splitW yy).2
 obtain ⟨d,r,rfl,h1,h2⟩:=hasAllW_cons hsh
 obtain rfl:=hasAllW_nil h2
 obtain ⟨xs,rfl,h3⟩:=hasW_list h1
 obtain ⟨ns,rfl⟩:=items_int h3
 have hlen:ns.length<=n:=by
  unfold OpenLaw.pre at hc
  have h4:(WTm.not (.lt (.lit (.int (n:Int))) (.len (.arg 0)))).holds [] { args:=[.list (ns.map .int)] }=true:=by
   have h4:=(holds_andW hc).1
   rw [hn] at h4
   exact h4
  have h5:=condW_of h4 (w_not (w_lt w_lit (w_len_list (w_arg rfl))))
  rw [List.length_map] at h5
  refine Nat.le_of_not_lt fun q=>?_
  have q':(n:Int)<((ns.length:Nat):Int):=by omega
  first
   | (rw [decide_eq_true q'] at h5;exact absurd h5 (by decide))
   | (simp at h5;omega)
 cases hwl with
 | cons w1 w2 =>
  cases w2
  cases w1 with
  | list ho hall=>exact ⟨_,_,ns,rfl,rfl,ho,oA ns _ hall,hlen⟩
theorem zt (l:OpenLaw) (args:List WData):l.row.toRowW.claim.post args (.bool true) args=true :=
 postW_of (r:=l.row.toRowW) (X:=(true==true))
  (show WShape.has [] (.bool true) .bool=true by first | rfl | decide | simp [WShape.has,WShape.arms,WShape.armsAll])
  (show (WTm.eq .res (.lit (.bool true))).value [] { args:=args,res:=some (.bool true),after:=args }=some (.bool (true==true)) from w_eq_bool (w_res rfl) w_lit) rfl
section
variable {prog:Program} {w:World} {A:Around} {E:Value->Shared->Prop} {s:Shared} {K:Frag}
end
end Att
namespace L2
open PySem PySem.Spec PyProof.Rows
theorem rS:∀ {vs:List Value} {ns:List Int},IntsAre vs ns->Vals (ns.map V.int) vs
 | _,_,.nil=>.nil
 | _,_,.cons n t h=>.cons ⟨t,rfl⟩ (rS h)
def JT (H:Hp):Prop:=∀ b,H b=none\/∃ o xs,H b=some (.qU o (.lst xs))
theorem Ad {P:Program} {w:World} {K:PySem.W.Frag} {mg mb:Str->Option Value} {CX:DG} {k:Nat} {fa a:Addr} {fd:FuncData} {x:Str} {sp:Sp} {s₁:Shared} {vs:List Value} {ns:List Int}
  (KX:K.In s₁.heap) (hns:s₁.heap.Ns mainGlobals mg) (hb:s₁.heap.Ns builtinsNs mb) (hbb:∀ x:Str,x ≠ "__name__" -> mb x=bootBuiltins x) (hlim:s₁.heap.NoLimit) (hg:s₁.gens=#[])
  (ha:s₁.heap.get? a=some { cls:=.type "list", data:=.seq vs.toArray }) (hi:IntsAre vs ns) (hl:ns.length<=sizeLine) (hr:bR k callerA)
  (F:∀ base:Heap,K.In base->base.Ns mainGlobals mg->aN P w K mg base CX k fa fd [x] sp) (hbind:∀ (s:Shared) (u:Value),BindsTo s fd ⟨[u],[]⟩ [(x,u)])
  (hsp:∀ H:Hp,JT H->jg K H a (ns.map V.int)->sp [.ref a] H (fun v _=>v=.bl true) fun _ _ _=>False)
  (hCX:∀ H e s',CX [] H s₁ (fun _ _ _=>False) e s'->False) :
  codeAny (model P w) callerA (.call (.ref fa) ⟨[.ref a],[]⟩) (fun r s'=>r=.ok (.ret (.bool true))/\OldK s₁.heap s'.heap/\s'.os=s₁.os/\AllBare s'.gens) s₁:=by
 have rv:=rS hi
 have lenV:=hi.length
 have core:∀ H:Hp,JT H->jg K H a (ns.map V.int)->nJ P w H s₁.heap->(∀ b,H b≠none->b=a)->(H a≠none->K.lookup a=none) ->
   codeAny (model P w) callerA (.call (.ref fa) ⟨[.ref a],[]⟩) (fun r s'=>r=.ok (.ret (.bool true))/\OldK s₁.heap s'.heap/\s'.os=s₁.os/\AllBare s'.gens) s₁:=by
  intro H hO hS bx hA hK
  have base_of:∀ {b:Addr} {o:Obj},s₁.heap.get? b=some o->H b=none->(tX s₁.heap H).get? b=some o:=fun e n=>A8 e n
  have kc:∀ {b:Addr} {o:Obj} {es:Array DictEntry} {ep:Nat},s₁.heap.get? b=some o->o.data=.dict es ep->H b=none:=fun {b o es ep} e d=>by
   cases q:H b with
   | none=>rfl
   | some u =>
    have e':b=a:=hA b (by rw [q];simp)
    subst e'
    rw [ha] at e;cases e
    have d':Data.seq vs.toArray _=Data.dict es ep:=d
    cases d'
  have nsK:∀ {b:Addr} {m:Str->Option Value},s₁.heap.Ns b m->(tX s₁.heap H).Ns b m:=fun {b m} ⟨o,es,ep,e,d,r⟩=>⟨o,es,ep,base_of e (kc e d),d,r⟩
  have hKb:K.In (tX s₁.heap H):=fun b o e=>base_of (KX b o e) (by
   cases q:H b with
   | none=>rfl
   | some u =>
    have e':b=a:=hA b (by rw [q];simp)
    subst e'
    rw [hK (by rw [q];simp)] at e;cases e)
  have hM:Mod K mg (tX s₁.heap H):=⟨hKb,nsK hns,⟨mb,nsK hb,hbb⟩,let ⟨mc,h1,h2⟩:=hlim;⟨mc,nsK h1,h2⟩⟩
  have e0:wJ P w K mg (tX s₁.heap H) callerA [] s₁ H:=⟨rfl,hM,fun b o e=>Eo e,Nat.le_of_eq (yS _ _),trivial,fun b hb=>absurd (show b∈([]:List Addr) from hb) (by simp),bx,.of_eq hg⟩
  refine codeAny_mono ((F _ hKb (nsK hns)).run callerA [] s₁ H ⟨[.ref a],[]⟩ [.ref a] [.ref a] _ _ hr e0 (hbind s₁ (.ref a)) (.cons rfl .nil) (hsp H hO hS)) fun r s' h=>?_
  cases r with
  | error e=>exact (hCX H e s' h).elim
  | ok fl =>
   cases fl with
   | next=>exact False.elim h
   | brk=>exact False.elim h
   | cont=>exact False.elim h
   | ret u =>
    obtain ⟨v,H',os,bare,un,hok',r',q⟩:=h
    have q':v=.bl true:=q
    subst q'
    obtain rfl:u=Value.bool true:=r'
    refine ⟨rfl,OldK.of_keep fun b o e=>?_,os,bare⟩
    cases q:H b with
    | none=>exact un.keep b o e q (by intro z;exact absurd (show b∈([]:List Addr) from z) (by simp)) (by simp)
    | some u =>
     rcases hO b with z | ⟨ob,xs,z⟩
     ·rw [q] at z;cases z
     ·have z2:=un.mO b ob _ z
      obtain ⟨e1,_⟩:=bx b _ z
      obtain ⟨e2,_⟩:=hok' b _ z2
      rw [e] at e1;cases e1
      exact e2
 cases hk:K.lookup a with
 | some o =>
  have e:=KX a o hk
  rw [ha] at e
  cases e
  refine core (fun _=>none) (fun _=>.inl rfl) (.inr ⟨_,vs.toArray,_,hk,rfl,rfl,rfl,by rw [List.size_toArray,lenV];exact hl,by simpa using rv⟩) (fun b u z=>by have z':(none:Option HO)=some u:=z;cases z') (fun b z=>absurd rfl z) fun z=>absurd rfl z
 | none =>
  refine core (fun b=>if b=a then some (.qU { cls:=.type "list", data:=.seq vs.toArray } (.lst (ns.map V.int))) else none) (fun b=>?_) (.inl (.inr ⟨{ cls:=.type "list", data:=.seq vs.toArray },if_pos rfl⟩)) (fun b u z=>?_) (fun b z=>?_) fun _=>hk
  ·by_cases hb:b=a
   ·exact .inr ⟨_,_,if_pos hb⟩
   ·exact .inl (if_neg hb)
  ·by_cases hb:b=a
   ·have z':=(if_pos hb).symm.trans z
    cases z'
    subst hb
    exact ⟨ha,by rw [List.length_map];exact hl,vs,_,rv,ha⟩
   ·have z':=(if_neg hb).symm.trans z
    cases z'
  ·by_cases hb:b=a
   ·exact hb
   ·exact absurd (if_neg hb) z
end L2
namespace L2
open PySem PySem.Spec PyProof.Rows
end L2
namespace L2
open PySem PySem.Spec PyProof.Rows
def inClass (s:Stmt) (j:Nat):Stmt:=match s with
 | .ClassDef _ _ _ body _ _ _ _ _ _ _=>body.getD j (.Pass ⟨0,0,0,0⟩)
 | _=>.Pass ⟨0,0,0,0⟩
def aB (s:Stmt):Arguments:=match s with
 | .FunctionDef _ a _ _ _ _ _ _ _ _=>a
 | _=>{ posonlyargs:=[],args:=[],vararg:=none,kwonlyargs:=[],kw_defaults:=[],kwarg:=none,defaults:=[] }
def aA (s:Stmt):List Stmt:=match s with
 | .FunctionDef _ _ b _ _ _ _ _ _ _=>b
 | _=>[]
def ah (s:Stmt):Scope:=match s with
 | .FunctionDef _ _ _ _ _ _ sc _ _ _=>sc
 | _=>{ kind:=.function,names:=[],isGenerator:=false,isCoroutine:=false }
abbrev E0:XK:=fun _ _ _=>False
section
variable {P:Program} {w:World} {K:PySem.W.Frag} {mg:Str->Option Value} {base:Heap}
end
theorem mC {n:Nat} (h:n<=1000):n<sizeLine:=Nat.lt_of_le_of_lt h (by decide)
section
variable {X:Cx}
end
def aX (H H':Hp):Prop:=∀ b o,H b=some o->H' b=some o
end L2
namespace L2
open PySem PySem.Spec PyProof.Rows
section
variable {X:Cx}
def Cz (_ j:Int):Prop:=j≠0/\j.natAbs.log2<9000
theorem Bq:gW X (binaryOp .FloorDiv) (rI Cz fun i j=>.int (i.fdiv j)):=Ki fun _ _ _ _ _ _ _ hc q=>floordiv_int hc.1 q (.inl (PyProof.noPylong_of_log2 hc.2))
theorem Dp:gW X (binaryOp .Mult) (rI (fun i j=>IntMulOk i j) fun i j=>.int (i*j)):=Ki fun _ _ _ _ _ _ _ hc q=>mul_int q hc
theorem BV {a b:Int} {m n:Nat} (ha:a.natAbs<2^m) (hb:b.natAbs<2^n) (h:m+n<=134217728):IntMulOk a b:=IntMulOk.of_le (intBits_le_iff.mpr ha) (intBits_le_iff.mpr hb) h
theorem z9:bootBuiltins "isinstance" = some (.builtin "isinstance"):=by decide +kernel
theorem t6:bootBuiltins "int" = some (.type "int"):=by decide +kernel
theorem sT:bootBuiltins "bool" = some (.type "bool"):=by decide +kernel
theorem ik:bootBuiltins "tuple" = some (.type "tuple"):=by decide +kernel
theorem oC:bootBuiltins "list" = some (.type "list"):=by decide +kernel
def RG (K:PySem.W.Frag):List V->Hp->VK->Prop:=fun xs H Q=>∃ x T t b,xs=[x,.ty T]/\jT K H x t/\PySem.W.kitOne K t (.type T)=some b/\Q (.bl b) H
theorem B7:dJ X (.builtin "isinstance") (RG X.K):=by
 intro pins s σ H xs us Q I r h
 obtain ⟨x,T,t,b,rfl,ty,e,q⟩:=h
 cases r with
 | cons r1 r2 =>
  cases r2 with
  | cons r3 r4 =>
   cases r4
   cases (show _=Value.type T from r3)
   exact zk I r1 ty e fun tk=>⟨.bl b,H,I.tok tk,rfl,q⟩
end
section
variable (K:PySem.W.Frag)
end
section
variable {X:Cx}
theorem Inv.kq {pins:List (Addr×Obj)} {σ:St} {H:Hp} {s:Shared} {h':Heap} {t':Nat} {ch:List Addr} {a:Addr} {o:HO} (I:Inv X pins σ H s) (k:∀ b u,b ∉ ch->s.heap.get? b=some u->h'.get? b=some u)
  (hch:∀ b∈ch,n5 X pins H b) (hp:s.heap.objs.size<=a) (hl:∀ b∈ch,∃ u,s.heap.get? b=some u) (new:bT X.prog X.w (upd H a o) h' a o):Inv X pins σ (upd H a o) { s with heap:=h',toks:=t' }:=by
 have ne:∀ b u,s.heap.get? b=some u->b≠a:=fun b u e=>Nat.ne_of_lt (Nat.lt_of_lt_of_le (Heap.lt_size e) hp)
 have hfr:H a=none:=I.bx.fresh hp
 have nitH:∀ b u,H b=some u->b ∉ ch:=fun b u e z=>by rw [(hch b z).1] at e;cases e
 have nea:∀ b u,H b=some u->b≠a:=fun b u e z=>by rw [z,hfr] at e;cases e
 refine I.step (g':=s.gens) (d':=s.drawn) (ch:=ch) (fun b hb=>?_) (fun b u _ _ hc e _=>k b u hc e) (fun b u _ _ hc e _=>⟨u.slots,k b u hc e⟩)
  (fun b u _ e n=>by rw [au (ne b u e)];exact n) (fun b u hc e=>⟨u,k b u hc e⟩)
  (fun b xs e=>by rw [au (nea b _ e)];exact e) (fun b ob u e=>by rw [au (nea b _ e)];exact e) (fun b ps e=>⟨#[],by rw [au (nea b _ e),e];simp⟩) (fun m hm=>?_) (fun b u e=>?_) I.bare
 ·obtain ⟨_,f1,_,f3,f4,f5⟩:=hch b hb
  exact ⟨f3,f1,f4,f5⟩
 ·obtain ⟨ob,es,ep,ho,r⟩:=hm
  exact ⟨ob,es,ep,k _ ob (fun z=>(hch _ z).2.1 rfl) ho,r⟩
 ·by_cases z:b=a
  ·subst z
   rw [aC] at e
   cases e
   exact new
  ·rw [au z] at e
   refine (I.bx b u e).og (fun c v hc q=>k c v ?_ q) (fun c q=>?_) fun c ys q=>?_
   ·rcases hc with z' | z'
    ·rw [z'];exact nitH b u e
    ·exact nitH c _ z'
   ·rw [au (nea c _ q)];exact q
   ·rw [au (nea c _ q)];exact q
def Ho (K : PySem.W.Frag) (a : Addr) : It :=
  ⟨fun i H => ∃ xs x, jg K H a xs /\ xs[i]? = some x,
   fun i H y H' => ∃ p x, H p = none /\ y = .ref p /\ H' = upd H p (.tup [.int i, x]) /\ ∀ xs, jg K H a xs -> xs[i]? = some x,
   fun i H => ∃ xs, jg K H a xs /\ xs.length <= i⟩
theorem zu {P:Program} {w:World} {K:PySem.W.Frag} {elts:List Expr} {x1:Nat} {tp:Pos} (a e it:Addr) (hne:e≠it):Turn P w K (.Tuple elts x1 tp) (Ho K a) [e,it] e (fun i h=>(∃ old,IsEnum h e it i old)/\h.IsListIter it a i) where
 mem:=by simp
 obj:=fun i h st b hb=>by
  obtain ⟨⟨old,he⟩,⟨o,e1,c,d⟩⟩:=st
  rcases List.mem_cons.mp hb with z | z
  ·subst z
   exact ⟨_,he,fun v z=>by cases z⟩
  ·have z':b=it:=by simpa using z
   subst z'
   exact ⟨o,e1,fun v z=>by rw [d] at z;cases z⟩
 keep:=fun i h h' st k=>by
  obtain ⟨⟨old,he⟩,hit⟩:=st
  exact ⟨⟨old,k e (by simp) _ he⟩,hit.at fun o x=>k it (by simp) o x⟩
 item:=by
  intro X hP hw hK hc i pins s σ H E I hf st hg
  subst hP hw hK
  obtain ⟨xs,x,hq,hx⟩:=hg
  obtain ⟨its,rv,p,hz⟩:=I.list hq
  obtain ⟨u,hu,ru⟩:=rv.get hx
  obtain ⟨⟨old,he⟩,hit⟩:=st
  have helt:e<s.heap.objs.size:=Heap.lt_size he
  have hilt:it<s.heap.objs.size:=by obtain ⟨_,z,_⟩:=hit;exact Heap.lt_size z
  refine wpAny_pyNext_enum_item he hit p.isList (x:=u) (by simpa using hu) hne fun h' ho hit' hT hsz hk=>⟨_,rfl,?_⟩
  refine wpAny_letOwnedTupleGo_enum (s:={ s with heap:=h',toks:=s.toks+1 }) ho fun h2 he2 hs2=>?_
  have keep2:∀ b o,b ∉ [e,it]->s.heap.get? b=some o->h2.get? b=some o:=fun b o hb q=>by
   have n1:b≠e:=fun z=>hb (by simp [z])
   have n2:b≠it:=fun z=>hb (by simp [z])
   exact (hs2.2 b n1).trans (hk b o n1 n2 q)
  have hT2:h2.get? s.heap.objs.size=some { cls:=.type "tuple", data:=.seq #[.int i s.toks,u] }:=(hs2.2 _ (Nat.ne_of_gt helt)).trans hT
  have I2:Inv X pins σ (upd H s.heap.objs.size (.tup [.int i,x])) { s with heap:=h2,toks:=s.toks+1 } :=
   I.kq (ch:=[e,it]) keep2 hf (Nat.le_refl _) (fun b hb=>by
    rcases List.mem_cons.mp hb with z | z
    ·subst z;exact ⟨_,he⟩
    ·have z':b=it:=by simpa using z
     subst z'
     obtain ⟨o,z,_⟩:=hit
     exact ⟨o,z⟩)
    ⟨by show 2<=sizeLine;decide,[.int i s.toks,u],.cons ⟨_,rfl⟩ (.cons ru .nil),⟨_,hT2,rfl,_,rfl⟩⟩
  have hnew:H s.heap.objs.size=none:=I.bx.fresh (Nat.le_refl _)
  refine ⟨.ref s.heap.objs.size,_,I2,rfl,⟨_,x,hnew,rfl,rfl,fun ys hy=>by rw [I.pY hy hq];exact hx⟩,⟨⟨u,by simpa using he2⟩,hit'.at fun o z=>(hs2.2 it (Ne.symm hne)).trans z⟩,fun b hb=>?_⟩
  have nb:b≠s.heap.objs.size:=by
   rcases List.mem_cons.mp hb with z | z
   ·rw [z];exact Nat.ne_of_lt helt
   ·have z':b=it:=by simpa using z
    rw [z'];exact Nat.ne_of_lt hilt
  rw [au nb]
  exact (hf b hb).1
 done:=by
  intro X hP hw hK hc i pins s σ H E I hf st hg
  subst hP hw hK
  obtain ⟨xs,hq,hx⟩:=hg
  obtain ⟨its,rv,p,hz⟩:=I.list hq
  have hl:=rv.length
  obtain ⟨⟨old,he⟩,hit⟩:=st
  obtain ⟨f0,f1,f2,f3,f4,f5⟩:=hf it (by simp)
  exact wpAny_pyNext_enum_end (I.ok.hd hc) he hit p.isList (by simp;omega) fun h' eb=>⟨rfl,I.turned (t':=s.toks) (fun b o hb e=>eb b o hb e) f0 f1 f3 f4 f5⟩
 self:=fun _ _ _ _ _ st h=>by
  obtain ⟨⟨old,he⟩,_⟩:=st
  exact wpAny_pyIter_enum he h
end
end L2
namespace L2
open PySem PySem.Spec PyProof.Rows
section
variable {prog:Program} {w:World} {A:Around} {R:Result->Shared->Prop} {s:Shared}
theorem zB {elt target iter:Expr} {ifs:List Expr} {scope:Scope} {pos:Pos} {it acc:Value} {env:Env} (I:Nat->Shared->Prop)
  (turn:∀ n s,I n s->wpAny (model prog w) A (pyNext it) (fun r s₁=>match r with
   | none=>R (.ok .next) s₁
   | some v=>wpAny (model prog w) A (letOwnedTupleGo target it v) (fun _ s₂=>wpAny (model prog w) A (assign target env v) (fun _ s₃ =>
     wpAny (model prog w) A (forIn ifs true fun c r=>if r=true then do let ok ← isTrue c env (eval c env);pure (ForInStep.yield ok) else pure (ForInStep.yield r)) (fun ok s₄ =>
      if ok=true then wpAny (model prog w) A (eval elt env) (fun x s₅ =>
       wpAny (model prog w) A (call (.builtin "list.append") [acc,x]) (fun _ s₆=>∃ m,m<n/\I m s₆) (fun _ _=>False) s₅) (fun _ _=>False) s₄
      else ∃ m,m<n/\I m s₄) (fun _ _=>False) s₃) (fun _ _=>False) s₂) (fun _ _=>False) s₁) (fun _ _=>False) s)
  (n:Nat) (h:I n s) :
  codeAny (model prog w) A (.compLoop (.ListComp elt [⟨target,iter,ifs,0⟩] scope pos) 0 it acc env) R s:=by
 refine codeAny_loop rfl I (fun n s hI=>?_) n h
 show wpAny _ A ((compTurn (.ListComp elt [⟨target,iter,ifs,0⟩] scope pos) 0 it acc env).onRaise (fun x=>do noteFrame x env;theTreesLotGoes x)) _ _ s
 refine wpAny_noted ?_
 rw [compTurn_list]
 refine wpAny_bind (wpAny_standAt (wpAny_bind (wpAny_mono (turn n s hI) (fun r s₁ h₁=>?_) fun _ _ h'=>h'.elim)))
 cases r with
 | none=>exact wpAny_pure h₁
 | some v =>
  refine wpAny_bind (wpAny_mono h₁ (fun _ s₂ h₂=>wpAny_bind (wpAny_mono h₂ (fun _ s₃ h₃=>wpAny_bind (wpAny_mono h₃ (fun ok s₄ h₄=>?_) fun _ _ h'=>h'.elim)) fun _ _ h'=>h'.elim)) fun _ _ h'=>h'.elim)
  cases ok with
  | false=>exact wpAny_pure ⟨rfl,h₄⟩
  | true =>
   exact wpAny_bind (wpAny_bind (wpAny_mono h₄ (fun x s₅ h₅=>wpAny_bind (wpAny_mono h₅ (fun _ s₆ h₆=>wpAny_pure (wpAny_pure ⟨rfl,h₆⟩)) fun _ _ h'=>h'.elim)) fun _ _ h'=>h'.elim))
end
def C8 (X:Cx) (scope:Scope) (cl:List (Str×Addr)) (N:List Str) (C:Addr) (s₀:Shared) (H₀:Hp) (ex:List Addr) (pins:List (Addr×Obj)):Cx :=
 { X with N:=N,s₀:=s₀,H₀:=H₀,env:=compEnvC scope cl C X.env,outer:=X.stack,stack:=X.stack,ex:=ex,fn:=fun _=>false,pn:=X.pn++pins,xe:=fun _ _=>False }
inductive nV (X:Cx) (sc:Scope) (cl:List (Str×Addr)):List Str->List Nat->Prop where
 | nil:nV X sc cl [] []
 | cons {x:Str} {j:Nat} {c:Addr} {fs:List Str} {js:List Nat} (hN:X.N[j]?=some x) (hf:sc.names.lookup x=some .free) (hv:X.env.kindOf x=some .cell\/X.env.kindOf x=some .free) (hc:X.env.cells.lookup x=some c) (hl:cl.lookup x=some c) (r:nV X sc cl fs js):nV X sc cl (x::fs) (j::js)
inductive jt (X:Cx):List (Str×Addr)->Prop where
 | nil:jt X []
 | cons {x:Str} {c:Addr} {r:List (Str×Addr)} (h:X.env.cells.lookup x=some c) (t:jt X r):jt X ((x,c)::r)
theorem jt.at {X:Cx}:∀ {cl:List (Str×Addr)},jt X cl->∀ x c,cl.lookup x=some c->X.env.cells.lookup x=some c
 | _,.nil,_,_,e=>by simp at e
 | _,.cons (x:=y) (c:=d) h t,x,c,e=>by
  rw [List.lookup_cons] at e
  cases q:x==y with
  | true =>
   rw [q] at e
   have e':d=c:=Option.some.inj e
   have q':x=y:=by simpa using q
   rw [q',← e'];exact h
  | false =>
   rw [q] at e
   exact jt.at t x c e
def sM (cl:List (Str×Addr)) (names:List (Str×NameKind)):Bool:=names.all fun y=>y.2 != .free||(cl.lookup y.1).isSome
def lq (names:List (Str×NameKind)):Bool:=names.all fun y=>y.2 != .cell
def tP (names:List (Str×NameKind)):Bool:=names.all fun y=>y.2 != .local||(names.lookup y.1==some .local)
def gS (ts:List Str) (js:List Nat) (σ:St):St:=ts.map (fun _=>none)++js.map fun j=>(σ[j]?).join
def Il (wi:TI) (g:TG) (tt:Option TT) (te:TE) (ts:List Str) (js:List Nat):TE:=fun σ H Q=>wi σ H fun J H1=>∀ D,H1 D=none ->
 ∃ W:Nat->Nat->St->Hp->Prop,(∃ m,W 0 m (gS ts js σ) (upd H1 D (.lst [])))/\∀ i m σ' H',W i m σ' H' ->
  (J.stop i H'/\Q (.ref D) H')\/(J.go i H'/\∃ N:St->Hp->Prop,(∀ σ'' H'',N σ'' H''->∃ m',m'<m/\W (i+1) m' σ'' H'') ∧
   ∀ x H2,J.xa i H' x H2->g x σ' H2 fun σ2 H3=>match tt with
    | none=>te σ2 H3 fun y H4=>∃ ys,H4 D=some (.lst ys)/\ys.length<sizeLine/\N σ2 (upd H4 D (.lst (ys++[y])))
    | some t=>t σ2 H3 fun b H3'=>if b=true then te σ2 H3' fun y H4=>∃ ys,H4 D=some (.lst ys)/\ys.length<sizeLine/\N σ2 (upd H4 D (.lst (ys++[y]))) else N σ2 H3')
theorem p_ {scope : Scope} {cl : List (Str × Addr)} {C : Addr} {env : Env} {x : Str} (h : (compEnvC scope cl C env).kindOf x = some .cell \/ (compEnvC scope cl C env).kindOf x = some .free) (nc : lq scope.names = true) : scope.names.lookup x = some .free := by
  have key : ∀ (names : List (Str × NameKind)), lq names = true ->
      ((names.map fun (n, k) => if (k == NameKind.free && env.scope.kind == .function && env.kindOf n == some .cell) then (n, NameKind.cell) else (n, k)).lookup x = some .cell ∨
       (names.map fun (n, k) => if (k == NameKind.free && env.scope.kind == .function && env.kindOf n == some .cell) then (n, NameKind.cell) else (n, k)).lookup x = some .free) -> names.lookup x = some .free := by
    intro names
    induction names with
    | nil => intro _ h; simp at h
    | cons p r ih =>
      obtain ⟨n, k⟩ := p
      intro nc h
      have nc' : (k != .cell) = true /\ lq r = true := by
        unfold lq at nc
        rw [List.all_cons, Bool.and_eq_true] at nc
        exact nc
      rw [List.map_cons] at h
      dsimp only at h
      by_cases hc : (k == NameKind.free && env.scope.kind == .function && env.kindOf n == some .cell) = true
      · rw [if_pos hc] at h
        rw [List.lookup_cons] at h ⊢
        cases q : x == n with
        | true =>
          have : k = .free := by
            rw [Bool.and_eq_true, Bool.and_eq_true] at hc
            simpa using hc.1.1
          rw [this]
        | false =>
          rw [q] at h
          exact ih nc'.2 h
      · rw [if_neg hc] at h
        rw [List.lookup_cons] at h ⊢
        cases q : x == n with
        | true =>
          rw [q] at h
          have nk : k ≠ .cell := by simpa using nc'.1
          rcases h with h | h
          · exact absurd (Option.some.inj h) nk
          · exact h
        | false =>
          rw [q] at h
          exact ih nc'.2 h
  exact key scope.names nc h
theorem C1 {X : Cx} {tg elt iter : Expr} {ifs : List Expr} {scope : Scope} {cl : List (Str × Addr)} {pos : Pos} {wi : TI} {g : TG} {tt : Option TT} {te : TE} {ts fs : List Str} {js : List Nat} (hcalm : X.calm = true)
    (hclos : closureFor scope X.env = pure cl) (hk : scope.kind = .function) (nc : lq scope.names = true) (lo : tP scope.names = true) (fh : sM cl scope.names = true) (ag : jt X cl) (fr : nV X scope cl fs js)
    (hi : PI X tg iter wi) (hg : ∀ C s₀ H₀ ex pins, PG (C8 X scope cl (ts ++ fs) C s₀ H₀ ex pins) tg g)
    (ht : ∀ C s₀ H₀ ex pins, match ifs, tt with | [], none => True | [c], some t => PT (C8 X scope cl (ts ++ fs) C s₀ H₀ ex pins) c t | _, _ => False)
    (he : ∀ C s₀ H₀ ex pins, PE (C8 X scope cl (ts ++ fs) C s₀ H₀ ex pins) elt te)
    (hs : ∀ x, foldedSetIterable iter X.env x = pure x := by intro _; rfl) :
    PE X (.ListComp elt [⟨tg, iter, ifs, 0⟩] scope pos) (Il wi g tt te ts js) := by
  intro pins s σ H Q I h
  rw [eval_ListComp]
  have hcell : ∀ y ∈ scope.names, y.2 ≠ .cell := fun y hy => by
    have := List.all_eq_true.mp nc y hy
    simpa using this
  have hnames : ∀ y ∈ scope.names, y.2 = .local -> scope.names.lookup y.1 = some .local := fun y hy hl => by
    have := List.all_eq_true.mp lo y hy
    rw [hl] at this
    simpa using this
  refine wpAny_comprehension_free (use := none) rfl hs hclos hk hnames (cG (hi pins s σ H _ I h) fun v s1 h1 => cG h1 fun itv s2 h2 => ?_)
  obtain ⟨it, fp, tn, J, H1, e, I2, T, st2, f2, hJ⟩ := h2
  subst e
  refine wpAny_newObj_type (wpAny_newFunctionEnv hcell (by intro y hy; simp at hy) (fun h₁ hns₁ hsb₁ => ?_) hk)
  dsimp only at hns₁ hsb₁ ⊢
  generalize hH2 : s2.heap.push { cls := .type "list", dict := none, data := .seq ([] : List Value).toArray } = G at hns₁ hsb₁ ⊢
  have hC : G.objs.size = s2.heap.objs.size + 1 := by rw [← hH2, Heap.size_push]
  have old : ∀ b o, s2.heap.get? b = some o -> h₁.get? b = some o := fun b o e => by
    have hb := Heap.lt_size e
    refine hsb₁.extBut b o (Nat.ne_of_lt (Nat.lt_of_lt_of_le hb (Nat.le_of_lt (by rw [hC]; exact Nat.lt_succ_self _)))) (Heap.get?_push_of_some _ ?_)
    rw [← hH2]
    exact Heap.get?_push_of_some _ e
  have hacc : h₁.get? s2.heap.objs.size = some { cls := .type "list", dict := none, data := .seq #[] } := by
    refine hsb₁.extBut _ _ (Nat.ne_of_lt (by rw [hC]; exact Nat.lt_succ_self _)) (Heap.get?_push_of_some _ ?_)
    rw [← hH2]
    exact Heap.get?_push_size _ rfl
  have nD : H1 s2.heap.objs.size = none := I2.bx.fresh (Nat.le_refl _)
  have nC : H1 G.objs.size = none := I2.bx.fresh (by omega)
  obtain ⟨W, ⟨m0, w0⟩, turn⟩ := hJ _ nD
  have hfpS : ∀ b ∈ fp, b < s2.heap.objs.size := fun b hb => by
    obtain ⟨o, e, _⟩ := T.obj _ _ st2 b hb
    exact Heap.lt_size e
  have ltk : ∀ (x : Str) (c : Addr), cl.lookup x = some c -> c < s2.heap.objs.size /\ H1 c = none /\ (∃ v, s2.heap.IsCell c v) := fun x c e => by
    have e' := ag.at x c e
    obtain ⟨v, q⟩ := I2.cell x c e'
    exact ⟨q.lt, I2.kR x c e', v, q⟩
  let X' := C8 X scope cl (ts ++ fs) G.objs.size s2 H1 fp pins
  have okX : X'.Ok := by
    refine ⟨I2.ok.mod, hk, I2.ok.glob, I2.ok.blt, by show s2.heap.objs.size <= G.objs.size; omega, fun x y c e1 e2 => I2.ok.inj x y c (ag.at x c e1) (ag.at y c e2), fun x hx => ?_, fun x c hf _ => (nomatch (show (false : Bool) = true from hf)), I2.ok.hd, I2.ok.frames, .inl rfl, fun b hb => ⟨?_, fun x c e z => ?_⟩, fun b o e => I2.bs b o e, Nat.le_trans I2.ok.EL I2.sz, fun b o e hb => ?_, fun b hb hz => ?_, I2.stack, fun b hb => I2.t8 b hb⟩
    · have hfree := p_ (env := X.env) hx nc
      have hm : ∃ y ∈ scope.names, y.1 = x /\ y.2 = .free := by
        have : ∀ (l : List (Str × NameKind)), l.lookup x = some .free -> ∃ y ∈ l, y.1 = x /\ y.2 = .free := by
          intro l
          induction l with
          | nil => intro h; simp at h
          | cons p r ih =>
            intro h
            rw [List.lookup_cons] at h
            cases q : x == p.1 with
            | true =>
              rw [q] at h
              exact ⟨p, List.mem_cons_self, (by simpa using q : x = p.1).symm, Option.some.inj h⟩
            | false =>
              rw [q] at h
              obtain ⟨y, hy, r1, r2⟩ := ih h
              exact ⟨y, List.mem_cons_of_mem _ hy, r1, r2⟩
        exact this _ hfree
      obtain ⟨y, hy, r1, r2⟩ := hm
      have := List.all_eq_true.mp fh y hy
      rw [r2] at this
      have h' : (cl.lookup y.1).isSome = true := by simpa using this
      rw [r1] at h'
      exact Option.isSome_iff_exists.mp h'
    · exact Nat.ne_of_lt (Nat.lt_of_lt_of_le (hfpS b hb) (by show s2.heap.objs.size <= G.objs.size; omega))
    · exact (f2 b hb).2.2.2.2.1 x c (ag.at x c e) z
    · obtain ⟨_, _, _, f3, _, _⟩ := f2 b hb
      rcases f3 with z | z
      · exact I2.ok.yE b o e z
      · exact absurd (Nat.lt_of_lt_of_le (Heap.lt_size (I2.ok.bs b o e).1) z) (Nat.lt_irrefl _)
    · rcases List.mem_cons.mp (I2.tU b hz) with z | z
      · exact (f2 b hb).2.1 z
      · exact (f2 b hb).2.2.1 z
  have keepB : ∀ b o, s2.heap.get? b = some o -> h₁.get? b = some o := old
  have I3 : Inv X' [] (gS ts js σ) (upd H1 s2.heap.objs.size (.lst [])) { s2 with heap := h₁, toks := s2.toks + ([] : List (Str × Value)).length } := by
    have neD : ∀ b o, s2.heap.get? b = some o -> b ≠ s2.heap.objs.size := fun b o e => Nat.ne_of_lt (Heap.lt_size e)
    refine ⟨okX, rfl, I2.bare, ⟨fun b o e n hb hx => old b o e, fun b o e n hb hx => ⟨o.slots, old b o e⟩, fun b o e n hx => by rw [au (neD b o e)]; exact n, fun b o e hx => ⟨o, old b o e⟩, fun b xs e => ?_, fun b o u e => ?_, fun b ps e => ?_⟩, ⟨_, hns₁, fun i x v e1 e2 e3 => ?_⟩, fun x c e => ?_, ?_, fun x c e => ?_, fun p hp => ?_, ?_, ?_⟩
    · rw [au (bF e nD)]; exact e
    · rw [au (bF e nD)]; exact e
    · exact ⟨#[], by rw [au (bF e nD)]; exact Eq.trans e (by simp)⟩
    ·
      have hlen : (ts.map (fun _ => (none : Option V))).length = ts.length := List.length_map _
      unfold gS at e2
      by_cases hlt : i < ts.length
      · rw [List.getElem?_append_left (by rw [hlen]; exact hlt), List.getElem?_map] at e2
        cases q : ts[i]? <;> rw [q] at e2 <;> cases e2
      · rw [List.getElem?_append_right (by rw [hlen]; omega), hlen] at e2
        have e1' : fs[i - ts.length]? = some x := by
          have e1' : (ts ++ fs)[i]? = some x := e1
          rw [List.getElem?_append_right (by omega)] at e1'
          exact e1'
        have all : ∀ {fs : List Str} {js : List Nat}, nV X scope cl fs js -> ∀ k : Nat, fs[k]? = some x -> (js.map fun j => (σ[j]?).join)[k]? = some (some v) ->
            ∃ (j : Nat) (c : Addr), X.N[j]? = some x /\ σ[j]? = some (some v) /\ (X.env.kindOf x = some .cell \/ X.env.kindOf x = some .free) /\ X.env.cells.lookup x = some c /\ cl.lookup x = some c /\ scope.names.lookup x = some .free := by
          intro fs js r
          induction r with
          | nil => intro k e; simp at e
          | @cons y j c fs js hN hf hv hc hl r ih =>
            intro k e e'
            cases k with
            | zero =>
              have e0 : y = x := by simpa using e
              subst e0
              have e0' : (σ[j]?).join = some v := by simpa using e'
              refine ⟨j, c, hN, ?_, hv, hc, hl, hf⟩
              cases q : σ[j]? with
              | none => rw [q] at e0'; cases e0'
              | some z => rw [q] at e0'; cases z with
                | none => cases e0'
                | some z => have : z = v := by simpa using e0'
                            rw [this]
            | succ k => exact ih k (by simpa using e) (by simpa using e')
        obtain ⟨j, c, q1, q2, q3, q4, q5, q6⟩ := all fr (i - ts.length) e1' e2
        obtain ⟨m, hn, hl⟩ := I2.loc
        have vis : DF X.env.scope x := by
          rcases q3 with z | z
          · exact .inr (.inl z)
          · exact .inr (.inr z)
        obtain ⟨u, ru, lk⟩ := hl j x v q1 q2 vis
        refine ⟨u, ru, .inr ⟨?_, c, q5, ?_⟩⟩
        · rcases e3 with z | z | z
          · exfalso
            have key : ∀ (l : List (Str × NameKind)), (l.map fun (n, k) => if (k == NameKind.free && X.env.scope.kind == .function && X.env.kindOf n == some .cell) then (n, NameKind.cell) else (n, k)).lookup x = some .local -> l.lookup x = some .local := by
              intro l
              induction l with
              | nil => intro h; simp at h
              | cons p r ih =>
                obtain ⟨n, k⟩ := p
                intro h
                rw [List.map_cons] at h
                dsimp only at h
                by_cases hc : (k == NameKind.free && X.env.scope.kind == .function && X.env.kindOf n == some .cell) = true
                · rw [if_pos hc] at h
                  rw [List.lookup_cons] at h ⊢
                  cases q : x == n with
                  | true => rw [q] at h; cases h
                  | false => rw [q] at h; exact ih h
                · rw [if_neg hc] at h
                  rw [List.lookup_cons] at h ⊢
                  cases q : x == n with
                  | true => rw [q] at h; exact h
                  | false => rw [q] at h; exact ih h
            have := key _ z
            rw [q6] at this
            cases this
          · exact .inl z
          · exact .inr z
        · rcases lk with ⟨k, _⟩ | ⟨_, c', e4, z⟩
          · rcases q3 with z | z <;> rw [z] at k <;> cases k
          · rw [q4] at e4
            cases e4
            obtain ⟨o, ho, hd⟩ := z
            exact ⟨o, old c o ho, hd⟩
    · obtain ⟨_, _, v, o, ho, hd⟩ := ltk x c e
      exact ⟨v, o, old c o ho, hd⟩
    · show upd H1 s2.heap.objs.size (.lst []) G.objs.size = none
      rw [au (Nat.ne_of_gt (by rw [hC]; exact Nat.lt_succ_self _))]; exact nC
    · obtain ⟨q1, q2, _⟩ := ltk x c e
      rw [au (Nat.ne_of_lt q1)]; exact q2
    · have hp' : p ∈ X.pn ++ pins := by
        have : p ∈ (X.pn ++ pins) ++ [] := hp
        rwa [List.append_nil] at this
      obtain ⟨e, n, ne, nf, d⟩ := I2.pin p hp'
      have hlt := Heap.lt_size e
      refine ⟨old _ _ e, by rw [au (Nat.ne_of_lt hlt)]; exact n, ?_, fun hz => ?_, d⟩
      · show p.1 ≠ G.objs.size
        exact Nat.ne_of_lt (Nat.lt_trans hlt (by rw [hC]; exact Nat.lt_succ_self _))
      · rcases List.mem_cons.mp (I2.tU _ hz) with z | z
        · exact ne z
        · exact nf z
    · exact I2.bx.laid old (Nat.le_refl _) ⟨Nat.zero_le _, [], 0, .nil, hacc⟩
    · show (gS ts js σ).length = (ts ++ fs).length
      have frl : ∀ {fs : List Str} {js : List Nat}, nV X scope cl fs js -> fs.length = js.length := by
        intro fs js r
        induction r with
        | nil => rfl
        | cons _ _ _ _ _ _ ih => rw [List.length_cons, List.length_cons, ih]
      unfold gS
      rw [List.length_append, List.length_append, List.length_map, List.length_map, frl fr]
  have stat : ∀ {H' : Hp}, (∀ b ∈ fp, H' b = none) -> ∀ b ∈ fp, n5 X' [] H' b := fun {H'} hn b hb => by
    obtain ⟨_, f1, f3, _, f4, f5⟩ := f2 b hb
    refine ⟨hn b hb, okX.LY b hb |>.1, okX.AZ b hb, .inl hb, fun x c e => f4 x c (ag.at x c e), fun p hp => f5 p ?_⟩
    have : p ∈ (X.pn ++ pins) ++ [] := hp
    rwa [List.append_nil] at this
  have fin : ∀ {σ' : St} {H' : Hp} {s' : Shared}, Inv X' [] σ' H' s' -> Q (.ref s2.heap.objs.size) H' ->
      compPost (model X.prog X.w) X.A X.xe none (EP X pins σ Q) (.ref s2.heap.objs.size) G.objs.size (.ok .next) s' := by
    intro σ' H' s' I4 q
    obtain ⟨m, hn, _⟩ := I4.loc
    refine ⟨m, hn, fun h' hs' => ⟨.ref s2.heap.objs.size, H', ?_, rfl, q⟩⟩
    have neC : ∀ b o, s2.heap.get? b = some o -> b ≠ G.objs.size := fun b o e => Nat.ne_of_lt (Nat.lt_trans (Heap.lt_size e) (by rw [hC]; exact Nat.lt_succ_self _))
    have fC : H' G.objs.size = none := I4.free
    refine I2.EY (s' := { s' with heap := h' }) (ch := fp) I4.os ⟨fun b o e n hb hx => ?_, fun b o e n hb hx => ?_, fun b o e n hx => I4.base.free b o e n hx, fun b o e hx => ?_, I4.base.uS, I4.base.mO, I4.base.ui⟩ (fun b u e => ?_) I4.bare fun b hb => ?_
    · exact (hs'.2 b (neC b o e)).trans (I4.base.keep b o e n hb hx)
    · obtain ⟨sl, e1⟩ := I4.base.slot b o e n hb hx
      exact ⟨sl, (hs'.2 b (neC b o e)).trans e1⟩
    · obtain ⟨o', e1⟩ := I4.base.there b o e hx
      exact ⟨o', (hs'.2 b (neC b o e)).trans e1⟩
    · refine (I4.bx b u e).og (fun c v hc q => (hs'.2 c ?_).trans q) (fun _ q => q) fun _ _ q => q
      rcases hc with z | z
      · rw [z]; exact bF e fC
      · exact bF z fC
    · obtain ⟨_, f1, _, f3, f4, f5⟩ := f2 b hb
      exact ⟨f3, f1, f4, f5⟩
  have loop : ∀ s3 : Shared, s3 = { s2 with heap := h₁, toks := s2.toks + ([] : List (Str × Value)).length } ->
      codeAny (model X.prog X.w) X.A (.compLoop (.ListComp elt [⟨tg, iter, ifs, 0⟩] scope pos) 0 (.ref it) (.ref s2.heap.objs.size) (compEnvC scope cl G.objs.size X.env))
        (compPost (model X.prog X.w) X.A X.xe none (EP X pins σ Q) (.ref s2.heap.objs.size) G.objs.size) s3 := by
    rintro s3 rfl
    refine zB (fun n s' => ∃ i σ' H', Inv X' [] σ' H' s' /\ tn i s'.heap /\ (∀ b ∈ fp, H' b = none) /\ W i n σ' H') ?_ m0 ⟨0, _, _, I3, T.keep _ _ _ st2 fun b _ o e => old b o e, fun b hb => ?_, w0⟩
    · rintro n s3 ⟨i, σ3, H3, I3, st3, fr3, w3⟩
      rcases turn i n σ3 H3 w3 with ⟨stop, qn⟩ | ⟨go, N, hN, step⟩
      · refine cG (T.done X' rfl rfl rfl hcalm i [] s3 σ3 H3 _ I3 (stat fr3) st3 stop) fun r s4 ⟨hr, I4⟩ => ?_
        subst hr
        exact fin I4 qn
      · refine cG (T.item X' rfl rfl rfl hcalm i [] s3 σ3 H3 _ I3 (stat fr3) st3 go) fun r s4 ⟨u, hr, h4⟩ => ?_
        subst hr
        refine cG h4 fun _ s5 ⟨x, H5, I5, r5, y5, st5, fr5⟩ => ?_
        have I5' := I5.pinned (stat fr5) (T.obj _ _ st5)
        refine cG (hg _ _ _ _ _ _ s5 σ3 H5 x u _ I5' r5 (step x H5 y5)) fun _ s6 ⟨σ6, H6, I6, q6⟩ => ?_
        have again : ∀ {σ7 : St} {H7 : Hp} {s7 : Shared}, Inv X' ([] ++ mM fp s5.heap) σ7 H7 s7 -> N σ7 H7 -> ∃ m, m < n /\ ∃ i σ' H', Inv X' [] σ' H' s7 /\ tn i s7.heap /\ (∀ b ∈ fp, H' b = none) /\ W i m σ' H' := fun {σ7 H7 s7} I7 n7 => by
          obtain ⟨m', hm, w7⟩ := hN σ7 H7 n7
          refine ⟨m', hm, i + 1, σ7, H7, I7.lU, T.keep _ _ _ st5 fun b hb o e => (I7.pin (b, o) (List.mem_append_right _ (List.mem_append_right _ (jB hb e)))).1, fun b hb => ?_, w7⟩
          obtain ⟨o, e, d⟩ := T.obj _ _ st5 b hb
          exact (I7.pin (b, o) (List.mem_append_right _ (List.mem_append_right _ (jB hb e)))).2.1
        have tail : ∀ {H7 : Hp} {s7 : Shared}, Inv X' ([] ++ mM fp s5.heap) σ6 H7 s7 -> (te σ6 H7 fun y H4 => ∃ ys, H4 s2.heap.objs.size = some (.lst ys) /\ ys.length < sizeLine /\ N σ6 (upd H4 s2.heap.objs.size (.lst (ys ++ [y])))) ->
            wpAny (model X.prog X.w) X.A (eval elt (compEnvC scope cl G.objs.size X.env)) (fun x s₅ => wpAny (model X.prog X.w) X.A (call (.builtin "list.append") [.ref s2.heap.objs.size, x])
              (fun _ s₆ => ∃ m, m < n /\ ∃ i σ' H', Inv X' [] σ' H' s₆ /\ tn i s₆.heap /\ (∀ b ∈ fp, H' b = none) /\ W i m σ' H') (fun _ _ => False) s₅) (fun _ _ => False) s7 := by
          intro H7 s7 I7 q7
          refine cG (he _ _ _ _ _ _ s7 σ6 H7 _ I7 q7) fun uy s8 ⟨y, H8, I8, ry, ys, hy, hl, q8⟩ => ?_
          refine cG (sy (X := X') _ s8 σ6 H8 (.ref s2.heap.objs.size) [y] (.ref s2.heap.objs.size) [uy] (fun _ H9 => N σ6 H9) I8 rfl (.cons ry .nil) ⟨_, ys, y, rfl, rfl, hy, hl, q8⟩) fun _ s9 ⟨_, H9, I9, _, q9⟩ => ?_
          exact again I9 q9
        cases ifs with
        | nil =>
          cases tt with
          | none => exact wpAny_tests_nil (tail I6 q6)
          | some t => exact (ht 0 s2 H1 [] []).elim
        | cons c r =>
          cases r with
          | nil =>
            cases tt with
            | none => exact (ht 0 s2 H1 [] []).elim
            | some t =>
              refine wpAny_tests_one (cG (ht G.objs.size s2 H1 fp pins _ s6 σ6 H6 _ I6 q6) fun b s7 ⟨H7, I7, q7⟩ => ?_)
              cases b with
              | true =>
                rw [if_pos rfl] at q7 ⊢
                exact tail I7 q7
              | false =>
                rw [if_neg Bool.false_ne_true] at q7 ⊢
                exact again I7 q7
          | cons _ _ => cases tt <;> exact (ht 0 s2 H1 [] []).elim
    · rw [au (Nat.ne_of_lt (hfpS b hb))]
      exact (f2 b hb).1
  exact codeAny_compStart_list (loop _ rfl) (T.self _ 0 _ _ _ (T.keep _ _ _ st2 fun b _ o e => old b o e) (loop _ rfl))
def FF (wi:TI) (g:TG) (te:TE) (ts:List Str) (js:List Nat):TE:=fun σ H Q=>wi σ H fun J H1=>∀ D,H1 D=none ->
 ∃ W:Nat->Nat->St->Hp->Prop,(∃ m,W 0 m (gS ts js σ) (upd H1 D (.lst [])))/\∀ i m σ' H',W i m σ' H' ->
  (J.stop i H'/\Q (.ref D) H')\/(J.go i H'/\∃ N:St->Hp->Prop,(∀ σ'' H'',N σ'' H''->∃ m',m'<m/\W (i+1) m' σ'' H'') ∧
   ∀ x H2,J.xa i H' x H2->g x σ' H2 fun σ2 H3=>te σ2 H3 fun y H4=>∃ ys,H4 D=some (.lst ys)/\ys.length<sizeLine/\N σ2 (upd H4 D (.lst (ys++[y]))))
theorem AE {X:Cx} {tg elt iter:Expr} {scope:Scope} {cl:List (Str×Addr)} {pos:Pos} {wi:TI} {g:TG} {te:TE} {ts fs:List Str} {js:List Nat} (hcalm:X.calm=true)
  (hclos:closureFor scope X.env=pure cl) (hk:scope.kind=.function) (nc:lq scope.names=true) (lo:tP scope.names=true) (fh:sM cl scope.names=true) (ag:jt X cl) (fr:nV X scope cl fs js)
  (hi:PI X tg iter wi) (hg:∀ C s₀ H₀ ex pins,PG (C8 X scope cl (ts++fs) C s₀ H₀ ex pins) tg g) (he:∀ C s₀ H₀ ex pins,PE (C8 X scope cl (ts++fs) C s₀ H₀ ex pins) elt te)
  (hs:∀ x,foldedSetIterable iter X.env x=pure x:=by intro _;rfl):PE X (.ListComp elt [⟨tg,iter,[],0⟩] scope pos) (FF wi g te ts js) :=
 C1 (tt:=none) hcalm hclos hk nc lo fh ag fr hi hg (fun _ _ _ _ _=>trivial) he hs
end L2
namespace L2
open PySem PySem.Spec PyProof.Rows
def f7 (h:Heap) (b:Bool) (l:Addr) (xs:Array Value):Prop:=match b with
 | true=>h.IsList l xs
 | false=>h.IsTuple l xs
def eK (h:Heap) (b:Bool) (it l:Addr) (i:Nat):Prop:=match b with
 | true=>h.IsListIter it l i
 | false=>h.IsTupleIter it l i
theorem f7.at {h h':Heap} {b:Bool} {l:Addr} {xs:Array Value} (x:f7 h b l xs) (k:∀ o,h.get? l=some o->h'.get? l=some o):f7 h' b l xs:=by
 cases b with
 | true=>obtain ⟨o,ho,r⟩:=(show h.IsList l xs from x);exact (show h'.IsList l xs from ⟨o,k o ho,r⟩)
 | false=>obtain ⟨o,ho,r⟩:=(show h.IsTuple l xs from x);exact (show h'.IsTuple l xs from ⟨o,k o ho,r⟩)
theorem eK.at {h h':Heap} {b:Bool} {it l:Addr} {i:Nat} (x:eK h b it l i) (k:∀ o,h.get? it=some o->h'.get? it=some o):eK h' b it l i:=by
 cases b with
 | true=>obtain ⟨o,ho,r⟩:=(show h.IsListIter it l i from x);exact (show h'.IsListIter it l i from ⟨o,k o ho,r⟩)
 | false=>obtain ⟨o,ho,r⟩:=(show h.IsTupleIter it l i from x);exact (show h'.IsTupleIter it l i from ⟨o,k o ho,r⟩)
theorem eK.obj {h:Heap} {b:Bool} {it l:Addr} {i:Nat} (x:eK h b it l i):∃ o vs,h.get? it=some o/\o.data=.fields vs:=by
 cases b with
 | true=>obtain ⟨o,ho,_,hd⟩:=(show h.IsListIter it l i from x);exact ⟨o,_,ho,hd⟩
 | false=>obtain ⟨o,ho,_,hd⟩:=(show h.IsTupleIter it l i from x);exact ⟨o,_,ho,hd⟩
theorem f7.obj {h:Heap} {b:Bool} {l:Addr} {xs:Array Value} (x:f7 h b l xs):∃ o n,h.get? l=some o/\o.data=.seq xs n:=by
 cases b with
 | true=>obtain ⟨o,ho,_,n,hd⟩:=(show h.IsList l xs from x);exact ⟨o,n,ho,hd⟩
 | false=>obtain ⟨o,ho,_,n,hd⟩:=(show h.IsTuple l xs from x);exact ⟨o,n,ho,hd⟩
section
variable {prog:Program} {w:World} {A:Around} {E:Value->Shared->Prop} {s:Shared}
theorem iE {it t:Addr} {i:Nat} {items:Array Value} {x:Value} {Q:Value->Shared->Prop} (hit:s.heap.IsTupleIter it t i)
  (ht:s.heap.IsTuple t items) (hx:items[i]?=some x)
  (hQ:∀ h',h'.IsTupleIter it t (i+1)->Heap.SameBut it s.heap h'->Q x { s with heap:=h' }) :
  wpAny (model prog w) A (Builtin.SmallTypes.nextOf (.ref it)) Q E s:=by
 obtain ⟨o,ho,hc,hd⟩:=id hit
 obtain ⟨ol,hol,_,nl,hdl⟩:=ht
 unfold Builtin.SmallTypes.nextOf
 refine wpAny_bind (wpAny_callSpecial?_slot (name:=Str.ofString "__next__") hit.typeIs F.slot_tuple_iterator_next
  (wpAny_call_entry F.slot_tuple_iterator_next hit.typeIs F.entry_tuple_iterator_next ?_ (F.args_tuple_iterator_next_1 _)))
 show wpAny _ _ (field (.ref it) 0 >>= _) _ _ s
 refine wpAny_bind (wpAny_field ho hd (x:=.ref t) rfl ?_)
 show wpAny _ _ (if (Value.ref t==Value.none)=true then _ else _) _ _ s
 rw [if_neg (show ¬ ((Value.ref t==Value.none)=true) from Bool.false_ne_true)]
 show wpAny _ _ (field (.ref it) 1 >>= _) _ _ s
 refine wpAny_bind (wpAny_field ho hd (x:=.int i 0) rfl ?_)
 show wpAny _ _ (seqItems? (.ref t) >>= _) _ _ s
 refine wpAny_bind (wpAny_seqItems hol hdl ?_)
 simp only [Int.toNat_natCast,hx]
 refine wpAny_bind (wpAny_setField ho hd (by simp) (wpAny_pure ⟨x,rfl,wpAny_pure (hQ _ ?_ (Heap.SameBut.update ..))⟩))
 exact ⟨_,Heap.get?_update_self _ ho (Obj.isFreed_of_fields (Obj.data_mapFields hd _)),(Obj.cls_mapFields ..).trans hc,by
  rw [Obj.data_mapFields hd];simp [rawInt]⟩
theorem fI {it t:Addr} {i:Nat} {items:Array Value} {Q:Value->Shared->Prop} (hh:A.handled=none)
  (hit:s.heap.IsTupleIter it t i) (ht:s.heap.IsTuple t items) (hx:items[i]?=none)
  (hE:∀ h' e,Heap.ExtBut it s.heap h'->(∃ o,h'.get? e=some o/\o.cls=.type "StopIteration")->E (.ref e) { s with heap:=h' }) :
  wpAny (model prog w) A (Builtin.SmallTypes.nextOf (.ref it)) Q E s:=by
 obtain ⟨o,ho,hc,hd⟩:=id hit
 obtain ⟨ol,hol,_,nl,hdl⟩:=ht
 unfold Builtin.SmallTypes.nextOf
 refine wpAny_bind (wpAny_callSpecial?_slot (name:=Str.ofString "__next__") hit.typeIs F.slot_tuple_iterator_next
  (wpAny_call_entry F.slot_tuple_iterator_next hit.typeIs F.entry_tuple_iterator_next ?_ (F.args_tuple_iterator_next_1 _)))
 show wpAny _ _ (field (.ref it) 0 >>= _) _ _ s
 refine wpAny_bind (wpAny_field ho hd (x:=.ref t) rfl ?_)
 show wpAny _ _ (if (Value.ref t==Value.none)=true then _ else _) _ _ s
 rw [if_neg (show ¬ ((Value.ref t==Value.none)=true) from Bool.false_ne_true)]
 show wpAny _ _ (field (.ref it) 1 >>= _) _ _ s
 refine wpAny_bind (wpAny_field ho hd (x:=.int i 0) rfl ?_)
 show wpAny _ _ (seqItems? (.ref t) >>= _) _ _ s
 refine wpAny_bind (wpAny_seqItems hol hdl ?_)
 simp only [Int.toNat_natCast,hx]
 refine wpAny_bind (wpAny_rule (wpAny_bind (wpAny_setField ho hd (by simp) ?_)))
 show wpAny _ _ (newExc (.type "StopIteration") [] >>= _) _ _ _
 refine wpAny_bind ?_
 simp only [newExc,newTuple]
 refine wpAny_bind (wpAny_newObj_type ?_ (by size_fits))
 refine wpAny_bind (m:=firstArgMember _ _) (wpAny_of_eq (a:=Value.none) (by first | rfl | (simp only [firstArgMember];rfl)) ?_)
 refine wpAny_newObj_type ?_ (by size_fits)
 simp only [raiseNew]
 refine wpAny_bind (wpAny_handled ?_)
 first | rw [show A.in1.handled=none from hh] | rw [hh]
 refine wpAny_bind (wpAny_pure (wpAny_throw ?_))
 exact hE _ _ (((Heap.SameBut.update ..).extBut.push _).push _) ⟨_,Heap.get?_push_size _ rfl,rfl⟩
theorem cH {b:Bool} {it l:Addr} {i:Nat} {items:Array Value} {x:Value} {Q:Value->Shared->Prop} (hit:eK s.heap b it l i) (hl:f7 s.heap b l items) (hx:items[i]?=some x)
  (hQ:∀ h',eK h' b it l (i+1)->Heap.SameBut it s.heap h'->Q x { s with heap:=h' }):wpAny (model prog w) A (Builtin.SmallTypes.nextOf (.ref it)) Q E s:=by
 cases b with
 | true=>exact wpAny_nextOf_list_item hit hl hx hQ
 | false=>exact iE hit hl hx hQ
theorem iu {b:Bool} {it l:Addr} {i:Nat} {items:Array Value} {Q:Value->Shared->Prop} (hh:A.handled=none) (hit:eK s.heap b it l i) (hl:f7 s.heap b l items) (hx:items[i]?=none)
  (hE:∀ h' e,Heap.ExtBut it s.heap h'->(∃ o,h'.get? e=some o/\o.cls=.type "StopIteration")->E (.ref e) { s with heap:=h' }):wpAny (model prog w) A (Builtin.SmallTypes.nextOf (.ref it)) Q E s:=by
 cases b with
 | true=>exact wpAny_nextOf_list_end hh hit hl hx hE
 | false=>exact fI hh hit hl hx hE
theorem zz {b1 b2:Bool} {z TI TO i1 i2 l1 l2:Addr} {k1 k2:Nat} {xs ys:Array Value} {x y a b:Value} {Q:Value->Shared->Prop} (D:ZipApart z TI TO i1 i2 l1 l2)
  (hz:IsZip s.heap z TI TO .none) (hTI:IsPair s.heap TI (.ref i1) (.ref i2)) (hTO:IsPair s.heap TO a b)
  (h1:eK s.heap b1 i1 l1 k1) (h2:eK s.heap b2 i2 l2 k2) (hl1:f7 s.heap b1 l1 xs) (hl2:f7 s.heap b2 l2 ys) (hx:xs[k1]?=some x) (hy:ys[k2]?=some y)
  (hQ:∀ h',IsZip h' z TI TO (rawInt s.heap.objs.size)->IsPair h' TO x y->eK h' b1 i1 l1 (k1+1)->eK h' b2 i2 l2 (k2+1)->IsPair h' s.heap.objs.size x y->h'.objs.size=s.heap.objs.size+1 ->
   (∀ c o,c≠z->c≠TO->c≠i1->c≠i2->s.heap.get? c=some o->h'.get? c=some o)->Q (.ref s.heap.objs.size) { s with heap:=h' }) :
  wpAny (model prog w) A (Builtin.«zip.__next__» ⟨[.ref z],[]⟩) (fun fin s'=>∃ v,fin=.done (.ret v)/\Q v s') E s:=by
 show wpAny _ _ (field (.ref z) 2 >>= _) _ _ _
 refine wpAny_bind (wpAny_field hz rfl (x:=.bool false) rfl ?_)
 show wpAny _ _ (field (.ref z) 3 >>= _) _ _ _
 refine wpAny_bind (wpAny_field hz rfl (x:=.ref TI) rfl ?_)
 refine wpAny_bind (wpAny_seqItems hTI rfl ?_)
 show wpAny _ _ (Builtin.SmallTypes.ownedTupleIsFree (.ref z) >>= _) _ _ _
 refine wpAny_bind ?_
 unfold Builtin.SmallTypes.ownedTupleIsFree
 refine wpAny_bind (wpAny_field hz rfl (x:=.none) rfl (wpAny_pure ?_))
 simp only [if_true]
 refine wpAny_bind (wpAny_rule ?_)
 refine wpAny_bind (wpAny_field hz rfl (x:=.ref TO) rfl ?_)
 refine wpAny_bind (wpAny_setField_rec hz (by simp) fun h₁ hz₁ hs₁=>?_)
 replace hz₁:IsZip h₁ z TI TO .ellipsis:=hz₁
 refine wpAny_bind ?_
 simp only [List.zipIdx_cons,List.zipIdx_nil,List.forIn_cons,List.forIn_nil]
 refine wpAny_bind (wpAny_bind (wpAny_onRaise ?_))
 show wpAny _ _ (Builtin.SmallTypes.nextOf (.ref i1) >>= _) _ _ _
 refine wpAny_bind (cH (h1.at fun o e=>hs₁.extBut _ _ D.i1z e) (hl1.at fun o e=>hs₁.extBut _ _ D.l1z e) hx fun h₂ h1₂ hs₂=>wpAny_pure ?_)
 have hTO₂:IsPair h₂ TO a b:=hs₂.extBut _ _ D.TOi1 (hs₁.extBut _ _ D.TOz hTO)
 refine wpAny_bind (wpAny_seqItems hTO₂ rfl ?_)
 refine wpAny_bind (wpAny_updateSeq_pair hTO₂ fun h₃ hTO₃ hs₃=>?_)
 replace hTO₃:IsPair h₃ TO x b:=hTO₃
 refine wpAny_bind (wpAny_letGo (wpAny_pure ?_))
 refine wpAny_bind (wpAny_bind (wpAny_onRaise ?_))
 show wpAny _ _ (Builtin.SmallTypes.nextOf (.ref i2) >>= _) _ _ _
 refine wpAny_bind (cH (h2.at fun o e=>hs₃.extBut _ _ D.TOi2.symm (hs₂.extBut _ _ D.i12.symm (hs₁.extBut _ _ D.i2z e)))
  (hl2.at fun o e=>hs₃.extBut _ _ D.l2TO (hs₂.extBut _ _ D.l2i1 (hs₁.extBut _ _ D.l2z e))) hy fun h₄ h2₄ hs₄=>wpAny_pure ?_)
 have hTO₄:IsPair h₄ TO x b:=hs₄.extBut _ _ D.TOi2 hTO₃
 refine wpAny_bind (wpAny_seqItems hTO₄ rfl ?_)
 refine wpAny_bind (wpAny_updateSeq_pair hTO₄ fun h₅ hTO₅ hs₅=>?_)
 replace hTO₅:IsPair h₅ TO x y:=hTO₅
 refine wpAny_bind (wpAny_letGo (wpAny_pure (wpAny_pure ?_)))
 refine wpAny_bind (wpAny_seqItems hTO₅ rfl ?_)
 refine wpAny_bind (wpAny_newTuple ?_)
 have hsz:h₅.objs.size=s.heap.objs.size:=by rw [hs₅.1,hs₄.1,hs₃.1,hs₂.1,hs₁.1]
 have hz₅:IsZip h₅ z TI TO .ellipsis:=hs₅.extBut _ _ D.TOz.symm (hs₄.extBut _ _ D.i2z.symm (hs₃.extBut _ _ D.TOz.symm (hs₂.extBut _ _ D.i1z.symm hz₁)))
 have hk₅:∀ c o,c≠z->c≠TO->c≠i1->c≠i2->s.heap.get? c=some o->h₅.get? c=some o:=fun c o c1 c2 c3 c4 e =>
  hs₅.extBut _ _ c2 (hs₄.extBut _ _ c4 (hs₃.extBut _ _ c2 (hs₂.extBut _ _ c3 (hs₁.extBut _ _ c1 e))))
 have h1₅:eK h₅ b1 i1 l1 (k1+1):=h1₂.at fun o e=>hs₅.extBut _ _ D.TOi1.symm (hs₄.extBut _ _ D.i12 (hs₃.extBut _ _ D.TOi1.symm e))
 have h2₅:eK h₅ b2 i2 l2 (k2+1):=h2₄.at fun o e=>hs₅.extBut _ _ D.TOi2.symm e
 have hzlt:z<h₅.objs.size:=Heap.lt_size hz₅
 show wpAny _ _ (Builtin.SmallTypes.ownedTupleHandOut (.ref z) (.ref h₅.objs.size) >>= _) _ _ _
 refine wpAny_bind ?_
 unfold Builtin.SmallTypes.ownedTupleHandOut
 have hz₆:IsZip (h₅.push { cls:=.type "tuple", data:=.seq #[x,y] }) z TI TO .ellipsis:=Heap.get?_push_of_some _ hz₅
 refine wpAny_bind (wpAny_setField_rec hz₆ (by simp) fun h₇ hz₇ hs₇=>?_)
 replace hz₇:IsZip h₇ z TI TO (rawInt h₅.objs.size):=hz₇
 refine wpAny_setField_rec hz₇ (by simp) fun h₈ hz₈ hs₈=>?_
 replace hz₈:IsZip h₈ z TI TO (rawInt h₅.objs.size):=hz₈
 have up:∀ c o,c≠z->h₅.get? c=some o->h₈.get? c=some o:=fun c o c1 e=>hs₈.extBut _ _ c1 (hs₇.extBut _ _ c1 (Heap.get?_push_of_some _ e))
 have hT₈:IsPair h₈ h₅.objs.size x y:=hs₈.extBut _ _ (Nat.ne_of_gt hzlt) (hs₇.extBut _ _ (Nat.ne_of_gt hzlt) (Heap.get?_push_size _ rfl))
 have hz8:h₈.objs.size=h₅.objs.size+1:=by rw [hs₈.1,hs₇.1,Heap.size_push]
 rw [hsz] at hz₈ hT₈ hz8
 refine wpAny_pure ⟨_,rfl,?_⟩
 show Q (.ref h₅.objs.size) _
 rw [hsz]
 exact hQ h₈ hz₈ (up _ _ D.TOz hTO₅) (h1₅.at fun o e=>up _ o D.i1z e) (h2₅.at fun o e=>up _ o D.i2z e) hT₈ hz8 fun c o c1 c2 c3 c4 e=>up c o c1 (hk₅ c o c1 c2 c3 c4 e)
theorem z8 {b1 b2:Bool} {z TI TO i1 i2 l1 l2:Addr} {k1 k2:Nat} {xs ys:Array Value} {a b:Value} {Q:Fin->Shared->Prop} (hh:A.handled=none) (D:ZipApart z TI TO i1 i2 l1 l2)
  (hz:IsZip s.heap z TI TO .none) (hTI:IsPair s.heap TI (.ref i1) (.ref i2)) (hTO:IsPair s.heap TO a b)
  (h1:eK s.heap b1 i1 l1 k1) (h2:eK s.heap b2 i2 l2 k2) (hl1:f7 s.heap b1 l1 xs) (hl2:f7 s.heap b2 l2 ys) (hend:xs[k1]?=none\/ys[k2]?=none)
  (hE:∀ h' e,(∀ c o,c≠z->c≠TO->c≠i1->c≠i2->s.heap.get? c=some o->h'.get? c=some o)->(∃ o,h'.get? e=some o/\o.cls=.type "StopIteration")->E (.ref e) { s with heap:=h' }) :
  wpAny (model prog w) A (Builtin.«zip.__next__» ⟨[.ref z],[]⟩) Q E s:=by
 show wpAny _ _ (field (.ref z) 2 >>= _) _ _ _
 refine wpAny_bind (wpAny_field hz rfl (x:=.bool false) rfl ?_)
 show wpAny _ _ (field (.ref z) 3 >>= _) _ _ _
 refine wpAny_bind (wpAny_field hz rfl (x:=.ref TI) rfl ?_)
 refine wpAny_bind (wpAny_seqItems hTI rfl ?_)
 show wpAny _ _ (Builtin.SmallTypes.ownedTupleIsFree (.ref z) >>= _) _ _ _
 refine wpAny_bind ?_
 unfold Builtin.SmallTypes.ownedTupleIsFree
 refine wpAny_bind (wpAny_field hz rfl (x:=.none) rfl (wpAny_pure ?_))
 simp only [if_true]
 refine wpAny_bind (wpAny_rule ?_)
 refine wpAny_bind (wpAny_field hz rfl (x:=.ref TO) rfl ?_)
 refine wpAny_bind (wpAny_setField_rec hz (by simp) fun h₁ hz₁ hs₁=>?_)
 replace hz₁:IsZip h₁ z TI TO .ellipsis:=hz₁
 refine wpAny_bind ?_
 simp only [List.zipIdx_cons,List.zipIdx_nil,List.forIn_cons,List.forIn_nil]
 refine wpAny_bind (wpAny_bind (wpAny_onRaise ?_))
 show wpAny _ _ (Builtin.SmallTypes.nextOf (.ref i1) >>= _) _ _ _
 cases hx:xs[k1]? with
 | none =>
  refine wpAny_bind (iu hh (h1.at fun o e=>hs₁.extBut _ _ D.i1z e) (hl1.at fun o e=>hs₁.extBut _ _ D.l1z e) hx fun h₂ e hs₂ he=>?_)
  obtain ⟨oe,hoe,hce⟩:=he
  have hz₂:IsZip h₂ z TI TO .ellipsis:=hs₂ _ _ D.i1z.symm hz₁
  have hez:e≠z:=fun x=>by subst x;rw [hz₂] at hoe;cases hoe;simp at hce
  refine wpAny_setField_rec hz₂ (by simp) fun h₃ _ hs₃=>hE h₃ e (fun c o c1 _ c3 _ x=>hs₃.extBut _ _ c1 (hs₂ _ _ c3 (hs₁.extBut _ _ c1 x))) ⟨oe,hs₃.extBut _ _ hez hoe,hce⟩
 | some x =>
  have hy:ys[k2]?=none:=by rcases hend with h | h;rw [hx] at h;cases h;exact h
  refine wpAny_bind (cH (h1.at fun o e=>hs₁.extBut _ _ D.i1z e) (hl1.at fun o e=>hs₁.extBut _ _ D.l1z e) hx fun h₂ h1₂ hs₂=>wpAny_pure ?_)
  have hTO₂:IsPair h₂ TO a b:=hs₂.extBut _ _ D.TOi1 (hs₁.extBut _ _ D.TOz hTO)
  refine wpAny_bind (wpAny_seqItems hTO₂ rfl ?_)
  refine wpAny_bind (wpAny_updateSeq_pair hTO₂ fun h₃ hTO₃ hs₃=>?_)
  refine wpAny_bind (wpAny_letGo (wpAny_pure ?_))
  refine wpAny_bind (wpAny_bind (wpAny_onRaise ?_))
  show wpAny _ _ (Builtin.SmallTypes.nextOf (.ref i2) >>= _) _ _ _
  refine wpAny_bind (iu hh (h2.at fun o e=>hs₃.extBut _ _ D.TOi2.symm (hs₂.extBut _ _ D.i12.symm (hs₁.extBut _ _ D.i2z e)))
   (hl2.at fun o e=>hs₃.extBut _ _ D.l2TO (hs₂.extBut _ _ D.l2i1 (hs₁.extBut _ _ D.l2z e))) hy fun h₄ e hs₄ he=>?_)
  obtain ⟨oe,hoe,hce⟩:=he
  have hz₄:IsZip h₄ z TI TO .ellipsis:=hs₄ _ _ D.i2z.symm (hs₃.extBut _ _ D.TOz.symm (hs₂.extBut _ _ D.i1z.symm hz₁))
  have hez:e≠z:=fun x=>by subst x;rw [hz₄] at hoe;cases hoe;simp at hce
  refine wpAny_setField_rec hz₄ (by simp) fun h₅ _ hs₅=>hE h₅ e (fun c o c1 c2 c3 c4 x=>hs₅.extBut _ _ c1 (hs₄ _ _ c4 (hs₃.extBut _ _ c2 (hs₂.extBut _ _ c3 (hs₁.extBut _ _ c1 x))))) ⟨oe,hs₅.extBut _ _ hez hoe,hce⟩
theorem wd {b:Bool} {l:Addr} {items:Array Value} {Q:Value->Shared->Prop} (hl:f7 s.heap b l items)
  (h:∀ o,o=({ cls:=.type (if b then "list_iterator" else "tuple_iterator"),data:=.fields #[.ref l,.int 0 0] }:Obj)->Q (.ref s.heap.objs.size) { s with heap:=s.heap.push o }):wpAny (model prog w) A (pyIter (.ref l)) Q E s:=by
 cases b with
 | true=>exact wpAny_pyIter_list hl (h _ rfl)
 | false=>exact wpAny_pyIter_tuple hl (h _ rfl)
theorem m_ {b1 b2:Bool} {z TI TO i1 i2 l1 l2:Addr} {k1 k2:Nat} {xs ys:Array Value} {x y a b:Value} {Q:Option Value->Shared->Prop} (D:ZipApart z TI TO i1 i2 l1 l2)
  (hz:IsZip s.heap z TI TO .none) (hTI:IsPair s.heap TI (.ref i1) (.ref i2)) (hTO:IsPair s.heap TO a b)
  (h1:eK s.heap b1 i1 l1 k1) (h2:eK s.heap b2 i2 l2 k2) (hl1:f7 s.heap b1 l1 xs) (hl2:f7 s.heap b2 l2 ys) (hx:xs[k1]?=some x) (hy:ys[k2]?=some y)
  (hQ:∀ h',IsZip h' z TI TO (rawInt s.heap.objs.size)->IsPair h' TO x y->eK h' b1 i1 l1 (k1+1)->eK h' b2 i2 l2 (k2+1)->IsPair h' s.heap.objs.size x y->h'.objs.size=s.heap.objs.size+1 ->
   (∀ c o,c≠z->c≠TO->c≠i1->c≠i2->s.heap.get? c=some o->h'.get? c=some o)->Q (some (.ref s.heap.objs.size)) { s with heap:=h' }) :
  wpAny (model prog w) A (pyNext (.ref z)) Q E s:=by
 have hT:s.TypeIs (.ref z) "zip" := ⟨_,hz,rfl⟩
 unfold pyNext
 exact wpAny_bind (wpAny_attempt (wpAny_callSpecial?_slot (name:=Str.ofString "__next__") hT F.slot_zip_next
  (wpAny_call_entry F.slot_zip_next hT F.entry_zip_next
   (zz D hz hTI hTO h1 h2 hl1 hl2 hx hy fun h' a1 a2 a3 a4 a5 a6 a7=>wpAny_pure (hQ h' a1 a2 a3 a4 a5 a6 a7)) (F.args_zip_next_1 _))))
theorem nY {b1 b2:Bool} {z TI TO i1 i2 l1 l2:Addr} {k1 k2:Nat} {xs ys:Array Value} {a b:Value} {Q:Option Value->Shared->Prop} (hh:A.handled=none) (D:ZipApart z TI TO i1 i2 l1 l2)
  (hz:IsZip s.heap z TI TO .none) (hTI:IsPair s.heap TI (.ref i1) (.ref i2)) (hTO:IsPair s.heap TO a b)
  (h1:eK s.heap b1 i1 l1 k1) (h2:eK s.heap b2 i2 l2 k2) (hl1:f7 s.heap b1 l1 xs) (hl2:f7 s.heap b2 l2 ys) (hend:xs[k1]?=none\/ys[k2]?=none)
  (hQ:∀ h',(∀ c o,c≠z->c≠TO->c≠i1->c≠i2->s.heap.get? c=some o->h'.get? c=some o)->Q none { s with heap:=h' }):wpAny (model prog w) A (pyNext (.ref z)) Q E s:=by
 have hT:s.TypeIs (.ref z) "zip" := ⟨_,hz,rfl⟩
 unfold pyNext
 refine wpAny_bind (wpAny_attempt (wpAny_callSpecial?_slot (name:=Str.ofString "__next__") hT F.slot_zip_next
  (wpAny_call_entry F.slot_zip_next hT F.entry_zip_next (z8 hh D hz hTI hTO h1 h2 hl1 hl2 hend fun h' e hk he=>?_) (F.args_zip_next_1 _))))
 obtain ⟨o,ho,hc⟩:=he
 refine wpAny_bind (wpAny_isInstance (T := "StopIteration") (b:=true) ⟨o,ho,hc⟩ isSubtype_stop ?_)
 exact wpAny_pure (hQ _ hk)
abbrev zZ (b:Bool) (l:Addr):Obj:={ cls:=.type (if b then "list_iterator" else "tuple_iterator"),data:=.fields #[.ref l,.int 0 0] }
abbrev FC (h:Heap) (b1:Bool) (l1:Addr):Heap:=h.push (zZ b1 l1)
abbrev ER (h:Heap) (b1 b2:Bool) (l1 l2:Addr):Heap:=(FC h b1 l1).push (zZ b2 l2)
abbrev Kl (h:Heap) (b1 b2:Bool) (l1 l2:Addr):Heap:=(ER h b1 b2 l1 l2).push { cls:=.type "tuple", data:=.seq #[.ref h.objs.size,.ref (FC h b1 l1).objs.size] }
abbrev Ks (h:Heap) (b1 b2:Bool) (l1 l2:Addr):Heap:=(Kl h b1 b2 l1 l2).push { cls:=.type "tuple", data:=.seq #[.none,.none] }
abbrev F9 (h:Heap) (b1 b2:Bool) (l1 l2:Addr):Heap:=(Ks h b1 b2 l1 l2).push { cls:=.type "zip", data:=.fields #[.none,.bool false,.bool false,.ref (ER h b1 b2 l1 l2).objs.size,.ref (Kl h b1 b2 l1 l2).objs.size] }
end
theorem gw {prog:Program} {w:World} {A:Around} {E:Value->Shared->Prop} {s:Shared} {b:Bool} {l:Addr} {items:Array Value} {Q:Value->Shared->Prop} (hl:f7 s.heap b l items)
  (h:Q (.ref s.heap.objs.size) { s with heap:=s.heap.push (zZ b l) }):wpAny (model prog w) A (pyIter (.ref l)) Q E s:=wd hl fun o e=>by subst e;exact h
theorem f7.push {h:Heap} {b:Bool} {l:Addr} {xs:Array Value} (x:f7 h b l xs) (o:Obj):f7 (h.push o) b l xs:=x.at fun _ e=>Heap.get?_push_of_some _ e
theorem oP (b1 b2:Bool) (l1 l2:Addr) (xs ys:Array Value) :
  Meets (Builtin.«zip.__new__» ⟨[.type "zip", .ref l1,.ref l2],[]⟩) (fun _ R s=>f7 s.heap b1 l1 xs/\f7 s.heap b2 l2 ys ∧
   R (.ok (.ret (.ref (Ks s.heap b1 b2 l1 l2).objs.size))) { s with heap:=F9 s.heap b1 b2 l1 l2 }) :=
 .of_wp fun prog w A R s h=>by
  obtain ⟨hp,g,d,tk,os⟩:=s;obtain ⟨hl1,hl2,h⟩:=h
  have hsub:=sub_zip
  have hL1:f7 (Shared.heap ⟨hp,g,d,tk,os⟩) b1 l1 xs:=hl1
  have hL2:f7 (Shared.heap ⟨hp.push (zZ b1 l1),g,d,tk,os⟩) b2 l2 ys:=f7.push hl2 _
  wp_walk using gw hL1,gw hL2
  exact ⟨_,rfl,h⟩
section
variable {prog:Program} {w:World} {A:Around} {E:Value->Shared->Prop} {s:Shared}
theorem eK.new (h:Heap) (b:Bool) (it l:Addr) (e:h.get? it=some (zZ b l)):eK h b it l 0:=by
 cases b with
 | true=>exact ⟨_,e,rfl,rfl⟩
 | false=>exact ⟨_,e,rfl,rfl⟩
theorem yT {b1 b2:Bool} {l1 l2:Addr} {xs ys:Array Value} {Q:Value->Shared->Prop} (hl1:f7 s.heap b1 l1 xs) (hl2:f7 s.heap b2 l2 ys)
  (h:∀ h',IsZip h' (s.heap.objs.size+4) (s.heap.objs.size+2) (s.heap.objs.size+3) .none->IsPair h' (s.heap.objs.size+2) (.ref s.heap.objs.size) (.ref (s.heap.objs.size+1)) ->
   IsPair h' (s.heap.objs.size+3) .none .none->eK h' b1 s.heap.objs.size l1 0->eK h' b2 (s.heap.objs.size+1) l2 0->h'.objs.size=s.heap.objs.size+5 ->
   (∀ c o,s.heap.get? c=some o->h'.get? c=some o)->Q (.ref (s.heap.objs.size+4)) { s with heap:=h' }) :
  wpAny (model prog w) A (call (.type "zip") [.ref l1,.ref l2]) Q E s:=by
 refine callType_new F.called_zip (by decide) (F.typeCall_zip_2 _ _) (F.newCall_zip_2 _ _) (fun obj=>F.args_object_init_3 obj _ _) F.entry_zip_new
  (oP b1 b2 l1 l2 xs ys) ⟨hl1,hl2,?_⟩
 have z1:(FC s.heap b1 l1).objs.size=s.heap.objs.size+1:=Heap.size_push ..
 have z2:(ER s.heap b1 b2 l1 l2).objs.size=s.heap.objs.size+2:=by rw [Heap.size_push,z1]
 have z3:(Kl s.heap b1 b2 l1 l2).objs.size=s.heap.objs.size+3:=by rw [Heap.size_push,z2]
 have z4:(Ks s.heap b1 b2 l1 l2).objs.size=s.heap.objs.size+4:=by rw [Heap.size_push,z3]
 have z5:(F9 s.heap b1 b2 l1 l2).objs.size=s.heap.objs.size+5:=by rw [Heap.size_push,z4]
 have g5:(F9 s.heap b1 b2 l1 l2).get? (Ks s.heap b1 b2 l1 l2).objs.size=some _:=Heap.get?_push_size _ rfl
 have g4:(F9 s.heap b1 b2 l1 l2).get? (Kl s.heap b1 b2 l1 l2).objs.size=some _:=Heap.get?_push_of_some _ (Heap.get?_push_size _ rfl)
 have g3:(F9 s.heap b1 b2 l1 l2).get? (ER s.heap b1 b2 l1 l2).objs.size=some _:=Heap.get?_push_of_some _ (Heap.get?_push_of_some _ (Heap.get?_push_size _ rfl))
 have g2:(F9 s.heap b1 b2 l1 l2).get? (FC s.heap b1 l1).objs.size=some _:=Heap.get?_push_of_some _ (Heap.get?_push_of_some _ (Heap.get?_push_of_some _ (Heap.get?_push_size _ rfl)))
 have g1:(F9 s.heap b1 b2 l1 l2).get? s.heap.objs.size=some _:=Heap.get?_push_of_some _ (Heap.get?_push_of_some _ (Heap.get?_push_of_some _ (Heap.get?_push_of_some _ (Heap.get?_push_size _ rfl))))
 show _/\_
 rw [z2,z3,z4] at g5
 rw [z1,z2] at g3
 rw [z3] at g4
 rw [z1] at g2
 rw [z4]
 exact ⟨⟨_,g5,rfl⟩,h _ g5 g3 g4 (eK.new _ b1 _ _ g1) (eK.new _ b2 _ _ g2) z5 fun c o x =>
  Heap.get?_push_of_some _ (Heap.get?_push_of_some _ (Heap.get?_push_of_some _ (Heap.get?_push_of_some _ (Heap.get?_push_of_some _ x))))⟩
end
def kE (K:PySem.W.Frag) (H:Hp) (b:Bool) (a:Addr) (xs:List V):Prop:=match b with
 | true=>jg K H a xs
 | false=>ib K H a xs
section
variable {X:Cx}
theorem Inv.row {pins:List (Addr×Obj)} {σ:St} {H:Hp} {s:Shared} {b:Bool} {a:Addr} {xs:List V} (I:Inv X pins σ H s) (h:kE X.K H b a xs):∃ its:List Value,Vals xs its/\f7 s.heap b a its.toArray/\xs.length<=sizeLine:=by
 cases b with
 | true =>
  obtain ⟨its,r,p,z⟩:=I.list h
  exact ⟨its,r,p.isList,z⟩
 | false =>
  obtain ⟨its,r,p,z⟩:=I.tuple h
  exact ⟨its,r,p,z⟩
theorem Inv.lV {pins:List (Addr×Obj)} {σ:St} {H:Hp} {s:Shared} {b:Bool} {a:Addr} {xs ys:List V} (I:Inv X pins σ H s) (h:kE X.K H b a xs) (h':kE X.K H b a ys):xs=ys:=by
 cases b with
 | true=>exact I.pY h h'
 | false=>exact I.mV h h'
theorem Inv.yj {pins:List (Addr×Obj)} {σ:St} {H:Hp} {s:Shared} {h':Heap} {t':Nat} {ch:List Addr} (I:Inv X pins σ H s) (k:∀ b u,b ∉ ch->s.heap.get? b=some u->h'.get? b=some u)
  (hch:∀ b∈ch,n5 X pins H b):Inv X pins σ H { s with heap:=h',toks:=t' }:=by
 have nitH:∀ b u,H b=some u->b ∉ ch:=fun b u e z=>by rw [(hch b z).1] at e;cases e
 refine I.step (g':=s.gens) (d':=s.drawn) (ch:=ch) (fun b hb=>?_) (fun b u _ _ hc e _=>k b u hc e) (fun b u _ _ hc e _=>⟨u.slots,k b u hc e⟩)
  (fun b u _ e n=>n) (fun b u hc e=>⟨u,k b u hc e⟩) (fun b xs e=>e) (fun b ob u e=>e) (fun b ps e=>⟨#[],by rw [e];simp⟩) (fun m hm=>?_) (fun b u e=>?_) I.bare
 ·obtain ⟨_,f1,_,f3,f4,f5⟩:=hch b hb
  exact ⟨f3,f1,f4,f5⟩
 ·obtain ⟨ob,es,ep,ho,r⟩:=hm
  exact ⟨ob,es,ep,k _ ob (fun z=>(hch _ z).2.1 rfl) ho,r⟩
 ·refine (I.bx b u e).og (fun c v hc q=>k c v ?_ q) (fun c q=>q) fun c ys q=>q
  rcases hc with z' | z'
  ·rw [z'];exact nitH b u e
  ·exact nitH c _ z'
theorem cv {pins:List (Addr×Obj)} {σ:St} {H:Hp} {s:Shared} {b:Bool} {a c:Addr} {xs:List V} (I:Inv X pins σ H s) (h:kE X.K H b a xs) (f:n5 X pins H c):a≠c:=by
 have rd:∀ {u:HO},Rd H a u->a≠c:=fun {u} r=>by
  rcases r with r | ⟨o,r⟩
  ·exact bF r f.1
  ·exact bF r f.1
 have mk:∀ {o:Obj},X.K.lookup a=some o->a≠c:=fun {o} e z=>by
  subst z
  have e':=I.ok.mod.Ez _ _ e
  rcases f.2.2.2.1 with q | q
  ·exact I.ok.yE _ _ e' q
  ·exact absurd (Nat.lt_of_lt_of_le (Heap.lt_size (I.ok.bs _ _ e').1) q) (Nat.lt_irrefl _)
 cases b with
 | true =>
  rcases (show jg X.K H a xs from h) with r | ⟨o,its,n,e,_⟩
  ·exact rd r
  ·exact mk e
 | false =>
  rcases (show ib X.K H a xs from h) with r | ⟨o,its,n,e,_⟩
  ·exact rd r
  ·exact mk e
def Rz (K : PySem.W.Frag) (b1 b2 : Bool) (a1 a2 : Addr) : It :=
  ⟨fun i H => ∃ xs ys x y, kE K H b1 a1 xs /\ kE K H b2 a2 ys /\ xs[i]? = some x /\ ys[i]? = some y,
   fun i H v H' => ∃ p x y, H p = none /\ v = .ref p /\ H' = upd H p (.tup [x, y]) /\ (∀ xs, kE K H b1 a1 xs -> xs[i]? = some x) /\ (∀ ys, kE K H b2 a2 ys -> ys[i]? = some y),
   fun i H => ∃ xs ys, kE K H b1 a1 xs /\ kE K H b2 a2 ys /\ (xs.length <= i \/ ys.length <= i)⟩
theorem Br {P:Program} {w:World} {K:PySem.W.Frag} {elts:List Expr} {x1:Nat} {tp:Pos} (b1 b2:Bool) (a1 a2 z TI TO i1 i2:Addr) (D:TI≠z/\TO≠z/\i1≠z/\i2≠z/\TI≠TO/\TI≠i1/\TI≠i2/\TO≠i1/\TO≠i2/\i1≠i2) :
  Turn P w K (.Tuple elts x1 tp) (Rz K b1 b2 a1 a2) [z,TO,i1,i2,TI] z (fun i h=>IsZip h z TI TO .none/\IsPair h TI (.ref i1) (.ref i2)/\(∃ a b,IsPair h TO a b)/\eK h b1 i1 a1 i/\eK h b2 i2 a2 i) where
 mem:=by simp
 obj:=fun i h st b hb=>by
  obtain ⟨hz,hTI,⟨a,c,hTO⟩,h1,h2⟩:=st
  simp only [List.mem_cons,List.mem_nil_iff,or_false] at hb
  rcases hb with q | q | q | q | q <;> subst q
  ·exact ⟨_,hz,fun v z=>by cases z⟩
  ·exact ⟨_,hTO,fun v z=>by cases z⟩
  ·obtain ⟨o,vs,e,d⟩:=h1.obj
   exact ⟨o,e,fun v z=>by rw [d] at z;cases z⟩
  ·obtain ⟨o,vs,e,d⟩:=h2.obj
   exact ⟨o,e,fun v z=>by rw [d] at z;cases z⟩
  ·exact ⟨_,hTI,fun v z=>by cases z⟩
 keep:=fun i h h' st k=>by
  obtain ⟨hz,hTI,⟨a,c,hTO⟩,h1,h2⟩:=st
  exact ⟨k z (by simp) _ hz,k TI (by simp) _ hTI,⟨a,c,k TO (by simp) _ hTO⟩,h1.at fun o e=>k i1 (by simp) o e,h2.at fun o e=>k i2 (by simp) o e⟩
 item:=by
  intro X hP hw hK hc i pins s σ H E I hf st hg
  subst hP hw hK
  obtain ⟨xs,ys,x,y,hq1,hq2,hx,hy⟩:=hg
  obtain ⟨its1,rv1,p1,hz1⟩:=I.row hq1
  obtain ⟨its2,rv2,p2,hz2⟩:=I.row hq2
  obtain ⟨u1,hu1,ru1⟩:=rv1.get hx
  obtain ⟨u2,hu2,ru2⟩:=rv2.get hy
  obtain ⟨hz,hTI,⟨a,c,hTO⟩,h1,h2⟩:=st
  obtain ⟨d1,d2,d3,d4,d5,d6,d7,d8,d9,d10⟩:=D
  obtain ⟨o1,n1,e1,dd1⟩:=p1.obj
  obtain ⟨o2,n2,e2,dd2⟩:=p2.obj
  obtain ⟨oi1,vs1,ei1,di1⟩:=h1.obj
  obtain ⟨oi2,vs2,ei2,di2⟩:=h2.obj
  have D:ZipApart z TI TO i1 i2 a1 a2:=⟨d1,d2,d3,d4,d5,d6,d7,d8,d9,d10,cv I hq1 (hf z (by simp)),cv I hq1 (hf TO (by simp)),cv I hq1 (hf i1 (by simp)),cv I hq1 (hf i2 (by simp)),
   cv I hq2 (hf z (by simp)),cv I hq2 (hf TO (by simp)),cv I hq2 (hf i1 (by simp)),cv I hq2 (hf i2 (by simp))⟩
  refine m_ D hz hTI hTO h1 h2 p1 p2 (x:=u1) (y:=u2) (by simpa using hu1) (by simpa using hu2) fun h' g1 g2 g3 g4 g5 g6 g7=>⟨_,rfl,?_⟩
  refine wpAny_letOwnedTupleGo_zip (s:={ s with heap:=h' }) g1 fun h3 hz3 hs3=>?_
  have hnew:H s.heap.objs.size=none:=I.bx.fresh (Nat.le_refl _)
  have lt:∀ {c:Addr} {o:Obj},s.heap.get? c=some o->c≠s.heap.objs.size:=fun e=>Nat.ne_of_lt (Heap.lt_size e)
  have keep3:∀ b o,b ∉ [z,TO,i1,i2,TI]->s.heap.get? b=some o->h3.get? b=some o:=fun b o hb q=>by
   simp only [List.mem_cons,List.mem_nil_iff,or_false,not_or] at hb
   exact (hs3.2 b hb.1).trans (g7 b o hb.1 hb.2.1 hb.2.2.1 hb.2.2.2.1 q)
  have hT3:h3.get? s.heap.objs.size=some { cls:=.type "tuple", data:=.seq #[u1,u2] }:=(hs3.2 _ (lt hz).symm).trans g5
  have I3:Inv X pins σ (upd H s.heap.objs.size (.tup [x,y])) { s with heap:=h3,toks:=s.toks } :=
   I.kq (ch:=[z,TO,i1,i2,TI]) keep3 hf (Nat.le_refl _) (fun b hb=>by
    simp only [List.mem_cons,List.mem_nil_iff,or_false] at hb
    rcases hb with q | q | q | q | q <;> subst q
    ·exact ⟨_,hz⟩
    ·exact ⟨_,hTO⟩
    ·exact ⟨_,ei1⟩
    ·exact ⟨_,ei2⟩
    ·exact ⟨_,hTI⟩)
    ⟨by show 2<=sizeLine;decide,[u1,u2],.cons ru1 (.cons ru2 .nil),⟨_,hT3,rfl,_,rfl⟩⟩
  refine ⟨.ref s.heap.objs.size,_,I3,rfl,⟨_,x,y,hnew,rfl,rfl,fun zs hzs=>by rw [I.lV hzs hq1];exact hx,fun zs hzs=>by rw [I.lV hzs hq2];exact hy⟩,
   ⟨hz3,(hs3.2 TI d1).trans (g7 TI _ d1 d5 d6 d7 hTI),⟨_,_,(hs3.2 TO d2).trans g2⟩,g3.at fun o e=>(hs3.2 i1 d3).trans e,g4.at fun o e=>(hs3.2 i2 d4).trans e⟩,fun b hb=>?_⟩
  have nb:b≠s.heap.objs.size:=by
   simp only [List.mem_cons,List.mem_nil_iff,or_false] at hb
   rcases hb with q | q | q | q | q <;> subst q
   ·exact lt hz
   ·exact lt hTO
   ·exact lt ei1
   ·exact lt ei2
   ·exact lt hTI
  rw [au nb]
  exact (hf b hb).1
 done:=by
  intro X hP hw hK hc i pins s σ H E I hf st hg
  subst hP hw hK
  obtain ⟨xs,ys,hq1,hq2,hend⟩:=hg
  obtain ⟨its1,rv1,p1,hz1⟩:=I.row hq1
  obtain ⟨its2,rv2,p2,hz2⟩:=I.row hq2
  obtain ⟨hz,hTI,⟨a,c,hTO⟩,h1,h2⟩:=st
  obtain ⟨d1,d2,d3,d4,d5,d6,d7,d8,d9,d10⟩:=D
  have D:ZipApart z TI TO i1 i2 a1 a2:=⟨d1,d2,d3,d4,d5,d6,d7,d8,d9,d10,cv I hq1 (hf z (by simp)),cv I hq1 (hf TO (by simp)),cv I hq1 (hf i1 (by simp)),cv I hq1 (hf i2 (by simp)),
   cv I hq2 (hf z (by simp)),cv I hq2 (hf TO (by simp)),cv I hq2 (hf i1 (by simp)),cv I hq2 (hf i2 (by simp))⟩
  have l1:=rv1.length
  have l2:=rv2.length
  refine nY (I.ok.hd hc) D hz hTI hTO h1 h2 p1 p2 ?_ fun h' k=>⟨rfl,?_⟩
  ·rcases hend with q | q
   ·exact .inl (by simp;omega)
   ·exact .inr (by simp;omega)
  ·exact I.yj (t':=s.toks) (ch:=[z,TO,i1,i2,TI]) (fun b u hb e=>by
    simp only [List.mem_cons,List.mem_nil_iff,or_false,not_or] at hb
    exact k b u hb.1 hb.2.1 hb.2.2.1 hb.2.2.2.1 e) hf
 self:=fun _ _ _ _ _ st h=>by
  obtain ⟨hz,_⟩:=st
  exact wpAny_pyIter_zip hz h
theorem G5 (n:Nat):n+2≠n+4/\n+3≠n+4/\n≠n+4/\n+1≠n+4/\n+2≠n+3/\n+2≠n/\n+2≠n+1/\n+3≠n/\n+3≠n+1/\n≠n+1:=by
 refine ⟨?_,?_,?_,?_,?_,?_,?_,?_,?_,?_⟩ <;> omega
def Ir (K:PySem.W.Frag) (tl:TA):TI:=fun σ H R=>tl σ H fun vs H1=>∃ b1 b2 a1 a2,vs=[.ref a1,.ref a2]/\(∃ xs,kE K H1 b1 a1 xs)/\(∃ ys,kE K H1 b2 a2 ys)/\R (Rz K b1 b2 a1 a2) H1
theorem mz {elts:List Expr} {x1:Nat} {tp:Pos} {l1 l2:Expr} {tl:TA} {p pos:Pos} (hg:Gl X "zip") (hm:X.mg "zip" = none) (hl:PA X [l1,l2] tl) (hs:starEach [l1,l2] X.env=[(false,eval l1 X.env),(false,eval l2 X.env)]:=by rfl) (hs2:starEach [l2] X.env=[(false,eval l2 X.env)]:=by rfl) :
  PI X (.Tuple elts x1 tp) (.Call (.Name "zip" p) [l1,l2] [] pos) (Ir X.K tl):=by
 intro pins s σ H R I h
 refine Call_ (jl I hg hm PyProof.Rows.boot_zip (PyProof.Rows.callWith_type1 (cG (hl pos pins s σ H _ I h) fun us s1 ⟨vs,H1,I1,r1,q1⟩=>?_) (by rw [hs,hs2]) (by rw [hs2];rfl)))
 obtain ⟨b1,b2,a1,a2,e,⟨xs,hq1⟩,⟨ys,hq2⟩,q⟩:=q1
 subst e
 cases r1 with
 | cons r rr =>
  cases rr with
  | cons r' rr =>
   cases rr
   cases (show _=Value.ref a1 from r)
   cases (show _=Value.ref a2 from r')
   obtain ⟨its1,rv1,p1,hz1⟩:=I1.row hq1
   obtain ⟨its2,rv2,p2,hz2⟩:=I1.row hq2
   refine yT p1 p2 fun h' g1 g2 g3 g4 g5 g6 g7=>?_
   have I2:Inv X pins σ H1 { s1 with heap:=h' }:=I1.kept (t':=s1.toks) g7
   refine wpAny_pyIter_zip (s:={ s1 with heap:=h' }) g1 ?_
   refine ⟨s1.heap.objs.size+4,[s1.heap.objs.size+4,s1.heap.objs.size+3,s1.heap.objs.size,s1.heap.objs.size+1,s1.heap.objs.size+2],_,_,H1,rfl,I2,
    Br b1 b2 a1 a2 _ _ _ _ _ (G5 s1.heap.objs.size),⟨g1,g2,⟨_,_,g3⟩,g4,g5⟩,fun b hb=>?_,q⟩
   have hle:s1.heap.objs.size<=b:=by
    simp only [List.mem_cons,List.mem_nil_iff,or_false] at hb
    rcases hb with q | q | q | q | q
    ·rw [q];exact Nat.le_add_right _ 4
    ·rw [q];exact Nat.le_add_right _ 3
    ·rw [q];exact Nat.le_refl _
    ·rw [q];exact Nat.le_add_right _ 1
    ·rw [q];exact Nat.le_add_right _ 2
   exact I1.vk hle (I1.bx.fresh hle)
end
end L2
namespace L2
open PySem PySem.Spec PyProof.Rows
def Tt (K:PySem.W.Frag) (b:Bool) (a:Addr):It:=match b with
 | true=>UJ K a
 | false=>UN K a
section
variable {X:Cx} {tg:Expr}
def JG (K:PySem.W.Frag) (tl:TE):TI:=fun σ H R=>tl σ H fun x H1=>∃ b a,x=.ref a/\(∃ xs,kE K H1 b a xs)/\R (Tt K b a) H1
theorem eZ {l:Expr} {tl:TE} (hl:PE X l tl):PI X tg l (JG X.K tl):=by
 intro pins s σ H R I h
 refine cG (hl pins s σ H _ I h) fun v s1 ⟨x,H1,I1,r1,q1⟩=>?_
 obtain ⟨b,a,e,⟨xs,hq⟩,q⟩:=q1
 subst e
 cases r1
 cases b with
 | true =>
  obtain ⟨its,rv,p,hz⟩:=I1.list hq
  refine wpAny_pyIter_list p.isList ?_
  refine ⟨s1.heap.objs.size,[s1.heap.objs.size],_,_,H1,rfl,I1.kept (t':=s1.toks) fun b o e=>Heap.get?_push_of_some _ e,zO a _,⟨_,Heap.get?_push_size _ rfl,rfl,rfl⟩,fun b hb=>?_,q⟩
  have e:b=s1.heap.objs.size:=by simpa using hb
  subst e
  exact I1.vk (Nat.le_refl _) (I1.bx.fresh (Nat.le_refl _))
 | false =>
  obtain ⟨its,rv,p,hz⟩:=I1.tuple hq
  refine wpAny_pyIter_tuple (show s1.heap.IsTuple a its.toArray from p) ?_
  refine ⟨s1.heap.objs.size,[s1.heap.objs.size],_,_,H1,rfl,I1.kept (t':=s1.toks) fun b o e=>Heap.get?_push_of_some _ e,xg a _,⟨_,Heap.get?_push_size _ rfl,rfl,rfl⟩,fun b hb=>?_,q⟩
  have e:b=s1.heap.objs.size:=by simpa using hb
  subst e
  exact I1.vk (Nat.le_refl _) (I1.bx.fresh (Nat.le_refl _))
end
section
end
section
variable {X:Cx}
end
end L2
namespace L2
open PySem PySem.Spec PyProof.Rows
structure ji (K:PySem.W.Frag) (C:Addr):Prop where
 ga:PySem.W.findIn K (.ref C) "__getattribute__" = some (some (.builtin "BaseException.__getattribute__"))
 gn:PySem.W.findIn K (.ref C) "__getattr__" = some none
 hd:PySem.W.hasDictIn K C=true
 sa:PySem.W.findIn K (.ref C) "__setattr__" = some (some (.builtin "object.__setattr__"))
 mb:PySem.W.mroIn K C (.type "BaseException")=some true
 mo:PySem.W.mroIn K C (.type "object")=some true
 ca:PySem.W.findIn K (.ref C) "__class__" = some (some (.builtin "object.__class__"))
 cg:PySem.W.specialIn K (.builtin "object.__class__") "__get__" = some (some (.builtin "getset_descriptor.__get__"))
 ct:PySem.W.takesIn K (.builtin "object.__class__")=some true
section
variable {prog:Program} {w:World} {A:Around} {E:Value->Shared->Prop} {s:Shared} {K:PySem.W.Frag} {x C:Addr} {ox:Obj} {od:Option Obj} {name:Str}
theorem Cj:builtinKind "BaseException.__getattribute__" = some .slot:=by decide +kernel
theorem zo:splitId "BaseException.__getattribute__" = some ("BaseException", "__getattribute__"):=by decide +kernel
theorem Hq {tk:Tok} {fill expr:Bool} {Q:Value->Shared->Prop} (c:ji K C) (X:K.In s.heap) (I:PySem.W.InstAt s.heap x ox C od)
  (h:wpAny (model prog w) A.in1 (Builtin.«object.__getattribute__» ⟨[.ref x,.str name tk],[]⟩)
   (fun fin s'=>match fin with | .done (.ret v)=>wpAny (model prog w) A (handedOut v) Q E s' | _=>False) (fun _ _=>False) s) :
  wpAny (model prog w) A (getAttrBy (.ref x) (.str name tk) fill expr) Q E s:=by
 have hx2:(Value.builtin "BaseException.__getattribute__" == Value.builtin "object.__getattribute__")=false:=by decide +kernel
 have hx1:(onTheHeap (Value.ref C)&&Value.builtin "BaseException.__getattribute__" == Value.builtin "object.__getattribute__")=false:=by rw [hx2];rfl
 have hx0:(expr&&onTheHeap (Value.builtin "BaseException.__getattribute__"))=false:=by cases expr <;> rfl
 have sub:PySem.W.Looks (model prog w) s.heap (isInstance (.ref x) (.type "BaseException")) true:=I.type.andThen (PySem.W.looks_mroIn X c.mb)
 unfold getAttrBy
 refine wpAny_holding (wpAny_bind (I.type.here (wpAny_bind ((PySem.W.looks_findIn X c.ga).here ?_))))
 dsimp only
 rw [hx1,if_neg Bool.false_ne_true]
 unfold getAttrByItsOwn hookBefore
 refine wpAny_bind ?_
 show wpAny _ _ (typeLookup (.ref C) "__getattr__") _ _ _
 refine (PySem.W.looks_findIn X c.gn).here ?_
 refine wpAny_bind (wpAny_attempt (wpAny_holding ?_))
 unfold callGetattribute
 rw [hx0,if_neg Bool.false_ne_true]
 unfold boundAndCalled
 refine wpAny_bind (wpAny_of_eq (PySem.F.attr_ValueError.ga.bind _) ?_)
 refine wpAny_call (codeAny_call_builtin PySem.F.attr_ValueError.ga.plain PySem.F.entry_bexc_ga (@PySem.W.check_slot (model prog w) _ _ s "BaseException.__getattribute__" "BaseException" "__getattribute__" (.ref x) [.str name tk] [] _ Cj zo sub (PySem.F.args_bexc_ga _ _) ?_))
 refine wpAny_mono h (fun fin s' z=>?_) (fun _ _ z=>z.elim)
 rcases fin with (v | _ | _ | _) | _ <;> first | exact z | exact z.elim
end
end L2
namespace L2
open PySem PySem.Spec PyProof.Rows
open PySem.Builtin.ObjectAttr (storeInOwnDict storeTaker? setByDescriptor)
abbrev eE:List Value:=[.type "ValueError", .type "Exception", .type "BaseException", .type "object"]
def gG:List Value->Bool
 | .ref _::r=>gG r
 | l=>l==eE
theorem qr (self:Value):refuseLoop self "__setattr__" eE=pure ():=by kernel_rfl
theorem nP (self:Value):∀ {l:List Value},gG l=true->refuseLoop self "__setattr__" l=pure ()
 | .ref c::r,e=>by rw [PySem.refuseLoop_ref];exact nP self e
 | [],e=>by cases (show false=true from e)
 | .type n::r,e=>by rw [show Value.type n::r=eE from beq_iff_eq.mp e];exact qr self
 | .none::r,e=>by rw [show Value.none::r=eE from beq_iff_eq.mp e];exact qr self
section
variable {prog:Program} {w:World} {A:Around} {E:Value->Shared->Prop} {s:Shared} {K:PySem.W.Frag} {x C:Addr} {ox:Obj} {od:Option Obj} {name:Str}
theorem rF {a g:Value} (hc:(PySem.W.clsIn K C).isSome=true) (ha:PySem.W.findIn K (.ref C) name=some (some a)) (hg:PySem.W.specialIn K a "__get__" = some (some g)) (ht:PySem.W.takesIn K a=some true):PySem.W.findObj K C od name=some (.bind g a):=by
 obtain ⟨cd,hc⟩:=Option.isSome_iff_exists.mp hc
 unfold PySem.W.findObj
 rw [hc,Option.bind_some,ha,Option.bind_some]
 simp [hg,ht]
theorem yF {Q:Option Value->Shared->Prop} (c:ji K C) (X:K.In s.heap) (I:PySem.W.InstAt s.heap x ox C od) (h:Q (some (.ref C)) { s with toks:=s.toks+1 }):wpAny (model prog w) A (getAttr? (.ref x) "__class__") Q E s:=by
 have hc:(PySem.W.clsIn K C).isSome=true:=by obtain ⟨cd,hc,_⟩:=PySem.W.any_some c.hd;rw [hc];rfl
 have hf:PySem.W.findObj K C od "__class__" = some (.bind (.builtin "getset_descriptor.__get__") (.builtin "object.__class__")):=rF hc c.ca c.cg c.ct
 unfold getAttr? getAttrBy?
 refine wpAny_bind (wpAny_mkText (wpAny_bind (wpAny_attempt ?_)))
 refine Hq (s:={ s with toks:=s.toks+1 }) c X I ?_
 unfold Builtin.«object.__getattribute__»
 refine wpAny_bind (wpAny_pure ?_)
 dsimp only
 refine wpAny_bind (wpAny_pure ?_)
 refine wpAny_bind (I.type.here (s:={ s with toks:=s.toks+1 }) (wpAny_bind ((PySem.W.looks_find X I hf).here (s:={ s with toks:=s.toks+1 }) ?_)))
 show wpAny _ _ (holding [.builtin "object.__class__"] (call (.builtin "getset_descriptor.__get__") [.builtin "object.__class__", .ref x,.ref C]) >>= ret) _ _ _
 refine wpAny_bind (wpAny_holding (wpAny_call (PySem.W.class_get (s:={ s with toks:=s.toks+1 }) (ox:=ox) (od:=od) X I c.mo ?_)))
 refine wpAny_pure ?_
 exact PySem.W.handed_on rfl (wpAny_pure h)
theorem vg (c:ji K C):PySem.W.KitX K (.ref x) (.ref C) (fun h=>PySem.W.InstAt h x ox C od) where
 ty:=fun _ _ _ I=>I.type
 it:=fun _ _ X _=>by
  obtain ⟨cdD,hcD,_⟩:=PySem.W.any_some c.hd
  unfold PySem.W.clsIn at hcD
  split at hcD
  ·rename_i c' d' cd' sl' ho
   intro A' Q' E' s' k q
   unfold isType loadHead
   exact wpAny_bind (wpAny_loadPart (k _ _ (X _ _ ho)) (wpAny_pure q))
  ·cases hcD
 ne:=fun h tp dd its n sl X htp=>by
  obtain ⟨cdD,hcD,_⟩:=PySem.W.any_some c.hd
  refine Bool.eq_false_iff.mpr fun q=>?_
  have e:C=tp:=Value.ref.inj (beq_iff_eq.mp q)
  subst e
  unfold PySem.W.clsIn at hcD
  split at hcD
  ·rename_i c' d' cd' sl' ho
   have z:=(X _ _ ho).symm.trans htp
   cases z
  ·cases hcD
 ca:=fun X I k=>yF c X I k
theorem Eh {tk:Tok} {v:Value} {R:Result->Shared->Prop} (po:((PySem.W.clsIn K C).any fun cd=>gG cd.mro)=true) (c:ji K C) (X:K.In s.heap) (I:PySem.W.InstAt s.heap x ox C od) (ht:PySem.W.takerIn K C name=some none)
  (h:∀ b,wpAny (model prog w) A.in1 (storeInOwnDict (.ref x) (.ref C) (.str name tk) name v b)
   (fun fin s'=>match fin with | .done f=>R (.ok f) s' | .again c'=>c'.quiet=true/\codeAny (model prog w) A c' R s') (fun e s'=>R (.error e) s') s) :
  codeAny (model prog w) A (.call (.builtin "object.__setattr__") ⟨[.ref x,.str name tk,v],[]⟩) R s:=by
 have SF:=PySem.F.store_object
 obtain ⟨cd,hc,ho⟩:=PySem.W.any_some po
 have sub:PySem.W.Looks (model prog w) s.heap (isInstance (.ref x) (.type "object")) true:=I.type.andThen (PySem.W.looks_mroIn X c.mo)
 refine codeAny_call_builtin SF.slot.plain SF.entry (@PySem.W.check_slot (model prog w) _ _ s "object.__setattr__" "object" "__setattr__" (.ref x) [.str name tk,v] [] _ SF.kind SF.split sub (SF.args (.ref x) (.str name tk) v) ?_)
 obtain ⟨attr,ha,hr⟩:=Option.bind_eq_some_iff.mp ht
 have hm:PySem.W.Looks (model prog w) s.heap (mroOf (.ref C)) cd.mro:=(PySem.W.looks_clsIn X hc).andThen .now
 have L3:PySem.W.Looks (model prog w) s.heap (storeTaker? attr) none:=by
  cases attr with
  | none=>cases hr;exact .now
  | some a =>
   obtain ⟨b,hb,e⟩:=Option.map_eq_some_iff.mp hr
   refine (PySem.W.looks_takesIn X hb).andThen ?_
   cases b with
   | true=>cases e
   | false=>exact .now
 rw [PySem.W.osa_eq,PySem.refuse_eq]
 refine wpAny_bind (wpAny_bind (I.type.here (wpAny_bind (hm.here ?_))))
 rw [nP _ ho]
 refine wpAny_pure (wpAny_bind (I.type.here (wpAny_bind ((PySem.W.looks_findIn X ha).here (wpAny_bind (L3.here ?_))))))
 exact h _
theorem B_ {vs:Array Value} {v:Value} {Q:Unit->Shared->Prop} (po:((PySem.W.clsIn K C).any fun cd=>gG cd.mro)=true) (c:ji K C) (X:K.In s.heap) (hx:s.heap.get? x=some ⟨.ref C,none,.fields vs,#[]⟩) (ht:PySem.W.takerIn K C name=some none)
  (h:∀ h' tk d,h'.get? x=some ⟨.ref C,some d,.fields vs,#[]⟩->s.heap.get? d=none->h'.Ns1 d (fun y=>if y=name then some v else none)->(∀ b o,b≠x->s.heap.get? b=some o->h'.get? b=some o)->Q () { s with heap:=h',toks:=tk }) :
  wpAny (model prog w) A (setAttr (.ref x) name v) Q E s:=by
 have I:PySem.W.InstAt s.heap x ⟨.ref C,none,.fields vs,#[]⟩ C none:=⟨hx,rfl,rfl,trivial⟩
 refine PySem.W.set_plain X I c.sa (Eh (s:={ s with toks:=s.toks+1 }) po c X I ht fun b=>?_)
 obtain ⟨cd,hc,hd'⟩:=PySem.W.any_some c.hd
 have hlt:=Heap.lt_size hx
 refine wpAny_bind (wpAny_pure (wpAny_bind (wpAny_bind (wpAny_loadPart hx (wpAny_bind (PySem.W.Looks.here (s:={ s with toks:=s.toks+1 }) (PySem.W.looks_clsIn X hc) ?_))))))
 rw [hd']
 refine wpAny_bind (wpAny_alloc ?_)
 have hx1:(s.heap.push { cls:=.type "dict", data:=.dict #[] }).get? x=some ⟨.ref C,none,.fields vs,#[]⟩:=Heap.get?_push_of_some _ hx
 refine wpAny_bind (wpAny_update hx1 ?_)
 refine wpAny_pure (a:=some s.heap.objs.size) (wpAny_bind (wpAny_pure (wpAny_bind ?_)))
 have hx2:((s.heap.push { cls:=.type "dict", data:=.dict #[] }).update x fun o=>{ o with dict:=some s.heap.objs.size }).get? x=some ⟨.ref C,some s.heap.objs.size,.fields vs,#[]⟩:=Heap.get?_update_self _ hx1 rfl
 have e1:(s.heap.push { cls:=.type "dict", data:=.dict #[] }).get? s.heap.objs.size=some { cls:=.type "dict", data:=.dict #[] }:=Heap.get?_push_size s.heap rfl
 have nxd:s.heap.objs.size≠x:=Nat.ne_of_gt hlt
 have e2:((s.heap.push { cls:=.type "dict", data:=.dict #[] }).update x fun o=>{ o with dict:=some s.heap.objs.size }).get? s.heap.objs.size=some { cls:=.type "dict", data:=.dict #[] }:=by
  rw [Heap.get?_update_other _ _ (Ne.symm nxd)]
  exact e1
 have e3:((s.heap.push { cls:=.type "dict", data:=.dict #[] }).update x fun o=>{ o with dict:=some s.heap.objs.size }).Ns s.heap.objs.size (fun _=>none):=⟨_,#[],_,e2,rfl,(fun e he=>absurd he (by simp)),fun _=>rfl⟩
 refine wpAny_nsSet1 (s:={ s with heap:=(s.heap.push { cls:=.type "dict", data:=.dict #[] }).update x fun o=>{ o with dict:=some s.heap.objs.size },toks:=s.toks+1 }) (Heap.Ns1.of_empty e3) fun h' hn2 hs2=>?_
 obtain ⟨oD,esD,epD,hoD,hdD,hcD⟩:=hn2.count (PySem.Within.cons (ns:=[]) name v (fun y hy=>absurd rfl hy))
 refine wpAny_bind (wpAny_lookBehind hoD (by rw [hdD];exact pastItsLine_dict (Nat.le_trans hcD (by show 1<=sizeLine+1;exact Nat.le_add_left _ _))) ?_)
 refine wpAny_pure (h h' _ s.heap.objs.size ((hs2.2 x (Ne.symm nxd)).trans hx2) (Heap.get?_none_of_le (Nat.le_refl _)) hn2 fun b o hb e=>?_)
 refine (hs2.2 b (Nat.ne_of_lt (Heap.lt_size e))).trans ?_
 rw [Heap.get?_update_other _ _ (Ne.symm hb)]
 exact Heap.get?_push_of_some _ e
end
def kh (K:PySem.W.Frag) (C:Addr) (newId:String) (f:Addr):Bool:=match K.lookup C with
 | some ⟨.type "type", _,.cls cd,sl⟩=>(match cd.mro,sl.toList with
  | .ref C'::bm,[_,_,_,_,some (.builtin n),_]=>C'==C&&n==newId&&!cd.hasDel&&PySem.W.tailIn K eE bm&&PySem.W.nsOkIn K cd.ns&&PySem.W.nsIn K cd.ns "__init__" == some (some (.ref f))
  | _,_=>false)
 | _=>false
section
variable {prog:Program} {w:World} {A:Around} {E:Value->Shared->Prop} {h:Heap} {g:Array GenState} {d:Drawn} {t:Nat} {os:OsState}
variable {nm q:Str} {C N:Addr} {bs bm:List Value} {hdct:Bool} {sn:List Str} {sub:List Value} {ab:Bool} {col:Option Bool} {dd:Option Addr} {k0 k1 k2 k3 k5:Option Value} {newId initId:String}
theorem qb (F:ExcBaseFacts "ValueError" newId initId eE) (T:OwnTail h eE bm) {mN:Str->Option Value} {rest:List Value} {f:Addr} {Q:Fin->Shared->Prop}
  (hC:h.get? C=some (excClassObj nm q C N bs bm hdct sn sub ab col dd k0 k1 k2 k3 k5 newId)) (hn:h.Ns N mN) (hni:mN "__init__" = some (.ref f))
  (hb:∀ h':Heap,(∀ b o,h.get? b=some o->h'.get? b=some o)->∀ self,PySem.W.Looks (model prog w) h' (bindSpecial (.ref f) self) (.ref f,[self]))
  (hq:∀ h':Heap,(∀ b o,h.get? b=some o->h'.get? b=some o)->h'.get? h.objs.size=some { cls:=.type "tuple", data:=.seq rest.toArray } ->
   h'.get? (h.objs.size+1)=some { cls:=.ref C,data:=.fields #[.ref h.objs.size,.none,.none,.none,.bool false,.none] }->h'.objs.size=h.objs.size+2 ->
   wpAny (model prog w) A (call (.ref f) (.ref (h.objs.size+1)::rest)) (fun v s'=>v=.none/\Q (.done (.ret (.ref (h.objs.size+1)))) s') E ⟨h',g,d,t,os⟩) (B5:rest.length<=sizeLine:=by size_fits) :
  wpAny (model prog w) A (Builtin.«type.__call__» ⟨.ref C::rest,[]⟩) Q E ⟨h,g,d,t,os⟩:=by
 repeat (first | with_reducible refine wpAny_loadPart_at hC ?_ | with_reducible refine wpAny_madeBy_exc hC ?_ | wp_step)
 refine codeAny_call_builtin_code (Code.quiet_builtin _ F.quiet) (wpAny_check_new_subT F T hC ?_)
 refine codeAny_exc_new_subT F T hC ?_ B5
 show wpAny _ _ _ _ _ _
 have kp:∀ b o,h.get? b=some o->((h.push { cls:=.type "tuple", data:=.seq rest.toArray }).push { cls:=.ref C,data:=.fields #[.ref h.objs.size,.none,.none,.none,.bool false,.none] }).get? b=some o:=fun b o e=>Heap.get?_push_of_some _ (Heap.get?_push_of_some _ e)
 have hC₁:=kp _ _ hC
 have hn₁:((h.push { cls:=.type "tuple", data:=.seq rest.toArray }).push { cls:=.ref C,data:=.fields #[.ref h.objs.size,.none,.none,.none,.bool false,.none] }).Ns N mN:=hn.keeps kp
 have hget:((h.push { cls:=.type "tuple", data:=.seq rest.toArray }).push
   { cls:=.ref C,data:=.fields #[.ref h.objs.size,.none,.none,.none,.bool false,.none] }).get? (h.objs.size+1)=some
   { cls:=.ref C,data:=.fields #[.ref h.objs.size,.none,.none,.none,.bool false,.none] }:=by heap_get
 have htup:((h.push { cls:=.type "tuple", data:=.seq rest.toArray }).push
   { cls:=.ref C,data:=.fields #[.ref h.objs.size,.none,.none,.none,.bool false,.none] }).get? h.objs.size=some { cls:=.type "tuple", data:=.seq rest.toArray }:=Heap.get?_push_of_some _ (Heap.get?_push_size _ rfl)
 have hsz:((h.push { cls:=.type "tuple", data:=.seq rest.toArray }).push { cls:=.ref C,data:=.fields #[.ref h.objs.size,.none,.none,.none,.bool false,.none] }).objs.size=h.objs.size+2:=by rw [Heap.size_push,Heap.size_push]
 have hcC:(Value.ref C::bm).contains (.ref C)=true:=by simp
 have T₁:=T.keeps kp
 have hb₁:=hb _ kp (.ref (h.objs.size+1))
 have fin:=hq _ kp htup hget hsz
 generalize ((h.push { cls:=.type "tuple", data:=.seq rest.toArray }).push { cls:=.ref C,data:=.fields #[.ref h.objs.size,.none,.none,.none,.bool false,.none] })=h1 at *
 unfold isInstance
 repeat (first | with_reducible refine wpAny_loadPart_at hget ?_ | (with_reducible refine wpAny_isSubtype_exc hC₁ ?_;rw [hcC]) | wp_step)
 show wpAny _ _ (typeLookup (.ref C) _) _ _ _
 refine wpAny_typeLookup_tail hC₁ hn₁ T₁ F.mroIs F.init.lookup ?_
 rw [hni]
 refine wpAny_holding (wpAny_bind (hb₁.here ?_))
 refine wpAny_bind (wpAny_mono fin (fun v s' z=>?_) fun _ _ z=>z)
 obtain ⟨rfl,z⟩:=z
 wp_walk
 exact z
end
end L2
namespace L2
open PySem PySem.Spec PyProof.Rows
def jr (C:Addr) (dd:Option Addr) (e:Addr):HO:=.ext fun h=>∃ vs,h.get? e=some ⟨.ref C,dd,.fields vs,#[]⟩
def ExcAt (H:Hp) (e C:Addr) (fo:Option (List (Str×V))):Prop:=match fo with
 | none=>H e=some (jr C none e)
 | some fs=>∃ d,H e=some (jr C (some d) e)/\H d=some (.xd fs)
section
variable {X:Cx} {pins:List (Addr×Obj)} {σ:St} {H:Hp} {s:Shared}
theorem Inv.Bk (I:Inv X pins σ H s) {C e:Addr} {dd:Option Addr} (he:H e=some (jr C dd e)):∃ vs,s.heap.get? e=some ⟨.ref C,dd,.fields vs,#[]⟩:=(I.bx e _ he).1
theorem Inv.Di (I:Inv X pins σ H s) {C e:Addr} {fo:Option (List (Str×V))} (h:ExcAt H e C fo):∃ ox od,PySem.W.InstAt s.heap e ox C od/\(fo=none->od=none) ∧
  ∀ fs,fo=some fs->∃ (o:Obj) (mA:Str->Option Value),od=some o/\(∀ n,PySem.W.lookIn n o=some (mA n))/\∀ f,mF (fs.lookup f) (mA f):=by
 cases fo with
 | none =>
  obtain ⟨vs,q⟩:=I.Bk h
  exact ⟨_,none,⟨q,rfl,rfl,trivial⟩,fun _=>rfl,fun fs z=>(by cases z)⟩
 | some fs =>
  obtain ⟨d,h1,h2⟩:=h
  obtain ⟨vs,q⟩:=I.Bk h1
  obtain ⟨mA,n,r⟩:=(show ∃ mA,s.heap.Ns1 d mA/\∀ f,mF (fs.lookup f) (mA f) from I.bx d _ h2)
  obtain ⟨o,ho,hl⟩:=m5 n
  refine ⟨_,some o,⟨q,rfl,rfl,ho⟩,fun z=>(by cases z),fun fs' z=>?_⟩
  cases z
  exact ⟨o,mA,rfl,hl,r⟩
theorem Inv.tR {a:Addr} (I:Inv X pins σ H s) (hn:s.heap.get? a=none):H a=none:=by
 cases q:H a with
 | none=>rfl
 | some u =>
  exfalso
  have:∀ (u:HO),bT X.prog X.w H s.heap a u->∃ ob,s.heap.get? a=some ob:=by
   intro u
   induction u with
   | lst xs=>intro ⟨_,_,_,_,e⟩;exact ⟨_,e⟩
   | tup xs=>intro ⟨_,_,_,p⟩;obtain ⟨ob,e,_⟩:=p;exact ⟨ob,e⟩
   | dK kvs=>intro ⟨_,_,_,_,p⟩;obtain ⟨ob,_,_,e,_⟩:=p;exact ⟨ob,e⟩
   | dT kvs=>intro ⟨_,_,_,_,ob,_,_,e,_⟩;exact ⟨ob,e⟩
   | set S n=>intro p;obtain ⟨es,ob,xs,ep,e,_⟩:=p;exact ⟨_,e⟩
   | ins C dx fs=>intro ⟨_,_,_,e,_⟩;exact ⟨_,e⟩
   | own x=>intro ⟨ob,e⟩;exact ⟨ob,e⟩
   | xd fs=>intro ⟨mA,n,_⟩;obtain ⟨ob,e,_⟩:=m5 n;exact ⟨ob,e⟩
   | met f x=>intro e;exact ⟨_,e⟩
   | jS lo hi=>intro ⟨_,_,_,e⟩;exact ⟨_,e⟩
   | qU o u _=>intro ⟨e,_⟩;exact ⟨_,e⟩
   | EV ps=>intro e;exact ⟨_,e⟩
   | ext φ=>intro ⟨_,⟨ob,e⟩,_⟩;exact ⟨ob,e⟩
  obtain ⟨ob,e⟩:=this u (I.bx a u q)
  rw [hn] at e;cases e
theorem Inv.EZ {h':Heap} {t':Nat} {a:Addr} {o:HO} (I:Inv X pins σ H s) (k:∀ b u,s.heap.get? b=some u->h'.get? b=some u) (hn:s.heap.get? a=none) (new:bT X.prog X.w (upd H a o) h' a o) :
  Inv X pins σ (upd H a o) { s with heap:=h',toks:=t' }:=by
 have ne:∀ b u,s.heap.get? b=some u->b≠a:=fun b u e z=>by rw [z,hn] at e;cases e
 have hfr:H a=none:=I.tR hn
 have nea:∀ b u,H b=some u->b≠a:=fun b u e z=>by rw [z,hfr] at e;cases e
 refine I.un ⟨fun b u e _ _ _=>k b u e,fun b u e _ _ _=>⟨u.slots,k b u e⟩,fun b u e n _=>by rw [au (ne b u e)];exact n,fun b u e _=>⟨u,k b u e⟩,
  fun b xs e=>by rw [au (nea b _ e)];exact e,fun b ob u e=>by rw [au (nea b _ e)];exact e,fun b ps e=>⟨#[],by rw [au (nea b _ e),e];simp⟩⟩ fun b u e=>?_
 by_cases z:b=a
 ·subst z
  rw [aC] at e
  cases e
  exact new
 ·rw [au z] at e
  refine (I.bx b u e).og (fun c v _ q=>k c v q) (fun c q=>?_) fun c ys q=>?_
  ·rw [au (nea c _ q)];exact q
  ·rw [au (nea c _ q)];exact q
end
section
variable {X:Cx} {o:Expr} {ta:TE} {f m:Str} {pos apos:Pos}
def PM (K:PySem.W.Frag):List V->Hp->VK->Prop:=fun xs H Q=>∃ e C fo b,ji K C/\ExcAt H e C fo ∧
 ((∃ T,xs=[.ref e,.ty T]/\PySem.W.kitOne K (.ref C) (.type T)=some b)\/(∃ D,xs=[.ref e,.ref D]/\PySem.W.kitOne K (.ref C) (.ref D)=some b))/\Q (.bl b) H
theorem AV:dJ X (.builtin "isinstance") (PM X.K):=by
 intro pins s σ H xs us Q I r h
 obtain ⟨e,C,fo,b,c,ha,hc,q⟩:=h
 obtain ⟨ox,od,J,_⟩:=I.Di ha
 rcases hc with ⟨T,rfl,hk⟩ | ⟨D,rfl,hk⟩
 ·cases r with
  | cons r1 r2 =>
   cases r2 with
   | cons r3 r4 =>
    cases r4
    cases (show _=Value.ref e from r1)
    cases (show _=Value.type T from r3)
    exact PySem.W.kia_one (vg c) I.j0 J hk (fun z=>nomatch z) fun tk=>⟨.bl b,H,I.tok tk,rfl,q⟩
 ·cases r with
  | cons r1 r2 =>
   cases r2 with
   | cons r3 r4 =>
    cases r4
    cases (show _=Value.ref e from r1)
    cases (show _=Value.ref D from r3)
    exact PySem.W.kia_one (vg c) I.j0 J hk (fun z=>nomatch z) fun tk=>⟨.bl b,H,I.tok tk,rfl,q⟩
end
theorem xw {K:PySem.W.Frag} {h:Heap} {N:Addr} {mg:Str->Option Value} {n:Str} {v:Value} (X:K.In h) (G:h.Ns N mg) (e:PySem.W.nsIn K N n=some (some v)):mg n=some v:=by
 obtain ⟨o,es,ep,ho,hd,_,hf⟩:=G
 unfold PySem.W.nsIn at e
 split at e
 ·rename_i c d es' n' sl q
  have:=X _ _ q
  rw [ho] at this
  cases this
  cases hd
  split at e
  ·rename_i en he
   cases e
   rw [← hf]
   unfold nsFind findBy
   rw [← Array.find?_toList,he]
   rfl
  ·split at e <;> cases e
 ·cases e
theorem Em {K:PySem.W.Frag} {h:Heap} {C:Addr} {newId:String} (X:K.In h) (q:PySem.W.excIn K C eE newId=true) :
  ∃ bm N nm qn bs hdct sn sub ab col dd k0 k1 k2 k3 k5 mN,h.get? C=some (excClassObj nm qn C N bs bm hdct sn sub ab col dd k0 k1 k2 k3 k5 newId)/\h.Ns N mN/\mN "__init__" = none/\OwnTail h eE bm:=by
 unfold PySem.W.excIn at q
 split at q
 ·rename_i dd cd sl ho
  split at q
  ·rename_i C' bm k0 k1 k2 k3 n k5 hm hs
   simp only [Bool.and_eq_true,beq_iff_eq,Bool.not_eq_true'] at q
   obtain ⟨⟨⟨⟨⟨rfl,rfl⟩,hdel⟩,ht⟩,bx⟩,hni⟩:=q
   obtain ⟨nm,bs,mro,ns,qn,hd,sn,sub,ab,col,del⟩:=cd
   dsimp only at hm hdel bx hni
   subst hm hdel
   have hsl:sl=#[k0,k1,k2,k3,some (.builtin n),k5]:=by
    obtain ⟨l⟩:=sl
    simp only at hs
    rw [hs]
   subst hsl
   exact ⟨bm,ns,nm,qn,bs,hd,sn,sub,ab,col,dd,k0,k1,k2,k3,k5,_,X _ _ ho,.of_isNs (PySem.W.isNs_of_in X bx),PySem.W.nsMap_none_of_in X bx hni,PySem.W.tail_of_in X ht⟩
  ·cases q
 ·cases q
theorem z7 {K:PySem.W.Frag} {h:Heap} {C f:Addr} {newId:String} (X:K.In h) (q:kh K C newId f=true) :
  ∃ bm N nm qn bs hdct sn sub ab col dd k0 k1 k2 k3 k5 mN,h.get? C=some (excClassObj nm qn C N bs bm hdct sn sub ab col dd k0 k1 k2 k3 k5 newId)/\h.Ns N mN/\mN "__init__" = some (.ref f)/\OwnTail h eE bm:=by
 unfold kh at q
 split at q
 ·rename_i dd cd sl ho
  split at q
  ·rename_i C' bm k0 k1 k2 k3 n k5 hm hs
   simp only [Bool.and_eq_true,beq_iff_eq,Bool.not_eq_true'] at q
   obtain ⟨⟨⟨⟨⟨rfl,rfl⟩,hdel⟩,ht⟩,bx⟩,hni⟩:=q
   obtain ⟨nm,bs,mro,ns,qn,hd,sn,sub,ab,col,del⟩:=cd
   dsimp only at hm hdel bx hni
   subst hm hdel
   have hsl:sl=#[k0,k1,k2,k3,some (.builtin n),k5]:=by
    obtain ⟨l⟩:=sl
    simp only at hs
    rw [hs]
   subst hsl
   have hN:=Heap.Ns.of_isNs (PySem.W.isNs_of_in X bx)
   exact ⟨bm,ns,nm,qn,bs,hd,sn,sub,ab,col,dd,k0,k1,k2,k3,k5,_,X _ _ ho,hN,xw X hN hni,PySem.W.tail_of_in X ht⟩
  ·cases q
 ·cases q
section
variable {X:Cx} {C f:Addr} {fd:FuncData} {ps:List Str} {sp:Sp} {x:Str} {p pos:Pos} {e:Expr} {es:List Expr} {t:TA} {k:Nat}
end
end L2
namespace L2
open PySem PySem.Spec PyProof.Rows
open PySem.SeqAt (shaped noMix noMixAll)
section
variable {X:Cx}
end
end L2
namespace L2
open PySem PySem.Spec PyProof.Rows
open PySem.SeqAt (shaped noMix noMixAll)
section
variable {X:Cx} {pins:List (Addr×Obj)} {σ:St} {H:Hp} {s:Shared}
theorem DP {x:V} {u t:Value} (I:Inv X pins σ H s) (rx:RelV x u) (ty:jT X.K H x t):∃ HH:Heap->Prop,PySem.W.KitX X.K u t HH/\HH s.heap/\u≠.builtin "__main__.__loader__#opaque" := by
 cases ty with
 | cI=>cases (show u=Value.none from rx);exact ⟨_,PySem.W.kitx_none,True.intro,fun z=>nomatch z⟩
 | bl y=>cases (show u=Value.bool y from rx);exact ⟨_,PySem.W.kitx_bool,True.intro,fun z=>nomatch z⟩
 | int i=>obtain ⟨t,q⟩:=(show ∃ t,u=Value.int i t from rx);cases q;exact ⟨_,PySem.W.kitx_int,True.intro,fun z=>nomatch z⟩
 | str y=>obtain ⟨t,q⟩:=(show ∃ t,u=Value.str y t from rx);cases q;exact ⟨_,PySem.W.kitx_str,True.intro,fun z=>nomatch z⟩
 | ES y=>obtain ⟨t,q⟩:=(show ∃ t,u=Value.float y t from rx);cases q;exact ⟨_,PySem.W.kitx_float,True.intro,fun z=>nomatch z⟩
 | @lst a xs ea =>
  cases (show u=Value.ref a from rx)
  obtain ⟨_,_,n,_,h1⟩:=(show bT X.prog X.w H s.heap a (.lst xs) from I.bx a _ ea)
  exact ⟨_,PySem.W.kitx_list,⟨_,h1,rfl⟩,fun z=>nomatch z⟩
 | @qU a ob xs ea =>
  cases (show u=Value.ref a from rx)
  obtain ⟨_,_,_,n,_,h1⟩:=(show bT X.prog X.w H s.heap a (.qU ob (.lst xs)) from I.bx a _ ea)
  exact ⟨_,PySem.W.kitx_list,⟨_,h1,rfl⟩,fun z=>nomatch z⟩
 | @tup a xs ea =>
  cases (show u=Value.ref a from rx)
  obtain ⟨_,_,_,o,h1,h2,_⟩:=(show bT X.prog X.w H s.heap a (.tup xs) from I.bx a _ ea)
  exact ⟨_,PySem.W.kitx_tuple,⟨o,h1,h2⟩,fun z=>nomatch z⟩
 | @dK a kvs ea =>
  cases (show u=Value.ref a from rx)
  obtain ⟨_,_,vs,_,o,es,ep,h1,h2,_⟩:=(show bT X.prog X.w H s.heap a (.dK kvs) from I.bx a _ ea)
  exact ⟨_,PySem.W.kitx_dict,⟨o,h1,h2.1⟩,fun z=>nomatch z⟩
 | @dT a kvs ea =>
  cases (show u=Value.ref a from rx)
  obtain ⟨_,_,xs,_,o,es,ep,h1,h2,_⟩:=(show bT X.prog X.w H s.heap a (.dT kvs) from I.bx a _ ea)
  exact ⟨_,PySem.W.kitx_dict,⟨o,h1,h2.1⟩,fun z=>nomatch z⟩
 | @ins a C dx fs ea cl ha hn HN hm =>
  cases (show u=Value.ref a from rx)
  obtain ⟨mA,O,_⟩:=lG I.bx ea
  obtain ⟨od,J,_⟩:=O.look
  exact ⟨_,PySem.W.kitx_own (cl.get _) cl.hd ha hn HN hm,J,fun z=>nomatch z⟩
end
section
variable {X:Cx}
def JQ (K:PySem.W.Frag):List V->Hp->VK->Prop:=fun xs H Q=>∃ (x:V) (tp:Addr) (Ts:List String) (t:Value) (b:Bool),xs=[x,.ref tp]/\H tp=some (.tup (Ts.map V.ty))/\jT K H x t/\PySem.W.kitAny K t (Ts.map Value.type)=some b/\Q (.bl b) H
theorem yc:∀ {Ts:List String} {us:List Value},Vals (Ts.map V.ty) us->us=Ts.map Value.type
 | [],us,r=>by rw [List.map_nil] at r;cases r;rfl
 | T::Ts,us,r=>by
  rw [List.map_cons] at r
  cases r with
  | cons r1 r2 =>
   cases (show _=Value.type T from r1)
   rw [yc r2]
   rfl
theorem yL:dJ X (.builtin "isinstance") (JQ X.K):=by
 intro pins s σ H xs us Q I r h
 obtain ⟨x,tp,Ts,t,b,rfl,htp,ty,e,q⟩:=h
 cases r with
 | cons r1 r2 =>
  cases r2 with
  | cons r3 r4 =>
   cases r4
   cases (show _=Value.ref tp from r3)
   obtain ⟨HH,Z,p,ne⟩:=DP I r1 ty
   obtain ⟨_,its,rv,o,h1,h2,n,h3⟩:=(show bT X.prog X.w H s.heap tp (.tup (Ts.map V.ty)) from I.bx tp _ htp)
   have ei:=yc rv
   subst ei
   obtain ⟨cls,dd,data,sl⟩:=o
   dsimp only at h2 h3
   subst h2 h3
   exact PySem.W.kia_tup Z I.j0 p h1 e ne fun tk=>⟨.bl b,H,I.tok tk,rfl,q⟩
theorem xM:∀ {bs:List Bool} {us:List Value},Vals (bs.map V.bl) us->us=bs.map Value.bool
 | [],us,r=>by rw [List.map_nil] at r;cases r;rfl
 | b::bs,us,r=>by
  rw [List.map_cons] at r
  cases r with
  | cons r1 r2 =>
   cases (show _=Value.bool b from r1)
   rw [xM r2]
   rfl
theorem GV:bootBuiltins "all" = some (.builtin "all"):=by decide +kernel
theorem zQ (hc:X.calm=true):dJ X (.builtin "all") (fun xs H Q=>∃ (a:Addr) (bs:List Bool),xs=[.ref a]/\jg X.K H a (bs.map V.bl)/\Q (.bl (bs.all id)) H):=by
 intro pins s σ H xs us Q I r h
 obtain ⟨a,bs,rfl,hq,q⟩:=h
 cases r with
 | cons r1 r2 =>
  cases r2
  cases (show _=Value.ref a from r1)
  obtain ⟨its,rv,p,hz⟩:=I.list hq
  have ei:=xM rv
  subst ei
  have hl:=p.isList
  have hlt:a<s.heap.objs.size:=by obtain ⟨_,e,_⟩:=hl;exact Heap.lt_size e
  refine call_all_walk (wpAny_pyIter_list hl ?_)
  refine ⟨s.heap.objs.size,[s.heap.objs.size,a],[s.heap.objs.size],(bs.map Value.bool).toArray.size,_,_,fun i=>(bs[i]?).getD true,rfl,Walks.list (A:=X.A.in1) (I.ok.hd hc) _ a (Nat.ne_of_lt hlt) (bs.map Value.bool).toArray,
   ⟨⟨_,Heap.get?_push_size _ rfl,rfl,rfl⟩,hl.push _⟩,fun i v s' Q' E' hP hQ=>?_,fun h' tk hk=>?_⟩
  ·have hP':(bs.map Value.bool)[i]?=some v:=by simpa using hP
   rw [List.getElem?_map] at hP'
   obtain ⟨b,e1,e2⟩:=Option.map_eq_some_iff.mp hP'
   subst e2
   simp only [e1,Option.getD_some] at hQ
   exact wpAny_truthy_bool hQ
  ·have e:((List.range (bs.map Value.bool).toArray.size).all fun i=>(bs[i]?).getD true)=bs.all id:=by
    rw [List.size_toArray,List.length_map]
    rw [Bool.eq_iff_iff,List.all_eq_true,List.all_eq_true]
    constructor
    ·intro h b hb
     obtain ⟨i,hi,e⟩:=List.getElem_of_mem hb
     have:=h i (List.mem_range.mpr hi)
     simp only [List.getElem?_eq_getElem hi,Option.getD_some,e] at this
     exact this
    ·intro h i hi
     have hi':=List.mem_range.mp hi
     simp only [List.getElem?_eq_getElem hi',Option.getD_some]
     exact h _ (List.getElem_mem hi')
   rw [e]
   refine ⟨.bl _,H,I.kept (t':=tk) (fun b x e=>?_),rfl,q⟩
   exact hk b x (fun hm=>by rw [List.mem_singleton.mp hm] at e;exact Nat.lt_irrefl _ (Heap.lt_size e)) (Heap.get?_push_of_some _ e)
end
end L2
namespace L2
open PySem PySem.Spec PyProof.Rows
open PySem.MeetsSeq PySem.MeetsSeq2 PySem.MeetsSeq3
theorem mr:fillsNumberSlot (.type "tuple") "mul" = pure false :=
 PySem.fillsNumberSlot_seq (id := "tuple.__mul__") (r:=some (.builtin "tuple.__rmul__")) F.slot_tuple_mul.lookup (by decide +kernel) F.slot_tuple_rmul.lookup (by decide +kernel)
theorem tK:seqRepeat? (.type "tuple")=pure (some (.builtin "tuple.__mul__")):=by
 unfold seqRepeat?
 rw [PySem.seqSlot_of (T := "tuple") (name := "__mul__") (id := "tuple.__mul__") F.slot_tuple_mul.lookup (by decide +kernel),PySem.seqSlot_of (T := "tuple") (name := "__rmul__") (id := "tuple.__rmul__") F.slot_tuple_rmul.lookup (by decide +kernel)]
 rfl
theorem tY (a:Int) (t:Tok) (l:Addr) (items:Array Value) (n:Nat) (dd:Option Addr) (sl:Array (Option Value)) :
  Meets (Builtin.«int.__rmul__» ⟨[.int a t,.ref l],[]⟩) (fun _ R s=>s.heap.get? l=some ⟨.type "tuple", dd,.seq items n,sl⟩/\R (.ok (.ret Value.notImplemented)) s) :=
 .of_wp fun prog w A R s h=>by obtain ⟨hp,g,d,tk,os⟩:=s;obtain ⟨hl,h⟩:=h;wp_walk;exact ⟨_,rfl,h⟩
theorem zj (l:Addr) (items:Array Value) (n:Nat) (dd:Option Addr) (sl:Array (Option Value)) (u:Tok) :
  Meets (Builtin.«tuple.__mul__» ⟨[.ref l,.int 1 u],[]⟩) (fun _ R s=>s.heap.get? l=some ⟨.type "tuple", dd,.seq items n,sl⟩/\R (.ok (.ret (.ref l))) s) :=
 .of_wp fun prog w A R s h=>by
  obtain ⟨hp,g,d,tk,os⟩:=s;obtain ⟨hl,h⟩:=h;have f1:=AutoSeq1.idx_int;have f2:=AutoSeq1.sub_tuple_tuple
  wp_walk using AutoSeq1.wpAny_loadPart' hl
  exact ⟨_,rfl,h⟩
theorem zr (l:Addr) (items:Array Value) (n:Nat) (dd:Option Addr) (sl:Array (Option Value)) (x:Int) (u:Tok) (c0:¬ (decide (x < -2^63)||decide (x>=2^63))=true) (c1:¬ (items.isEmpty||x==1)=true) (c2:¬ (decide (x<=0)||items.isEmpty)=true)
  (c3:¬ (items.size:Int)*x>(2^63-1)/8) (c4:¬ Builtin.Tuple.tupleTooMany ((items.size:Int)*x)=true) (hsz:(List.foldl (fun x1 x2=>x1++x2) #[] (List.replicate x.toNat items)).size<=sizeLine) :
  Meets (Builtin.«tuple.__mul__» ⟨[.ref l,.int x u],[]⟩) (fun _ R s=>s.heap.get? l=some ⟨.type "tuple", dd,.seq items n,sl⟩/\R (.ok (.ret (.ref s.heap.objs.size))) { s with heap:=s.heap.push { cls:=.type "tuple", data:=.seq (List.foldl (fun x1 x2=>x1++x2) #[] (List.replicate x.toNat items)) },toks:=s.toks }) :=
 .of_wp fun prog w A R s h=>by
  obtain ⟨hp,g,d,tk,os⟩:=s;obtain ⟨hl,h⟩:=h;have f1:=AutoSeq1.idx_int;have f2:=AutoSeq1.sub_tuple_tuple
  wp_walk using AutoSeq1.wpAny_loadPart' hl
  refine wpAny_ite_false (decide_eq_false c0) ?_;wp_walk using AutoSeq1.wpAny_loadPart' hl
  refine wpAny_ite_false (decide_eq_false c3) ?_;wp_walk using AutoSeq1.wpAny_loadPart' hl
  exact ⟨_,rfl,h⟩
theorem zi (l:Addr) (items:Array Value) (n:Nat) (dd:Option Addr) (sl:Array (Option Value)) (x:Int) (u:Tok) (c0:¬ (decide (x < -2^63)||decide (x>=2^63))=true) (c1:¬ (items.isEmpty||x==1)=true) (c2:(decide (x<=0)||items.isEmpty)=true) :
  Meets (Builtin.«tuple.__mul__» ⟨[.ref l,.int x u],[]⟩) (fun _ R s=>s.heap.get? l=some ⟨.type "tuple", dd,.seq items n,sl⟩/\R (.ok (.ret (.ref s.heap.objs.size))) { s with heap:=s.heap.push { cls:=.type "tuple", data:=.seq #[] },toks:=s.toks }) :=
 .of_wp fun prog w A R s h=>by
  obtain ⟨hp,g,d,tk,os⟩:=s;obtain ⟨hl,h⟩:=h;have f1:=AutoSeq1.idx_int;have f2:=AutoSeq1.sub_tuple_tuple
  wp_walk using AutoSeq1.wpAny_loadPart' hl
  refine wpAny_ite_false (decide_eq_false c0) ?_;wp_walk using AutoSeq1.wpAny_loadPart' hl
  exact ⟨_,rfl,h⟩
section
variable {X:Cx}
def EA (K:PySem.W.Frag):R2:=fun x y H Q=>∃ a k xs,x=.ref a/\y=.int k/\ib K H a xs/\xs≠[]/\-(2^63)<=k/\k<2^63/\xs.length*k.toNat<=sizeLine/\(k=1->Q (.ref a) H)/\(k≠1->∀ p,H p=none->Q (.ref p) (upd H p (.tup (List.replicate k.toNat xs).flatten)))
theorem CQ:gW X (binaryOp .Mult) (EA X.K):=by
 intro pins s σ H x y v u Q I rx ry h
 obtain ⟨a,k,xs,rfl,rfl,hq,hne,h1,h2,hz,q1,q2⟩:=h
 cases rx
 obtain ⟨t,rfl⟩:=ry
 obtain ⟨its,r,⟨o,e,hc,n,hd⟩,_⟩:=I.tuple hq
 obtain ⟨cls,dd,data,sl⟩:=o
 dsimp only at hc hd
 subst hc hd
 have hl:=r.length
 refine wpAny_binaryOp_repeat_ref (T := "tuple") (U := "int") (by decide) ⟨_,e,rfl⟩ (fun s'=>typeIs_int s' k t) mr F.fills_int_mul F.slot_int_rmul tK F.slot_int_index.lookup
  (call_meets F.slot_int_rmul (typeIs_int s k t) F.entry_int_rmul (F.args_int_rmul_2 _ _) (tY k t a its.toArray n dd sl) ⟨e,rfl,⟨_,e,rfl⟩,?_⟩)
 by_cases hk1:k=1
 ·subst hk1
  exact call_meets F.slot_tuple_mul ⟨_,e,rfl⟩ F.entry_tuple_mul (F.args_tuple_mul_2 _ _) (zj a its.toArray n dd sl t) ⟨e,⟨.ref a,H,I,rfl,q1 rfl⟩⟩
 ·have hb1:(k==1)=false:=by simpa using hk1
  have hni:its≠[]:=fun z=>hne (r.mf.mp z)
  have hie:its.toArray.isEmpty=false:=by cases its with | nil=>exact absurd rfl hni | cons _ _=>rfl
  have c0:¬ (decide (k < -2^63)||decide (k>=2^63))=true:=by simp;omega
  have c1:¬ (its.toArray.isEmpty||k==1)=true:=by rw [hie,hb1];simp
  have fin:∀ ys,ys=(List.replicate k.toNat its).flatten.toArray->EP X pins σ Q (.ref s.heap.objs.size) { s with heap:=s.heap.push { cls:=.type "tuple", data:=.seq ys },toks:=s.toks }:=fun ys ey=>by
   subst ey
   refine ⟨.ref s.heap.objs.size,_,I.laid (t':=s.toks) (o:=.tup (List.replicate k.toNat xs).flatten) (fun b ob q=>Heap.get?_push_of_some _ q) (Nat.le_refl _) ?_,rfl,q2 hk1 _ (I.bx.fresh (Nat.le_refl _))⟩
   exact ⟨by rw [len_rep,Nat.mul_comm];exact hz,_,r.rep k.toNat,IsTup.new _ _⟩
  have hnew:List.foldl (fun x1 x2=>x1++x2) #[] (List.replicate k.toNat its.toArray)=(List.replicate k.toNat its).flatten.toArray:=by
   have:=foldl_rep its k.toNat []
   rw [List.nil_append] at this
   exact this
  by_cases hk0:k<=0
  ·have c2:(decide (k<=0)||its.toArray.isEmpty)=true:=by rw [decide_eq_true hk0];rfl
   refine call_meets F.slot_tuple_mul ⟨_,e,rfl⟩ F.entry_tuple_mul (F.args_tuple_mul_2 _ _) (zi a its.toArray n dd sl k t c0 c1 c2) ⟨e,fin _ ?_⟩
   rw [show k.toNat=0 by omega]
   rfl
  ·have c2:¬ (decide (k<=0)||its.toArray.isEmpty)=true:=by rw [decide_eq_false hk0,hie];simp
   have em:((its.toArray.size:Nat):Int)*k=((xs.length*k.toNat:Nat):Int):=by
    rw [List.size_toArray,← hl,Int.natCast_mul,Int.toNat_of_nonneg (by omega)]
   have hs:(sizeLine:Int)<=(2^63-1)/8:=by decide
   refine call_meets F.slot_tuple_mul ⟨_,e,rfl⟩ F.entry_tuple_mul (F.args_tuple_mul_2 _ _) (zr a its.toArray n dd sl k t c0 c1 c2 ?_ ?_ ?_) ⟨e,fin _ hnew⟩
   ·rw [em];omega
   ·rw [em]
    unfold Builtin.Tuple.tupleTooMany
    simp only [decide_eq_true_eq]
    omega
   ·rw [hnew,List.size_toArray,len_rep,Nat.mul_comm,← hl]
    exact hz
end
end L2
namespace L2
open PySem PySem.Spec PyProof.Rows
structure aF (K:PySem.W.Frag) (x qual:Str) (st:Stmt) (dv:Value) (f:Addr) (fd:FuncData):Prop where
 ex:∃ (oc:Value) (od:Option Addr) (kV doc pm:Value) (an:Option Addr) (cdv ct:Value) (osl:Array (Option Value)),
  fd=PySem.W.fnOf x qual (aB st) (aA st) (ah st) dv kV doc pm an cdv ct/\K.lookup f=some ⟨oc,od,.func fd,osl⟩/\PySem.W.codeIn K cdv qual=true
 kp:PySem.W.keepIn K (.ref f)=true
section
variable {P:Program} {w:World} {K:PySem.W.Frag} {mg:Str->Option Value} {base:Heap}
theorem aF.binds {x qual:Str} {st:Stmt} {T:Addr} {o:Obj} {items:Array Value} {n:Nat} {f:Addr} {fd:FuncData} {ps:List Str} {ds:List Value} (F:aF K x qual st (.ref T) f fd) (ho:K.lookup T=some o) (hs:o.data=.seq items n)
  (h:∀ (kV doc pm:Value) (an:Option Addr) (cdv ct:Value) (us:List Value),(us++ds).length=ps.length->∃ k,bindArgs (PySem.W.fnOf x qual (aB st) (aA st) (ah st) (.ref T) kV doc pm an cdv ct) ⟨us,[]⟩=seqItems? (.ref T) >>= k/\k (some items)=pure (ps.zip (us++ds))):Binds K fd ps ds:=by
 obtain ⟨oc,od,kV,doc,pm,an,cdv,ct,osl,rfl,lk,hcd⟩:=F.ex
 intro s us X hl
 obtain ⟨k,h1,h2⟩:=h kV doc pm an cdv ct us hl
 exact BindsTo.of_defaults rfl (X _ _ ho) hs h1 h2
end
theorem Jn {X:Cx} {x:Str} {v:V} {pos:Pos} (hg:Gl X x) (hm:∃ u,X.mg x=some u/\RelV v u) (hd:(x==("__debug__" : Str))=false:=by decide):PE X (.Name x pos) (tC v):=by
 obtain ⟨u,h1,h2⟩:=hm
 exact DE hg h1 h2 hd
theorem BQ:bootBuiltins "max" = some (.builtin "max"):=by decide +kernel
theorem FL:bootBuiltins "min" = some (.builtin "min"):=by decide +kernel
end L2
namespace L2
open PySem PySem.Spec PyProof.Rows
end L2
namespace L2
open PySem PySem.Spec PyProof.Rows
end L2
namespace L2
open PySem PySem.Spec PyProof.Rows
theorem pE (a b c:Value):checkTypeCall "zip" ⟨[a,b,c],[]⟩=pure ():=by kernel_rfl
theorem qW (a b c:Value):checkBuiltinCall "zip.__new__" ⟨[.type "zip", a,b,c],[]⟩=pure ():=by kernel_rfl
abbrev br (h:Heap) (T:Addr) (a b c:Value):Prop:=h.get? T=some { cls:=.type "tuple", data:=.seq #[a,b,c] }
structure Z3 (z TI TO i1 i2 i3:Addr):Prop where
 TIz:TI≠z
 TOz:TO≠z
 i1z:i1≠z
 i2z:i2≠z
 HW:i3≠z
 TITO:TI≠TO
 TIi1:TI≠i1
 TIi2:TI≠i2
 TF:TI≠i3
 TOi1:TO≠i1
 TOi2:TO≠i2
 Dw:TO≠i3
 i12:i1≠i2
 Rj:i1≠i3
 Qu:i2≠i3
structure L3 (z TO i1 i2 i3 l:Addr):Prop where
 z:l≠z
 o:l≠TO
 i1:l≠i1
 i2:l≠i2
 i3:l≠i3
section
variable {prog:Program} {w:World} {A:Around} {E:Value->Shared->Prop} {s:Shared}
theorem dy {T:Addr} {a b c x:Value} {k:Nat} {Q:Unit->Shared->Prop} (hT:br s.heap T a b c)
  (h:∀ h',h'.get? T=some { cls:=.type "tuple", data:=.seq ((#[a,b,c]:Array Value).setIfInBounds k x) }->Heap.SameBut T s.heap h'->Q () { s with heap:=h' }) :
  wpAny (model prog w) A (updateSeq T (·.setIfInBounds k x)) Q E s:=by
 refine wpAny_updateSeq hT rfl (h _ ?_ (Heap.SameBut.update ..))
 rw [Heap.get?_update_self _ hT rfl]
 simp [Obj.mapSeq]
variable {b1 b2 b3:Bool} {z TI TO i1 i2 i3 l1 l2 l3:Addr} {k1 k2 k3:Nat} {xs ys zs:Array Value} {x y v a b c:Value}
theorem yJ {Q:Value->Shared->Prop} (D:Z3 z TI TO i1 i2 i3) (D1:L3 z TO i1 i2 i3 l1) (D2:L3 z TO i1 i2 i3 l2) (D3:L3 z TO i1 i2 i3 l3)
  (hz:IsZip s.heap z TI TO .none) (hTI:br s.heap TI (.ref i1) (.ref i2) (.ref i3)) (hTO:br s.heap TO a b c)
  (h1:eK s.heap b1 i1 l1 k1) (h2:eK s.heap b2 i2 l2 k2) (h3:eK s.heap b3 i3 l3 k3) (hl1:f7 s.heap b1 l1 xs) (hl2:f7 s.heap b2 l2 ys) (hl3:f7 s.heap b3 l3 zs) (hx:xs[k1]?=some x) (hy:ys[k2]?=some y) (hv:zs[k3]?=some v)
  (hQ:∀ h',IsZip h' z TI TO (rawInt s.heap.objs.size)->br h' TO x y v->eK h' b1 i1 l1 (k1+1)->eK h' b2 i2 l2 (k2+1)->eK h' b3 i3 l3 (k3+1)->br h' s.heap.objs.size x y v->h'.objs.size=s.heap.objs.size+1 ->
   (∀ c o,c≠z->c≠TO->c≠i1->c≠i2->c≠i3->s.heap.get? c=some o->h'.get? c=some o)->Q (.ref s.heap.objs.size) { s with heap:=h' }) :
  wpAny (model prog w) A (Builtin.«zip.__next__» ⟨[.ref z],[]⟩) (fun fin s'=>∃ v,fin=.done (.ret v)/\Q v s') E s:=by
 show wpAny _ _ (field (.ref z) 2 >>= _) _ _ _
 refine wpAny_bind (wpAny_field hz rfl (x:=.bool false) rfl ?_)
 show wpAny _ _ (field (.ref z) 3 >>= _) _ _ _
 refine wpAny_bind (wpAny_field hz rfl (x:=.ref TI) rfl ?_)
 refine wpAny_bind (wpAny_seqItems hTI rfl ?_)
 show wpAny _ _ (Builtin.SmallTypes.ownedTupleIsFree (.ref z) >>= _) _ _ _
 refine wpAny_bind ?_
 unfold Builtin.SmallTypes.ownedTupleIsFree
 refine wpAny_bind (wpAny_field hz rfl (x:=.none) rfl (wpAny_pure ?_))
 simp only [if_true]
 refine wpAny_bind (wpAny_rule ?_)
 refine wpAny_bind (wpAny_field hz rfl (x:=.ref TO) rfl ?_)
 refine wpAny_bind (wpAny_setField_rec hz (by simp) fun h₁ hz₁ hs₁=>?_)
 replace hz₁:IsZip h₁ z TI TO .ellipsis:=hz₁
 refine wpAny_bind ?_
 simp only [List.zipIdx_cons,List.zipIdx_nil,List.forIn_cons,List.forIn_nil]
 refine wpAny_bind (wpAny_bind (wpAny_onRaise ?_))
 show wpAny _ _ (Builtin.SmallTypes.nextOf (.ref i1) >>= _) _ _ _
 refine wpAny_bind (cH (h1.at fun o e=>hs₁.extBut _ _ D.i1z e) (hl1.at fun o e=>hs₁.extBut _ _ D1.z e) hx fun h₂ h1₂ hs₂=>wpAny_pure ?_)
 have hTO₂:br h₂ TO a b c:=hs₂.extBut _ _ D.TOi1 (hs₁.extBut _ _ D.TOz hTO)
 refine wpAny_bind (wpAny_seqItems hTO₂ rfl ?_)
 refine wpAny_bind (dy hTO₂ fun h₃ hTO₃ hs₃=>?_)
 replace hTO₃:br h₃ TO x b c:=hTO₃
 refine wpAny_bind (wpAny_letGo (wpAny_pure ?_))
 have kk3:∀ q o,q≠z->q≠TO->q≠i1->s.heap.get? q=some o->h₃.get? q=some o:=fun q o c1 c2 c3 e=>hs₃.extBut _ _ c2 (hs₂.extBut _ _ c3 (hs₁.extBut _ _ c1 e))
 refine wpAny_bind (wpAny_bind (wpAny_onRaise ?_))
 show wpAny _ _ (Builtin.SmallTypes.nextOf (.ref i2) >>= _) _ _ _
 refine wpAny_bind (cH (h2.at fun o e=>kk3 _ o D.i2z D.TOi2.symm D.i12.symm e) (hl2.at fun o e=>kk3 _ o D2.z D2.o D2.i1 e) hy fun h₄ h2₄ hs₄=>wpAny_pure ?_)
 have hTO₄:br h₄ TO x b c:=hs₄.extBut _ _ D.TOi2 hTO₃
 refine wpAny_bind (wpAny_seqItems hTO₄ rfl ?_)
 refine wpAny_bind (dy hTO₄ fun h₅ hTO₅ hs₅=>?_)
 replace hTO₅:br h₅ TO x y c:=hTO₅
 refine wpAny_bind (wpAny_letGo (wpAny_pure ?_))
 have k5:∀ q o,q≠z->q≠TO->q≠i1->q≠i2->s.heap.get? q=some o->h₅.get? q=some o:=fun q o c1 c2 c3 c4 e=>hs₅.extBut _ _ c2 (hs₄.extBut _ _ c4 (kk3 q o c1 c2 c3 e))
 refine wpAny_bind (wpAny_bind (wpAny_onRaise ?_))
 show wpAny _ _ (Builtin.SmallTypes.nextOf (.ref i3) >>= _) _ _ _
 refine wpAny_bind (cH (h3.at fun o e=>k5 _ o D.HW D.Dw.symm D.Rj.symm D.Qu.symm e) (hl3.at fun o e=>k5 _ o D3.z D3.o D3.i1 D3.i2 e) hv fun h₆ h3₆ hs₆=>wpAny_pure ?_)
 have hTO₆:br h₆ TO x y c:=hs₆.extBut _ _ D.Dw hTO₅
 refine wpAny_bind (wpAny_seqItems hTO₆ rfl ?_)
 refine wpAny_bind (dy hTO₆ fun h₇ hTO₇ hs₇=>?_)
 replace hTO₇:br h₇ TO x y v:=hTO₇
 refine wpAny_bind (wpAny_letGo (wpAny_pure (wpAny_pure ?_)))
 refine wpAny_bind (wpAny_seqItems hTO₇ rfl ?_)
 refine wpAny_bind (wpAny_newTuple ?_)
 have hsz:h₇.objs.size=s.heap.objs.size:=by rw [hs₇.1,hs₆.1,hs₅.1,hs₄.1,hs₃.1,hs₂.1,hs₁.1]
 have hz₃:IsZip h₃ z TI TO .ellipsis:=hs₃.extBut _ _ D.TOz.symm (hs₂.extBut _ _ D.i1z.symm hz₁)
 have hz₅:IsZip h₅ z TI TO .ellipsis:=hs₅.extBut _ _ D.TOz.symm (hs₄.extBut _ _ D.i2z.symm hz₃)
 have hz₇:IsZip h₇ z TI TO .ellipsis:=hs₇.extBut _ _ D.TOz.symm (hs₆.extBut _ _ D.HW.symm hz₅)
 have k7:∀ q o,q≠z->q≠TO->q≠i1->q≠i2->q≠i3->s.heap.get? q=some o->h₇.get? q=some o:=fun q o c1 c2 c3 c4 c5 e=>hs₇.extBut _ _ c2 (hs₆.extBut _ _ c5 (k5 q o c1 c2 c3 c4 e))
 have h1₇:eK h₇ b1 i1 l1 (k1+1):=h1₂.at fun o e=>hs₇.extBut _ _ D.TOi1.symm (hs₆.extBut _ _ D.Rj (hs₅.extBut _ _ D.TOi1.symm (hs₄.extBut _ _ D.i12 (hs₃.extBut _ _ D.TOi1.symm e))))
 have h2₇:eK h₇ b2 i2 l2 (k2+1):=h2₄.at fun o e=>hs₇.extBut _ _ D.TOi2.symm (hs₆.extBut _ _ D.Qu (hs₅.extBut _ _ D.TOi2.symm e))
 have h3₇:eK h₇ b3 i3 l3 (k3+1):=h3₆.at fun o e=>hs₇.extBut _ _ D.Dw.symm e
 have hzlt:z<h₇.objs.size:=Heap.lt_size hz₇
 show wpAny _ _ (Builtin.SmallTypes.ownedTupleHandOut (.ref z) (.ref h₇.objs.size) >>= _) _ _ _
 refine wpAny_bind ?_
 unfold Builtin.SmallTypes.ownedTupleHandOut
 have hz₈:IsZip (h₇.push { cls:=.type "tuple", data:=.seq #[x,y,v] }) z TI TO .ellipsis:=Heap.get?_push_of_some _ hz₇
 refine wpAny_bind (wpAny_setField_rec hz₈ (by simp) fun h₉ hz₉ hs₉=>?_)
 replace hz₉:IsZip h₉ z TI TO (rawInt h₇.objs.size):=hz₉
 refine wpAny_setField_rec hz₉ (by simp) fun hA hzA hsA=>?_
 replace hzA:IsZip hA z TI TO (rawInt h₇.objs.size):=hzA
 have up:∀ c o,c≠z->h₇.get? c=some o->hA.get? c=some o:=fun c o c1 e=>hsA.extBut _ _ c1 (hs₉.extBut _ _ c1 (Heap.get?_push_of_some _ e))
 have hTA:br hA h₇.objs.size x y v:=hsA.extBut _ _ (Nat.ne_of_gt hzlt) (hs₉.extBut _ _ (Nat.ne_of_gt hzlt) (Heap.get?_push_size _ rfl))
 have hzA8:hA.objs.size=h₇.objs.size+1:=by rw [hsA.1,hs₉.1,Heap.size_push]
 rw [hsz] at hzA hTA hzA8
 refine wpAny_pure ⟨_,rfl,?_⟩
 show Q (.ref h₇.objs.size) _
 rw [hsz]
 exact hQ hA hzA (up _ _ D.TOz hTO₇) (h1₇.at fun o e=>up _ o D.i1z e) (h2₇.at fun o e=>up _ o D.i2z e) (h3₇.at fun o e=>up _ o D.HW e) hTA hzA8 fun c o c1 c2 c3 c4 c5 e=>up c o c1 (k7 c o c1 c2 c3 c4 c5 e)
theorem BY {Q:Fin->Shared->Prop} (hh:A.handled=none) (D:Z3 z TI TO i1 i2 i3) (D1:L3 z TO i1 i2 i3 l1) (D2:L3 z TO i1 i2 i3 l2) (D3:L3 z TO i1 i2 i3 l3)
  (hz:IsZip s.heap z TI TO .none) (hTI:br s.heap TI (.ref i1) (.ref i2) (.ref i3)) (hTO:br s.heap TO a b c)
  (h1:eK s.heap b1 i1 l1 k1) (h2:eK s.heap b2 i2 l2 k2) (h3:eK s.heap b3 i3 l3 k3) (hl1:f7 s.heap b1 l1 xs) (hl2:f7 s.heap b2 l2 ys) (hl3:f7 s.heap b3 l3 zs) (hend:xs[k1]?=none\/ys[k2]?=none\/zs[k3]?=none)
  (hE:∀ h' e,(∀ c o,c≠z->c≠TO->c≠i1->c≠i2->c≠i3->s.heap.get? c=some o->h'.get? c=some o)->(∃ o,h'.get? e=some o/\o.cls=.type "StopIteration")->E (.ref e) { s with heap:=h' }) :
  wpAny (model prog w) A (Builtin.«zip.__next__» ⟨[.ref z],[]⟩) Q E s:=by
 show wpAny _ _ (field (.ref z) 2 >>= _) _ _ _
 refine wpAny_bind (wpAny_field hz rfl (x:=.bool false) rfl ?_)
 show wpAny _ _ (field (.ref z) 3 >>= _) _ _ _
 refine wpAny_bind (wpAny_field hz rfl (x:=.ref TI) rfl ?_)
 refine wpAny_bind (wpAny_seqItems hTI rfl ?_)
 show wpAny _ _ (Builtin.SmallTypes.ownedTupleIsFree (.ref z) >>= _) _ _ _
 refine wpAny_bind ?_
 unfold Builtin.SmallTypes.ownedTupleIsFree
 refine wpAny_bind (wpAny_field hz rfl (x:=.none) rfl (wpAny_pure ?_))
 simp only [if_true]
 refine wpAny_bind (wpAny_rule ?_)
 refine wpAny_bind (wpAny_field hz rfl (x:=.ref TO) rfl ?_)
 refine wpAny_bind (wpAny_setField_rec hz (by simp) fun h₁ hz₁ hs₁=>?_)
 replace hz₁:IsZip h₁ z TI TO .ellipsis:=hz₁
 refine wpAny_bind ?_
 simp only [List.zipIdx_cons,List.zipIdx_nil,List.forIn_cons,List.forIn_nil]
 refine wpAny_bind (wpAny_bind (wpAny_onRaise ?_))
 show wpAny _ _ (Builtin.SmallTypes.nextOf (.ref i1) >>= _) _ _ _
 cases hx:xs[k1]? with
 | none =>
  refine wpAny_bind (iu hh (h1.at fun o e=>hs₁.extBut _ _ D.i1z e) (hl1.at fun o e=>hs₁.extBut _ _ D1.z e) hx fun h₂ e hs₂ he=>?_)
  obtain ⟨oe,hoe,hce⟩:=he
  have hz₂:IsZip h₂ z TI TO .ellipsis:=hs₂ _ _ D.i1z.symm hz₁
  have hez:e≠z:=fun x=>by subst x;rw [hz₂] at hoe;cases hoe;simp at hce
  refine wpAny_setField_rec hz₂ (by simp) fun h₃ _ hs₃=>hE h₃ e (fun c o c1 _ c3 _ _ x=>hs₃.extBut _ _ c1 (hs₂ _ _ c3 (hs₁.extBut _ _ c1 x))) ⟨oe,hs₃.extBut _ _ hez hoe,hce⟩
 | some x =>
  refine wpAny_bind (cH (h1.at fun o e=>hs₁.extBut _ _ D.i1z e) (hl1.at fun o e=>hs₁.extBut _ _ D1.z e) hx fun h₂ h1₂ hs₂=>wpAny_pure ?_)
  have hTO₂:br h₂ TO a b c:=hs₂.extBut _ _ D.TOi1 (hs₁.extBut _ _ D.TOz hTO)
  refine wpAny_bind (wpAny_seqItems hTO₂ rfl ?_)
  refine wpAny_bind (dy hTO₂ fun h₃ hTO₃ hs₃=>?_)
  replace hTO₃:br h₃ TO x b c:=hTO₃
  refine wpAny_bind (wpAny_letGo (wpAny_pure ?_))
  have kk3:∀ q o,q≠z->q≠TO->q≠i1->s.heap.get? q=some o->h₃.get? q=some o:=fun q o c1 c2 c3 e=>hs₃.extBut _ _ c2 (hs₂.extBut _ _ c3 (hs₁.extBut _ _ c1 e))
  have hz₃:IsZip h₃ z TI TO .ellipsis:=hs₃.extBut _ _ D.TOz.symm (hs₂.extBut _ _ D.i1z.symm hz₁)
  refine wpAny_bind (wpAny_bind (wpAny_onRaise ?_))
  show wpAny _ _ (Builtin.SmallTypes.nextOf (.ref i2) >>= _) _ _ _
  cases hy:ys[k2]? with
  | none =>
   refine wpAny_bind (iu hh (h2.at fun o e=>kk3 _ o D.i2z D.TOi2.symm D.i12.symm e) (hl2.at fun o e=>kk3 _ o D2.z D2.o D2.i1 e) hy fun h₄ e hs₄ he=>?_)
   obtain ⟨oe,hoe,hce⟩:=he
   have hz₄:IsZip h₄ z TI TO .ellipsis:=hs₄ _ _ D.i2z.symm hz₃
   have hez:e≠z:=fun x=>by subst x;rw [hz₄] at hoe;cases hoe;simp at hce
   refine wpAny_setField_rec hz₄ (by simp) fun h₅ _ hs₅=>hE h₅ e (fun c o c1 c2 c3 c4 _ x=>hs₅.extBut _ _ c1 (hs₄ _ _ c4 (kk3 c o c1 c2 c3 x))) ⟨oe,hs₅.extBut _ _ hez hoe,hce⟩
  | some y =>
   have hv:zs[k3]?=none:=by
    rcases hend with h | h | h
    ·rw [hx] at h;cases h
    ·rw [hy] at h;cases h
    ·exact h
   refine wpAny_bind (cH (h2.at fun o e=>kk3 _ o D.i2z D.TOi2.symm D.i12.symm e) (hl2.at fun o e=>kk3 _ o D2.z D2.o D2.i1 e) hy fun h₄ h2₄ hs₄=>wpAny_pure ?_)
   have hTO₄:br h₄ TO x b c:=hs₄.extBut _ _ D.TOi2 hTO₃
   refine wpAny_bind (wpAny_seqItems hTO₄ rfl ?_)
   refine wpAny_bind (dy hTO₄ fun h₅ hTO₅ hs₅=>?_)
   refine wpAny_bind (wpAny_letGo (wpAny_pure ?_))
   have k5:∀ q o,q≠z->q≠TO->q≠i1->q≠i2->s.heap.get? q=some o->h₅.get? q=some o:=fun q o c1 c2 c3 c4 e=>hs₅.extBut _ _ c2 (hs₄.extBut _ _ c4 (kk3 q o c1 c2 c3 e))
   have hz₅:IsZip h₅ z TI TO .ellipsis:=hs₅.extBut _ _ D.TOz.symm (hs₄.extBut _ _ D.i2z.symm hz₃)
   refine wpAny_bind (wpAny_bind (wpAny_onRaise ?_))
   show wpAny _ _ (Builtin.SmallTypes.nextOf (.ref i3) >>= _) _ _ _
   refine wpAny_bind (iu hh (h3.at fun o e=>k5 _ o D.HW D.Dw.symm D.Rj.symm D.Qu.symm e) (hl3.at fun o e=>k5 _ o D3.z D3.o D3.i1 D3.i2 e) hv fun h₆ e hs₆ he=>?_)
   obtain ⟨oe,hoe,hce⟩:=he
   have hz₆:IsZip h₆ z TI TO .ellipsis:=hs₆ _ _ D.HW.symm hz₅
   have hez:e≠z:=fun x=>by subst x;rw [hz₆] at hoe;cases hoe;simp at hce
   refine wpAny_setField_rec hz₆ (by simp) fun h₇ _ hs₇=>hE h₇ e (fun c o c1 c2 c3 c4 c5 x=>hs₇.extBut _ _ c1 (hs₆ _ _ c5 (k5 c o c1 c2 c3 c4 x))) ⟨oe,hs₇.extBut _ _ hez hoe,hce⟩
end
end L2
namespace L2
open PySem PySem.Spec PyProof.Rows
section
variable {prog:Program} {w:World} {A:Around} {E:Value->Shared->Prop} {s:Shared}
variable {b1 b2 b3:Bool} {z TI TO i1 i2 i3 l1 l2 l3:Addr} {k1 k2 k3:Nat} {xs ys zs:Array Value} {x y v a b c:Value}
theorem mR {Q:Option Value->Shared->Prop} (D:Z3 z TI TO i1 i2 i3) (D1:L3 z TO i1 i2 i3 l1) (D2:L3 z TO i1 i2 i3 l2) (D3:L3 z TO i1 i2 i3 l3)
  (hz:IsZip s.heap z TI TO .none) (hTI:br s.heap TI (.ref i1) (.ref i2) (.ref i3)) (hTO:br s.heap TO a b c)
  (h1:eK s.heap b1 i1 l1 k1) (h2:eK s.heap b2 i2 l2 k2) (h3:eK s.heap b3 i3 l3 k3) (hl1:f7 s.heap b1 l1 xs) (hl2:f7 s.heap b2 l2 ys) (hl3:f7 s.heap b3 l3 zs) (hx:xs[k1]?=some x) (hy:ys[k2]?=some y) (hv:zs[k3]?=some v)
  (hQ:∀ h',IsZip h' z TI TO (rawInt s.heap.objs.size)->br h' TO x y v->eK h' b1 i1 l1 (k1+1)->eK h' b2 i2 l2 (k2+1)->eK h' b3 i3 l3 (k3+1)->br h' s.heap.objs.size x y v->h'.objs.size=s.heap.objs.size+1 ->
   (∀ c o,c≠z->c≠TO->c≠i1->c≠i2->c≠i3->s.heap.get? c=some o->h'.get? c=some o)->Q (some (.ref s.heap.objs.size)) { s with heap:=h' }) :
  wpAny (model prog w) A (pyNext (.ref z)) Q E s:=by
 have hT:s.TypeIs (.ref z) "zip" := ⟨_,hz,rfl⟩
 unfold pyNext
 exact wpAny_bind (wpAny_attempt (wpAny_callSpecial?_slot (name:=Str.ofString "__next__") hT F.slot_zip_next
  (wpAny_call_entry F.slot_zip_next hT F.entry_zip_next
   (yJ D D1 D2 D3 hz hTI hTO h1 h2 h3 hl1 hl2 hl3 hx hy hv fun h' a1 a2 a3 a4 a5 a6 a7 a8=>wpAny_pure (hQ h' a1 a2 a3 a4 a5 a6 a7 a8)) (F.args_zip_next_1 _))))
theorem n6 {Q:Option Value->Shared->Prop} (hh:A.handled=none) (D:Z3 z TI TO i1 i2 i3) (D1:L3 z TO i1 i2 i3 l1) (D2:L3 z TO i1 i2 i3 l2) (D3:L3 z TO i1 i2 i3 l3)
  (hz:IsZip s.heap z TI TO .none) (hTI:br s.heap TI (.ref i1) (.ref i2) (.ref i3)) (hTO:br s.heap TO a b c)
  (h1:eK s.heap b1 i1 l1 k1) (h2:eK s.heap b2 i2 l2 k2) (h3:eK s.heap b3 i3 l3 k3) (hl1:f7 s.heap b1 l1 xs) (hl2:f7 s.heap b2 l2 ys) (hl3:f7 s.heap b3 l3 zs) (hend:xs[k1]?=none\/ys[k2]?=none\/zs[k3]?=none)
  (hQ:∀ h',(∀ c o,c≠z->c≠TO->c≠i1->c≠i2->c≠i3->s.heap.get? c=some o->h'.get? c=some o)->Q none { s with heap:=h' }):wpAny (model prog w) A (pyNext (.ref z)) Q E s:=by
 have hT:s.TypeIs (.ref z) "zip" := ⟨_,hz,rfl⟩
 unfold pyNext
 refine wpAny_bind (wpAny_attempt (wpAny_callSpecial?_slot (name:=Str.ofString "__next__") hT F.slot_zip_next
  (wpAny_call_entry F.slot_zip_next hT F.entry_zip_next (BY hh D D1 D2 D3 hz hTI hTO h1 h2 h3 hl1 hl2 hl3 hend fun h' e hk he=>?_) (F.args_zip_next_1 _))))
 obtain ⟨o,ho,hc⟩:=he
 refine wpAny_bind (wpAny_isInstance (T := "StopIteration") (b:=true) ⟨o,ho,hc⟩ isSubtype_stop ?_)
 exact wpAny_pure (hQ _ hk)
end
abbrev Kj (h:Heap) (b1 b2 b3:Bool) (l1 l2 l3:Addr):Heap:=(ER h b1 b2 l1 l2).push (zZ b3 l3)
abbrev Kf (h:Heap) (b1 b2 b3:Bool) (l1 l2 l3:Addr):Heap:=(Kj h b1 b2 b3 l1 l2 l3).push { cls:=.type "tuple", data:=.seq #[.ref h.objs.size,.ref (FC h b1 l1).objs.size,.ref (ER h b1 b2 l1 l2).objs.size] }
abbrev Kh (h:Heap) (b1 b2 b3:Bool) (l1 l2 l3:Addr):Heap:=(Kf h b1 b2 b3 l1 l2 l3).push { cls:=.type "tuple", data:=.seq #[.none,.none,.none] }
abbrev Fc (h:Heap) (b1 b2 b3:Bool) (l1 l2 l3:Addr):Heap:=(Kh h b1 b2 b3 l1 l2 l3).push { cls:=.type "zip", data:=.fields #[.none,.bool false,.bool false,.ref (Kj h b1 b2 b3 l1 l2 l3).objs.size,.ref (Kf h b1 b2 b3 l1 l2 l3).objs.size] }
theorem pW (b1 b2 b3:Bool) (l1 l2 l3:Addr) (xs ys zs:Array Value) :
  Meets (Builtin.«zip.__new__» ⟨[.type "zip", .ref l1,.ref l2,.ref l3],[]⟩) (fun _ R s=>f7 s.heap b1 l1 xs/\f7 s.heap b2 l2 ys/\f7 s.heap b3 l3 zs ∧
   R (.ok (.ret (.ref (Kh s.heap b1 b2 b3 l1 l2 l3).objs.size))) { s with heap:=Fc s.heap b1 b2 b3 l1 l2 l3 }) :=
 .of_wp fun prog w A R s h=>by
  obtain ⟨hp,g,d,tk,os⟩:=s;obtain ⟨hl1,hl2,hl3,h⟩:=h
  have hsub:=sub_zip
  have hL1:f7 (Shared.heap ⟨hp,g,d,tk,os⟩) b1 l1 xs:=hl1
  have hL2:f7 (Shared.heap ⟨hp.push (zZ b1 l1),g,d,tk,os⟩) b2 l2 ys:=f7.push hl2 _
  have hL3:f7 (Shared.heap ⟨(hp.push (zZ b1 l1)).push (zZ b2 l2),g,d,tk,os⟩) b3 l3 zs:=f7.push (f7.push hl3 _) _
  wp_walk using gw hL1,gw hL2,gw hL3
  exact ⟨_,rfl,h⟩
section
variable {prog:Program} {w:World} {A:Around} {E:Value->Shared->Prop} {s:Shared}
theorem yU {b1 b2 b3:Bool} {l1 l2 l3:Addr} {xs ys zs:Array Value} {Q:Value->Shared->Prop} (hl1:f7 s.heap b1 l1 xs) (hl2:f7 s.heap b2 l2 ys) (hl3:f7 s.heap b3 l3 zs)
  (h:∀ h',IsZip h' (s.heap.objs.size+5) (s.heap.objs.size+3) (s.heap.objs.size+4) .none->br h' (s.heap.objs.size+3) (.ref s.heap.objs.size) (.ref (s.heap.objs.size+1)) (.ref (s.heap.objs.size+2)) ->
   br h' (s.heap.objs.size+4) .none .none .none->eK h' b1 s.heap.objs.size l1 0->eK h' b2 (s.heap.objs.size+1) l2 0->eK h' b3 (s.heap.objs.size+2) l3 0 ->
   (∀ c o,s.heap.get? c=some o->h'.get? c=some o)->Q (.ref (s.heap.objs.size+5)) { s with heap:=h' }) :
  wpAny (model prog w) A (call (.type "zip") [.ref l1,.ref l2,.ref l3]) Q E s:=by
 refine callType_new F.called_zip (by decide) (pE _ _ _) (qW _ _ _) (fun obj=>F.initArgs_range_3 obj _ _ _) F.entry_zip_new
  (pW b1 b2 b3 l1 l2 l3 xs ys zs) ⟨hl1,hl2,hl3,?_⟩
 have z1:(FC s.heap b1 l1).objs.size=s.heap.objs.size+1:=Heap.size_push ..
 have z2:(ER s.heap b1 b2 l1 l2).objs.size=s.heap.objs.size+2:=by rw [Heap.size_push,z1]
 have z3:(Kj s.heap b1 b2 b3 l1 l2 l3).objs.size=s.heap.objs.size+3:=by rw [Heap.size_push,z2]
 have z4:(Kf s.heap b1 b2 b3 l1 l2 l3).objs.size=s.heap.objs.size+4:=by rw [Heap.size_push,z3]
 have z5:(Kh s.heap b1 b2 b3 l1 l2 l3).objs.size=s.heap.objs.size+5:=by rw [Heap.size_push,z4]
 have g6:(Fc s.heap b1 b2 b3 l1 l2 l3).get? (Kh s.heap b1 b2 b3 l1 l2 l3).objs.size=some _:=Heap.get?_push_size _ rfl
 have g5:(Fc s.heap b1 b2 b3 l1 l2 l3).get? (Kf s.heap b1 b2 b3 l1 l2 l3).objs.size=some _:=Heap.get?_push_of_some _ (Heap.get?_push_size _ rfl)
 have g4:(Fc s.heap b1 b2 b3 l1 l2 l3).get? (Kj s.heap b1 b2 b3 l1 l2 l3).objs.size=some _:=Heap.get?_push_of_some _ (Heap.get?_push_of_some _ (Heap.get?_push_size _ rfl))
 have g3:(Fc s.heap b1 b2 b3 l1 l2 l3).get? (ER s.heap b1 b2 l1 l2).objs.size=some _:=Heap.get?_push_of_some _ (Heap.get?_push_of_some _ (Heap.get?_push_of_some _ (Heap.get?_push_size _ rfl)))
 have g2:(Fc s.heap b1 b2 b3 l1 l2 l3).get? (FC s.heap b1 l1).objs.size=some _:=Heap.get?_push_of_some _ (Heap.get?_push_of_some _ (Heap.get?_push_of_some _ (Heap.get?_push_of_some _ (Heap.get?_push_size _ rfl))))
 have g1:(Fc s.heap b1 b2 b3 l1 l2 l3).get? s.heap.objs.size=some _:=Heap.get?_push_of_some _ (Heap.get?_push_of_some _ (Heap.get?_push_of_some _ (Heap.get?_push_of_some _ (Heap.get?_push_of_some _ (Heap.get?_push_size _ rfl)))))
 show _/\_
 rw [z3,z4,z5] at g6
 rw [z1,z2,z3] at g4
 rw [z4] at g5
 rw [z2] at g3
 rw [z1] at g2
 rw [z5]
 exact ⟨⟨_,g6,rfl⟩,h _ g6 g4 g5 (eK.new _ b1 _ _ g1) (eK.new _ b2 _ _ g2) (eK.new _ b3 _ _ g3) fun c o x =>
  Heap.get?_push_of_some _ (Heap.get?_push_of_some _ (Heap.get?_push_of_some _ (Heap.get?_push_of_some _ (Heap.get?_push_of_some _ (Heap.get?_push_of_some _ x)))))⟩
end
def RR (K : PySem.W.Frag) (b1 b2 b3 : Bool) (a1 a2 a3 : Addr) : It :=
  ⟨fun i H => ∃ xs ys zs x y v, kE K H b1 a1 xs /\ kE K H b2 a2 ys /\ kE K H b3 a3 zs /\ xs[i]? = some x /\ ys[i]? = some y /\ zs[i]? = some v,
   fun i H r H' => ∃ p x y v, H p = none /\ r = .ref p /\ H' = upd H p (.tup [x, y, v]) /\ (∀ xs, kE K H b1 a1 xs -> xs[i]? = some x) /\ (∀ ys, kE K H b2 a2 ys -> ys[i]? = some y) /\ (∀ zs, kE K H b3 a3 zs -> zs[i]? = some v),
   fun i H => ∃ xs ys zs, kE K H b1 a1 xs /\ kE K H b2 a2 ys /\ kE K H b3 a3 zs /\ (xs.length <= i \/ ys.length <= i \/ zs.length <= i)⟩
theorem r9 {X:Cx} {pins:List (Addr×Obj)} {σ:St} {H:Hp} {s:Shared} {b:Bool} {z TI TO i1 i2 i3 a:Addr} {xs:List V} (I:Inv X pins σ H s) (h:kE X.K H b a xs) (hf:∀ b∈[z,TO,i1,i2,i3,TI],n5 X pins H b):L3 z TO i1 i2 i3 a :=
 ⟨cv I h (hf z (by simp)),cv I h (hf TO (by simp)),cv I h (hf i1 (by simp)),cv I h (hf i2 (by simp)),cv I h (hf i3 (by simp))⟩
theorem zN {P:Program} {w:World} {K:PySem.W.Frag} {elts:List Expr} {x1:Nat} {tp:Pos} (b1 b2 b3:Bool) (a1 a2 a3 z TI TO i1 i2 i3:Addr) (D:Z3 z TI TO i1 i2 i3) :
  Turn P w K (.Tuple elts x1 tp) (RR K b1 b2 b3 a1 a2 a3) [z,TO,i1,i2,i3,TI] z (fun i h=>IsZip h z TI TO .none/\br h TI (.ref i1) (.ref i2) (.ref i3)/\(∃ a b c,br h TO a b c)/\eK h b1 i1 a1 i/\eK h b2 i2 a2 i/\eK h b3 i3 a3 i) where
 mem:=by simp
 obj:=fun i h st b hb=>by
  obtain ⟨hz,hTI,⟨a,c,d,hTO⟩,h1,h2,h3⟩:=st
  simp only [List.mem_cons,List.mem_nil_iff,or_false] at hb
  rcases hb with q | q | q | q | q | q <;> subst q
  ·exact ⟨_,hz,fun v z=>by cases z⟩
  ·exact ⟨_,hTO,fun v z=>by cases z⟩
  ·obtain ⟨o,vs,e,d⟩:=h1.obj
   exact ⟨o,e,fun v z=>by rw [d] at z;cases z⟩
  ·obtain ⟨o,vs,e,d⟩:=h2.obj
   exact ⟨o,e,fun v z=>by rw [d] at z;cases z⟩
  ·obtain ⟨o,vs,e,d⟩:=h3.obj
   exact ⟨o,e,fun v z=>by rw [d] at z;cases z⟩
  ·exact ⟨_,hTI,fun v z=>by cases z⟩
 keep:=fun i h h' st k=>by
  obtain ⟨hz,hTI,⟨a,c,d,hTO⟩,h1,h2,h3⟩:=st
  exact ⟨k z (by simp) _ hz,k TI (by simp) _ hTI,⟨a,c,d,k TO (by simp) _ hTO⟩,h1.at fun o e=>k i1 (by simp) o e,h2.at fun o e=>k i2 (by simp) o e,h3.at fun o e=>k i3 (by simp) o e⟩
 item:=by
  intro X hP hw hK hc i pins s σ H E I hf st hg
  subst hP hw hK
  obtain ⟨xs,ys,zs,x,y,v,hq1,hq2,hq3,hx,hy,hv⟩:=hg
  obtain ⟨its1,rv1,p1,hz1⟩:=I.row hq1
  obtain ⟨its2,rv2,p2,hz2⟩:=I.row hq2
  obtain ⟨its3,rv3,p3,hz3'⟩:=I.row hq3
  obtain ⟨u1,hu1,ru1⟩:=rv1.get hx
  obtain ⟨u2,hu2,ru2⟩:=rv2.get hy
  obtain ⟨u3,hu3,ru3⟩:=rv3.get hv
  obtain ⟨hz,hTI,⟨a,c,d,hTO⟩,h1,h2,h3⟩:=st
  obtain ⟨oi1,vs1,ei1,di1⟩:=h1.obj
  obtain ⟨oi2,vs2,ei2,di2⟩:=h2.obj
  obtain ⟨oi3,vs3,ei3,di3⟩:=h3.obj
  refine mR D (r9 I hq1 hf) (r9 I hq2 hf) (r9 I hq3 hf) hz hTI hTO h1 h2 h3 p1 p2 p3 (x:=u1) (y:=u2) (v:=u3) (by simpa using hu1) (by simpa using hu2) (by simpa using hu3) fun h' g1 g2 g3 g4 g4' g5 g6 g7=>⟨_,rfl,?_⟩
  refine wpAny_letOwnedTupleGo_zip (s:={ s with heap:=h' }) g1 fun hN hz3 hs3=>?_
  have hnew:H s.heap.objs.size=none:=I.bx.fresh (Nat.le_refl _)
  have lt:∀ {c:Addr} {o:Obj},s.heap.get? c=some o->c≠s.heap.objs.size:=fun e=>Nat.ne_of_lt (Heap.lt_size e)
  have keep3:∀ b o,b ∉ [z,TO,i1,i2,i3,TI]->s.heap.get? b=some o->hN.get? b=some o:=fun b o hb q=>by
   simp only [List.mem_cons,List.mem_nil_iff,or_false,not_or] at hb
   exact (hs3.2 b hb.1).trans (g7 b o hb.1 hb.2.1 hb.2.2.1 hb.2.2.2.1 hb.2.2.2.2.1 q)
  have hT3:hN.get? s.heap.objs.size=some { cls:=.type "tuple", data:=.seq #[u1,u2,u3] }:=(hs3.2 _ (lt hz).symm).trans g5
  have I3:Inv X pins σ (upd H s.heap.objs.size (.tup [x,y,v])) { s with heap:=hN,toks:=s.toks } :=
   I.kq (ch:=[z,TO,i1,i2,i3,TI]) keep3 hf (Nat.le_refl _) (fun b hb=>by
    simp only [List.mem_cons,List.mem_nil_iff,or_false] at hb
    rcases hb with q | q | q | q | q | q <;> subst q
    ·exact ⟨_,hz⟩
    ·exact ⟨_,hTO⟩
    ·exact ⟨_,ei1⟩
    ·exact ⟨_,ei2⟩
    ·exact ⟨_,ei3⟩
    ·exact ⟨_,hTI⟩)
    ⟨by show 3<=sizeLine;decide,[u1,u2,u3],.cons ru1 (.cons ru2 (.cons ru3 .nil)),⟨_,hT3,rfl,_,rfl⟩⟩
  refine ⟨.ref s.heap.objs.size,_,I3,rfl,⟨_,x,y,v,hnew,rfl,rfl,fun zs' hzs=>by rw [I.lV hzs hq1];exact hx,fun zs' hzs=>by rw [I.lV hzs hq2];exact hy,fun zs' hzs=>by rw [I.lV hzs hq3];exact hv⟩,
   ⟨hz3,(hs3.2 TI D.TIz).trans (g7 TI _ D.TIz D.TITO D.TIi1 D.TIi2 D.TF hTI),⟨_,_,_,(hs3.2 TO D.TOz).trans g2⟩,g3.at fun o e=>(hs3.2 i1 D.i1z).trans e,g4.at fun o e=>(hs3.2 i2 D.i2z).trans e,g4'.at fun o e=>(hs3.2 i3 D.HW).trans e⟩,fun b hb=>?_⟩
  have nb:b≠s.heap.objs.size:=by
   simp only [List.mem_cons,List.mem_nil_iff,or_false] at hb
   rcases hb with q | q | q | q | q | q <;> subst q
   ·exact lt hz
   ·exact lt hTO
   ·exact lt ei1
   ·exact lt ei2
   ·exact lt ei3
   ·exact lt hTI
  rw [au nb]
  exact (hf b hb).1
 done:=by
  intro X hP hw hK hc i pins s σ H E I hf st hg
  subst hP hw hK
  obtain ⟨xs,ys,zs,hq1,hq2,hq3,hend⟩:=hg
  obtain ⟨its1,rv1,p1,hz1⟩:=I.row hq1
  obtain ⟨its2,rv2,p2,hz2⟩:=I.row hq2
  obtain ⟨its3,rv3,p3,hz3'⟩:=I.row hq3
  obtain ⟨hz,hTI,⟨a,c,d,hTO⟩,h1,h2,h3⟩:=st
  have l1:=rv1.length
  have l2:=rv2.length
  have l3:=rv3.length
  refine n6 (I.ok.hd hc) D (r9 I hq1 hf) (r9 I hq2 hf) (r9 I hq3 hf) hz hTI hTO h1 h2 h3 p1 p2 p3 ?_ fun h' k=>⟨rfl,?_⟩
  ·rcases hend with q | q | q
   ·exact .inl (by simp;omega)
   ·exact .inr (.inl (by simp;omega))
   ·exact .inr (.inr (by simp;omega))
  ·exact I.yj (t':=s.toks) (ch:=[z,TO,i1,i2,i3,TI]) (fun b u hb e=>by
    simp only [List.mem_cons,List.mem_nil_iff,or_false,not_or] at hb
    exact k b u hb.1 hb.2.1 hb.2.2.1 hb.2.2.2.1 hb.2.2.2.2.1 e) hf
 self:=fun _ _ _ _ _ st h=>by
  obtain ⟨hz,_⟩:=st
  exact wpAny_pyIter_zip hz h
theorem Ee (n:Nat):Z3 (n+5) (n+3) (n+4) n (n+1) (n+2):=by
 refine ⟨?_,?_,?_,?_,?_,?_,?_,?_,?_,?_,?_,?_,?_,?_,?_⟩ <;> (show @Ne Nat _ _;omega)
section
variable {X:Cx}
def EK (K:PySem.W.Frag) (tl:TA):TI:=fun σ H R=>tl σ H fun vs H1=>∃ b1 b2 b3 a1 a2 a3,vs=[.ref a1,.ref a2,.ref a3]/\(∃ xs,kE K H1 b1 a1 xs)/\(∃ ys,kE K H1 b2 a2 ys)/\(∃ zs,kE K H1 b3 a3 zs)/\R (RR K b1 b2 b3 a1 a2 a3) H1
theorem De {elts:List Expr} {x1:Nat} {tp:Pos} {l1 l2 l3:Expr} {tl:TA} {p pos:Pos} (hg:Gl X "zip") (hm:X.mg "zip" = none) (hl:PA X [l1,l2,l3] tl) (hs:starEach [l1,l2,l3] X.env=[(false,eval l1 X.env),(false,eval l2 X.env),(false,eval l3 X.env)]:=by rfl) (hs2:starEach [l2,l3] X.env=[(false,eval l2 X.env),(false,eval l3 X.env)]:=by rfl) :
  PI X (.Tuple elts x1 tp) (.Call (.Name "zip" p) [l1,l2,l3] [] pos) (EK X.K tl):=by
 intro pins s σ H R I h
 refine Call_ (jl I hg hm PyProof.Rows.boot_zip (PyProof.Rows.callWith_type1 (cG (hl pos pins s σ H _ I h) fun us s1 ⟨vs,H1,I1,r1,q1⟩=>?_) (by rw [hs,hs2]) (by rw [hs2];rfl)))
 obtain ⟨b1,b2,b3,a1,a2,a3,e,⟨xs,hq1⟩,⟨ys,hq2⟩,⟨zs,hq3⟩,q⟩:=q1
 subst e
 cases r1 with
 | cons r rr =>
  cases rr with
  | cons r' rr =>
   cases rr with
   | cons r'' rr =>
    cases rr
    cases (show _=Value.ref a1 from r)
    cases (show _=Value.ref a2 from r')
    cases (show _=Value.ref a3 from r'')
    obtain ⟨its1,rv1,p1,hz1⟩:=I1.row hq1
    obtain ⟨its2,rv2,p2,hz2⟩:=I1.row hq2
    obtain ⟨its3,rv3,p3,hz3⟩:=I1.row hq3
    refine yU p1 p2 p3 fun h' g1 g2 g3 g4 g5 g6 g7=>?_
    have I2:Inv X pins σ H1 { s1 with heap:=h' }:=I1.kept (t':=s1.toks) g7
    refine wpAny_pyIter_zip (s:={ s1 with heap:=h' }) g1 ?_
    refine ⟨s1.heap.objs.size+5,[s1.heap.objs.size+5,s1.heap.objs.size+4,s1.heap.objs.size,s1.heap.objs.size+1,s1.heap.objs.size+2,s1.heap.objs.size+3],_,_,H1,rfl,I2,
     zN b1 b2 b3 a1 a2 a3 _ _ _ _ _ _ (Ee s1.heap.objs.size),⟨g1,g2,⟨_,_,_,g3⟩,g4,g5,g6⟩,fun b hb=>?_,q⟩
    have hle:s1.heap.objs.size<=b:=by
     simp only [List.mem_cons,List.mem_nil_iff,or_false] at hb
     rcases hb with q | q | q | q | q | q
     ·rw [q];exact Nat.le_add_right _ 5
     ·rw [q];exact Nat.le_add_right _ 4
     ·rw [q];exact Nat.le_refl _
     ·rw [q];exact Nat.le_add_right _ 1
     ·rw [q];exact Nat.le_add_right _ 2
     ·rw [q];exact Nat.le_add_right _ 3
    exact I1.vk hle (I1.bx.fresh hle)
end
end L2
namespace L2
open PySem PySem.Spec PyProof.Rows
section
variable {M:Model} {A:Around} {E:Value->Shared->Prop} {s:Shared}
theorem sD {base:Heap} {env:Env} {outer:List Env} {L e:Addr} {oe:Obj} {vs:Array Value} {head:Value} {hadNext:Bool} {Q:Unit->Shared->Prop}
  (hfr:A.frames=some (env::outer)) (hl:s.heap.FunFrames base (env::outer)) (hf:env.frame=some L)
  (he:s.heap.get? e=some oe) (hd:oe.data=.fields vs) (hsz:1<vs.size)
  (h:∀ h' T oT ts,h'.get? e=some (Obj.mapFields (·.setIfInBounds 1 (.ref T)) oe)->s.heap.objs.size<=T->T≠e->h'.get? T=some oT->oT.data=.fields ts->ts[3]?=some (rawInt L) ->
   (∀ b o,b≠e->b ∉ wy (env::outer)->s.heap.get? b=some o->h'.get? b=some o)->(∀ b o,b≠e->s.heap.get? b=some o->∃ sl,h'.get? b=some { o with slots:=sl })->Q () { s with heap:=h' }) :
  wpAny M A (do let a ← frameOf env;let pl ← entryPlaceOf L hadNext;let b ← EntryCells.newEntry head a .none (rawInt L) .none pl;setField (.ref e) 1 b) Q E s:=by
 have hene:e ∉ (env::outer).filterMap (·.frame):=fun hm=>by
  obtain ⟨_,o,ho,hnf⟩:=hl.mem hm
  rw [he] at ho;injection ho with ho;subst ho;exact hnf vs hd
 refine wpAny_bind (wpAny_frameOf_fun hfr hl hf fun h₁ hs₁=>?_)
 refine wpAny_bind (wpAny_entryPlaceOf fun pl hpl=>?_)
 unfold EntryCells.newEntry newFields
 refine wpAny_bind (wpAny_newObj_type ?_ (hpl.sizeOk5 _ _ _ _ _))
 have he₁:h₁.get? e=some oe:=(hs₁.2.1 e hene).trans he
 have he₂:=Heap.get?_push_of_some (h:=h₁) { cls:=.type "traceback", dict:=none,data:=.fields ([head,.ref L,.none,rawInt L,.none]++(if pl.isEmpty then List.replicate 6 Value.none else pl)).toArray } he₁
 have hTe:h₁.objs.size≠e:=Nat.ne_of_gt (Heap.lt_size he₁)
 have hd₃:=Obj.data_mapFields hd (·.setIfInBounds 1 (Value.ref h₁.objs.size))
 have he₃:=Heap.get?_update_self (Obj.mapFields (·.setIfInBounds 1 (Value.ref h₁.objs.size))) he₂ (Obj.isFreed_of_fields hd₃)
 have hT₃:=(Heap.get?_update_other (h₁.push { cls:=.type "traceback", dict:=none,data:=.fields ([head,.ref L,.none,rawInt L,.none]++(if pl.isEmpty then List.replicate 6 Value.none else pl)).toArray })
  (Obj.mapFields (·.setIfInBounds 1 (Value.ref h₁.objs.size))) (Ne.symm hTe)).trans (Heap.get?_push_size h₁ rfl)
 have keep:∀ b o,b≠e->h₁.get? b=some o ->
   ((h₁.push { cls:=.type "traceback", dict:=none,data:=.fields ([head,.ref L,.none,rawInt L,.none]++(if pl.isEmpty then List.replicate 6 Value.none else pl)).toArray }).update e (Obj.mapFields (·.setIfInBounds 1 (Value.ref h₁.objs.size)))).get? b=some o:=fun b o hbe hb=>by
  rw [Heap.get?_update_other _ _ (Ne.symm hbe)]
  exact Heap.get?_push_of_some _ hb
 refine wpAny_setField he₂ hd hsz (h _ h₁.objs.size _ _ he₃ ?_ hTe hT₃ rfl (by first | (simp;done) | (rcases hpl with rfl | ⟨_,_,_,_,_,_,_,rfl⟩ <;> simp)) ?_ ?_)
 ·exact Nat.le_of_eq hs₁.1.symm
 ·intro b o hbe hbf hb
  exact keep b o hbe ((hs₁.2.1 b hbf).trans hb)
 ·intro b o hbe hb
  obtain ⟨sl,hs⟩:=hs₁.2.2 b o hb
  exact ⟨sl,keep b _ hbe hs⟩
def Lies (h:Heap) (e:Addr) (vs:Array Value) (to:Option Addr):Prop:=match to with
 | none=>vs[1]?=some .none
 | some T=>vs[1]?=some (.ref T)/\T≠e/\∃ oT ts,h.get? T=some oT/\oT.data=.fields ts/\ts[3]?=some .none
theorem yA {base:Heap} {env:Env} {outer:List Env} {L e:Addr} {oe:Obj} {vs:Array Value} {to:Option Addr} {Q:Unit->Shared->Prop}
  (hfr:A.frames=some (env::outer)) (hl:s.heap.FunFrames base (env::outer)) (hf:env.frame=some L)
  (he:s.heap.get? e=some oe) (hd:oe.data=.fields vs) (hto:Lies s.heap e vs to)
  (h:∀ h' T oT ts,h'.get? e=some (Obj.mapFields (·.setIfInBounds 1 (.ref T)) oe)->s.heap.objs.size<=T->T≠e->h'.get? T=some oT->oT.data=.fields ts->ts[3]?=some (rawInt L) ->
   (∀ b o,b≠e->(∀ T,to=some T->b≠T)->b ∉ wy (env::outer)->s.heap.get? b=some o->h'.get? b=some o) ->
   (∀ b o,b≠e->(∀ T,to=some T->b≠T)->s.heap.get? b=some o->∃ sl,h'.get? b=some { o with slots:=sl })->(∀ b o,s.heap.get? b=some o->∃ o',h'.get? b=some o')->Q () { s with heap:=h' }) :
  wpAny M A (noteFrame (.ref e) env) Q E s:=by
 unfold noteFrame
 simp only [hf]
 cases to with
 | none =>
  have h1:vs[1]?=some .none:=hto
  refine wpAny_bind (wpAny_field he hd h1 ?_)
  rw [if_neg (by decide)]
  refine sD hfr hl hf he hd (Array.getElem?_eq_some_iff.mp h1).1 fun h' T oT ts a1 a2 a3 a4 a5 a6 a7 a8=>?_
  refine h h' T oT ts a1 a2 a3 a4 a5 a6 (fun b o n1 _ n2 q=>a7 b o n1 n2 q) (fun b o n1 _ q=>a8 b o n1 q) fun b o q=>?_
  by_cases z:b=e
  ·subst z;exact ⟨_,a1⟩
  ·obtain ⟨sl,r⟩:=a8 b o z q;exact ⟨_,r⟩
 | some T0 =>
  obtain ⟨h1,hTe,oT,ts,hT,hdT,h3⟩:=hto
  refine wpAny_bind (wpAny_field he hd h1 ?_)
  rw [if_pos (show (Value.ref T0 != Value.none)=true from by simp)]
  refine wpAny_bind (wpAny_field hT hdT h3 ?_)
  rw [if_neg (show ¬ ((Value.none==rawInt L)=true) from by simp [rawInt])]
  refine wpAny_bind (wpAny_setField hT hdT (Array.getElem?_eq_some_iff.mp h3).1 ?_)
  have other:∀ b,b≠T0->(s.heap.update T0 (Obj.mapFields (·.setIfInBounds 3 Value.none))).get? b=s.heap.get? b:=fun b hb=>Heap.get?_update_other _ _ (Ne.symm hb)
  have noRecord:∀ b o,s.heap.get? b=some o->(∀ vs,o.data≠.fields vs)->b≠T0:=fun b o hb hnf q=>by
   rw [q,hT] at hb;injection hb with hb;subst hb;exact hnf ts hdT
  have hT2:=Heap.get?_update_self (Obj.mapFields (·.setIfInBounds 3 Value.none)) hT (Obj.isFreed_of_fields (Obj.data_mapFields hdT _))
  refine sD hfr (hl.of_keeps fun b o hb hnf=>⟨o,(other b (noRecord b o hb hnf)).trans hb,rfl⟩) hf ((other e (Ne.symm hTe)).trans he) hd (Array.getElem?_eq_some_iff.mp h1).1 fun h' T oT' ts' a1 a2 a3 a4 a5 a6 a7 a8=>?_
  refine h h' T oT' ts' a1 (by simpa [Heap.update] using a2) a3 a4 a5 a6 (fun b o n1 n2 n3 q=>a7 b o n1 n3 ((other b (n2 T0 rfl)).trans q)) (fun b o n1 n2 q=>a8 b o n1 ((other b (n2 T0 rfl)).trans q)) fun b o q=>?_
  by_cases z:b=e
  ·subst z;exact ⟨_,a1⟩
  ·by_cases z2:b=T0
   ·subst z2
    obtain ⟨sl,r⟩:=a8 b _ z hT2;exact ⟨_,r⟩
   ·obtain ⟨sl,r⟩:=a8 b o z ((other b z2).trans q);exact ⟨_,r⟩
end
end L2
namespace L2
open PySem PySem.Spec PyProof.Rows
def kK (C:Addr) (dd:Option Addr) (e:Addr):HO:=.ext fun h=>∃ t,h.get? e=some ⟨.ref C,dd,.fields #[.ref t,.none,.none,.none,.bool false,.none],#[]⟩
def IX (C:Addr) (dd:Option Addr) (e T:Addr):HO:=.ext fun h=>∃ vs,h.get? e=some ⟨.ref C,dd,.fields vs,#[]⟩/\vs[1]?=some (.ref T)
def T3 (fl:Value) (T:Addr):HO:=.ext fun h=>∃ oT ts,h.get? T=some oT/\oT.data=.fields ts/\ts[3]?=some fl
def qq (Hc:Hp) (e T C:Addr) (dd:Option Addr) (fl:Value):Hp:=upd (upd Hc T (T3 fl T)) e (IX C dd e T)
theorem vW {Hc:Hp} {e T C:Addr} {dd:Option Addr} {fl:Value}:qq Hc e T C dd fl e=some (IX C dd e T):=aC
theorem se {Hc:Hp} {e T C:Addr} {dd:Option Addr} {fl:Value} (n:T≠e):qq Hc e T C dd fl T=some (T3 fl T):=by unfold qq;rw [au n,aC]
theorem mD {Hc:Hp} {e T C b:Addr} {dd:Option Addr} {fl:Value} (n:b≠e) (n2:b≠T):qq Hc e T C dd fl b=Hc b:=by unfold qq;rw [au n,au n2]
section
variable {X:Cx} {pins:List (Addr×Obj)} {σ:St} {H:Hp} {s:Shared}
theorem Inv.note {Hc:Hp} {e C:Addr} {dd:Option Addr} {to:Option Addr} {vs:Array Value} {φ:Heap->Prop} {Q:Unit->Shared->Prop} {E:Value->Shared->Prop} (I:Inv X pins σ H s) (hst:X.stack=X.env::X.outer) (hf:X.env.frame=some X.env.locals)
  (he:H e=some (.ext φ)) (hx:s.heap.get? e=some ⟨.ref C,dd,.fields vs,#[]⟩) (lies:Lies s.heap e vs to) (hT:∀ T,to=some T->(∃ ψ,H T=some (.ext ψ))/\Hc T=none) (hc:∀ b,b≠e->(∀ T,to=some T->b≠T)->Hc b=H b)
  (h:∀ h' T,Hc T=none->T≠e->Inv X pins σ (qq Hc e T C dd (rawInt X.env.locals)) { s with heap:=h' }->Q () { s with heap:=h' }) :
  wpAny (model X.prog X.w) X.A (noteFrame (.ref e) X.env) Q E s:=by
 have hl:=I.stack
 have hfr:=I.ok.frames
 have sf:=I.t8
 rw [hst] at hl hfr sf
 refine yA (base:=X.base) hfr hl hf hx rfl lies fun h' T oT ts a1 a2 a3 a4 a5 a6 a7 a8 a9=>?_
 have hTn:H T=none:=I.bx.fresh a2
 have nT:∀ b u,H b=some u->b≠T:=fun b u q z=>by rw [z,hTn] at q;cases q
 have ext_ne:∀ b u,H b=some u->(∀ ψ,u≠.ext ψ)->b≠e/\∀ T0,to=some T0->b≠T0:=by
  intro b u q hu
  refine ⟨fun z=>?_,fun T0 z w=>?_⟩
  ·rw [z,he] at q;exact hu _ (Option.some.inj q).symm
  ·obtain ⟨⟨ψ,q2⟩,_⟩:=hT T0 z
   rw [w,q2] at q;exact hu _ (Option.some.inj q).symm
 have old:∀ b u,H b=some u->(∀ ψ,u≠.ext ψ)->qq Hc e T C dd (rawInt X.env.locals) b=some u:=fun b u q hu=>by
  obtain ⟨n1,n2⟩:=ext_ne b u q hu
  rw [mD n1 (nT b u q),hc b n1 n2];exact q
 have hcT:Hc T=none:=by
  by_cases z:∃ T0,to=some T0/\T=T0
  ·obtain ⟨T0,z1,z2⟩:=z;rw [z2];exact (hT T0 z1).2
  ·rw [hc T a3 fun T0 z1 z2=>z ⟨T0,z1,z2⟩];exact hTn
 have un:∀ b o,s.heap.get? b=some o->H b=none->b≠e/\(∀ T0,to=some T0->b≠T0)/\b≠T:=by
  intro b o q n
  refine ⟨fun z=>?_,fun T0 z w=>?_,Nat.ne_of_lt (Nat.lt_of_lt_of_le (Heap.lt_size q) a2)⟩
  ·rw [z,he] at n;cases n
  ·obtain ⟨⟨ψ,q2⟩,_⟩:=hT T0 z
   rw [w,q2] at n;cases n
 refine h h' T hcT a3 ?_
 have U:Un (wy X.stack) [] H (qq Hc e T C dd (rawInt X.env.locals)) s.heap h':=by
  rw [hst]
  refine ⟨fun b o q n nf _=>?_,fun b o q n _ _=>?_,fun b o q n _=>?_,fun b o q _=>a9 b o q,fun b xs q=>old b _ q (fun _ z=>nomatch z),fun b ob u q=>old b _ q (fun _ z=>nomatch z),fun b ps q=>⟨#[],?_⟩⟩
  ·obtain ⟨n1,n2,_⟩:=un b o q n;exact a7 b o n1 n2 nf q
  ·obtain ⟨n1,n2,_⟩:=un b o q n;exact a8 b o n1 n2 q
  ·obtain ⟨n1,n2,n3⟩:=un b o q n
   rw [mD n1 n3,hc b n1 n2];exact n
  ·rw [old b _ q (fun _ z=>nomatch z)];simp
 have ok:nJ X.prog X.w (qq Hc e T C dd (rawInt X.env.locals)) h':=fun b u q=>by
  by_cases z:b=e
  ·subst z
   rw [vW] at q;cases q
   refine ⟨⟨_,a1,?_⟩,⟨_,a1⟩,fun h1 h2 ⟨ws,q1,q2⟩ k=>⟨ws,k _ q1,q2⟩⟩
   have hsz:1<vs.size:=by
    cases to with
    | none=>exact (Array.getElem?_eq_some_iff.mp (show vs[1]?=some .none from lies)).1
    | some T0=>exact (Array.getElem?_eq_some_iff.mp lies.1).1
   simp [hsz]
  ·by_cases z2:b=T
   ·subst z2
    rw [se a3] at q;cases q
    exact ⟨⟨oT,ts,a4,a5,a6⟩,⟨_,a4⟩,fun h1 h2 ⟨o1,t1,q1,q2,q3⟩ k=>⟨o1,t1,k _ q1,q2,q3⟩⟩
   ·rw [mD z z2] at q
    have z3:∀ T0,to=some T0->b≠T0:=fun T0 w w2=>by rw [w2,(hT T0 w).2] at q;cases q
    rw [hc b z z3] at q
    have nf:∀ c u',H c=some u'->c ∉ wy (X.env::X.outer):=fun c u' q' hm=>by have:=sf c hm;rw [q'] at this;cases this
    refine (I.bx b u q).og (fun c v hc' q'=>?_) (fun c q'=>old c _ q' (fun _ z=>nomatch z)) fun c xs q'=>old c _ q' (fun _ z=>nomatch z)
    rcases hc' with rfl | hc'
    ·exact a7 c v z z3 (nf c u q) q'
    ·obtain ⟨n1,n2⟩:=ext_ne c _ hc' (fun _ z=>nomatch z)
     exact a7 c v n1 n2 (nf c _ hc') q'
 exact I.call (ch:=[]) U ok I.bare (fun b z=>absurd z (by simp))
theorem Inv.Fw {Hc:Hp} {e T C:Addr} {dd:Option Addr} {fl:Value} (I:Inv X pins σ (qq Hc e T C dd fl) s) (n:T≠e):∃ vs oT ts,s.heap.get? e=some ⟨.ref C,dd,.fields vs,#[]⟩/\vs[1]?=some (.ref T)/\s.heap.get? T=some oT/\oT.data=.fields ts/\ts[3]?=some fl:=by
 obtain ⟨vs,h1,h2⟩:=(I.bx e _ vW).1
 obtain ⟨oT,ts,q⟩:=(I.bx T _ (se n)).1
 exact ⟨vs,oT,ts,h1,h2,q⟩
theorem Inv.Ia {Hc:Hp} {e T C:Addr} {dd:Option Addr} {fl:Value} {Q:Unit->Shared->Prop} {E:Value->Shared->Prop} (I:Inv X pins σ (qq Hc e T C dd fl) s) (hfl:fl=.none\/fl=rawInt X.env.locals) (n:T≠e) (hcT:Hc T=none) (hst:X.stack=X.env::X.outer) (hf:X.env.frame=some X.env.locals)
  (h:∀ h' T,Hc T=none->T≠e->Inv X pins σ (qq Hc e T C dd (rawInt X.env.locals)) { s with heap:=h' }->Q () { s with heap:=h' }) :
  wpAny (model X.prog X.w) X.A (noteFrame (.ref e) X.env) Q E s:=by
 obtain ⟨vs,oT,ts,hx,h1,hT,hd,h3⟩:=I.Fw n
 rcases hfl with rfl | rfl
 ·refine I.note (Hc:=Hc) (to:=some T) hst hf vW hx ⟨h1,n,oT,ts,hT,hd,h3⟩ (fun T0 z=>?_) (fun b n1 n2=>(mD n1 (n2 T rfl)).symm) h
  cases z
  exact ⟨⟨_,se n⟩,hcT⟩
 ·unfold noteFrame
  simp only [hf]
  refine wpAny_bind (wpAny_field hx rfl h1 ?_)
  rw [if_pos (show (Value.ref T != Value.none)=true from by simp)]
  refine wpAny_bind (wpAny_field hT hd h3 ?_)
  rw [if_pos (show (rawInt X.env.locals==rawInt X.env.locals)=true from by simp)]
  exact wpAny_pure (h s.heap T hcT n I)
theorem Inv.J2 {e C:Addr} {dd:Option Addr} {Q:Unit->Shared->Prop} {E:Value->Shared->Prop} (I:Inv X pins σ H s) (he:H e=some (kK C dd e)) (hst:X.stack=X.env::X.outer) (hf:X.env.frame=some X.env.locals)
  (h:∀ h' T,upd H e (jr C dd e) T=none->T≠e->Inv X pins σ (qq (upd H e (jr C dd e)) e T C dd (rawInt X.env.locals)) { s with heap:=h' }->Q () { s with heap:=h' }) :
  wpAny (model X.prog X.w) X.A (noteFrame (.ref e) X.env) Q E s:=by
 obtain ⟨t,hx⟩:=(I.bx e _ he).1
 exact I.note (Hc:=upd H e (jr C dd e)) (to:=none) hst hf he hx rfl (fun _ z=>by cases z) (fun b n1 _=>au n1) h
theorem Inv.CA {Hc:Hp} {e T C:Addr} {dd:Option Addr} {fl:Value} {fr:Option Addr} {Q:Unit->Shared->Prop} {E:Value->Shared->Prop} (I:Inv X pins σ (qq Hc e T C dd fl) s) (n:T≠e)
  (h:∀ h',Inv X pins σ (qq Hc e T C dd (fr.elim .none fun f=>rawInt f)) { s with heap:=h' }->Q () { s with heap:=h' }) :
  wpAny (model X.prog X.w) X.A (setFlight (.ref e) fr) Q E s:=by
 obtain ⟨vs,oT,ts,hx,h1,hT,hd,h3⟩:=I.Fw n
 unfold setFlight
 refine wpAny_bind (wpAny_field hx rfl h1 ?_)
 rw [if_pos (show (Value.ref T != Value.none)=true from by simp)]
 have hsz:3<ts.size:=(Array.getElem?_eq_some_iff.mp h3).1
 refine wpAny_setField hT hd hsz (h _ ?_)
 have other:∀ b,b≠T->(s.heap.update T (Obj.mapFields (·.setIfInBounds 3 (fr.elim Value.none fun f=>rawInt f)))).get? b=s.heap.get? b:=fun b hb=>Heap.get?_update_other _ _ (Ne.symm hb)
 have hT2:=Heap.get?_update_self (Obj.mapFields (·.setIfInBounds 3 (fr.elim Value.none fun f=>rawInt f))) hT (Obj.isFreed_of_fields (Obj.data_mapFields hd _))
 have nT:∀ b,qq Hc e T C dd fl b=none->b≠T:=fun b q z=>by rw [z,se n] at q;cases q
 have same:∀ b,b≠T->qq Hc e T C dd (fr.elim .none fun f=>rawInt f) b=qq Hc e T C dd fl b:=fun b z=>by
  by_cases w:b=e
  ·subst w;rw [vW,vW]
  ·rw [mD w z,mD w z]
 have ne:∀ b u,qq Hc e T C dd fl b=some u->(∀ ψ,u≠.ext ψ)->b≠T:=fun b u q hu z=>by rw [z,se n] at q;exact hu _ (Option.some.inj q).symm
 refine I.un (t':=s.toks) ⟨fun b o q z _ _=>(other b (nT b z)).trans q,fun b o q z _ _=>⟨o.slots,(other b (nT b z)).trans q⟩,fun b o q z _=>by rw [same b (nT b z)];exact z,fun b o q _=>?_,fun b xs q=>?_,fun b ob u q=>?_,fun b ps q=>⟨#[],?_⟩⟩ fun b u q=>?_
 ·by_cases z:b=T
  ·subst z;exact ⟨_,hT2⟩
  ·exact ⟨o,(other b z).trans q⟩
 ·rw [same b (ne b _ q fun _ z=>nomatch z)];exact q
 ·rw [same b (ne b _ q fun _ z=>nomatch z)];exact q
 ·rw [same b (ne b _ q fun _ z=>nomatch z),q];simp
 ·by_cases z:b=T
  ·subst z
   rw [se n] at q;cases q
   refine ⟨⟨_,_,hT2,Obj.data_mapFields hd _,?_⟩,⟨_,hT2⟩,fun h1 h2 ⟨o1,t1,q1,q2,q3⟩ k=>⟨o1,t1,k _ q1,q2,q3⟩⟩
   simp [hsz]
  ·rw [same b z] at q
   refine (I.bx b u q).og (fun c v hc q'=>(other c ?_).trans q') (fun c q'=>?_) fun c xs q'=>?_
   ·rcases hc with rfl | hc
    ·exact z
    ·exact ne c _ hc fun _ z=>nomatch z
   ·rw [same c (ne c _ q' fun _ z=>nomatch z)];exact q'
   ·rw [same c (ne c _ q' fun _ z=>nomatch z)];exact q'
end
def bM (P:Program) (w:World):DG:=fun outer H s E e s'=>∃ (ea T C:Addr) (dd:Option Addr) (Hc:Hp),e=.ref ea/\s'.os=s.os/\AllBare s'.gens/\Un (wy outer) [] H (qq Hc ea T C dd .none) s.heap s'.heap/\nJ P w (qq Hc ea T C dd .none) s'.heap ∧
 Hc ea=some (jr C dd ea)/\Hc T=none/\T≠ea/\E (.ref ea) none Hc
def Zx (X : Cx) (E : St -> XK) (e : Value) (s : Shared) : Prop := ∃ (ea C : Addr) (dd : Option Addr) (pins : List (Addr × Obj)) (σ : St), e = .ref ea ∧
  ((∃ H, Inv X pins σ H s /\ H ea = some (kK C dd ea) /\ E σ (.ref ea) none (upd H ea (jr C dd ea))) ∨
   (∃ Hc T fl, Inv X pins σ (qq Hc ea T C dd fl) s /\ (fl = .none \/ fl = rawInt X.env.locals) /\ Hc ea = some (jr C dd ea) /\ Hc T = none /\ T ≠ ea /\ E σ (.ref ea) none Hc))
theorem Zx.note {X:Cx} {E:St->XK} {e:Value} {s:Shared} {Q:Unit->Shared->Prop} {F:Value->Shared->Prop} (z:Zx X E e s) (hst:X.stack=X.env::X.outer) (hf:X.env.frame=some X.env.locals)
  (h:∀ s' ea C dd pins σ Hc T,e=.ref ea->Inv X pins σ (qq Hc ea T C dd (rawInt X.env.locals)) s'->Hc ea=some (jr C dd ea)->Hc T=none->T≠ea->E σ (.ref ea) none Hc->Q () s') :
  wpAny (model X.prog X.w) X.A (noteFrame e X.env) Q F s:=by
 obtain ⟨ea,C,dd,pins,σ,rfl,⟨H,I,h1,h2⟩ | ⟨Hc,T,fl,I,h1,h2,h3,h4,h5⟩⟩:=z
 ·exact I.J2 h1 hst hf fun h' T q1 q2 I2=>h _ ea C dd pins σ _ T rfl I2 aC q1 q2 h2
 ·exact I.Ia h1 h4 h3 hst hf fun h' T q1 q2 I2=>h _ ea C dd pins σ _ T rfl I2 h2 q1 q2 h5
theorem Zx.Hi {X:Cx} {E:XK} {e:Value} {s:Shared} {F:Value->Shared->Prop} (z:Zx X (fun _=>E) e s) (hst:X.stack=X.env::X.outer) (hf:X.env.frame=some X.env.locals) (hex:X.ex=[]) :
  wpAny (model X.prog X.w) X.A (leaving X.env e) (fun _ s'=>bM X.prog X.w X.outer X.H₀ X.s₀ E e s') F s:=by
 unfold leaving
 refine wpAny_bind (z.note hst hf fun s' ea C dd pins σ Hc T he I h1 h2 h3 h4=>?_)
 subst he
 refine I.CA h3 fun h' I2=>⟨ea,T,C,dd,Hc,rfl,I2.os,I2.bare,?_,I2.bx,h1,h2,h3,h4⟩
 have:=I2.base
 rw [hex] at this
 exact this
theorem Zx.own {X:Cx} {E:St->XK} (hst:X.stack=X.env::X.outer) (hf:X.env.frame=some X.env.locals):PassesOwn (model X.prog X.w) X.A X.env (Zx X E):=by
 intro e s z
 refine z.note hst hf fun s' ea C dd pins σ Hc T he I h1 h2 h3 h4=>?_
 subst he
 obtain ⟨vs,oT,ts,hx,q1,_⟩:=I.Fw h3
 show wpAny _ _ _ _ _ _
 refine wpAny_bind (wpAny_field hx rfl q1 ?_)
 rw [if_neg (show ¬ ((Value.ref T==Value.none)=true) from by simp)]
 rw [hf]
 refine I.CA h3 fun h' I2=>⟨ea,C,dd,pins,σ,rfl,.inr ⟨Hc,T,_,I2,.inr rfl,h1,h2,h3,h4⟩⟩
structure eQ (X:Cx) (E:St->XK):Prop where
 pass:∀ (pins:List (Addr×Obj)) (σ:St) (H:Hp) (s:Shared) (e:Value) (s':Shared),Inv X pins σ H s->bM X.prog X.w X.stack H s (E σ) e s'->X.xe e s'
 new:∀ (pins:List (Addr×Obj)) (σ:St) (H:Hp) (s:Shared) (e C:Addr) (dd:Option Addr),Inv X pins σ H s->H e=some (kK C dd e)->E σ (.ref e) none (upd H e (jr C dd e))->X.xe (.ref e) s
 own:PassesOwn (model X.prog X.w) X.A X.env X.xe
abbrev Cx.out (X:Cx) (E:St->XK):Cx:=X.qD (Zx X E)
theorem Ar {X:Cx} {E:St->XK} (hst:X.stack=X.env::X.outer) (hf:X.env.frame=some X.env.locals):eQ (X.out E) E where
 pass:=by
  intro pins σ H s e s' I h
  obtain ⟨ea,T,C,dd,Hc,rfl,os,bare,un,bx,h1,h2,h3,hE⟩:=h
  have I':=I.iR.EY (ch:=[]) os un bx bare (fun b z=>absurd z (by simp))
  exact ⟨ea,C,dd,pins,σ,rfl,.inr ⟨Hc,T,.none,I',.inl rfl,h1,h2,h3,hE⟩⟩
 new:=fun pins σ H s e C dd I he hE=>⟨e,C,dd,pins,σ,rfl,.inl ⟨H,I.iR,he,hE⟩⟩
 own:=Zx.own hst hf
theorem uL {P:Program} {w:World} {K:PySem.W.Frag} {mg:Str->Option Value} {base:Heap} {k:Nat} {f:Addr} {name qual:Str} {params:Arguments} {body:List Stmt} {scope:Scope} {dV kV doc pm cdv ct oc:Value} {an od:Option Addr}
  {osl:Array (Option Value)} {N ps:List Str} {sp:Sp} (lk:K.lookup f=some ⟨oc,od,.func (PySem.W.fnOf name qual params body scope dV kV doc pm an cdv ct),osl⟩) (hcd:PySem.W.codeIn K cdv qual=true) (S:ax N ps scope)
  (len:∀ vs H Q E,sp vs H Q E->vs.length=ps.length)
  (hbody:∀ (A:Around) (outer:List Env) (s:Shared) (H:Hp) (vs:List V) (Q:VK) (E:XK),bR k (A.deeper (envOfC qual scope s.heap.objs.size f cdv))->sp vs H Q E ->
   ∃ t,mW ((k_ (bM P w) P w K mg base N qual scope f cdv A outer s H E).out fun _=>E) body t/\t { nx:=fun _ H'=>Q .cI H',rt:=Q } (start N vs) H) :
  aN P w K mg base (bM P w) (k+1) f (PySem.W.fnOf name qual params body scope dV kV doc pm an cdv ct) ps sp:=by
 refine Ic lk hcd S len fun A outer s H vs Q E hr hs=>?_
 obtain ⟨t,h1,h2⟩:=hbody A outer s H vs Q E hr hs
 refine ⟨t,fun pins s1 σ H1 D I q=>?_,h2⟩
 refine wpAny_mono (h1 pins s1 σ H1 D (I.qD _) q) (fun f s' z=>z.iR) fun e s' z=>?_
 exact z.Hi rfl rfl rfl
end L2
namespace L2
open PySem PySem.Spec PyProof.Rows
open PySem.Builtin.ObjectAttr (storeInOwnDict storeTaker? setByDescriptor)
theorem uI {P:Program} {w:World} {H:Hp} {h:Heap} {C e t:Addr} {dd:Option Addr} (he:h.get? e=some ⟨.ref C,dd,.fields #[.ref t,.none,.none,.none,.bool false,.none],#[]⟩):bT P w H h e (kK C dd e) :=
 ⟨⟨t,he⟩,⟨_,he⟩,fun _ _ ⟨t,q⟩ k=>⟨t,k _ q⟩⟩
section
variable {X:Cx} {C f:Addr} {fd:FuncData} {ps:List Str} {sp:Sp} {x:Str} {p pos:Pos} {e:Expr} {es:List Expr} {t:TA} {k:Nat}
def J5 (C:Addr) (t:TA):TE:=fun σ H Q=>t σ H fun vs H1=>vs.length<=sizeLine/\∀ a,H1 a=none->Q (.ref a) (upd H1 a (kK C none a))
theorem CO (hc:PySem.W.excIn X.K C eE "ValueError.__new__" = true) (kp:PySem.W.keepIn X.K (.ref C)=true) (hg:Gl X x) (hm:X.mg x=some (.ref C))
  (ha:PA X (e::es) t) (hdb:(x==("__debug__" : Str))=false:=by decide) (he:starEach (e::es) X.env=(false,eval e X.env)::starEach es X.env:=by rfl) (hpl:(backTo pos (starEach es X.env)).any (·.1)=false:=by rfl) :
  PE X (.Call (.Name x p) (e::es) [] pos) (J5 C t):=by
 intro pins s σ H Q I h
 refine wpAny_Call_Name_kw (mh I hg hm ?_ hdb)
 refine PySem.W.callWith_K (h₀:=X.base) I.ok.mod.Ez kp (cG (ha pos pins s σ H _ I h) fun us s1 ⟨vs,H1,I1,r,hl,q⟩=>⟨I1.j0,?_⟩) he hpl
 obtain ⟨bm,N,nm,qn,bs,hdct,sn,sub,ab,col,dd,k0,k1,k2,k3,k5,mN,hC,hN,hni,T⟩:=Em I1.j0 hc
 obtain ⟨hp,g,d,tk,os⟩:=s1
 refine wpAny_call_exc_subT PySem.F.excBase_ValueError T hC hN hni (fun h' a M=>?_) (by show us.length<=sizeLine;rw [← r.length];exact hl)
 obtain ⟨t',e1,_,_⟩:=M.there
 have I2:Inv X pins σ (upd H1 a (kK C none a)) ⟨h',g,d,tk,os⟩:=I1.EZ (t':=tk) M.keeps M.new (uI e1)
 have hn:H1 a=none:=I1.tR M.new
 exact ⟨.ref a,_,I2,rfl,q a hn⟩
def FE (C:Addr) (sp:Sp) (t:TA):TE:=fun σ H Q=>t σ H fun vs H1=>vs.length<=sizeLine/\∀ a,H1 a=none->sp (.ref a::vs) (upd H1 a (kK C none a)) (fun v H2=>v=.cI/\Q (.ref a) H2) E0
theorem Bh (hc:kh X.K C "ValueError.__new__" f=true) (hf:PySem.W.isFn X.K (.ref f)=true) (kp:PySem.W.keepIn X.K (.ref C)=true) (F:aN X.prog X.w X.K X.mg X.base (bM X.prog X.w) k f fd ps sp) (hr:bR (k+1) X.A) (hb:Binds X.K fd ps []) (hg:Gl X x) (hm:X.mg x=some (.ref C))
  (ha:PA X (e::es) t) (hdb:(x==("__debug__" : Str))=false:=by decide) (he:starEach (e::es) X.env=(false,eval e X.env)::starEach es X.env:=by rfl) (hpl:(backTo pos (starEach es X.env)).any (·.1)=false:=by rfl) :
  PE X (.Call (.Name x p) (e::es) [] pos) (FE C sp t):=by
 intro pins s σ H Q I h
 refine wpAny_Call_Name_kw (mh I hg hm ?_ hdb)
 refine PySem.W.callWith_K (h₀:=X.base) I.ok.mod.Ez kp (cG (ha pos pins s σ H _ I h) fun us s1 ⟨vs,H1,I1,r,hl,q⟩=>⟨I1.j0,?_⟩) he hpl
 have X1:=I1.j0
 obtain ⟨bm,N,nm,qn,bs,hdct,sn,sub,ab,col,dd,k0,k1,k2,k3,k5,mN,hC,hN,hni,T⟩:=z7 X1 hc
 obtain ⟨hp,g,d,tk,os⟩:=s1
 have f1:=tc_lookup
 have f2:=tc_bind (.ref C)
 have hT:(⟨hp,g,d,tk,os⟩:Shared).TypeIs (.ref C) "type" := ⟨_,hC,rfl⟩
 refine wpAny_call (codeAny_of_tree ?_)
 show wpAny _ _ (callAny (.ref C) _) _ _ _
 repeat (any_goals (first | assumption | with_reducible refine wpAny_loadPart_at hC ?_ | wp_step))
 refine ⟨rfl,?_⟩
 refine codeAny_call_builtin_at (Code.quiet_builtin _ (by decide +kernel)) entry_typeCall (wpAny_check_type_call_sub hC (qb PySem.F.excBase_ValueError T hC hN hni
  (fun h' kk self=>PySem.W.bind_fn (fun b o z=>kk b o (X1 b o z)) self (beq_iff_eq.mp hf)) (fun h' kk ht hx hz=>?_) (by show us.length<=sizeLine;rw [← r.length];exact hl)))
 have I2:Inv X pins σ (upd H1 (hp.objs.size+1) (kK C none (hp.objs.size+1))) ⟨h',g,d,tk,os⟩:=I1.EZ (t':=tk) kk (Heap.get?_none_of_le (Nat.le_succ _)) (uI hx)
 have hq:=q (hp.objs.size+1) (I1.tR (Heap.get?_none_of_le (Nat.le_succ _)))
 have r2:Vals (V.ref (hp.objs.size+1)::vs) (Value.ref (hp.objs.size+1)::us):=.cons rfl r
 have hlen:(Value.ref (hp.objs.size+1)::us++[]).length=ps.length:=by
  rw [List.append_nil,← r2.length]
  exact F.len _ _ _ _ hq
 refine wpAny_call (codeAny_mono (F.run _ X.stack _ _ ⟨Value.ref (hp.objs.size+1)::us,[]⟩ (Value.ref (hp.objs.size+1)::us) _ _ E0 (hr.make C us []) (I2.jo.make C us []) (by have:=hb _ (Value.ref (hp.objs.size+1)::us) I2.j0 hlen;rwa [List.append_nil] at this) r2 hq) fun r s' hq'=>?_)
 cases r with
 | error e =>
  obtain ⟨_,_,_,_,_,_,_,_,_,_,_,_,_,z⟩:=hq'
  exact z.elim
 | ok fl =>
  cases fl with
  | ret u =>
   obtain ⟨v,H',I3,rv,ev,q3⟩:=I2.after hq'
   subst ev
   exact ⟨rv,⟨V.ref (hp.objs.size+1),H',I3,rfl,q3⟩⟩
  | next=>exact False.elim hq'
  | brk=>exact False.elim hq'
  | cont=>exact False.elim hq'
def Fm (K:PySem.W.Frag) (ta tv:TE) (f:Str):TS:=fun D σ H=>tv σ H fun y H1=>ta σ H1 fun x H2=>∃ a C,x=.ref a/\H2 a=some (kK C none a)/\ji K C/\((PySem.W.clsIn K C).any fun cd=>gG cd.mro)=true/\bK K C f ∧
 ∀ d,H2 d=none->d≠a->D.nx σ (upd (upd H2 d (.xd [(f,y)])) a (kK C (some d) a))
theorem AR {o value:Expr} {ta tv:TE} {n:Str} {pos':Pos} (ha:PE X o ta) (hv:PE X value tv) (hs:swapsWith value (some (.Attribute o n pos')) pos.line X.env=pure false):PS X (.Assign [.Attribute o n pos'] value pos) (Fm X.K ta tv n):=by
 intro pins s σ H D I h
 refine plainObj_wpAny_Assign_Attribute (cG (hv pins s σ H _ I h) fun u s1 ⟨y,H1,I1,ry,q⟩=>cG (ha pins s1 σ H1 _ I1 q) fun ov s2 ⟨x,H2,I2,rx,a,C,ex,ea,c,po,na,q2⟩=>?_) hs
 subst ex
 obtain rfl:ov=Value.ref a:=rx
 obtain ⟨tt,hx⟩:=(I2.bx a _ ea).1
 refine B_ po c I2.j0 hx na.EH fun h' tk d e1 e2 e3 e4=>?_
 have hd:H2 d=none:=I2.tR e2
 have nda:d≠a:=fun z=>by rw [z,ea] at hd;cases hd
 refine ⟨σ,_,?_,q2 d hd nda⟩
 have up:∀ b,b≠a->b≠d->upd (upd H2 d (.xd [(n,y)])) a (kK C (some d) a) b=H2 b:=fun b h1 h2=>by rw [au h1,au h2]
 have nd:∀ b u,s2.heap.get? b=some u->b≠d:=fun b u e z=>by rw [z,e2] at e;cases e
 have nH:∀ b u,H2 b=some u->b≠d:=fun b u e z=>by rw [z,hd] at e;cases e
 have nE:∀ b u,H2 b=some u->(∀ C dd,u≠kK C dd a)->b≠a:=fun b u e hu z=>by
  rw [z,ea] at e
  exact hu C none (Option.some.inj e).symm
 refine I2.un (t':=tk) ⟨fun b u e z _ _=>e4 b u (fun w=>by rw [w,ea] at z;cases z) e,fun b u e z _ _=>⟨u.slots,e4 b u (fun w=>by rw [w,ea] at z;cases z) e⟩,fun b u e z _=>?_,fun b u e _=>?_,fun b xs e=>?_,fun b ob u e=>?_,fun b ps e=>?_⟩ fun b u e=>?_
 ·rw [up b (fun w=>by rw [w,ea] at z;cases z) (nd b u e)];exact z
 ·by_cases w:b=a
  ·rw [w];exact ⟨_,e1⟩
  ·exact ⟨u,e4 b u w e⟩
 ·rw [up b (nE b _ e fun _ _ z=>by cases z) (nH b _ e)];exact e
 ·rw [up b (nE b _ e fun _ _ z=>by cases z) (nH b _ e)];exact e
 ·exact ⟨#[],by rw [up b (nE b _ e fun _ _ z=>by cases z) (nH b _ e),e];simp⟩
 ·by_cases w:b=a
  ·subst w
   rw [aC] at e
   cases e
   exact uI e1
  ·rw [au w] at e
   by_cases w2:b=d
   ·subst w2
    rw [aC] at e
    cases e
    refine ⟨_,e3,fun g=>?_⟩
    show mF (List.lookup g [(n,y)]) (if g=n then some _ else none)
    rw [List.lookup_cons]
    by_cases z:g=n
    ·rw [if_pos z,show (g==n)=true from by simp [z]];exact ry
    ·rw [if_neg z,show (g==n)=false from by simp [z]];exact True.intro
   ·rw [au w2] at e
    refine (I2.bx b u e).og (fun c v hc z=>e4 c v ?_ z) (fun c z=>?_) fun c ys z=>?_
    ·rcases hc with z' | z'
     ·rw [z'];exact w
     ·exact nE c _ z' fun _ _ z=>by cases z
    ·rw [up c (nE c _ z fun _ _ z=>by cases z) (nH c _ z)];exact z
    ·rw [up c (nE c _ z fun _ _ z=>by cases z) (nH c _ z)];exact z
end
end L2
namespace L2
open PySem PySem.Spec PyProof.Rows
section
variable {M:Model} {A:Around} {E:Value->Shared->Prop} {s:Shared}
theorem E2 {e:Addr} {o:Obj} {Q:Value->Shared->Prop} (hx:s.heap.get? e=some o) (h:Q o.cls s):wpAny M A (typeOf (.ref e)) Q E s:=by
 unfold typeOf
 exact wpAny_bind (wpAny_loadPart hx (wpAny_pure h))
theorem xP {e:Addr} {o:Obj} {vs:Array Value} {Q:Bool->Shared->Prop} (hx:s.heap.get? e=some o) (hd:o.data=.fields vs) (h:Q false s):wpAny M A (isType (.ref e)) Q E s:=by
 unfold isType loadHead
 refine wpAny_bind (wpAny_loadPart hx (wpAny_pure ?_))
 rw [hd];exact h
end
section
variable {X:Cx} {pins:List (Addr×Obj)} {σ:St} {H:Hp} {s:Shared}
def Hl (K:PySem.W.Frag) (E:St->XK) (te:TE):TS:=fun D σ H=>te σ H fun v H1=>∃ e C dd,v=.ref e/\H1 e=some (kK C dd e)/\ji K C/\PySem.W.typeIn K (.ref C)=some (.type "type")/\E σ (.ref e) none (upd H1 e (jr C dd e))
theorem vU {exc:Expr} {te:TE} {pos:Pos} {E:St->XK} (O:eQ X E) (hcalm:X.calm=true) (he:PE X exc te):PS X (.Raise (some exc) none pos) (Hl X.K E te):=by
 intro pins s σ H D I h
 rw [arm_exec_Raise]
 refine wpAny_bind (wpAny_standAt ?_)
 unfold raiseStmt
 dsimp only [evalOpt,Option.map]
 refine wpAny_bind (wpAny_bind (cG (he pins s σ H _ I h) fun u s1 hq=>wpAny_bind (wpAny_standAt (wpAny_pure ?_))))
 obtain ⟨v,H1,I1,rv,e,C,dd,ev,hN,c,ht,hE⟩:=hq
 subst ev
 obtain rfl:u=Value.ref e:=rv
 obtain ⟨t,hx⟩:=(I1.bx e _ hN).1
 have X1:=I1.j0
 refine wpAny_bind (wpAny_pure ?_)
 refine wpAny_bind (wpAny_holding ?_)
 unfold excFromValue isExcClass
 refine wpAny_bind (wpAny_bind (xP hx rfl ?_))
 refine wpAny_pure ?_
 refine wpAny_bind ?_
 unfold isInstance
 refine wpAny_bind (E2 hx ((PySem.W.looks_mroIn X1 c.mb).here ?_))
 refine wpAny_pure ?_
 dsimp only
 refine wpAny_bind (xP hx rfl ?_)
 unfold raisedInstance
 refine wpAny_bind (wpAny_bind (E2 hx (wpAny_bind ((PySem.W.looks_typeIn X1 ht).here ?_))))
 refine wpAny_pure ?_
 unfold setFlight
 refine wpAny_bind (wpAny_bind (wpAny_field hx rfl (x:=.none) rfl ?_))
 refine wpAny_pure ?_
 exact wpAny_raiseNew_none (I1.ok.hd hcalm) (O.new pins σ H1 s1 e C dd I1 hN hE)
end
end L2
namespace L2
open PySem PySem.Spec PyProof.Rows
inductive PV where
 | cI | bl (b:Bool) | int (i:Int) | str (x:Str)
 | tup (xs:List PV) | lst (xs:List PV)
 | jR (xs:List PV)
 | obj (C:Addr) (fs:List (Str×PV))
 | exc (C:Addr) (fo:Option (List (Str×PV)))
 | emp
 deriving Inhabited
mutual
inductive Rep (H:Hp):PV->V->Prop where
 | cI:Rep H .cI .cI
 | bl (b:Bool):Rep H (.bl b) (.bl b)
 | int (i:Int):Rep H (.int i) (.int i)
 | str (x:Str):Rep H (.str x) (.str x)
 | tup {a:Addr} {xs:List PV} {vs:List V}:H a=some (.tup vs)->aK H xs vs->Rep H (.tup xs) (.ref a)
 | lst {a:Addr} {xs:List PV} {vs:List V}:H a=some (.lst vs)->aK H xs vs->Rep H (.lst xs) (.ref a)
 | jR {a:Addr} {o:Obj} {xs:List PV} {vs:List V}:H a=some (.qU o (.lst vs))->aK H xs vs->Rep H (.jR xs) (.ref a)
 | obj {a C dx:Addr} {fs:List (Str×PV)} {vs:List (Str×V)}:H a=some (.ins C dx vs)->i8 H fs vs->Rep H (.obj C fs) (.ref a)
 | zA {a C:Addr}:H a=some (jr C none a)->Rep H (.exc C none) (.ref a)
 | y_ {a C d:Addr} {fs:List (Str×PV)} {vs:List (Str×V)}:H a=some (jr C (some d) a)->H d=some (.xd vs)->i8 H fs vs->Rep H (.exc C (some fs)) (.ref a)
 | emp {a:Addr}:H a=some (.dK [])->Rep H .emp (.ref a)
inductive aK (H:Hp):List PV->List V->Prop where
 | nil:aK H [] []
 | cons {p:PV} {v:V} {ps:List PV} {vs:List V}:Rep H p v->aK H ps vs->aK H (p::ps) (v::vs)
inductive i8 (H:Hp):List (Str×PV)->List (Str×V)->Prop where
 | nil:i8 H [] []
 | cons {n:Str} {p:PV} {v:V} {ps:List (Str×PV)} {vs:List (Str×V)}:Rep H p v->i8 H ps vs->i8 H ((n,p)::ps) ((n,v)::vs)
end
mutual
theorem Rep.mono {H H':Hp} (s:aX H H'):∀ {p:PV} {v:V},Rep H p v->Rep H' p v
 | _,_,.cI=>.cI
 | _,_,.bl b=>.bl b
 | _,_,.int i=>.int i
 | _,_,.str x=>.str x
 | _,_,.tup h r=>.tup (s _ _ h) (r.mono s)
 | _,_,.lst h r=>.lst (s _ _ h) (r.mono s)
 | _,_,.jR h r=>.jR (s _ _ h) (r.mono s)
 | _,_,.obj h r=>.obj (s _ _ h) (r.mono s)
 | _,_,.zA h=>.zA (s _ _ h)
 | _,_,.y_ h h2 r=>.y_ (s _ _ h) (s _ _ h2) (r.mono s)
 | _,_,.emp h=>.emp (s _ _ h)
theorem aK.mono {H H':Hp} (s:aX H H'):∀ {p:List PV} {v:List V},aK H p v->aK H' p v
 | _,_,.nil=>.nil
 | _,_,.cons h r=>.cons (h.mono s) (r.mono s)
theorem i8.mono {H H':Hp} (s:aX H H'):∀ {p:List (Str×PV)} {v:List (Str×V)},i8 H p v->i8 H' p v
 | _,_,.nil=>.nil
 | _,_,.cons h r=>.cons (h.mono s) (r.mono s)
end
theorem aK.length {H:Hp}:∀ {p:List PV} {v:List V},aK H p v->p.length=v.length
 | _,_,.nil=>rfl
 | _,_,.cons _ r=>by simp [r.length]
theorem aK.get {H:Hp}:∀ {p:List PV} {v:List V} {i:Nat} {x:PV},aK H p v->p[i]?=some x->∃ u,v[i]?=some u/\Rep H x u
 | _,_,_,_,.nil,e=>by simp at e
 | _,_,0,_,.cons h _,e=>by simp at e;subst e;exact ⟨_,rfl,h⟩
 | _,_,i+1,x,.cons _ r,e=>by
  obtain ⟨u,h1,h2⟩:=aK.get (i:=i) (x:=x) r (by simpa using e)
  exact ⟨u,by simpa using h1,h2⟩
theorem aK.append {H:Hp}:∀ {p q:List PV} {v u:List V},aK H p v->aK H q u->aK H (p++q) (v++u)
 | _,_,_,_,.nil,s=>s
 | _,_,_,_,.cons h r,s=>.cons h (r.append s)
theorem aK.take {H:Hp}:∀ {p:List PV} {v:List V} (n:Nat),aK H p v->aK H (p.take n) (v.take n)
 | _,_,0,_=>.nil
 | _,_,_+1,.nil=>.nil
 | _,_,n+1,.cons h r=>.cons h (r.take n)
theorem aK.drop {H:Hp}:∀ {p:List PV} {v:List V} (n:Nat),aK H p v->aK H (p.drop n) (v.drop n)
 | _,_,0,r=>r
 | _,_,_+1,.nil=>.nil
 | _,_,n+1,.cons _ r=>r.drop n
theorem aK.snoc {H:Hp} {p:List PV} {v:List V} {x:PV} {u:V} (r:aK H p v) (h:Rep H x u):aK H (p++[x]) (v++[u]):=r.append (.cons h .nil)
theorem i8.look {H:Hp} {f:Str}:∀ {p:List (Str×PV)} {v:List (Str×V)} {x:PV},i8 H p v->p.lookup f=some x->∃ u,v.lookup f=some u/\Rep H x u
 | _,_,_,.nil,e=>by simp at e
 | (n,_)::_,_,x,.cons h r,e=>by
  rw [List.lookup_cons] at e ⊢
  cases q:f==n with
  | true=>rw [q] at e;cases e;exact ⟨_,rfl,h⟩
  | false=>rw [q] at e;exact r.look e
theorem i8.none {H:Hp} {f:Str}:∀ {p:List (Str×PV)} {v:List (Str×V)},i8 H p v->p.lookup f=none->v.lookup f=none
 | _,_,.nil,_=>rfl
 | (n,_)::_,_,.cons h r,e=>by
  rw [List.lookup_cons] at e ⊢
  cases q:f==n with
  | true=>rw [q] at e;cases e
  | false=>rw [q] at e;exact r.none e
theorem aK.ints {H:Hp}:∀ {ns:List Int} {v:List V},aK H (ns.map PV.int) v->v=ns.map V.int
 | [],_,.nil=>rfl
 | _::_,_,.cons (.int i) r=>by rw [r.ints];rfl
theorem aK.Ut {H:Hp}:∀ {ns:List Bool} {v:List V},aK H (ns.map PV.bl) v->v=ns.map V.bl
 | [],_,.nil=>rfl
 | _::_,_,.cons (.bl i) r=>by rw [r.Ut];rfl
structure bB (Hs H Hs' H':Hp):Prop where
 st:aX Hs Hs'
 al:aX H H'
 sub:aX Hs' H'
 nw:∀ a o,Hs a=none->H a=some o->Hs' a=none
theorem bB.refl {Hs H:Hp} (s:aX Hs H):bB Hs H Hs H:=⟨fun _ _ e=>e,fun _ _ e=>e,s,fun _ _ e _=>e⟩
theorem bB.trans {Hs H Hs1 H1 Hs2 H2:Hp} (a:bB Hs H Hs1 H1) (b:bB Hs1 H1 Hs2 H2):bB Hs H Hs2 H2 :=
 ⟨fun c o e=>b.st c o (a.st c o e),fun c o e=>b.al c o (a.al c o e),b.sub,fun c o e q=>b.nw c o (a.nw c o e q) (a.al c o q)⟩
theorem bB.new {Hs H:Hp} {p:Addr} {o:HO} (s:aX Hs H) (n:H p=none):bB Hs H (upd Hs p o) (upd H p o):=by
 have ne:∀ c u,H c=some u->c≠p:=fun c u e z=>by rw [z,n] at e;cases e
 refine ⟨fun c u e=>?_,fun c u e=>?_,fun c u e=>?_,fun c u e q=>?_⟩
 ·rw [au (ne c u (s c u e))];exact e
 ·rw [au (ne c u e)];exact e
 ·by_cases z:c=p
  ·subst z;rw [aC] at e ⊢;exact e
  ·rw [au z] at e ⊢;exact s c u e
 ·rw [au (ne c u q)];exact e
inductive SV where
 | sh (p:PV)
 | ow (xs:List PV)
 | bd (a C:Addr) (fs:List (Str×PV))
abbrev af:=List (Option SV)
structure SR (B H₀ Hs H:Hp) (σ:St) (env:af):Prop where
 gr:bB B H₀ Hs H
 len:σ.length=env.length
 sh:∀ (i:Nat) (p:PV),env[i]?=some (some (.sh p))->∃ v,σ[i]?=some (some v)/\Rep Hs p v
 ow:∀ (i:Nat) (xs:List PV),env[i]?=some (some (.ow xs))->∃ a vs,σ[i]?=some (some (.ref a))/\H a=some (.lst vs)/\Hs a=none/\H₀ a=none/\aK Hs xs vs
 sep:∀ (i j:Nat) (xs ys:List PV) (a:Addr),i≠j->env[i]?=some (some (.ow xs))->env[j]?=some (some (.ow ys))->σ[i]?=some (some (.ref a))->σ[j]?≠some (some (.ref a))
 bd:∀ (i:Nat) (a C:Addr) (fs:List (Str×PV)),env[i]?=some (some (.bd a C fs))->∃ dx vs,σ[i]?=some (some (.ref a))/\H a=some (.ins C dx vs)/\Hs a=none/\H₀ a=none/\i8 Hs fs vs
 one:∀ (i j:Nat) (a b C D:Addr) (fs gs:List (Str×PV)),env[i]?=some (some (.bd a C fs))->env[j]?=some (some (.bd b D gs))->i=j
theorem SR.grow {B H₀ Hs H Hs' H':Hp} {σ:St} {env:af} (r:SR B H₀ Hs H σ env) (g:bB Hs H Hs' H'):SR B H₀ Hs' H' σ env where
 gr:=r.gr.trans g
 len:=r.len
 sh:=fun i p e=>let ⟨v,h1,h2⟩:=r.sh i p e;⟨v,h1,h2.mono g.st⟩
 ow:=fun i xs e=>let ⟨a,vs,h1,h2,h3,h4,h5⟩:=r.ow i xs e;⟨a,vs,h1,g.al _ _ h2,g.nw _ _ h3 h2,h4,h5.mono g.st⟩
 sep:=r.sep
 bd:=fun i a C fs e=>let ⟨dx,vs,h1,h2,h3,h4,h5⟩:=r.bd i a C fs e;⟨dx,vs,h1,g.al _ _ h2,g.nw _ _ h3 h2,h4,h5.mono g.st⟩
 one:=r.one
abbrev EX:=Addr×Option (List (Str×PV))
abbrev M (α:Type):=Option (Except EX α)
def M.ok {α:Type} (a:α):M α:=some (.ok a)
def M.bind {α β:Type} (x:M α) (f:α->M β):M β:=match x with
 | some (.ok a)=>f a
 | some (.error e)=>some (.error e)
 | none=>none
instance:Monad M where
 pure:=M.ok
 bind:=M.bind
def az {α:Type} (r:M α) (Q:α->Prop) (E:EX->Prop):Prop:=match r with
 | some (.ok a)=>Q a
 | some (.error e)=>E e
 | none=>False
theorem az.imp {α:Type} {r:M α} {Q Q':α->Prop} {E E':EX->Prop} (h:az r Q E) (hq:∀ a,Q a->Q' a) (he:∀ e,E e->E' e):az r Q' E':=by
 cases r with
 | none=>exact h
 | some x=>cases x with
  | ok a=>exact hq a h
  | error e=>exact he e h
theorem az.bind {α β:Type} {x:M α} {f:α->M β} {Q:β->Prop} {E:EX->Prop} (h:az (x.bind f) Q E):az x (fun a=>az (f a) Q E) E:=by
 cases x with
 | none=>exact h
 | some x=>cases x with
  | ok a=>exact h
  | error e=>exact h
def XW (E:XK) (Hs H:Hp) (x:EX):Prop:=∀ ea Hs' H',bB Hs H Hs' H'->Rep Hs' (.exc x.1 x.2) (.ref ea)->E (.ref ea) none H'
theorem XW.grow {E:XK} {Hs H Hs' H':Hp} {x:EX} (h:XW E Hs H x) (g:bB Hs H Hs' H'):XW E Hs' H' x:=fun ea Hs2 H2 g2 r=>h ea Hs2 H2 (g.trans g2) r
def tE (E:St->XK) (f:af->M PV):TE:=fun σ H Q=>∃ B H₀ Hs env,SR B H₀ Hs H σ env/\az (f env) (fun p=>∀ v Hs' H',bB Hs H Hs' H'->Rep Hs' p v->Q v H') (XW (E σ) Hs H)
theorem PE.imp {X:Cx} {e:Expr} {t t':TE} (h:PE X e t) (i:∀ σ H Q,t' σ H Q->t σ H Q):PE X e t':=fun pins s σ H Q I q=>h pins s σ H Q I (i σ H Q q)
theorem xN {E:St->XK} {f:af->M PV} {g:af->PV->M PV} {σ:St} {H:Hp} {Q R:VK} (h:tE E (fun env=>(f env).bind (g env)) σ H Q)
  (k:∀ B H₀ Hs H1 env p v,SR B H₀ Hs H1 σ env->Rep Hs p v->az (g env p) (fun q=>∀ u Hs' H',bB Hs H1 Hs' H'->Rep Hs' q u->Q u H') (XW (E σ) Hs H1)->R v H1):tE E f σ H R:=by
 obtain ⟨B,H₀,Hs,env,sr,h⟩:=h
 refine ⟨B,H₀,Hs,env,sr,(az.bind h).imp (fun p hp v Hs' H' g r=>?_) fun e he=>he⟩
 exact k B H₀ Hs' H' env p v (sr.grow g) r (hp.imp (fun q hq u Hs2 H2 g2 r2=>hq u Hs2 H2 (g.trans g2) r2) fun e he=>he.grow g)
theorem yf {E:St->XK} {f g:af->M PV} {op:PV->PV->M PV} {r:R2} {σ:St} {H:Hp} {Q:VK} (h:tE E (fun env=>(f env).bind fun p=>(g env).bind fun q=>op p q) σ H Q)
  (k:∀ Hs H1 p q v u,aX Hs H1->Rep Hs p v->Rep Hs q u->az (op p q) (fun z=>∀ w Hs' H',bB Hs H1 Hs' H'->Rep Hs' z w->Q w H') (XW (E σ) Hs H1)->r v u H1 Q):Iz r (tE E f) (tE E g) σ H Q:=by
 refine xN h fun B H₀ Hs H1 env p v sr rp hp=>?_
 refine ⟨B,H₀,Hs,env,sr,(az.bind hp).imp (fun q hq u Hs' H' g ru=>?_) fun e he=>he⟩
 exact k Hs' H' p q v u (sr.grow g).gr.sub (rp.mono g.st) ru (hq.imp (fun z hz w Hs2 H2 g2 r2=>hz w Hs2 H2 (g.trans g2) r2) fun e he=>he.grow g)
theorem JJ {E:St->XK} {f:af->M PV} {op:PV->M PV} {r:V->Hp->VK->Prop} {σ:St} {H:Hp} {Q:VK} (h:tE E (fun env=>(f env).bind op) σ H Q)
  (k:∀ Hs H1 p v,aX Hs H1->Rep Hs p v->az (op p) (fun z=>∀ w Hs' H',bB Hs H1 Hs' H'->Rep Hs' z w->Q w H') (XW (E σ) Hs H1)->r v H1 Q):Uc r (tE E f) σ H Q :=
 xN h fun B H₀ Hs H1 env p v sr rp hp=>k Hs H1 p v sr.gr.sub rp hp
end L2
namespace L2
open PySem PySem.Spec PyProof.Rows
def HF (sp:Sp) (dvs:List V) (E:St->XK) (t:TA):TE:=fun σ H Q=>t σ H fun vs H1=>sp (vs++dvs) H1 Q (E σ)
def Bp (C:Addr) (m:Str) (sp:Sp) (dvs:List V) (E:St->XK) (ta:TE) (t:TA):TE:=fun σ H Q=>ta σ H fun x H1=>∃ a dx fs,x=.ref a/\H1 a=some (.ins C dx fs)/\fs.lookup m=none ∧
 t σ H1 fun vs H2=>sp (x::(vs++dvs)) H2 Q (E σ)
def F4 (C:Addr) (sp:Sp) (dvs:List V) (E:St->XK) (t:TA):TE:=fun σ H Q=>t σ H fun vs H1=>∀ x dx,H1 x=none->H1 dx=none->dx≠x ->
 sp (.ref x::(vs++dvs)) (upd (upd H1 dx (.own x)) x (.ins C dx [])) (fun v H2=>v=.cI/\Q (.ref x) H2) (E σ)
section
variable {X:Cx} {k:Nat} {f C:Addr} {fd:FuncData} {ps:List Str} {sp:Sp} {dvs:List V} {ds:List Value} {E:St->XK} {x m:Str} {p pos apos:Pos} {e o:Expr} {es:List Expr} {ta:TE} {t:TA}
theorem tf {pins:List (Addr×Obj)} {σ:St} {H:Hp} {s:Shared} {Q:VK} {us:List Value} {vs:List V} (F:aN X.prog X.w X.K X.mg X.base (bM X.prog X.w) k f fd ps sp) (hr:bR k X.A) (hb:Binds X.K fd ps ds) (hd:Vals dvs ds) (hx:eQ X E)
  (I:Inv X pins σ H s) (r:Vals vs us) (h:sp (vs++dvs) H Q (E σ)):wpAny (model X.prog X.w) X.A (call (.ref f) us) (EP X pins σ Q) X.xe s:=by
 have r2:Vals (vs++dvs) (us++ds):=r.append hd
 have hl:(us++ds).length=ps.length:=by rw [← r2.length];exact F.len _ _ _ _ h
 refine wpAny_call (codeAny_mono (F.run X.A X.stack s H ⟨us,[]⟩ (us++ds) (vs++dvs) Q (E σ) hr I.jo (hb s us I.j0 hl) r2 h) fun r s' hq=>?_)
 cases r with
 | error e=>exact hx.pass pins σ H s e s' I hq
 | ok fl =>
  cases fl with
  | ret u=>exact I.after hq
  | next=>exact False.elim hq
  | brk=>exact False.elim hq
  | cont=>exact False.elim hq
theorem BK (F:aN X.prog X.w X.K X.mg X.base (bM X.prog X.w) k f fd ps sp) (hr:bR k X.A) (hg:Gl X x) (hm:X.mg x=some (.ref f)) (hk:PySem.W.keepIn X.K (.ref f)=true) (hb:Binds X.K fd ps ds) (hd:Vals dvs ds) (hx:eQ X E)
  (ha:PA X (e::es) t) (hdb:(x==("__debug__" : Str))=false:=by decide) (he:starEach (e::es) X.env=(false,eval e X.env)::starEach es X.env:=by rfl) (hpl:(backTo pos (starEach es X.env)).any (·.1)=false:=by rfl) :
  PE X (.Call (.Name x p) (e::es) [] pos) (HF sp dvs E t):=by
 intro pins s σ H Q I h
 refine wpAny_Call_Name_kw (mh I hg hm ?_ hdb)
 refine PySem.W.callWith_K (h₀:=X.base) I.ok.mod.Ez hk (cG (ha pos pins s σ H _ I h) fun us s1 ⟨vs,H1,I1,r,q⟩=>⟨I1.j0,?_⟩) he hpl
 exact tf F hr hb hd hx I1 r q
theorem Al {pl:Sem Bool} (he:PE X o ta) (c:mj X.K C) (hm:Meth X.K C m f) (F:aN X.prog X.w X.K X.mg X.base (bM X.prog X.w) k f fd ps sp) (hr:bR k X.A) (hb:Binds X.K fd ps ds) (hd:Vals dvs ds) (hx:eQ X E) (ha:PA X (e::es) t)
  (hst:starEach (e::es) X.env=(false,eval e X.env)::starEach es X.env:=by rfl) (hpl:(backTo pos (starEach es X.env)).any (·.1)=false:=by rfl)
  (ht:eval (.Call (.Attribute o m apos) (e::es) [] pos) X.env=(do
   let ov ← eval o X.env
   standAt apos.atName
   let (f,first) ← holding [ov] (getMethod ov m pl)
   callWith pos f first (backTo pos (starEach (e::es) X.env)) (backToKw pos (keywordEach [] X.env))):=by rfl) :
  PE X (.Call (.Attribute o m apos) (e::es) [] pos) (Bp C m sp dvs E ta t):=by
 intro pins s σ H Q I h
 refine PySem.W.methodCall_KW (pl:=pl) (cG (he pins s σ H _ I h) fun u s1 ⟨x,H1,I1,rx,a,dx,fs,ex,ea,l,q⟩=>?_) ht
 subst ex
 obtain rfl:u=Value.ref a:=rx
 refine pC I1 ea c hm l ?_
 refine PySem.W.callWith_K (first:=[.ref a]) (h₀:=X.base) I.ok.mod.Ez hm.kp (cG (ha pos pins s1 σ H1 _ I1 q) fun us s2 ⟨vs,H2,I2,r,q2⟩=>⟨I2.j0,?_⟩) hst hpl
 exact tf (us:=.ref a::us) (vs:=.ref a::vs) F hr hb hd hx I2 (.cons rfl r) q2
theorem rP {pl:Sem Bool} (he:PE X o ta) (c:mj X.K C) (hm:Meth X.K C m f) (F:aN X.prog X.w X.K X.mg X.base (bM X.prog X.w) k f fd ps sp) (hr:bR k X.A) (hb:Binds X.K fd ps ds) (hd:Vals dvs ds) (hx:eQ X E)
  (ht:eval (.Call (.Attribute o m apos) [] [] pos) X.env=(do
   let ov ← eval o X.env
   standAt apos.atName
   let (f,first) ← holding [ov] (getMethod ov m pl)
   callWith pos f first (backTo pos (starEach [] X.env)) (backToKw pos (keywordEach [] X.env))):=by rfl) :
  PE X (.Call (.Attribute o m apos) [] [] pos) (Bp C m sp dvs E ta Jb):=by
 intro pins s σ H Q I h
 refine PySem.W.methodCall_KW (pl:=pl) (cG (he pins s σ H _ I h) fun u s1 ⟨x,H1,I1,rx,a,dx,fs,ex,ea,l,q⟩=>?_) ht
 subst ex
 obtain rfl:u=Value.ref a:=rx
 refine pC I1 ea c hm l ?_
 exact PySem.W.callWith_K0 (first:=[.ref a]) I1.j0 hm.kp (tf (us:=[.ref a]) (vs:=[.ref a]) F hr hb hd hx I1 (.cons rfl .nil) q)
theorem zc {pins:List (Addr×Obj)} {σ:St} {H:Hp} {s:Shared} {Q:VK} {us:List Value} {vs:List V} (M:Mk X.K C f) (F:aN X.prog X.w X.K X.mg X.base (bM X.prog X.w) k f fd ps sp) (hr:bR (k+1) X.A) (hb:Binds X.K fd ps ds) (hd:Vals dvs ds)
  (hx:eQ X E) (I:Inv X pins σ H s) (r:Vals vs us)
  (h:∀ x dx,H x=none->H dx=none->dx≠x->sp (.ref x::(vs++dvs)) (upd (upd H dx (.own x)) x (.ins C dx [])) (fun v H2=>v=.cI/\Q (.ref x) H2) (E σ)) :
  wpAny (model X.prog X.w) X.A (call (.ref C) us) (EP X pins σ Q) X.xe s:=by
 have hq:=h (s.heap.objs.size+1) s.heap.objs.size (I.bx.fresh (Nat.le_succ _)) (I.bx.fresh (Nat.le_refl _)) (Nat.ne_of_lt (Nat.lt_succ_self _))
 have I2:=Inv.made (C:=C) I
 have r2:Vals (V.ref (s.heap.objs.size+1)::(vs++dvs)) (Value.ref (s.heap.objs.size+1)::(us++ds)):=.cons rfl (r.append hd)
 have hl:(Value.ref (s.heap.objs.size+1)::us++ds).length=ps.length:=by
  have e:=r2.length
  rw [F.len _ _ _ _ hq] at e
  exact e.symm
 refine wpAny_call (A0 (f:=f) I.j0 M.makes M.init (beq_iff_eq.mp M.fn) (codeAny_mono (F.run _ X.stack _ _ ⟨Value.ref (s.heap.objs.size+1)::us,[]⟩ (Value.ref (s.heap.objs.size+1)::(us++ds)) _ _ (E σ) (hr.make C us [])
  (I2.jo.make C us []) (hb _ (Value.ref (s.heap.objs.size+1)::us) I2.j0 hl) r2 hq) fun r s' hq'=>?_))
 cases r with
 | error e=>exact hx.pass pins σ _ _ e s' I2 hq'
 | ok fl =>
  cases fl with
  | ret u =>
   obtain ⟨v,H',I3,rv,ev,q3⟩:=I2.after hq'
   subst ev
   exact ⟨rv,⟨V.ref (s.heap.objs.size+1),H',I3,rfl,q3⟩⟩
  | next=>exact False.elim hq'
  | brk=>exact False.elim hq'
  | cont=>exact False.elim hq'
theorem Bi (M:Mk X.K C f) (F:aN X.prog X.w X.K X.mg X.base (bM X.prog X.w) k f fd ps sp) (hr:bR (k+1) X.A) (hg:Gl X x) (hm:X.mg x=some (.ref C)) (hb:Binds X.K fd ps ds) (hd:Vals dvs ds) (hx:eQ X E)
  (ha:PA X (e::es) t) (hdb:(x==("__debug__" : Str))=false:=by decide) (he:starEach (e::es) X.env=(false,eval e X.env)::starEach es X.env:=by rfl) (hpl:(backTo pos (starEach es X.env)).any (·.1)=false:=by rfl) :
  PE X (.Call (.Name x p) (e::es) [] pos) (F4 C sp dvs E t):=by
 intro pins s σ H Q I h
 refine wpAny_Call_Name_kw (mh I hg hm ?_ hdb)
 refine PySem.W.callWith_K (h₀:=X.base) I.ok.mod.Ez M.kp (cG (ha pos pins s σ H _ I h) fun us s1 ⟨vs,H1,I1,r,q⟩=>⟨I1.j0,?_⟩) he hpl
 exact zc M F hr hb hd hx I1 r q
end
end L2
namespace L2
open PySem PySem.Spec PyProof.Rows
abbrev eJ (Hs H:Hp) (Q:VK):PV->Prop:=fun z=>∀ w Hs' H',bB Hs H Hs' H'->Rep Hs' z w->Q w H'
theorem eJ.flat {Hs H:Hp} {Q:VK} {p:PV} {v:V} (h:eJ Hs H Q p) (s:aX Hs H) (r:Rep Hs p v):Q v H:=h v Hs H (.refl s) r
theorem eJ.tup {Hs H:Hp} {Q:VK} {xs:List PV} {vs:List V} (h:eJ Hs H Q (.tup xs)) (s:aX Hs H) (r:aK Hs xs vs):∀ p,H p=none->Q (.ref p) (upd H p (.tup vs)) :=
 fun p n=>h _ (upd Hs p (.tup vs)) _ (bB.new s n) (.tup aC (r.mono (bB.new s n).st))
theorem eJ.lst {Hs H:Hp} {Q:VK} {xs:List PV} {vs:List V} (h:eJ Hs H Q (.lst xs)) (s:aX Hs H) (r:aK Hs xs vs):∀ p,H p=none->Q (.ref p) (upd H p (.lst vs)) :=
 fun p n=>h _ (upd Hs p (.lst vs)) _ (bB.new s n) (.lst aC (r.mono (bB.new s n).st))
namespace HT
theorem BO {prog:Program} {w:World} {A:Around} {E:Value->Shared->Prop} {s:Shared} {t b:Addr} {ws:List Value} {Q:Value->Shared->Prop} (ht:IsTup s.heap t #[]) (hb:IsTup s.heap b ws.toArray)
  (h1:Q (.ref b) s):wpAny (model prog w) A (binaryOp .Add (.ref t) (.ref b)) Q E s:=by
 obtain ⟨⟨cls,dd,data,sl⟩,ho,hc,n,hd⟩:=id ht
 obtain ⟨⟨cls2,dd2,data2,sl2⟩,ho2,hc2,n2,hd2⟩:=id hb
 simp only at hc hd hc2 hd2
 subst hc hd hc2 hd2
 exact concat_meets ⟨_,ho,rfl⟩ ⟨_,ho2,rfl⟩ noFill_tuple_add seq_tuple_add PySem.F.slot_tuple_add PySem.F.entry_tuple_add (PySem.F.args_tuple_add_2 _ _)
   (tuple_addW0 t b #[] ws.toArray n n2 dd dd2 sl sl2 rfl) ⟨ho,ho2,h1⟩
end HT
def Cm (K:PySem.W.Frag):R2:=fun x y H Q=>∃ a b ys,x=.ref a/\y=.ref b/\ib K H a []/\ib K H b ys/\Q (.ref b) H
theorem A5 {X:Cx}:gW X (binaryOp .Add) (Cm X.K):=by
 intro pins s σ H x y v u Q I rx ry h
 obtain ⟨a,b,ys,rfl,rfl,ha,hb,q1⟩:=h
 cases rx
 cases ry
 obtain ⟨its,r1,p1,_⟩:=I.tuple ha
 obtain ⟨its2,r2,p2,_⟩:=I.tuple hb
 have e:its=[]:=r1.mf.mpr rfl
 subst e
 exact HT.BO p1 p2 ⟨.ref b,H,I,rfl,q1⟩
def cy {α:Type} (c:Prop) [Decidable c] (x:M α):M α:=if c then x else none
theorem az.cy {α:Type} {c:Prop} [Decidable c] {x:M α} {Q:α->Prop} {E:EX->Prop} (h:az (L2.cy c x) Q E):c/\az x Q E:=by
 unfold L2.cy at h
 by_cases hc:c
 ·rw [if_pos hc] at h;exact ⟨hc,h⟩
 ·rw [if_neg hc] at h;exact h.elim
def fu (o:Option PV):M PV:=match o with
 | some x=>M.ok x
 | none=>none
theorem az.opt {o:Option PV} {Q:PV->Prop} {E:EX->Prop} (h:az (fu o) Q E):∃ x,o=some x/\Q x:=by
 cases o with
 | none=>exact h.elim
 | some x=>exact ⟨x,rfl,h⟩
section
variable {X:Cx} {E:St->XK} {a b c e:Expr} {pos:Pos} {f g h:af->M PV}
def aa (i:Nat) (env:af):M PV:=match env[i]? with
 | some (some (.sh p))=>M.ok p
 | _=>none
theorem GJ {i:Nat} {x:Str} (hN:X.N[i]?=some x) (hv:DF X.env.scope x) (hd:(x==("__debug__" : Str))=false:=by decide) (hcd:(x==("__classdict__" : Str))=false:=by decide):PE X (.Name x pos) (tE E (aa i)):=by
 refine (pd hN hv hd hcd).imp fun σ H Q q=>?_
 obtain ⟨B,H₀,Hs,env,sr,q⟩:=q
 unfold aa at q
 split at q
 ·rename_i p e
  obtain ⟨v,h1,h2⟩:=sr.sh i p e
  exact ⟨v,h1,eJ.flat q sr.gr.sub h2⟩
 ·exact q.elim
theorem l7 {p:PV} {v:V} (he:PE X e (tC v)) (r:∀ H,Rep H p v):PE X e (tE E fun _=>M.ok p):=by
 refine he.imp fun σ H Q q=>?_
 obtain ⟨B,H₀,Hs,env,sr,q⟩:=q
 exact eJ.flat q sr.gr.sub (r Hs)
theorem By {i:Int} {j:Nat}:PE X (.Constant (.int i) j pos) (tE E fun _=>M.ok (.int i)):=l7 Gm fun _=>.int i
theorem JL {i:Bool} {j:Nat}:PE X (.Constant (.bool i) j pos) (tE E fun _=>M.ok (.bl i)):=l7 IY fun _=>.bl i
theorem HE {j:Nat}:PE X (.Constant .none j pos) (tE E fun _=>M.ok .cI):=l7 GH fun _=>.cI
theorem Ft {i:Str} {j:Nat}:PE X (.Constant (.str i) j pos) (tE E fun _=>M.ok (.str i)):=l7 FT fun _=>.str i
def aj (op:PV->PV->M PV) (f g:af->M PV):af->M PV:=fun env=>(f env).bind fun p=>(g env).bind fun q=>op p q
def lK (E:St->XK) (r:R2) (op:PV->PV->M PV):Prop:=∀ (σ:St) (Hs H:Hp) (p q:PV) (v u:V) (Q:VK),aX Hs H->Rep Hs p v->Rep Hs q u->az (op p q) (eJ Hs H Q) (XW (E σ) Hs H)->r v u H Q
theorem nv {op:Operator} {r:R2} {o:PV->PV->M PV} (ho:gW X (binaryOp op) r) (hv:lK E r o) (ha:PE X a (tE E f)) (hb:PE X b (tE E g)):PE X (.BinOp a op b pos) (tE E (aj o f g)) :=
 (JZ ho ha hb).imp fun σ H Q q=>yf q fun Hs H1 p q v u s rp rq h=>hv σ Hs H1 p q v u Q s rp rq h
theorem jW {op:CmpOp} {r:R2} {o:PV->PV->M PV} (ho:gW X (compareOp op) r) (hv:lK E r o) (ha:PE X a (tE E f)) (hb:PE X b (tE E g)) (hm:behindInMarks op b=false):PE X (.Compare a [op] [b] pos) (tE E (aj o f g)) :=
 (Df ho ha hb hm).imp fun σ H Q q=>yf q fun Hs H1 p q v u s rp rq h=>hv σ Hs H1 p q v u Q s rp rq h
def fN:PV->PV->M PV
 | .int i,.int j=>M.ok (.int (i+j))
 | .str x,.str y=>cy (x.length+y.length<=sizeLine) (M.ok (.str (x++y)))
 | .tup xs,.tup ys=>cy (xs.length+ys.length<=sizeLine) (M.ok (.tup (xs++ys)))
 | .lst xs,.lst ys=>cy (xs.length+ys.length<=sizeLine) (M.ok (.lst (xs++ys)))
 | _,_=>none
def EI (K:PySem.W.Frag):R2:=fun x y H Q=>(∃ i j,x=.int i/\y=.int j/\Q (.int (i+j)) H)\/(∃ i j,x=.str i/\y=.str j/\i.length+j.length<=sizeLine/\Q (.str (i++j)) H)\/EW K x y H Q\/Jj x y H Q\/Cm K x y H Q
theorem Dy:gW X (binaryOp .Add) (EI X.K):=gW.or Hv (gW.or xi (gW.or Dd (gW.or HA A5)))
theorem FA {K:PySem.W.Frag}:lK E (EI K) fN:=by
 intro σ Hs H p q v u Q s rp rq h
 cases rp with
 | int i=>cases rq with
  | int j=>exact .inl ⟨i,j,rfl,rfl,eJ.flat h s (.int _)⟩
  | _=>exact h.elim
 | str i=>cases rq with
  | str j =>
   obtain ⟨hz,h⟩:=az.cy h
   exact .inr (.inl ⟨i,j,rfl,rfl,hz,eJ.flat h s (.str _)⟩)
  | _=>exact h.elim
 | @tup a xs vs ha hx=>cases rq with
  | @tup b ys us hb hy =>
   obtain ⟨hz,h⟩:=az.cy h
   cases hx with
   | nil=>exact .inr (.inr (.inr (.inr ⟨a,b,us,rfl,rfl,ib.of (s _ _ ha),ib.of (s _ _ hb),eJ.flat h s (.tup hb hy)⟩)))
   | cons hx1 hx2 =>
    have hx:=aK.cons hx1 hx2
    refine .inr (.inr (.inl ⟨a,b,_,us,rfl,rfl,ib.of (s _ _ ha),ib.of (s _ _ hb),(fun z=>nomatch z),by rw [← hx.length,← hy.length];exact hz,fun z=>?_,fun z=>eJ.tup h s (hx.append hy)⟩))
    have e:ys=[]:=by cases hy with | nil=>rfl | cons _ _=>cases z
    subst e
    rw [List.append_nil] at h
    exact eJ.flat h s (.tup ha hx)
  | _=>exact h.elim
 | @lst a xs vs ha hx=>cases rq with
  | @lst b ys us hb hy =>
   obtain ⟨hz,h⟩:=az.cy h
   exact .inr (.inr (.inr (.inl ⟨a,b,vs,us,rfl,rfl,s _ _ ha,s _ _ hb,by rw [← hx.length,← hy.length];exact hz,eJ.lst h s (hx.append hy)⟩)))
  | _=>exact h.elim
 | _=>exact h.elim
def xf (c:Int->Int->Bool) (o:Int->Int->Int):PV->PV->M PV
 | .int i,.int j=>cy (c i j=true) (M.ok (.int (o i j)))
 | _,_=>none
theorem xG {C:Int->Int->Prop} {c:Int->Int->Bool} {o:Int->Int->Int} (hc:∀ i j,c i j=true->C i j):lK E (rI C fun i j=>.int (o i j)) (xf c o):=by
 intro σ Hs H p q v u Q s rp rq h
 cases rp with
 | int i=>cases rq with
  | int j =>
   obtain ⟨hz,h⟩:=az.cy h
   exact ⟨i,j,rfl,rfl,hc i j hz,eJ.flat h s (.int _)⟩
  | _=>exact h.elim
 | _=>exact h.elim
def k4:PV->PV->M PV
 | .int i,.int j=>M.ok (.int (i-j))
 | _,_=>none
theorem He:lK E (xJ fun i j=>.int (i-j)) k4:=by
 intro σ Hs H p q v u Q s rp rq h
 cases rp with
 | int i=>cases rq with
  | int j=>exact ⟨i,j,rfl,rfl,eJ.flat h s (.int _)⟩
  | _=>exact h.elim
 | _=>exact h.elim
def Aa (o:Int->Int->Bool):PV->PV->M PV
 | .int i,.int j=>M.ok (.bl (o i j))
 | _,_=>none
theorem sR {o:Int->Int->Bool}:lK E (xJ fun i j=>.bl (o i j)) (Aa o):=by
 intro σ Hs H p q v u Q s rp rq h
 cases rp with
 | int i=>cases rq with
  | int j=>exact ⟨i,j,rfl,rfl,eJ.flat h s (.bl _)⟩
  | _=>exact h.elim
 | _=>exact h.elim
def aG:PV->PV->M PV
 | .tup xs,.int i=>fu (uW xs i)
 | .lst xs,.int i=>fu (uW xs i)
 | .jR xs,.int i=>fu (uW xs i)
 | .str z,.int i=>cy (z.length<=sizeLine) (fu ((uW z.cps.toList i).map fun c=>.str ⟨#[c]⟩))
 | _,_=>none
theorem aK.uW {H:Hp} {xs:List PV} {vs:List V} {i:Int} {x:PV} (r:aK H xs vs) (e:L2.uW xs i=some x):∃ v,L2.uW vs i=some v/\Rep H x v:=by
 unfold L2.uW at e ⊢
 rw [← r.length]
 obtain ⟨j,h1,h2⟩:=Option.bind_eq_some_iff.mp e
 obtain ⟨v,h3,h4⟩:=r.get h2
 exact ⟨v,by rw [h1];exact h3,h4⟩
theorem Fg {K:PySem.W.Frag}:lK E (Uk K) aG:=by
 intro σ Hs H p q v u Q s rp rq h
 cases rp with
 | @tup a xs vs ha hx=>cases rq with
  | int i =>
   obtain ⟨x,ex,h⟩:=az.opt h
   obtain ⟨v,h1,h2⟩:=hx.uW ex
   exact .inr (.inl ⟨a,vs,i,v,rfl,rfl,ib.of (s _ _ ha),h1,eJ.flat h s h2⟩)
  | _=>exact h.elim
 | @lst a xs vs ha hx=>cases rq with
  | int i =>
   obtain ⟨x,ex,h⟩:=az.opt h
   obtain ⟨v,h1,h2⟩:=hx.uW ex
   exact .inl ⟨a,vs,i,v,rfl,rfl,jg.of (s _ _ ha),h1,eJ.flat h s h2⟩
  | _=>exact h.elim
 | @jR a o xs vs ha hx=>cases rq with
  | int i =>
   obtain ⟨x,ex,h⟩:=az.opt h
   obtain ⟨v,h1,h2⟩:=hx.uW ex
   exact .inl ⟨a,vs,i,v,rfl,rfl,.inl (.inr ⟨o,s _ _ ha⟩),h1,eJ.flat h s h2⟩
  | _=>exact h.elim
 | str z=>cases rq with
  | int i =>
   obtain ⟨hz,h⟩:=az.cy h
   obtain ⟨x,ex,h⟩:=az.opt h
   obtain ⟨c,ec,rfl⟩:=Option.map_eq_some_iff.mp ex
   exact .inr (.inr ⟨z,i,c,rfl,rfl,hz,ec,eJ.flat h s (.str _)⟩)
  | _=>exact h.elim
 | _=>exact h.elim
theorem Hu (ha:PE X a (tE E f)) (hb:PE X b (tE E g)) (hs:uB b):PE X (.Subscript a b pos) (tE E (aj aG f g)) :=
 (IB G0 ha hb hs).imp fun σ H Q q=>yf q fun Hs H1 p q v u s rp rq h=>Fg σ Hs H1 p q v u Q s rp rq h
end
end L2
namespace L2
open PySem PySem.Spec PyProof.Rows
def tG {α:Type} (E:St->XK) (f:af->M α) (K:Hp->Hp->α->Prop):St->Hp->Prop:=fun σ H=>∃ B H₀ Hs env,SR B H₀ Hs H σ env/\az (f env) (K Hs H) (XW (E σ) Hs H)
def KG {α:Type} (K:Hp->Hp->α->Prop):Prop:=∀ Hs H Hs' H' b,K Hs H b->bB Hs H Hs' H'->K Hs' H' b
abbrev KB (Q:Bool->Hp->Prop):Hp->Hp->Bool->Prop:=fun Hs H k=>∀ Hs' H',bB Hs H Hs' H'->Q k H'
abbrev kL (Q:VK):Hp->Hp->PV->Prop:=fun Hs H p=>eJ Hs H Q p
abbrev KL (Q:List V->Hp->Prop):Hp->Hp->List PV->Prop:=fun Hs H ps=>∀ vs Hs' H',bB Hs H Hs' H'->aK Hs' ps vs->Q vs H'
theorem KB.g {Q:Bool->Hp->Prop}:KG (KB Q):=fun Hs H Hs' H' b k g Hs2 H2 g2=>k Hs2 H2 (g.trans g2)
theorem kL.g {Q:VK}:KG (kL Q):=fun Hs H Hs' H' b k g w Hs2 H2 g2 r=>k w Hs2 H2 (g.trans g2) r
theorem KL.g {Q:List V->Hp->Prop}:KG (KL Q):=fun Hs H Hs' H' b k g w Hs2 H2 g2 r=>k w Hs2 H2 (g.trans g2) r
def tT (E:St->XK) (f:af->M Bool):TT:=fun σ H Q=>tG E f (KB Q) σ H
def tL (E:St->XK) (f:af->M (List PV)):TA:=fun σ H Q=>tG E f (KL Q) σ H
theorem PT.imp {X:Cx} {e:Expr} {t t':TT} (h:PT X e t) (i:∀ σ H Q,t' σ H Q->t σ H Q):PT X e t':=fun pins s σ H Q I q=>h pins s σ H Q I (i σ H Q q)
theorem PW.imp {X:Cx} {e:Expr} {t t':TT} (h:PW X e t) (i:∀ σ H Q,t' σ H Q->t σ H Q):PW X e t':=fun w pins s σ H Q I q=>h w pins s σ H Q I (i σ H Q q)
theorem PA.imp {X:Cx} {e:List Expr} {t t':TA} (h:PA X e t) (i:∀ σ H Q,t' σ H Q->t σ H Q):PA X e t':=fun w pins s σ H Q I q=>h w pins s σ H Q I (i σ H Q q)
section
variable {β:Type} {E:St->XK} {K:Hp->Hp->β->Prop} {σ:St} {H:Hp}
theorem bU {f:af->M PV} {g:af->PV->M β} {R:VK} (kg:KG K) (h:tG E (fun env=>(f env).bind (g env)) K σ H)
  (k:∀ B H₀ Hs H1 env p v,SR B H₀ Hs H1 σ env->Rep Hs p v->az (g env p) (K Hs H1) (XW (E σ) Hs H1)->R v H1):tE E f σ H R:=by
 obtain ⟨B,H₀,Hs,env,sr,h⟩:=h
 refine ⟨B,H₀,Hs,env,sr,(az.bind h).imp (fun p hp v Hs' H' g r=>?_) fun e he=>he⟩
 exact k B H₀ Hs' H' env p v (sr.grow g) r (hp.imp (fun q hq=>kg _ _ _ _ q hq g) fun e he=>he.grow g)
theorem mq {f:af->M Bool} {g:af->Bool->M β} {R:Bool->Hp->Prop} (kg:KG K) (h:tG E (fun env=>(f env).bind (g env)) K σ H)
  (k:∀ B H₀ Hs H1 env p,SR B H₀ Hs H1 σ env->az (g env p) (K Hs H1) (XW (E σ) Hs H1)->R p H1):tT E f σ H R:=by
 obtain ⟨B,H₀,Hs,env,sr,h⟩:=h
 refine ⟨B,H₀,Hs,env,sr,(az.bind h).imp (fun p hp Hs' H' g=>?_) fun e he=>he⟩
 exact k B H₀ Hs' H' env p (sr.grow g) (hp.imp (fun q hq=>kg _ _ _ _ q hq g) fun e he=>he.grow g)
theorem dz {f:af->M (List PV)} {g:af->List PV->M β} {R:List V->Hp->Prop} (kg:KG K) (h:tG E (fun env=>(f env).bind (g env)) K σ H)
  (k:∀ B H₀ Hs H1 env p v,SR B H₀ Hs H1 σ env->aK Hs p v->az (g env p) (K Hs H1) (XW (E σ) Hs H1)->R v H1):tL E f σ H R:=by
 obtain ⟨B,H₀,Hs,env,sr,h⟩:=h
 refine ⟨B,H₀,Hs,env,sr,(az.bind h).imp (fun p hp v Hs' H' g r=>?_) fun e he=>he⟩
 exact k B H₀ Hs' H' env p v (sr.grow g) r (hp.imp (fun q hq=>kg _ _ _ _ q hq g) fun e he=>he.grow g)
end
def xx:PV->M Bool
 | .bl b=>M.ok b
 | _=>none
def cL (f:af->M PV):af->M Bool:=fun env=>(f env).bind xx
theorem az.Kc {p:PV} {Q:Bool->Prop} {E:EX->Prop} (h:az (xx p) Q E):∃ b,p=.bl b/\Q b:=by
 cases p with
 | bl b=>exact ⟨b,rfl,h⟩
 | _=>exact h.elim
section
variable {X:Cx} {E:St->XK} {a b c e:Expr} {pos:Pos} {f g h:af->M PV} {u v:af->M Bool} {rest:List Expr}
theorem pG {σ:St} {H:Hp} {Q:Bool->Hp->Prop} (q:tT E (cL f) σ H Q):tB (tE E f) σ H Q:=by
 refine bU KB.g q fun B H₀ Hs H1 env p v sr rp hp=>?_
 obtain ⟨k,rfl,hp⟩:=az.Kc hp
 cases rp
 exact ⟨k,rfl,hp Hs H1 (.refl sr.gr.sub)⟩
theorem uk (he:PE X e (tE E f)) (hw:∀ whole,isTrue e X.env whole=(do let v ← whole;standAt e.pos;holding [v] (truthy v)):=by intro _;rfl):PT X e (tT E (cL f)) :=
 (Gq he hw).imp fun σ H Q q=>pG q
theorem kb {op:CmpOp} {r:R2} {o:PV->PV->M PV} (ho:gW X (compareOp op) r) (hv:lK E r o) (ha:PE X a (tE E f)) (hb:PE X b (tE E g)) (hm:behindInMarks op b=false):PT X (.Compare a [op] [b] pos) (tT E (cL (aj o f g))):=by
 refine (C2 ho ha hb hm).imp fun σ H Q q=>?_
 have q':=pG q
 exact yf q' fun Hs H1 p q v u s rp rq h=>hv σ Hs H1 p q v u _ s rp rq h
def gN (u:af->M Bool):af->M Bool:=fun env=>(u env).bind fun b=>M.ok (!b)
def Ey (u v:af->M Bool):af->M Bool:=fun env=>(u env).bind fun b=>if b=true then v env else M.ok false
def uK (u v:af->M Bool):af->M Bool:=fun env=>(u env).bind fun b=>if b=true then M.ok true else v env
theorem Hf (ha:PT X a (tT E u)):PT X (.UnaryOp .Not a pos) (tT E (gN u)) :=
 (Gy ha).imp fun σ H Q q=>mq KB.g q fun B H₀ Hs H1 env p sr hp=>hp Hs H1 (.refl sr.gr.sub)
theorem xO (ha:PT X a (tT E u)):PW X (.BoolOp .And [a] pos) (tT E u):=pw_and1 ha
theorem gx (ha:PT X a (tT E u)):PW X (.BoolOp .Or [a] pos) (tT E u):=pw_or1 ha
theorem Bt (ha:PT X a (tT E u)) (hb:PW X (.BoolOp .And (b::rest) pos) (tT E v)):PW X (.BoolOp .And (a::b::rest) pos) (tT E (Ey u v)):=by
 refine (pw_and ha hb).imp fun σ H Q q=>mq KB.g q fun B H₀ Hs H1 env p sr hp=>?_
 cases p with
 | true=>exact ⟨B,H₀,Hs,env,sr,hp⟩
 | false=>exact hp Hs H1 (.refl sr.gr.sub)
theorem gm (ha:PT X a (tT E u)) (hb:PW X (.BoolOp .Or (b::rest) pos) (tT E v)):PW X (.BoolOp .Or (a::b::rest) pos) (tT E (uK u v)):=by
 refine (pw_or ha hb).imp fun σ H Q q=>mq KB.g q fun B H₀ Hs H1 env p sr hp=>?_
 cases p with
 | true=>exact hp Hs H1 (.refl sr.gr.sub)
 | false=>exact ⟨B,H₀,Hs,env,sr,hp⟩
def Ga (f:af->M PV):af->M PV:=fun env=>(f env).bind fun p=>(xx p).bind fun b=>M.ok (.bl (!b))
def BN (f g:af->M PV):af->M PV:=fun env=>(f env).bind fun p=>(xx p).bind fun b=>if b=true then g env else M.ok (.bl false)
def UZ (f g:af->M PV):af->M PV:=fun env=>(f env).bind fun p=>(xx p).bind fun b=>if b=true then M.ok (.bl true) else g env
theorem GC (ha:PE X a (tE E f)):PE X (.UnaryOp .Not a pos) (tE E (Ga f)):=by
 refine (Fe ha).imp fun σ H Q q=>bU (K:=kL Q) kL.g q fun B H₀ Hs H1 env p v sr rp hp=>?_
 obtain ⟨k,rfl,hp⟩:=az.Kc (az.bind hp)
 cases rp
 exact ⟨k,rfl,eJ.flat hp sr.gr.sub (.bl _)⟩
theorem xq (ha:PE X a (tE E f)) (hb:PE X (.BoolOp .And (b::rest) pos) (tE E g)):PE X (.BoolOp .And (a::b::rest) pos) (tE E (BN f g)):=by
 refine (F3 ha hb).imp fun σ H Q q=>bU (K:=kL Q) kL.g q fun B H₀ Hs H1 env p v sr rp hp=>?_
 obtain ⟨k,rfl,hp⟩:=az.Kc (az.bind hp)
 cases rp
 refine ⟨k,rfl,?_⟩
 cases k with
 | true=>exact ⟨B,H₀,Hs,env,sr,hp⟩
 | false=>exact eJ.flat hp sr.gr.sub (.bl _)
def zD (u:af->M Bool) (f g:af->M PV):af->M PV:=fun env=>(u env).bind fun b=>if b=true then f env else g env
theorem Hk (hc:PT X c (tT E u)) (ha:PE X a (tE E f)) (hb:PE X b (tE E g)):PE X (.IfExp c a b pos) (tE E (zD u f g)):=by
 refine (Ba hc ha hb).imp fun σ H Q q=>mq (K:=kL Q) kL.g q fun B H₀ Hs H1 env p sr hp=>?_
 cases p with
 | true=>exact ⟨B,H₀,Hs,env,sr,hp⟩
 | false=>exact ⟨B,H₀,Hs,env,sr,hp⟩
def aq:af->M (List PV):=fun _=>M.ok []
def ae (f:af->M PV) (fs:af->M (List PV)):af->M (List PV):=fun env=>(f env).bind fun p=>(fs env).bind fun ps=>M.ok (p::ps)
variable {fs:af->M (List PV)} {es:List Expr}
theorem z6:PA X [] (tL E aq):=by
 refine pI.imp fun σ H Q q=>?_
 obtain ⟨B,H₀,Hs,env,sr,q⟩:=q
 exact q [] Hs H (.refl sr.gr.sub) .nil
theorem xK (ha:PE X e (tE E f)) (hr:PA X es (tL E fs)) (hs:starEach (e::es) X.env=(false,eval e X.env)::starEach es X.env:=by rfl):PA X (e::es) (tL E (ae f fs)):=by
 refine (iH ha hr hs).imp fun σ H Q q=>bU (K:=KL Q) KL.g q fun B H₀ Hs H1 env p v sr rp hp=>?_
 refine ⟨B,H₀,Hs,env,sr,(az.bind hp).imp (fun ps hps vs Hs' H' g r=>?_) fun e he=>he⟩
 exact hps (v::vs) Hs' H' g (.cons (rp.mono g.st) r)
def jK (fs:af->M (List PV)):af->M PV:=fun env=>(fs env).bind fun ps=>cy (ps.length<=sizeLine) (M.ok (.tup ps))
def AB (fs:af->M (List PV)):af->M PV:=fun env=>(fs env).bind fun ps=>cy (ps.length<=sizeLine) (M.ok (.lst ps))
theorem Fq {x1:Nat} (hr:PA X es (tL E fs)):PE X (.Tuple es x1 pos) (tE E (jK fs)):=by
 refine (AG hr).imp fun σ H Q q=>dz (K:=kL Q) kL.g q fun B H₀ Hs H1 env p v sr rp hp=>?_
 obtain ⟨hz,hp⟩:=az.cy hp
 exact ⟨by rw [← rp.length];exact hz,eJ.tup hp sr.gr.sub rp⟩
theorem AN (hr:PA X es (tL E fs)):PE X (.List es pos) (tE E (AB fs)):=by
 refine (BD hr).imp fun σ H Q q=>dz (K:=kL Q) kL.g q fun B H₀ Hs H1 env p v sr rp hp=>?_
 obtain ⟨hz,hp⟩:=az.cy hp
 exact ⟨by rw [← rp.length];exact hz,eJ.lst hp sr.gr.sub rp⟩
def ai (o:List PV->M PV) (fs:af->M (List PV)):af->M PV:=fun env=>(fs env).bind o
def lA (E:St->XK) (r:List V->Hp->VK->Prop) (o:List PV->M PV):Prop:=∀ (σ:St) (Hs H:Hp) (ps:List PV) (vs:List V) (Q:VK),aX Hs H->aK Hs ps vs->az (o ps) (eJ Hs H Q) (XW (E σ) Hs H)->r vs H Q
theorem B9 {r:List V->Hp->VK->Prop} {o:List PV->M PV} {σ:St} {H:Hp} {Q:VK} (hv:lA E r o) (q:tE E (ai o fs) σ H Q):SM r (tL E fs) σ H Q :=
 dz (K:=kL Q) kL.g q fun B H₀ Hs H1 env p v sr rp hp=>hv σ Hs H1 p v Q sr.gr.sub rp hp
variable {x:Str} {p:Pos} {id T:String}
theorem jb {r:List V->Hp->VK->Prop} {o:List PV->M PV} (hc:dJ X (.builtin id) r) (hv:lA E r o) (hg:Gl X x) (hm:X.mg x=none) (hx:bootBuiltins x=some (.builtin id)) (ha:PA X (e::es) (tL E fs)) (hn:x ≠ "__name__" := by decide) (hdb:(x==("__debug__" : Str))=false:=by decide)
  (he:starEach (e::es) X.env=(false,eval e X.env)::starEach es X.env:=by rfl) (hpl:(backTo pos (starEach es X.env)).any (·.1)=false:=by rfl):PE X (.Call (.Name x p) (e::es) [] pos) (tE E (ai o fs)) :=
 (pb hc hg hm hx ha hn hdb he hpl).imp fun σ H Q q=>B9 hv q
theorem mw {r:List V->Hp->VK->Prop} {o:List PV->M PV} (hc:dJ X (.type T) r) (hv:lA E r o) (hg:Gl X x) (hm:X.mg x=none) (hx:bootBuiltins x=some (.type T)) (ha:PA X (e::es) (tL E fs)) (hn:x ≠ "__name__" := by decide) (hdb:(x==("__debug__" : Str))=false:=by decide)
  (he:starEach (e::es) X.env=(false,eval e X.env)::starEach es X.env:=by rfl) (hpl:(backTo pos (starEach es X.env)).any (·.1)=false:=by rfl):PE X (.Call (.Name x p) (e::es) [] pos) (tE E (ai o fs)) :=
 (zJ hc hg hm hx ha hn hdb he hpl).imp fun σ H Q q=>B9 hv q
end
end L2
namespace L2
open PySem PySem.Spec PyProof.Rows
section
variable {E:St->XK}
def bC:PV->Option (List PV)
 | .tup xs=>some xs
 | .lst xs=>some xs
 | .jR xs=>some xs
 | _=>none
theorem zT {K:PySem.W.Frag} {Hs H:Hp} {p:PV} {v:V} {xs:List PV} (s:aX Hs H) (r:Rep Hs p v) (e:bC p=some xs):∃ a vs,v=.ref a/\(jg K H a vs\/ib K H a vs)/\aK Hs xs vs:=by
 cases r with
 | tup h r=>cases e;exact ⟨_,_,rfl,.inr (ib.of (s _ _ h)),r⟩
 | lst h r=>cases e;exact ⟨_,_,rfl,.inl (jg.of (s _ _ h)),r⟩
 | jR h r=>cases e;exact ⟨_,_,rfl,.inl (.inl (.inr ⟨_,s _ _ h⟩)),r⟩
 | _=>cases e
def uP:PV->M PV
 | .str z=>cy (z.length<=sizeLine) (M.ok (.int z.length))
 | p=>fu ((bC p).map fun xs=>.int xs.length)
def cX:List PV->M PV
 | [p]=>uP p
 | _=>none
theorem aK.one {H:Hp} {p:PV} {vs:List V} (r:aK H [p] vs):∃ v,vs=[v]/\Rep H p v:=by
 cases r with
 | cons h r=>cases r;exact ⟨_,rfl,h⟩
theorem aK.two {H:Hp} {p q:PV} {vs:List V} (r:aK H [p,q] vs):∃ v u,vs=[v,u]/\Rep H p v/\Rep H q u:=by
 cases r with
 | cons h r=>obtain ⟨u,rfl,h2⟩:=r.one;exact ⟨_,_,rfl,h,h2⟩
def EO (K:PySem.W.Frag):List V->Hp->VK->Prop:=fun xs H Q=>(∃ p ys,xs=[.ref p]/\(jg K H p ys\/ib K H p ys)/\Q (.int ys.length) H)\/∃ z,xs=[.str z]/\z.length<=sizeLine/\Q (.int z.length) H
theorem yQ {X:Cx}:dJ X (.builtin "len") (EO X.K):=dJ.or s_ ux
theorem GQ {K:PySem.W.Frag}:lA E (EO K) cX:=by
 intro σ Hs H ps vs Q s r h
 match ps,r with
 | [],_=>exact h.elim
 | _::_::_,_=>exact h.elim
 | [p],r =>
  obtain ⟨v,rfl,rp⟩:=r.one
  cases hp:bC p with
  | none =>
   cases p with
   | str z =>
    cases rp
    obtain ⟨hz,h⟩:=az.cy h
    exact .inr ⟨z,rfl,hz,eJ.flat h s (.int _)⟩
   | tup _=>cases hp
   | lst _=>cases hp
   | jR _=>cases hp
   | _=>exact h.elim
  | some xs =>
   obtain ⟨a,us,rfl,hq,hx⟩:=zT (K:=K) s rp hp
   have h':az (fu ((bC p).map fun xs=>PV.int xs.length)) (eJ Hs H Q) (XW (E σ) Hs H):=by
    cases p with
    | str z=>cases hp
    | _=>exact h
   rw [hp] at h'
   refine .inl ⟨a,us,rfl,hq,?_⟩
   rw [← hx.length]
   exact eJ.flat h' s (.int _)
def sH:List PV->M PV
 | [p]=>fu ((bC p).map .lst)
 | _=>none
theorem CZ {K:PySem.W.Frag}:lA E (fun xs H Q=>∃ p ys,xs=[.ref p]/\(jg K H p ys\/ib K H p ys)/\∀ l,H l=none->Q (.ref l) (upd H l (.lst ys))) sH:=by
 intro σ Hs H ps vs Q s r h
 match ps,r with
 | [],_=>exact h.elim
 | _::_::_,_=>exact h.elim
 | [p],r =>
  obtain ⟨v,rfl,rp⟩:=r.one
  obtain ⟨x,ex,h⟩:=az.opt h
  obtain ⟨xs,hp,rfl⟩:=Option.map_eq_some_iff.mp ex
  obtain ⟨a,us,rfl,hq,hx⟩:=zT (K:=K) s rp hp
  exact ⟨a,us,rfl,hq,eJ.lst h s hx⟩
def dN:List PV->M PV
 | [p]=>fu ((bC p).map .tup)
 | _=>none
theorem A6 {K:PySem.W.Frag}:lA E (fun xs H Q=>∃ p ys,xs=[.ref p]/\((jg K H p ys/\∀ l,H l=none->Q (.ref l) (upd H l (.tup ys)))\/(ib K H p ys/\Q (.ref p) H))) dN:=by
 intro σ Hs H ps vs Q s r h
 match ps,r with
 | [],_=>exact h.elim
 | _::_::_,_=>exact h.elim
 | [p],r =>
  obtain ⟨v,rfl,rp⟩:=r.one
  obtain ⟨x,ex,h⟩:=az.opt h
  obtain ⟨xs,hp,rfl⟩:=Option.map_eq_some_iff.mp ex
  cases rp with
  | tup ha hx=>cases hp;exact ⟨_,_,rfl,.inr ⟨ib.of (s _ _ ha),eJ.flat h s (.tup ha hx)⟩⟩
  | lst ha hx=>cases hp;exact ⟨_,_,rfl,.inl ⟨jg.of (s _ _ ha),eJ.tup h s hx⟩⟩
  | jR ha hx=>cases hp;exact ⟨_,_,rfl,.inl ⟨.inl (.inr ⟨_,s _ _ ha⟩),eJ.tup h s hx⟩⟩
  | _=>cases hp
def sx:List PV->Option (List Int)
 | []=>some []
 | .int i::r=>(sx r).map (i::·)
 | _=>none
def AL:List PV->Option (List Bool)
 | []=>some []
 | .bl i::r=>(AL r).map (i::·)
 | _=>none
theorem yk:∀ {ps:List PV} {ns:List Int},sx ps=some ns->ps=ns.map PV.int
 | [],_,e=>by cases e;rfl
 | .int i::r,_,e=>by
  obtain ⟨ms,h1,rfl⟩:=Option.map_eq_some_iff.mp e
  rw [yk h1];rfl
theorem Aj:∀ {ps:List PV} {ns:List Bool},AL ps=some ns->ps=ns.map PV.bl
 | [],_,e=>by cases e;rfl
 | .bl i::r,_,e=>by
  obtain ⟨ms,h1,rfl⟩:=Option.map_eq_some_iff.mp e
  rw [Aj h1];rfl
theorem mP:∀ (ns:List Int),sx (ns.map PV.int)=some ns
 | []=>rfl
 | n::r=>by show (sx (r.map PV.int)).map (n::·)=_;rw [mP r];rfl
theorem ve:∀ (ns:List Bool),AL (ns.map PV.bl)=some ns
 | []=>rfl
 | n::r=>by show (AL (r.map PV.bl)).map (n::·)=_;rw [ve r];rfl
def H0:PV->M PV
 | .lst xs=>fu ((sx xs).map fun ns=>.int ns.sum)
 | _=>none
def FN:List PV->M PV
 | [p]=>H0 p
 | _=>none
def all1:PV->M PV
 | .lst xs=>fu ((AL xs).map fun ns=>.bl (ns.all id))
 | _=>none
def wc:List PV->M PV
 | [p]=>all1 p
 | _=>none
theorem F5 {K:PySem.W.Frag}:lA E (fun xs H Q=>∃ (a:Addr) (bs:List Bool),xs=[.ref a]/\jg K H a (bs.map V.bl)/\Q (.bl (bs.all id)) H) wc:=by
 intro σ Hs H ps vs Q s r h
 match ps,r with
 | [],_=>exact h.elim
 | _::_::_,_=>exact h.elim
 | [p],r =>
  obtain ⟨v,rfl,rp⟩:=r.one
  cases rp with
  | lst ha hx =>
   obtain ⟨x,ex,h⟩:=az.opt h
   obtain ⟨ns,hn,rfl⟩:=Option.map_eq_some_iff.mp ex
   rw [Aj hn] at hx
   exact ⟨_,ns,rfl,hx.Ut▸jg.of (s _ _ ha),eJ.flat h s (.bl _)⟩
  | _=>exact h.elim
def SI (o:Int->Int->Int):PV->PV->M PV
 | .int i,.int j=>M.ok (.int (o i j))
 | _,_=>none
def E7 (o:Int->Int->Int):List PV->M PV
 | [p,q]=>SI o p q
 | _=>none
theorem Dt {o:Int->Int->Int}:lA E (fun xs H Q=>∃ i j,xs=[.int i,.int j]/\Q (.int (o i j)) H) (E7 o):=by
 intro σ Hs H ps vs Q s r h
 match ps,r with
 | [],_=>exact h.elim
 | [_],_=>exact h.elim
 | _::_::_::_,_=>exact h.elim
 | [p,q],r =>
  obtain ⟨v,u,rfl,rp,rq⟩:=r.two
  cases rp with
  | int i=>cases rq with
   | int j=>exact ⟨i,j,rfl,eJ.flat h s (.int _)⟩
   | _=>exact h.elim
  | _=>exact h.elim
end
def fm (n:Nat) (sem:List PV->M PV):Sp:=fun vs H Q E=>vs.length=n/\∃ Hs ps,aX Hs H/\aK Hs ps vs/\az (sem ps) (eJ Hs H Q) (XW E Hs H)
section
variable {X:Cx} {E:St->XK} {k n:Nat} {f C:Addr} {fd:FuncData} {ps:List Str} {sem:List PV->M PV} {x m:Str} {p pos apos:Pos} {e o:Expr} {es:List Expr} {fs:af->M (List PV)} {g:af->M PV}
theorem CW {ds:List Value} {dvs:List V} {dps:List PV} (F:aN X.prog X.w X.K X.mg X.base (bM X.prog X.w) k f fd ps (fm n sem)) (hr:bR k X.A) (hg:Gl X x) (hm:X.mg x=some (.ref f)) (hk:PySem.W.keepIn X.K (.ref f)=true) (hb:Binds X.K fd ps ds) (hd:Vals dvs ds) (hdp:∀ H,aK H dps dvs) (O:eQ X E)
  (hl:∀ ps,sem (ps++dps)≠none->ps.length+dps.length=n)
  (ha:PA X (e::es) (tL E fs)) (hdb:(x==("__debug__" : Str))=false:=by decide) (he:starEach (e::es) X.env=(false,eval e X.env)::starEach es X.env:=by rfl) (hpl:(backTo pos (starEach es X.env)).any (·.1)=false:=by rfl) :
  PE X (.Call (.Name x p) (e::es) [] pos) (tE E (ai (fun ps=>sem (ps++dps)) fs)):=by
 refine (BK F hr hg hm hk hb hd O ha hdb he hpl).imp fun σ H Q q=>dz (K:=kL Q) kL.g q fun B H₀ Hs H1 env ps' v sr rp hp=>?_
 have r2:aK Hs (ps'++dps) (v++dvs):=rp.append (hdp Hs)
 have hn:sem (ps'++dps)≠none:=fun z=>by rw [z] at hp;exact hp
 refine ⟨?_,Hs,ps'++dps,sr.gr.sub,r2,hp⟩
 rw [← r2.length,List.length_append]
 exact hl ps' hn
def fv (ok:Addr->Bool) (f:Str) (g:af->M PV):af->M PV:=fun env=>(g env).bind fun p=>match p with
 | .obj C fs=>cy (ok C=true) (fu (fs.lookup f))
 | _=>none
theorem Hr {ok:Addr->Bool} {fl:Str} (he:PE X e (tE E g)) (bx:∀ C,ok C=true->mj X.K C/\bK X.K C fl) (hb:attributeBase e fl X.env (eval e X.env)=eval e X.env):PE X (.Attribute e fl pos) (tE E (fv ok fl g)):=by
 refine (FV he hb).imp fun σ H Q q=>bU (K:=kL Q) kL.g q fun B H₀ Hs H1 env p v sr rp hp=>?_
 cases rp with
 | obj ha hx =>
  obtain ⟨hc,hp⟩:=az.cy hp
  obtain ⟨x,ex,hp⟩:=az.opt hp
  obtain ⟨u,h1,h2⟩:=hx.look ex
  exact ⟨_,_,_,_,u,rfl,sr.gr.sub _ _ ha,(bx _ hc).1,(bx _ hc).2,h1,eJ.flat hp sr.gr.sub h2⟩
 | _=>exact hp.elim
def b_ (C:Addr) (m:Str) (sem:List PV->M PV) (g:af->M PV) (fs:af->M (List PV)):af->M PV:=fun env=>(g env).bind fun p=>match p with
 | .obj C' fl=>cy (C'=C/\fl.lookup m=none) ((fs env).bind fun ps=>sem (.obj C' fl::ps))
 | _=>none
theorem C0 {pl:Sem Bool} (he:PE X o (tE E g)) (c:mj X.K C) (hm:Meth X.K C m f) (F:aN X.prog X.w X.K X.mg X.base (bM X.prog X.w) k f fd ps (fm n sem)) (hr:bR k X.A) (hb:Binds X.K fd ps []) (O:eQ X E) (hl:∀ ps,sem ps≠none->ps.length=n) (ha:PA X (e::es) (tL E fs))
  (hst:starEach (e::es) X.env=(false,eval e X.env)::starEach es X.env:=by rfl) (hpl:(backTo pos (starEach es X.env)).any (·.1)=false:=by rfl)
  (ht:eval (.Call (.Attribute o m apos) (e::es) [] pos) X.env=(do
   let ov ← eval o X.env
   standAt apos.atName
   let (f,first) ← holding [ov] (getMethod ov m pl)
   callWith pos f first (backTo pos (starEach (e::es) X.env)) (backToKw pos (keywordEach [] X.env))):=by rfl) :
  PE X (.Call (.Attribute o m apos) (e::es) [] pos) (tE E (b_ C m sem g fs)):=by
 refine (Al he c hm F hr hb .nil O ha hst hpl ht).imp fun σ H Q q=>bU (K:=kL Q) kL.g q fun B H₀ Hs H1 env p v sr rp hp=>?_
 cases rp with
 | @obj a C' dx fl fvs ho hx =>
  obtain ⟨⟨e1,hn⟩,CF⟩:=az.cy hp
  subst e1
  refine ⟨a,dx,fvs,rfl,sr.gr.sub _ _ ho,hx.none hn,B,H₀,Hs,env,sr,(az.bind CF).imp (fun ps' hps vs Hs' H' g' r=>?_) fun e he=>he⟩
  have r2:aK Hs' (.obj C' fl::ps') (V.ref a::(vs++[])):=by rw [List.append_nil];exact .cons ((Rep.obj ho hx).mono g'.st) r
  have hn:sem (.obj C' fl::ps')≠none:=fun z=>by rw [z] at hps;exact hps
  refine ⟨by rw [← r2.length];exact hl _ hn,Hs',_,g'.sub,r2,hps.imp (fun z hz w Hs2 H2 g2 r2=>hz w Hs2 H2 (g'.trans g2) r2) fun e he=>he.grow g'⟩
 | _=>exact hp.elim
theorem BB {pl:Sem Bool} (he:PE X o (tE E g)) (c:mj X.K C) (hm:Meth X.K C m f) (F:aN X.prog X.w X.K X.mg X.base (bM X.prog X.w) k f fd ps (fm n sem)) (hr:bR k X.A) (hb:Binds X.K fd ps []) (O:eQ X E) (hl:∀ ps,sem ps≠none->ps.length=n)
  (ht:eval (.Call (.Attribute o m apos) [] [] pos) X.env=(do
   let ov ← eval o X.env
   standAt apos.atName
   let (f,first) ← holding [ov] (getMethod ov m pl)
   callWith pos f first (backTo pos (starEach [] X.env)) (backToKw pos (keywordEach [] X.env))):=by rfl) :
  PE X (.Call (.Attribute o m apos) [] [] pos) (tE E (b_ C m sem g aq)):=by
 refine (rP he c hm F hr hb .nil O ht).imp fun σ H Q q=>bU (K:=kL Q) kL.g q fun B H₀ Hs H1 env p v sr rp hp=>?_
 cases rp with
 | @obj a C' dx fl fvs ho hx =>
  obtain ⟨⟨e1,hn⟩,CF⟩:=az.cy hp
  subst e1
  have r2:aK Hs [.obj C' fl] [V.ref a]:=.cons (Rep.obj ho hx) .nil
  have hn':sem [.obj C' fl]≠none:=fun z=>by
   have hp':az (sem [.obj C' fl]) (eJ Hs H1 Q) (XW (E σ) Hs H1):=CF
   rw [z] at hp';exact hp'
  exact ⟨a,dx,fvs,rfl,sr.gr.sub _ _ ho,hx.none hn,by rw [show ([]:List V)++[]=[] from rfl];exact r2.length▸hl _ hn',Hs,_,sr.gr.sub,r2,CF⟩
 | _=>exact hp.elim
end
end L2
namespace L2
open PySem PySem.Spec PyProof.Rows
inductive Out where
 | nx (env:af) | rt (p:PV) | bk (env:af) | ct (env:af)
def KS (D:Ends) (B H₀:Hp):Out->Prop
 | .nx env=>∀ σ Hs H,SR B H₀ Hs H σ env->D.nx σ H
 | .rt p=>∀ v Hs H,bB B H₀ Hs H->Rep Hs p v->D.rt v H
 | .bk env=>∀ σ Hs H,SR B H₀ Hs H σ env->D.bk σ H
 | .ct env=>∀ σ Hs H,SR B H₀ Hs H σ env->D.ct σ H
def tS (E:XK) (f:af->M Out):TS:=fun D σ H=>∃ B H₀ Hs env,SR B H₀ Hs H σ env/\az (f env) (KS D B H₀) (XW E B H₀)
theorem PS.imp {X:Cx} {st:Stmt} {t t':TS} (h:PS X st t) (i:∀ D σ H,t' D σ H->t D σ H):PS X st t':=fun pins s σ H D I q=>h pins s σ H D I (i D σ H q)
theorem mW.imp {X:Cx} {st:List Stmt} {t t':TS} (h:mW X st t) (i:∀ D σ H,t' D σ H->t D σ H):mW X st t':=fun pins s σ H D I q=>h pins s σ H D I (i D σ H q)
def ak:af->M Out:=fun env=>M.ok (.nx env)
def Ca (g:af->M Out):Out->M Out
 | .nx env=>g env
 | o=>M.ok o
def ao (f g:af->M Out):af->M Out:=fun env=>(f env).bind (Ca g)
theorem mi {E:XK} {f:af->M PV} {g:af->PV->M Out} {D:Ends} {σ:St} {H:Hp} {R:VK} (h:tS E (fun env=>(f env).bind (g env)) D σ H)
  (k:∀ B H₀ Hs H1 env p v,SR B H₀ Hs H1 σ env->Rep Hs p v->az (g env p) (KS D B H₀) (XW E B H₀)->R v H1):tE (fun _=>E) f σ H R:=by
 obtain ⟨B,H₀,Hs,env,sr,h⟩:=h
 refine ⟨B,H₀,Hs,env,sr,(az.bind h).imp (fun p hp v Hs' H' g r=>?_) fun e he=>he.grow sr.gr⟩
 exact k B H₀ Hs' H' env p v (sr.grow g) r hp
theorem Bo {E:XK} {f:af->M Bool} {g:af->Bool->M Out} {D:Ends} {σ:St} {H:Hp} {R:Bool->Hp->Prop} (h:tS E (fun env=>(f env).bind (g env)) D σ H)
  (k:∀ B H₀ Hs H1 env p,SR B H₀ Hs H1 σ env->az (g env p) (KS D B H₀) (XW E B H₀)->R p H1):tT (fun _=>E) f σ H R:=by
 obtain ⟨B,H₀,Hs,env,sr,h⟩:=h
 refine ⟨B,H₀,Hs,env,sr,(az.bind h).imp (fun p hp Hs' H' g=>?_) fun e he=>he.grow sr.gr⟩
 exact k B H₀ Hs' H' env p (sr.grow g) hp
theorem o_ {E:XK} {f:af->M (List PV)} {g:af->List PV->M Out} {D:Ends} {σ:St} {H:Hp} {R:List V->Hp->Prop} (h:tS E (fun env=>(f env).bind (g env)) D σ H)
  (k:∀ B H₀ Hs H1 env p v,SR B H₀ Hs H1 σ env->aK Hs p v->az (g env p) (KS D B H₀) (XW E B H₀)->R v H1):tL (fun _=>E) f σ H R:=by
 obtain ⟨B,H₀,Hs,env,sr,h⟩:=h
 refine ⟨B,H₀,Hs,env,sr,(az.bind h).imp (fun p hp v Hs' H' g r=>?_) fun e he=>he.grow sr.gr⟩
 exact k B H₀ Hs' H' env p v (sr.grow g) r hp
theorem SR.set {B H₀ Hs H:Hp} {σ:St} {env:af} {p:PV} {v:V} {i:Nat} (r:SR B H₀ Hs H σ env) (h:Rep Hs p v):SR B H₀ Hs H (σ.set i (some v)) (env.set i (some (.sh p))) where
 gr:=r.gr
 len:=by rw [List.length_set,List.length_set];exact r.len
 sh:=fun j q e=>by
  rw [List.getElem?_set] at e ⊢
  by_cases z:i=j
  ·subst z
   rw [if_pos rfl] at e ⊢
   split at e
   ·cases e
    rw [if_pos (by rw [r.len];assumption)]
    exact ⟨v,rfl,h⟩
   ·cases e
  ·rw [if_neg z] at e ⊢
   exact r.sh j q e
 ow:=fun j xs e=>by
  rw [List.getElem?_set] at e ⊢
  by_cases z:i=j
  ·subst z
   rw [if_pos rfl] at e
   split at e <;> cases e
  ·rw [if_neg z] at e ⊢
   exact r.ow j xs e
 sep:=fun j k xs ys a n e1 e2 e3 e4=>by
  rw [List.getElem?_set] at e1 e2 e3 e4
  by_cases z:i=j
  ·subst z
   rw [if_pos rfl] at e1
   split at e1 <;> cases e1
  ·by_cases z2:i=k
   ·subst z2
    rw [if_pos rfl] at e2
    split at e2 <;> cases e2
   ·rw [if_neg z] at e1 e3
    rw [if_neg z2] at e2 e4
    exact r.sep j k xs ys a n e1 e2 e3 e4
 bd:=fun j a C fs e=>by
  rw [List.getElem?_set] at e ⊢
  by_cases z:i=j
  ·subst z
   rw [if_pos rfl] at e
   split at e <;> cases e
  ·rw [if_neg z] at e ⊢
   exact r.bd j a C fs e
 one:=fun j k a b C D fs gs e1 e2=>by
  rw [List.getElem?_set] at e1 e2
  by_cases z:i=j
  ·subst z
   rw [if_pos rfl] at e1
   split at e1 <;> cases e1
  ·by_cases z2:i=k
   ·subst z2
    rw [if_pos rfl] at e2
    split at e2 <;> cases e2
   ·rw [if_neg z] at e1
    rw [if_neg z2] at e2
    exact r.one j k _ _ C D fs gs e1 e2
theorem SR.own {B H₀ Hs H:Hp} {σ:St} {env:af} {xs:List PV} {vs:List V} {i:Nat} {p:Addr} (r:SR B H₀ Hs H σ env) (h:aK Hs xs vs) (n:H p=none):SR B H₀ Hs (upd H p (.lst vs)) (σ.set i (some (.ref p))) (env.set i (some (.ow xs))):=by
 have ne:∀ c u,H c=some u->c≠p:=fun c u e z=>by rw [z,n] at e;cases e
 have hs:Hs p=none:=by
  cases q:Hs p with
  | none=>rfl
  | some o=>have:=r.gr.sub _ _ q;rw [n] at this;cases this
 have h0:H₀ p=none:=by
  cases q:H₀ p with
  | none=>rfl
  | some o=>have:=r.gr.al _ _ q;rw [n] at this;cases this
 refine ⟨⟨r.gr.st,fun c u e=>by rw [au (ne c u (r.gr.al c u e))];exact r.gr.al c u e,fun c u e=>by rw [au (ne c u (r.gr.sub c u e))];exact r.gr.sub c u e,r.gr.nw⟩,by rw [List.length_set,List.length_set];exact r.len,fun j q e=>?_,fun j ys e=>?_,fun j k ys zs a nj e1 e2 e3 e4=>?_,fun j ba C fs e=>?_,fun j k _ _ C D fs gs e1 e2=>?_⟩
 ·rw [List.getElem?_set] at e ⊢
  by_cases z:i=j
  ·subst z
   rw [if_pos rfl] at e
   split at e <;> cases e
  ·rw [if_neg z] at e ⊢
   exact r.sh j q e
 ·rw [List.getElem?_set] at e ⊢
  by_cases z:i=j
  ·subst z
   rw [if_pos rfl] at e ⊢
   split at e
   ·cases e
    rw [if_pos (by rw [r.len];assumption)]
    exact ⟨p,vs,rfl,aC,hs,h0,h⟩
   ·cases e
  ·rw [if_neg z] at e ⊢
   obtain ⟨a,us,h1,h2,h3,h4,h5⟩:=r.ow j ys e
   exact ⟨a,us,h1,by rw [au (ne a _ h2)];exact h2,h3,h4,h5⟩
 ·rw [List.getElem?_set] at e1 e2 e3 e4
  by_cases z:i=j
  ·subst z
   rw [if_pos rfl] at e3
   split at e3
   ·cases e3
    rw [if_neg nj] at e2 e4
    obtain ⟨a',us,h1,h2,_⟩:=r.ow k zs e2
    rw [e4] at h1;cases h1
    rw [n] at h2;cases h2
   ·cases e3
  ·rw [if_neg z] at e1 e3
   by_cases z2:i=k
   ·subst z2
    rw [if_pos rfl] at e4
    split at e4
    ·cases e4
     obtain ⟨a',us,h1,h2,_⟩:=r.ow j ys e1
     rw [e3] at h1;cases h1
     rw [n] at h2;cases h2
    ·cases e4
   ·rw [if_neg z2] at e2 e4
    exact r.sep j k ys zs a nj e1 e2 e3 e4
 ·rw [List.getElem?_set] at e ⊢
  by_cases z:i=j
  ·subst z
   rw [if_pos rfl] at e
   split at e <;> cases e
  ·rw [if_neg z] at e ⊢
   obtain ⟨dx,us,h1,h2,h3,h4,h5⟩:=r.bd j ba C fs e
   exact ⟨dx,us,h1,by rw [au (ne ba _ h2)];exact h2,h3,h4,h5⟩
 ·rw [List.getElem?_set] at e1 e2
  by_cases z:i=j
  ·subst z
   rw [if_pos rfl] at e1
   split at e1 <;> cases e1
  ·by_cases z2:i=k
   ·subst z2
    rw [if_pos rfl] at e2
    split at e2 <;> cases e2
   ·rw [if_neg z] at e1
    rw [if_neg z2] at e2
    exact r.one j k _ _ C D fs gs e1 e2
def vK (i:Nat) (env:af):af:=match env[i]? with
 | some (some (.ow xs))=>env.set i (some (.sh (.lst xs)))
 | _=>env
theorem SR.qU {B H₀ Hs H:Hp} {σ:St} {env:af} (i:Nat) (r:SR B H₀ Hs H σ env):∃ Hs',SR B H₀ Hs' H σ (vK i env)/\aX Hs Hs':=by
 unfold vK
 split
 ·rename_i xs e
  obtain ⟨a,vs,h1,h2,h3,h4,h5⟩:=r.ow i xs e
  have ne:∀ c u,Hs c=some u->c≠a:=fun c u q z=>by rw [z,h3] at q;cases q
  have hst:aX Hs (upd Hs a (.lst vs)):=fun c u q=>by rw [au (ne c u q)];exact q
  refine ⟨upd Hs a (.lst vs),⟨⟨fun c u q=>hst c u (r.gr.st c u q),r.gr.al,fun c u q=>?_,fun c u q1 q2=>?_⟩,by rw [List.length_set];exact r.len,fun j q ej=>?_,fun j ys ej=>?_,fun j k ys zs b nj e1 e2 e3 e4=>?_,fun j ba C fs ej=>?_,fun j k _ _ C D fs gs e1 e2=>?_⟩,hst⟩
  ·by_cases z:c=a
   ·subst z;rw [aC] at q;cases q;exact h2
   ·rw [au z] at q;exact r.gr.sub c u q
  ·have z:c≠a:=fun z=>by rw [z,h4] at q2;cases q2
   rw [au z];exact r.gr.nw c u q1 q2
  ·rw [List.getElem?_set] at ej
   by_cases z:i=j
   ·subst z
    rw [if_pos rfl] at ej
    split at ej
    ·cases ej
     exact ⟨.ref a,h1,.lst aC (h5.mono hst)⟩
    ·cases ej
   ·rw [if_neg z] at ej
    obtain ⟨v,q1,q2⟩:=r.sh j q ej
    exact ⟨v,q1,q2.mono hst⟩
  ·rw [List.getElem?_set] at ej
   by_cases z:i=j
   ·subst z
    rw [if_pos rfl] at ej
    split at ej <;> cases ej
   ·rw [if_neg z] at ej
    obtain ⟨b,us,q1,q2,q3,q4,q5⟩:=r.ow j ys ej
    have nb:b≠a:=fun w=>by subst w;exact r.sep i j xs ys b z e ej h1 q1
    exact ⟨b,us,q1,q2,by rw [au nb];exact q3,q4,q5.mono hst⟩
  ·rw [List.getElem?_set] at e1 e2
   by_cases z:i=j
   ·subst z
    rw [if_pos rfl] at e1
    split at e1 <;> cases e1
   ·by_cases z2:i=k
    ·subst z2
     rw [if_pos rfl] at e2
     split at e2 <;> cases e2
    ·rw [if_neg z] at e1
     rw [if_neg z2] at e2
     exact r.sep j k ys zs b nj e1 e2 e3 e4
  ·rw [List.getElem?_set] at ej
   by_cases z:i=j
   ·subst z
    rw [if_pos rfl] at ej
    split at ej <;> cases ej
   ·rw [if_neg z] at ej
    obtain ⟨dx,us,q1,q2,q3,q4,q5⟩:=r.bd j ba C fs ej
    have nb:ba≠a:=fun w=>by subst w;rw [h2] at q2;cases q2
    exact ⟨dx,us,q1,q2,by rw [au nb];exact q3,q4,q5.mono hst⟩
  ·rw [List.getElem?_set] at e1 e2
   by_cases z:i=j
   ·subst z
    rw [if_pos rfl] at e1
    split at e1 <;> cases e1
   ·by_cases z2:i=k
    ·subst z2
     rw [if_pos rfl] at e2
     split at e2 <;> cases e2
    ·rw [if_neg z] at e1
     rw [if_neg z2] at e2
     exact r.one j k _ _ C D fs gs e1 e2
 ·exact ⟨Hs,r,fun _ _ q=>q⟩
def rK (is:List Nat) (f:af->M Out):af->M Out:=fun env=>f (is.foldl (fun e i=>vK i e) env)
theorem SR.mO {B H₀ H:Hp} {σ:St}:∀ {is:List Nat} {Hs:Hp} {env:af},SR B H₀ Hs H σ env->∃ Hs',SR B H₀ Hs' H σ (is.foldl (fun e i=>vK i e) env)/\aX Hs Hs'
 | [],Hs,_,r=>⟨Hs,r,fun _ _ q=>q⟩
 | i::is,_,_,r=>by
  obtain ⟨Hs1,r1,s1⟩:=r.qU i
  obtain ⟨Hs2,r2,s2⟩:=SR.mO (is:=is) r1
  exact ⟨Hs2,r2,fun c u q=>s2 c u (s1 c u q)⟩
section
variable {X:Cx} {E:XK} {e:Expr} {pos pos':Pos} {f:af->M PV} {st:Stmt} {sts rest:List Stmt} {u:af->M Bool} {g h:af->M Out} {i:Nat} {x:Str}
theorem HB (is:List Nat) (hs:PS X st (tS E g)):PS X st (tS E (rK is g)):=hs.imp fun D σ H q=>by
 obtain ⟨B,H₀,Hs,env,sr,q⟩:=q
 obtain ⟨Hs',r,_⟩:=sr.mO (is:=is)
 exact ⟨B,H₀,Hs',_,r,q⟩
theorem D4:mW X [] (tS E ak):=Du.imp fun D σ H q=>by
 obtain ⟨B,H₀,Hs,env,sr,q⟩:=q
 exact q σ Hs H sr
theorem AW (h1:PS X st (tS E g)) (h2:mW X rest (tS E h)):mW X (st::rest) (tS E (ao g h)):=by
 refine (Cg h1 h2).imp fun D σ H q=>?_
 obtain ⟨B,H₀,Hs,env,sr,q⟩:=q
 refine ⟨B,H₀,Hs,env,sr,(az.bind q).imp (fun o ho=>?_) fun e he=>he⟩
 cases o with
 | nx env'=>exact fun σ' Hs' H' sr'=>⟨B,H₀,Hs',env',sr',ho⟩
 | rt p=>exact ho
 | bk env'=>exact ho
 | ct env'=>exact ho
def bg (i:Nat) (f:af->M PV):af->M Out:=fun env=>(f env).bind fun p=>M.ok (.nx (env.set i (some (.sh p))))
theorem HC {pos':Pos} (hN:X.N.Nodup) (hi:X.N[i]?=some x) (hx:Loc X.env.scope x) (he:PE X e (tE (fun _=>E) f)) (hs:swapsWith e (some (.Name x pos')) pos.line X.env=pure false:=by rfl) (hf:X.fn x=true\/X.env.scope.names.lookup x=some .local:=by first | exact .inl rfl | exact .inr rfl | assumption) :
  PS X (.Assign [.Name x pos'] e pos) (tS E (bg i f)) :=
 (Ck hN hi hx he hs hf).imp fun D σ H q=>mi q fun B H₀ Hs H1 env p v sr rp hp=>hp _ Hs H1 (sr.set rp)
def retS (f:af->M PV):af->M Out:=fun env=>(f env).bind fun p=>M.ok (.rt p)
theorem HK (he:PE X e (tE (fun _=>E) f)):PS X (.Return (some e) pos) (tS E (retS f)) :=
 (AX he).imp fun D σ H q=>mi q fun B H₀ Hs H1 env p v sr rp hp=>hp v Hs H1 sr.gr rp
def pV (f:af->M PV):af->M Out:=fun env=>(f env).bind fun _=>M.ok (.nx env)
theorem Ek (he:PE X e (tE (fun _=>E) f)) (hs:swapsWith e none pos.line X.env=pure false:=by rfl):PS X (.Expr e pos) (tS E (pV f)) :=
 (xY he hs).imp fun D σ H q=>mi q fun B H₀ Hs H1 env p v sr rp hp=>hp σ Hs H1 sr
def i6 (u:af->M Bool) (g h:af->M Out):af->M Out:=fun env=>(u env).bind fun b=>if b=true then g env else h env
theorem J1 {c:Expr} {a b:List Stmt} (hc:PT X c (tT (fun _=>E) u)) (ha:mW X a (tS E g)) (hb:mW X b (tS E h)):PS X (.If c a b pos) (tS E (i6 u g h)):=by
 refine (Ig hc ha hb).imp fun D σ H q=>Bo q fun B H₀ Hs H1 env p sr hp=>?_
 cases p with
 | true=>exact ⟨B,H₀,Hs,env,sr,hp⟩
 | false=>exact ⟨B,H₀,Hs,env,sr,hp⟩
end
end L2
namespace L2
open PySem PySem.Spec PyProof.Rows
def ov (Hs H₀:Hp):Hp:=fun a=>match Hs a with
 | some o=>some o
 | none=>H₀ a
theorem oH {Hs H₀:Hp} {a:Addr} {o:HO} (h:Hs a=some o):ov Hs H₀ a=some o:=by unfold ov;rw [h]
theorem jz {Hs H₀:Hp} {a:Addr} (h:Hs a=none):ov Hs H₀ a=H₀ a:=by unfold ov;rw [h]
theorem Ea {Hs H₀ H:Hp} (s:aX Hs H) (t:aX H₀ H):aX (ov Hs H₀) H:=fun a o e=>by
 cases q:Hs a with
 | some o'=>rw [oH q] at e;cases e;exact s _ _ q
 | none=>rw [jz q] at e;exact t _ _ e
theorem SR.rebase {B H₀ Hs H:Hp} {σ:St} {env:af} (r:SR B H₀ Hs H σ env):SR Hs (ov Hs H₀) Hs H σ env where
 gr:=⟨fun _ _ e=>e,Ea r.gr.sub r.gr.al,r.gr.sub,fun _ _ e _=>e⟩
 len:=r.len
 sh:=r.sh
 ow:=fun i xs e=>let ⟨a,vs,h1,h2,h3,h4,h5⟩:=r.ow i xs e;⟨a,vs,h1,h2,h3,by rw [jz h3];exact h4,h5⟩
 sep:=r.sep
 bd:=fun i a C fs e=>let ⟨dx,vs,h1,h2,h3,h4,h5⟩:=r.bd i a C fs e;⟨dx,vs,h1,h2,h3,by rw [jz h3];exact h4,h5⟩
 one:=r.one
theorem bB.k8 {B H₀ Hs H Hs2 H2:Hp} (g:bB B H₀ Hs H) (g2:bB Hs (ov Hs H₀) Hs2 H2):bB B H₀ Hs2 H2 where
 st:=fun a o e=>g2.st a o (g.st a o e)
 al:=fun a o e=>by
  cases q:Hs a with
  | some o' =>
   have h1:=g.sub a o' q
   have h2:=g.al a o e
   rw [h1] at h2;cases h2
   exact g2.al a _ (oH q)
  | none=>exact g2.al a o (by rw [jz q];exact e)
 sub:=g2.sub
 nw:=fun a o e q=>by
  have h1:=g.nw a o e q
  exact g2.nw a o h1 (by rw [jz h1];exact q)
theorem SR.k8 {B H₀ Hs H Hs2 H2:Hp} {σ:St} {env:af} (g:bB B H₀ Hs H) (r:SR Hs (ov Hs H₀) Hs2 H2 σ env):SR B H₀ Hs2 H2 σ env where
 gr:=g.k8 r.gr
 len:=r.len
 sh:=r.sh
 ow:=fun i xs e=>by
  obtain ⟨a,vs,h1,h2,h3,h4,h5⟩:=r.ow i xs e
  refine ⟨a,vs,h1,h2,h3,?_,h5⟩
  cases q:Hs a with
  | some o=>rw [oH q] at h4;cases h4
  | none=>rw [jz q] at h4;exact h4
 sep:=r.sep
 bd:=fun i a C fs e=>by
  obtain ⟨dx,vs,h1,h2,h3,h4,h5⟩:=r.bd i a C fs e
  refine ⟨dx,vs,h1,h2,h3,?_,h5⟩
  cases q:Hs a with
  | some o=>rw [oH q] at h4;cases h4
  | none=>rw [jz q] at h4;exact h4
 one:=r.one
theorem XW.rebase {E:XK} {B H₀ Hs H:Hp} (g:bB B H₀ Hs H) {x:EX} (h:XW E B H₀ x):XW E Hs (ov Hs H₀) x:=fun ea Hs2 H2 r q=>h ea Hs2 H2 (g.k8 r) q
def Jy (k:af->M Out):Out->M Out
 | .nx env=>k env
 | .ct env=>k env
 | .bk env=>M.ok (.nx env)
 | .rt p=>M.ok (.rt p)
def iX (set:PV->af->M af) (body:af->M Out):List PV->af->M Out
 | [],env=>M.ok (.nx env)
 | x::xs,env=>(set x env).bind fun env'=>(body env').bind (Jy (iX set body xs))
def HZ (E:XK) (g:TG) (set:PV->af->M af):Prop:=∀ (B H₀ Hs H:Hp) (σ:St) (env:af) (p:PV) (v:V) (Q:St->Hp->Prop) (Z:EX->Prop),SR B H₀ Hs H σ env->Rep Hs p v->az (set p env) (fun env'=>∀ σ',SR B H₀ Hs H σ' env'->Q σ' H) Z->g v σ H Q
def cn (i:Nat) (p:PV) (env:af):M af:=M.ok (env.set i (some (.sh p)))
theorem bc {E:XK} {i:Nat}:HZ E (aI i) (cn i):=fun B H₀ Hs H σ env p v Q Z sr r h=>h _ (sr.set r)
def bY (i j:Nat):PV->af->M af
 | .tup [p,q],env=>M.ok ((env.set i (some (.sh p))).set j (some (.sh q)))
 | _,_=>none
theorem c6 {E:XK} {K:PySem.W.Frag} {i j:Nat}:HZ E (jM K 2 (bp (aI i) (bp (aI j) jP))) (bY i j):=by
 intro B H₀ Hs H σ env p v Q Z sr r h
 cases r with
 | @tup a xs vs ha hx =>
  match xs,hx with
  | [p,q],hx =>
   obtain ⟨v,u,rfl,rp,rq⟩:=hx.two
   exact ⟨a,[v,u],rfl,ib.of (sr.gr.sub _ _ ha),rfl,v,[u],rfl,u,[],rfl,rfl,h _ ((sr.set rp).set rq)⟩
  | [],_=>exact h.elim
  | [_],_=>exact h.elim
  | _::_::_::_,_=>exact h.elim
 | _=>exact h.elim
section
variable {E:XK} {g:TG} {set:PV->af->M af} {body:af->M Out} {D:Ends} {B H₀ Hs1:Hp} {xs:List PV}
def Jv (E:XK) (set:PV->af->M af) (body:af->M Out) (D:Ends) (B H₀ Hs1:Hp) (xs:List PV) (i:Nat) (σ:St) (H:Hp):Prop:=∃ Hs env,SR B H₀ Hs H σ env/\aX Hs1 Hs/\az (iX set body (xs.drop i) env) (KS D B H₀) (XW E B H₀)
theorem Jv.done {n:Nat} {σ:St} {H:Hp} (j:Jv E set body D B H₀ Hs1 xs n σ H) (hn:xs.length<=n):D.nx σ H:=by
 obtain ⟨Hs,env,sr,_,h⟩:=j
 rw [List.drop_eq_nil_of_le hn] at h
 exact h σ Hs H sr
theorem Jv.turn {i:Nat} {σ:St} {H H1 Hx:Hp} {x:PV} {v:V} (tg:HZ E g set) (hx:xs[i]?=some x) {Hs:Hp} {env:af} (sr:SR B H₀ Hs H σ env) (s1:aX Hs1 Hs) (h:az (iX set body (xs.drop i) env) (KS D B H₀) (XW E B H₀)) {Hs2 H2:Hp} (gr:bB Hs H Hs2 H2) (rv:Rep Hs2 x v) :
  g v σ H2 fun σ2 H3=>tS E body { D with nx:=Jv E set body D B H₀ Hs1 xs (i+1),ct:=Jv E set body D B H₀ Hs1 xs (i+1),bk:=D.nx } σ2 H3:=by
 have hlt:i<xs.length:=(List.getElem?_eq_some_iff.mp hx).1
 have hd:xs.drop i=x::xs.drop (i+1):=by
  rw [List.drop_eq_getElem_cons hlt]
  rw [List.getElem?_eq_getElem hlt] at hx
  rw [Option.some.inj hx]
 rw [hd] at h
 have sr2:=sr.grow gr
 refine tg B H₀ Hs2 H2 σ env x v _ _ sr2 rv ((az.bind h).imp (fun env' h' σ' sr'=>?_) fun _ z=>z)
 refine ⟨Hs2,ov Hs2 H₀,Hs2,env',sr'.rebase,(az.bind h').imp (fun o ho=>?_) fun e he=>he.rebase sr'.gr⟩
 cases o with
 | nx e2=>exact fun σ3 Hs3 H3 r=>⟨Hs3,e2,r.k8 sr'.gr,fun a o z=>r.gr.st a o (gr.st a o (s1 a o z)),ho⟩
 | ct e2=>exact fun σ3 Hs3 H3 r=>⟨Hs3,e2,r.k8 sr'.gr,fun a o z=>r.gr.st a o (gr.st a o (s1 a o z)),ho⟩
 | bk e2=>exact fun σ3 Hs3 H3 r=>ho σ3 Hs3 H3 (r.k8 sr'.gr)
 | rt p=>exact fun v3 Hs3 H3 r q=>ho v3 Hs3 H3 (sr'.gr.k8 r) q
end
def gK (it:af->M (List PV)) (set:PV->af->M af) (body:af->M Out):af->M Out:=fun env=>(it env).bind fun xs=>iX set body xs env
def itemsOf (f:af->M PV):af->M (List PV):=fun env=>(f env).bind fun p=>match bC p with | some xs=>M.ok xs | none=>none
theorem ju {K:PySem.W.Frag} {Hs H:Hp} {p:PV} {v:V} {xs:List PV} (s:aX Hs H) (r:Rep Hs p v) (e:bC p=some xs):∃ b a vs,v=.ref a/\(∀ Hs' H',aX Hs Hs'->aX Hs' H'->kE K H' b a vs)/\aK Hs xs vs:=by
 cases r with
 | tup h r=>cases e;exact ⟨false,_,_,rfl,fun Hs' H' s1 s2=>ib.of (s2 _ _ (s1 _ _ h)),r⟩
 | lst h r=>cases e;exact ⟨true,_,_,rfl,fun Hs' H' s1 s2=>jg.of (s2 _ _ (s1 _ _ h)),r⟩
 | jR h r=>cases e;exact ⟨true,_,_,rfl,fun Hs' H' s1 s2=>.inl (.inr ⟨_,s2 _ _ (s1 _ _ h)⟩),r⟩
 | _=>cases e
section
variable {X:Cx} {E:XK} {tg iter:Expr} {pos p:Pos} {f f2:af->M PV} {g:TG} {set:PV->af->M af} {body:af->M Out} {bd:List Stmt}
end
end L2
namespace L2
open PySem PySem.Spec PyProof.Rows
def Pm:PV->M (List PV)
 | .int n=>cy (-(2^62)<=n/\n<2^62) (M.ok ((List.range n.toNat).map fun (i:Nat)=>.int (0+(i:Int))))
 | _=>none
def Og:PV->PV->M (List PV)
 | .int a,.int b=>cy (-(2^62)<=a/\a<2^62/\-(2^62)<=b/\b<2^62) (M.ok ((List.range (b-a).toNat).map fun (i:Nat)=>.int (a+(i:Int))))
 | _,_=>none
def qo:List PV->M (List PV)
 | [p]=>Pm p
 | _=>none
def yR:List PV->M (List PV)
 | [p,q]=>Og p q
 | _=>none
theorem yv {ps:List PV} {α:Type} {k:List PV->M α} {Q:α->Prop} {Z:EX->Prop} (h:az ((qo ps).bind k) Q Z):∃ n:Int,ps=[.int n]/\-(2^62)<=n/\n<2^62/\az (k ((List.range n.toNat).map fun (i:Nat)=>.int (0+(i:Int)))) Q Z:=by
 match ps with
 | []=>exact h.elim
 | _::_::_=>exact h.elim
 | [p] =>
  cases p with
  | int n =>
   obtain ⟨hc,h⟩:=az.cy (az.bind h)
   exact ⟨n,rfl,hc.1,hc.2,h⟩
  | _=>exact h.elim
theorem yt {ps:List PV} {α:Type} {k:List PV->M α} {Q:α->Prop} {Z:EX->Prop} (h:az ((yR ps).bind k) Q Z):∃ a b:Int,ps=[.int a,.int b]/\(-(2^62)<=a/\a<2^62/\-(2^62)<=b/\b<2^62)/\az (k ((List.range (b-a).toNat).map fun (i:Nat)=>.int (a+(i:Int)))) Q Z:=by
 match ps with
 | []=>exact h.elim
 | [_]=>exact h.elim
 | _::_::_::_=>exact h.elim
 | [p,q] =>
  cases p with
  | int a=>cases q with
   | int b =>
    obtain ⟨hc,h⟩:=az.cy (az.bind h)
    exact ⟨a,b,rfl,hc,h⟩
   | _=>exact h.elim
  | _=>exact h.elim
def zip2:List PV->M (List PV)
 | [p,q]=>match bC p,bC q with
  | some xs,some ys=>M.ok (List.zipWith (fun a b=>.tup [a,b]) xs ys)
  | _,_=>none
 | _=>none
theorem zH {ps:List PV} {α:Type} {k:List PV->M α} {Q:α->Prop} {Z:EX->Prop} (h:az ((zip2 ps).bind k) Q Z):∃ p q xs ys,ps=[p,q]/\bC p=some xs/\bC q=some ys/\az (k (List.zipWith (fun a b=>.tup [a,b]) xs ys)) Q Z:=by
 match ps with
 | []=>exact h.elim
 | [_]=>exact h.elim
 | _::_::_::_=>exact h.elim
 | [p,q] =>
  unfold zip2 at h
  dsimp only at h
  cases e1:bC p with
  | none=>rw [e1] at h;exact h.elim
  | some xs =>
   cases e2:bC q with
   | none=>rw [e1,e2] at h;exact h.elim
   | some ys=>rw [e1,e2] at h;exact ⟨p,q,xs,ys,rfl,e1,e2,h⟩
theorem yV {n i:Nat} {f:Nat->PV} (h:i<n):((List.range n).map f)[i]?=some (f i):=by
 rw [List.getElem?_map,List.getElem?_range h];rfl
section
variable {X:Cx} {E:XK} {tg a b l l1 l2:Expr} {pos p tp:Pos} {fs:af->M (List PV)} {g:TG} {set:PV->af->M af} {body:af->M Out} {bd:List Stmt}
end
def KO (Q:VK):Hp->Hp->List PV->Prop:=fun Hs H ps=>∀ vs p Hs' H',bB Hs H Hs' H'->aK Hs' ps vs->H' p=none->Q (.ref p) (upd H' p (.lst vs))
def tO (E:St->XK) (f:af->M (List PV)):TE:=fun σ H Q=>tG E f (KO Q) σ H
section
variable {X:Cx} {E:XK} {e:Expr} {es:List Expr} {pos pos':Pos} {fs:af->M (List PV)} {f:af->M PV} {i:Nat} {x:Str}
def qQ (i:Nat) (f:af->M (List PV)):af->M Out:=fun env=>(f env).bind fun ps=>M.ok (.nx (env.set i (some (.ow ps))))
theorem CJ {pos':Pos} (hN:X.N.Nodup) (hi:X.N[i]?=some x) (hx:Loc X.env.scope x) (he:PE X e (tO (fun _=>E) fs)) (hs:swapsWith e (some (.Name x pos')) pos.line X.env=pure false:=by rfl) (hf:X.fn x=true\/X.env.scope.names.lookup x=some .local:=by first | exact .inl rfl | exact .inr rfl | assumption) :
  PS X (.Assign [.Name x pos'] e pos) (tS E (qQ i fs)):=by
 refine (Ck hN hi hx he hs hf).imp fun D σ H q=>?_
 obtain ⟨B,H₀,Hs,env,sr,q⟩:=q
 refine ⟨B,H₀,Hs,env,sr,(az.bind q).imp (fun ps hp vs p Hs' H' g r n=>?_) fun e he=>he.grow sr.gr⟩
 exact hp _ Hs' _ ((sr.grow g).own r n)
def kf (fs:af->M (List PV)):af->M (List PV):=fun env=>(fs env).bind fun ps=>if ps.length<=sizeLine then M.ok ps else none
theorem Hd {E:St->XK} (hr:PA X es (tL E fs)):PE X (.List es pos) (tO E (kf fs)):=by
 refine (BD hr).imp fun σ H Q q=>?_
 obtain ⟨B,H₀,Hs,env,sr,q⟩:=q
 refine ⟨B,H₀,Hs,env,sr,(az.bind q).imp (fun ps hp vs Hs' H' g r=>?_) fun e he=>he⟩
 by_cases hz:ps.length<=sizeLine
 ·rw [if_pos hz] at hp
  exact ⟨by rw [← r.length];exact hz,fun p n=>hp vs p Hs' H' g r n⟩
 ·rw [if_neg hz] at hp;exact hp.elim
def jq (i:Nat) (f:af->M PV):af->M Out:=fun env=>match env[i]? with
 | some (some (.ow xs))=>(f env).bind fun p=>if xs.length<sizeLine then M.ok (.nx (env.set i (some (.ow (xs++[p]))))) else none
 | _=>none
theorem SR.put {B H₀ Hs H:Hp} {σ:St} {env:af} {i:Nat} {a:Addr} {xs ys:List PV} {us:List V} (r:SR B H₀ Hs H σ env) (e:env[i]?=some (some (.ow xs))) (hi:σ[i]?=some (some (.ref a))) (h:aK Hs ys us):SR B H₀ Hs (upd H a (.lst us)) σ (env.set i (some (.ow ys))):=by
 obtain ⟨a',vs,h1,h2,h3,h4,h5⟩:=r.ow i xs e
 rw [hi] at h1;cases h1
 have nS:∀ c u,Hs c=some u->c≠a:=fun c u q z=>by rw [z,h3] at q;cases q
 have n0:∀ c u,H₀ c=some u->c≠a:=fun c u q z=>by rw [z,h4] at q;cases q
 refine ⟨⟨r.gr.st,fun c u q=>by rw [au (n0 c u q)];exact r.gr.al c u q,fun c u q=>by rw [au (nS c u q)];exact r.gr.sub c u q,r.gr.nw⟩,by rw [List.length_set];exact r.len,fun j q ej=>?_,fun j zs ej=>?_,fun j k y1 y2 b nj e1 e2 e3 e4=>?_,fun j ba C fs ej=>?_,fun j k _ _ C D fs gs e1 e2=>?_⟩
 ·rw [List.getElem?_set] at ej
  by_cases z:i=j
  ·subst z
   rw [if_pos rfl] at ej
   split at ej <;> cases ej
  ·rw [if_neg z] at ej;exact r.sh j q ej
 ·rw [List.getElem?_set] at ej
  by_cases z:i=j
  ·subst z
   rw [if_pos rfl] at ej
   split at ej
   ·cases ej;exact ⟨a,us,hi,aC,h3,h4,h⟩
   ·cases ej
  ·rw [if_neg z] at ej
   obtain ⟨b,ws,q1,q2,q3,q4,q5⟩:=r.ow j zs ej
   have nb:b≠a:=fun w=>by subst w;exact r.sep i j xs zs b z e ej hi q1
   exact ⟨b,ws,q1,by rw [au nb];exact q2,q3,q4,q5⟩
 ·have o1:∃ w,env[j]?=some (some (.ow w)):=by
   rw [List.getElem?_set] at e1
   by_cases z:i=j
   ·subst z;exact ⟨xs,e⟩
   ·rw [if_neg z] at e1;exact ⟨_,e1⟩
  have o2:∃ w,env[k]?=some (some (.ow w)):=by
   rw [List.getElem?_set] at e2
   by_cases z:i=k
   ·subst z;exact ⟨xs,e⟩
   ·rw [if_neg z] at e2;exact ⟨_,e2⟩
  obtain ⟨w1,o1⟩:=o1
  obtain ⟨w2,o2⟩:=o2
  exact r.sep j k w1 w2 b nj o1 o2 e3 e4
 ·rw [List.getElem?_set] at ej
  by_cases z:i=j
  ·subst z
   rw [if_pos rfl] at ej
   split at ej <;> cases ej
  ·rw [if_neg z] at ej
   obtain ⟨dx,ws,q1,q2,q3,q4,q5⟩:=r.bd j ba C fs ej
   have nb:ba≠a:=fun w=>by subst w;rw [h2] at q2;cases q2
   exact ⟨dx,ws,q1,by rw [au nb];exact q2,q3,q4,q5⟩
 ·rw [List.getElem?_set] at e1 e2
  by_cases z:i=j
  ·subst z
   rw [if_pos rfl] at e1
   split at e1 <;> cases e1
  ·by_cases z2:i=k
   ·subst z2
    rw [if_pos rfl] at e2
    split at e2 <;> cases e2
   ·rw [if_neg z] at e1
    rw [if_neg z2] at e2
    exact r.one j k _ _ C D fs gs e1 e2
theorem zL {apos cpos px:Pos} (hi:X.N[i]?=some x) (hv:DF X.env.scope x) (he:PE X e (tE (fun _=>E) f)) (hd:(x==("__debug__" : Str))=false:=by decide) (hcd:(x==("__classdict__" : Str))=false:=by decide)
  (hbase:attributeBase (.Name x px) "append" X.env (eval (.Name x px) X.env)=eval (.Name x px) X.env:=by rfl)
  (hfew:((backTo cpos (starEach [e] X.env)).all (fun x=>!x.1)&&(backToKw cpos (keywordEach [] X.env)).all (fun x=>x.1.isSome)
   && decide (([e]:List Expr).length+([]:List Keyword).length+(if ([]:List Keyword).isEmpty then 0 else 1)<30))=true:=by rfl)
  (hline:(apos.endLine==cpos.line)=true:=by rfl) (hst:starEach [e] X.env=(false,eval e X.env)::starEach [] X.env:=by rfl) (hplain:(backTo cpos (starEach [] X.env)).any (·.1)=false:=by rfl)
  (hs:swapsWith (.Call (.Attribute (.Name x px) "append" apos) [e] [] cpos) none pos.line X.env=pure false:=by rfl) :
  PS X (.Expr (.Call (.Attribute (.Name x px) "append" apos) [e] [] cpos) pos) (tS E (jq i f)):=by
 refine (xY (IF PySem.F.plainAttrs_list PySem.F.slot_list_append PySem.F.type_list_append sy (pd hi hv hd hcd) (iH he pI hst) hbase hfew hline hst hplain) hs).imp fun D σ H q=>?_
 obtain ⟨B,H₀,Hs,env,sr,q⟩:=q
 unfold jq at q
 split at q
 ·rename_i xs ex
  obtain ⟨a,vs,h1,h2,h3,h4,h5⟩:=sr.ow i xs ex
  refine ⟨.ref a,h1,.inl ⟨rfl,vs,jg.of h2⟩,B,H₀,Hs,env,sr,(az.bind q).imp (fun p hp v Hs' H' g r=>?_) fun e he=>he.grow sr.gr⟩
  by_cases hz:xs.length<sizeLine
  ·rw [if_pos hz] at hp
   have sr':=sr.grow g
   have r5:aK Hs' (xs++[p]) (vs++[v]):=(h5.mono g.st).snoc r
   exact ⟨a,vs,v,rfl,rfl,g.al _ _ h2,by rw [← h5.length];exact hz,hp σ Hs' _ (sr'.put ex h1 r5)⟩
  ·rw [if_neg hz] at hp;exact hp.elim
 ·exact q.elim
end
end L2
namespace L2
open PySem PySem.Spec PyProof.Rows
def Hb:Out->M PV
 | .rt p=>M.ok p
 | .nx _=>M.ok .cI
 | _=>none
def jo (m:Nat) (ps:List PV):af:=ps.map (fun p=>some (.sh p))++List.replicate (m-ps.length) none
def aw (m:Nat) (g:af->M Out) (ps:List PV):M PV:=(g (jo m ps)).bind Hb
theorem SR.start {Hs H:Hp} {N:List Str} {ps:List PV} {vs:List V} (s:aX Hs H) (r:aK Hs ps vs):SR Hs H Hs H (start N vs) (jo N.length ps) where
 gr:=.refl s
 len:=by unfold L2.start jo;simp [r.length]
 sh:=fun i p e=>by
  unfold jo at e
  unfold L2.start
  by_cases hi:i<ps.length
  ·rw [List.getElem?_append_left (by simpa using hi),List.getElem?_map,List.getElem?_eq_getElem hi] at e
   cases e
   obtain ⟨v,h1,h2⟩:=r.get (List.getElem?_eq_getElem hi)
   exact ⟨v,by rw [List.getElem?_append_left (by simpa using (r.length▸hi)),List.getElem?_map,h1];rfl,h2⟩
  ·rw [List.getElem?_append_right (by simpa using hi),List.getElem?_replicate] at e
   split at e <;> cases e
 ow:=fun i xs e=>by
  unfold jo at e
  by_cases hi:i<ps.length
  ·rw [List.getElem?_append_left (by simpa using hi),List.getElem?_map,List.getElem?_eq_getElem hi] at e
   cases e
  ·rw [List.getElem?_append_right (by simpa using hi),List.getElem?_replicate] at e
   split at e <;> cases e
 sep:=fun i j xs ys a _ e=>by
  unfold jo at e
  by_cases hi:i<ps.length
  ·rw [List.getElem?_append_left (by simpa using hi),List.getElem?_map,List.getElem?_eq_getElem hi] at e
   cases e
  ·rw [List.getElem?_append_right (by simpa using hi),List.getElem?_replicate] at e
   split at e <;> cases e
 bd:=fun i a C fs e=>by
  unfold jo at e
  by_cases hi:i<ps.length
  ·rw [List.getElem?_append_left (by simpa using hi),List.getElem?_map,List.getElem?_eq_getElem hi] at e
   cases e
  ·rw [List.getElem?_append_right (by simpa using hi),List.getElem?_replicate] at e
   split at e <;> cases e
 one:=fun i j a b C D fs gs e=>by
  unfold jo at e
  by_cases hi:i<ps.length
  ·rw [List.getElem?_append_left (by simpa using hi),List.getElem?_map,List.getElem?_eq_getElem hi] at e
   cases e
  ·rw [List.getElem?_append_right (by simpa using hi),List.getElem?_replicate] at e
   split at e <;> cases e
theorem FK {P:Program} {w:World} {K:PySem.W.Frag} {mg:Str->Option Value} {base:Heap} {k:Nat} {f:Addr} {name qual:Str} {params:Arguments} {body:List Stmt} {scope:Scope} {dV kV doc pm cdv ct oc:Value} {an od:Option Addr}
  {osl:Array (Option Value)} {N ps:List Str} {g:af->M Out} (lk:K.lookup f=some ⟨oc,od,.func (PySem.W.fnOf name qual params body scope dV kV doc pm an cdv ct),osl⟩) (hcd:PySem.W.codeIn K cdv qual=true) (S:ax N ps scope)
  (hb:∀ (A:Around) (outer:List Env) (s:Shared) (H:Hp) (E:XK),bR k (A.deeper (envOfC qual scope s.heap.objs.size f cdv))->mW ((k_ (bM P w) P w K mg base N qual scope f cdv A outer s H E).out fun _=>E) body (tS E g)) :
  aN P w K mg base (bM P w) (k+1) f (PySem.W.fnOf name qual params body scope dV kV doc pm an cdv ct) ps (fm ps.length (aw N.length g)):=by
 refine uL lk hcd S (fun vs H Q E h=>h.1) fun A outer s H vs Q E hr hs=>⟨_,hb A outer s H E hr,?_⟩
 obtain ⟨_,Hs,ps',sm,r,h⟩:=hs
 refine ⟨Hs,H,Hs,_,SR.start sm r,(az.bind h).imp (fun o ho=>?_) fun e he=>he⟩
 cases o with
 | rt p=>exact fun v Hs' H' gr rv=>ho v Hs' H' gr rv
 | nx env=>exact fun σ Hs' H' sr=>ho .cI Hs' H' sr.gr .cI
 | bk env=>exact ho.elim
 | ct env=>exact ho.elim
section
variable {X:Cx} {E:XK} {e:Expr} {es:List Expr} {pos p cpos:Pos} {x:Str} {C f:Addr} {k:Nat} {fd:FuncData} {ps:List Str} {fs:af->M (List PV)}
def kZ (C:Addr) (fs:af->M (List PV)):af->M Out:=fun env=>(fs env).bind fun ps=>cy (ps.length<=sizeLine) (some (.error (C,none)))
theorem yq (O:eQ X fun _=>E) (hcalm:X.calm=true) (hc:PySem.W.excIn X.K C eE "ValueError.__new__" = true) (c:ji X.K C) (ht:PySem.W.typeIn X.K (.ref C)=some (.type "type")) (kp:PySem.W.keepIn X.K (.ref C)=true) (hg:Gl X x) (hm:X.mg x=some (.ref C)) (ha:PA X (e::es) (tL (fun _=>E) fs))
  (hdb:(x==("__debug__" : Str))=false:=by decide) (he:starEach (e::es) X.env=(false,eval e X.env)::starEach es X.env:=by rfl) (hpl:(backTo cpos (starEach es X.env)).any (·.1)=false:=by rfl) :
  PS X (.Raise (some (.Call (.Name x p) (e::es) [] cpos)) none pos) (tS E (kZ C fs)):=by
 refine (vU O hcalm (CO hc kp hg hm ha hdb he hpl)).imp fun D σ H q=>o_ q fun B H₀ Hs H1 env ps' v sr rp hp=>?_
 obtain ⟨hz,hp⟩:=az.cy hp
 refine ⟨by rw [← rp.length];exact hz,fun a n=>⟨a,C,none,rfl,aC,c,ht,?_⟩⟩
 rw [uR]
 exact hp a (upd Hs a (jr C none a)) _ (sr.gr.trans (bB.new sr.gr.sub n)) (.zA aC)
def zC (K:PySem.W.Frag) (C:Addr) (fl:Str):Sp:=fun vs H Q _=>∃ a y,vs=[.ref a,y]/\H a=some (kK C none a)/\∀ d,H d=none->d≠a->Q .cI (upd (upd H d (.xd [(fl,y)])) a (kK C (some d) a))
def j8 (C:Addr) (fl:Str) (fs:af->M (List PV)):af->M Out:=fun env=>(fs env).bind fun ps=>match ps with
 | [p]=>some (.error (C,some [(fl,p)]))
 | _=>none
theorem ze {fl:Str} (O:eQ X fun _=>E) (hcalm:X.calm=true) (hc:kh X.K C "ValueError.__new__" f=true) (hf:PySem.W.isFn X.K (.ref f)=true) (c:ji X.K C) (ht:PySem.W.typeIn X.K (.ref C)=some (.type "type")) (kp:PySem.W.keepIn X.K (.ref C)=true) (F:aN X.prog X.w X.K X.mg X.base (bM X.prog X.w) k f fd ps (zC X.K C fl)) (hr:bR (k+1) X.A) (hb:Binds X.K fd ps [])
  (hg:Gl X x) (hm:X.mg x=some (.ref C)) (ha:PA X [e] (tL (fun _=>E) fs))
  (hdb:(x==("__debug__" : Str))=false:=by decide) (he:starEach [e] X.env=(false,eval e X.env)::starEach [] X.env:=by rfl) (hpl:(backTo cpos (starEach [] X.env)).any (·.1)=false:=by rfl) :
  PS X (.Raise (some (.Call (.Name x p) [e] [] cpos)) none pos) (tS E (j8 C fl fs)):=by
 refine (vU O hcalm (Bh hc hf kp F hr hb hg hm ha hdb he hpl)).imp fun D σ H q=>o_ q fun B H₀ Hs H1 env ps' v sr rp hp=>?_
 match ps',rp,hp with
 | [],_,hp=>exact hp.elim
 | _::_::_,_,hp=>exact hp.elim
 | [y],rp,hp =>
  obtain ⟨v,rfl,ry⟩:=rp.one
  refine ⟨by show 1<=sizeLine;decide,fun a n=>⟨a,v,rfl,aC,fun d hd hda=>⟨rfl,a,C,some d,rfl,aC,c,ht,?_⟩⟩⟩
  rw [uR]
  have hd1:H1 d=none:=by rw [au hda] at hd;exact hd
  have g1:=bB.new (o:=.xd [(fl,v)]) sr.gr.sub hd1
  have hn2:upd H1 d (.xd [(fl,v)]) a=none:=by rw [au (Ne.symm hda)];exact n
  have g2:=bB.new (o:=jr C (some d) a) g1.sub hn2
  have hH:upd (upd (upd H1 a (kK C none a)) d (.xd [(fl,v)])) a (jr C (some d) a)=upd (upd H1 d (.xd [(fl,v)])) a (jr C (some d) a):=by
   funext b
   by_cases z:b=a
   ·subst z;rw [aC,aC]
   ·rw [au z,au z]
    by_cases z2:b=d
    ·subst z2;rw [aC,aC]
    ·rw [au z2,au z2,au z]
  rw [hH]
  refine hp a (upd (upd Hs d (.xd [(fl,v)])) a (jr C (some d) a)) _ ((sr.gr.trans g1).trans g2) ?_
  exact .y_ aC (by rw [au hda];exact aC) (.cons ((ry.mono g1.st).mono g2.st) .nil)
theorem pA {P:Program} {w:World} {K:PySem.W.Frag} {mg:Str->Option Value} {base:Heap} {f:Addr} {name qual:Str} {params:Arguments} {scope:Scope} {dV kV doc pm cdv ct oc:Value} {an od:Option Addr}
  {osl:Array (Option Value)} {n0 n1 fl:Str} {p0 p1 p2 p3:Pos} (lk:K.lookup f=some ⟨oc,od,.func (PySem.W.fnOf name qual params [.Assign [.Attribute (.Name n0 p0) fl p1] (.Name n1 p2) p3] scope dV kV doc pm an cdv ct),osl⟩) (hcd:PySem.W.codeIn K cdv qual=true) (S:ax [n0,n1] [n0,n1] scope)
  (c:ji K C) (ho:((PySem.W.clsIn K C).any fun cd=>gG cd.mro)=true) (na:bK K C fl) (v0:DF scope n0) (v1:DF scope n1) (d0:(n0==("__debug__" : Str))=false) (d1:(n1==("__debug__" : Str))=false) (c0:(n0==("__classdict__" : Str))=false) (c1:(n1==("__classdict__" : Str))=false)
  (hs:∀ env,swapsWith (.Name n1 p2) (some (.Attribute (.Name n0 p0) fl p1)) p3.line env=pure false) :
  aN P w K mg base (bM P w) 1 f (PySem.W.fnOf name qual params [.Assign [.Attribute (.Name n0 p0) fl p1] (.Name n1 p2) p3] scope dV kV doc pm an cdv ct) [n0,n1] (zC K C fl):=by
 refine uL (k:=0) lk hcd S (fun vs H Q E h=>by obtain ⟨a,y,rfl,_⟩:=h;rfl) fun A outer s H vs Q E hr h=>?_
 obtain ⟨a,y,rfl,ha,hq⟩:=h
 refine ⟨_,xX (AR (pd (i:=0) rfl v0 d0 c0) (pd (i:=1) rfl v1 d1 c1) (hs _)),?_⟩
 exact ⟨y,rfl,.ref a,rfl,a,C,rfl,ha,c,ho,na,hq⟩
end
end L2
namespace L2
open PySem PySem.Spec PyProof.Rows
structure j_ (J:It) (Hs1:Hp) (xs:List PV):Prop where
 stop:∀ (i:Nat) (Hs H:Hp),aX Hs1 Hs->aX Hs H->xs.length<=i->J.stop i H
 go:∀ (i:Nat) (Hs H:Hp),aX Hs1 Hs->aX Hs H->i<xs.length->J.go i H
 xa:∀ (i:Nat) (Hs H:Hp) (x:V) (H2:Hp),aX Hs1 Hs->aX Hs H->i<xs.length->J.xa i H x H2->∃ p Hs2,xs[i]?=some p/\bB Hs H Hs2 H2/\Rep Hs2 p x
def KI (R:It->Hp->Prop):Hp->Hp->List PV->Prop:=fun Hs H xs=>∀ J Hs' H',bB Hs H Hs' H'->j_ J Hs' xs->R J H'
def CH (E:St->XK) (wi:TI) (it:af->M (List PV)):Prop:=∀ (σ:St) (H:Hp) (R:It->Hp->Prop),tG E it (KI R) σ H->wi σ H R
theorem KI.g {R:It->Hp->Prop}:KG (KI R):=fun Hs H Hs' H' b k g J Hs2 H2 g2 o=>k J Hs2 H2 (g.trans g2) o
section
variable {E:St->XK} {K:PySem.W.Frag} {f:af->M PV} {fs:af->M (List PV)}
theorem AY {b:Bool} {a:Addr} {Hs1:Hp} {xs:List PV} {vs:List V} (hq:∀ Hs' H',aX Hs1 Hs'->aX Hs' H'->kE K H' b a vs) (hr:aK Hs1 xs vs):j_ (Tt K b a) Hs1 xs where
 stop:=fun i Hs H s1 s2 hi=>by
  have q:=hq Hs H s1 s2
  cases b with
  | true=>exact ⟨vs,q,by rw [← hr.length];exact hi⟩
  | false=>exact ⟨vs,q,by rw [← hr.length];exact hi⟩
 go:=fun i Hs H s1 s2 hi=>by
  have q:=hq Hs H s1 s2
  obtain ⟨v,e,_⟩:=hr.get (List.getElem?_eq_getElem hi)
  cases b with
  | true=>exact ⟨vs,v,q,e⟩
  | false=>exact ⟨vs,v,q,e⟩
 xa:=fun i Hs H x H2 s1 s2 hi y=>by
  have q:=hq Hs H s1 s2
  obtain ⟨v,e,r⟩:=hr.get (List.getElem?_eq_getElem hi)
  have z:H2=H/\vs[i]?=some x:=by
   cases b with
   | true=>exact ⟨y.1,y.2 vs q⟩
   | false=>exact ⟨y.1,y.2 vs q⟩
  obtain ⟨rfl,z⟩:=z
  rw [e] at z;cases z
  exact ⟨xs[i],Hs,List.getElem?_eq_getElem hi,.refl s2,r.mono s1⟩
theorem cY:CH E (JG K (tE E f)) (itemsOf f):=by
 intro σ H R q
 refine bU (K:=KI R) KI.g q fun B H₀ Hs H1 env p v sr rp hp=>?_
 cases e:bC p with
 | none=>rw [e] at hp;exact hp.elim
 | some xs =>
  rw [e] at hp
  obtain ⟨b,a,vs,rfl,hq,hr⟩:=ju (K:=K) sr.gr.sub rp e
  exact ⟨b,a,rfl,⟨vs,hq Hs H1 (fun _ _ z=>z) sr.gr.sub⟩,hp (Tt K b a) Hs H1 (.refl sr.gr.sub) (AY hq hr)⟩
def k9 (o:List PV->M (List PV)) (fs:af->M (List PV)):af->M (List PV):=fun env=>(fs env).bind o
theorem v7 {lo:Int} {n:Nat} {Hs1:Hp}:j_ (IJ lo n) Hs1 ((List.range n).map fun (i:Nat)=>PV.int (lo+(i:Int))) where
 stop:=fun i Hs H s1 s2 hi=>show n<=i by simpa using hi
 go:=fun i Hs H s1 s2 hi=>show i<n by simpa using hi
 xa:=fun i Hs H x H2 s1 s2 hi y=>by
  obtain ⟨rfl,rfl⟩:=y
  exact ⟨_,Hs,yV (by simpa using hi),.refl s2,.int _⟩
theorem aJ {α:Type} (x:M α):x.bind M.ok=x:=by
 cases x with
 | none=>rfl
 | some x=>cases x <;> rfl
theorem hU:CH E (E4 (tL E fs)) (k9 qo fs):=by
 intro σ H R q
 refine dz (K:=KI R) KI.g q fun B H₀ Hs H1 env ps v sr rp hp=>?_
 rw [← aJ (qo ps)] at hp
 obtain ⟨n,rfl,h1,h2,hp⟩:=yv hp
 obtain ⟨w,rfl,rw'⟩:=rp.one
 cases rw'
 exact ⟨n,rfl,h1,h2,hp _ Hs H1 (.refl sr.gr.sub) v7⟩
theorem B0:CH E (EN (tL E fs)) (k9 yR fs):=by
 intro σ H R q
 refine dz (K:=KI R) KI.g q fun B H₀ Hs H1 env ps v sr rp hp=>?_
 rw [← aJ (yR ps)] at hp
 obtain ⟨n,m,rfl,h1,hp⟩:=yt hp
 obtain ⟨w,u,rfl,rw',ru⟩:=rp.two
 cases rw'
 cases ru
 exact ⟨n,m,rfl,h1,hp _ Hs H1 (.refl sr.gr.sub) v7⟩
theorem Aw {xs ys:List PV} {i:Nat} (h1:i<xs.length) (h2:i<ys.length):(List.zipWith (fun a b=>PV.tup [a,b]) xs ys)[i]?=some (.tup [xs[i],ys[i]]):=by
 rw [List.getElem?_zipWith,List.getElem?_eq_getElem h1,List.getElem?_eq_getElem h2]
theorem Bv {b1 b2:Bool} {a1 a2:Addr} {Hs1:Hp} {xs ys:List PV} {vs us:List V} (hq1:∀ Hs' H',aX Hs1 Hs'->aX Hs' H'->kE K H' b1 a1 vs) (hr1:aK Hs1 xs vs) (hq2:∀ Hs' H',aX Hs1 Hs'->aX Hs' H'->kE K H' b2 a2 us) (hr2:aK Hs1 ys us) :
  j_ (Rz K b1 b2 a1 a2) Hs1 (List.zipWith (fun a b=>PV.tup [a,b]) xs ys) where
 stop:=fun i Hs H s1 s2 hi=>by
  rw [List.length_zipWith,hr1.length,hr2.length] at hi
  exact ⟨vs,us,hq1 Hs H s1 s2,hq2 Hs H s1 s2,by omega⟩
 go:=fun i Hs H s1 s2 hi=>by
  rw [List.length_zipWith] at hi
  obtain ⟨v,e,_⟩:=hr1.get (List.getElem?_eq_getElem (show i<xs.length by omega))
  obtain ⟨u,e',_⟩:=hr2.get (List.getElem?_eq_getElem (show i<ys.length by omega))
  exact ⟨vs,us,v,u,hq1 Hs H s1 s2,hq2 Hs H s1 s2,e,e'⟩
 xa:=fun i Hs H x H2 s1 s2 hi y=>by
  rw [List.length_zipWith] at hi
  have l1:i<xs.length:=by omega
  have l2:i<ys.length:=by omega
  obtain ⟨v,e,r⟩:=hr1.get (List.getElem?_eq_getElem l1)
  obtain ⟨u,e',r'⟩:=hr2.get (List.getElem?_eq_getElem l2)
  obtain ⟨pa,v',u',hn,rfl,rfl,y1,y2⟩:=y
  have z1:=y1 vs (hq1 Hs H s1 s2)
  have z2:=y2 us (hq2 Hs H s1 s2)
  rw [e] at z1;cases z1
  rw [e'] at z2;cases z2
  have gr:=bB.new (o:=.tup [v,u]) s2 hn
  exact ⟨_,_,Aw l1 l2,gr,.tup aC (.cons ((r.mono s1).mono gr.st) (.cons ((r'.mono s1).mono gr.st) .nil))⟩
theorem kA:CH E (Ir K (tL E fs)) (k9 zip2 fs):=by
 intro σ H R q
 refine dz (K:=KI R) KI.g q fun B H₀ Hs H1 env ps v sr rp hp=>?_
 rw [← aJ (zip2 ps)] at hp
 obtain ⟨p,q,xs,ys,rfl,e1,e2,hp⟩:=zH hp
 obtain ⟨w,u,rfl,rw',ru⟩:=rp.two
 obtain ⟨b1,a1,vs,rfl,hq1,hr1⟩:=ju (K:=K) sr.gr.sub rw' e1
 obtain ⟨b2,a2,us,rfl,hq2,hr2⟩:=ju (K:=K) sr.gr.sub ru e2
 exact ⟨b1,b2,a1,a2,rfl,⟨vs,hq1 Hs H1 (fun _ _ z=>z) sr.gr.sub⟩,⟨us,hq2 Hs H1 (fun _ _ z=>z) sr.gr.sub⟩,hp _ Hs H1 (.refl sr.gr.sub) (Bv hq1 hr1 hq2 hr2)⟩
end
theorem bj {X:Cx} {E:XK} {tg iter:Expr} {pos:Pos} {g:TG} {set:PV->af->M af} {body:af->M Out} {bd:List Stmt} {wi:TI} {it:af->M (List PV)} (O:eQ X fun _=>E) (hc:X.calm=true) (hi:PI X tg iter wi) (hv:CH (fun _=>E) wi it) (hg:PG X tg g) (tgv:HZ E g set) (hb:mW X bd (tS E body)) (hs:∀ x,foldedSetIterable iter X.env x=pure x:=by intro _;rfl) :
  PS X (.For tg iter bd [] pos) (tS E (gK it set body)):=by
 refine (FO O.own hc hi hg hb hs).imp fun D σ H q=>hv σ H _ ?_
 obtain ⟨B,H₀,Hs,env,sr,q⟩:=q
 refine ⟨B,H₀,Hs,env,sr,(az.bind q).imp (fun xs hp J Hs' H' gr ok=>?_) fun e he=>he.grow sr.gr⟩
 have sr':=sr.grow gr
 refine ⟨fun i m σ H=>m=xs.length-i/\i<=xs.length/\Jv E set body D B H₀ Hs' xs i σ H,⟨xs.length,by simp,Nat.zero_le _,Hs',env,sr',fun _ _ z=>z,hp⟩,?_⟩
 rintro i m σ' H2 ⟨rfl,hi,Hs2,env2,sr2,s2,h2⟩
 by_cases hlt:i<xs.length
 ·refine .inr ⟨ok.go i Hs2 H2 s2 sr2.gr.sub hlt,Jv E set body D B H₀ Hs' xs (i+1),fun σ3 H3 j=>⟨xs.length-(i+1),by omega,rfl,hlt,j⟩,fun x H3 y=>?_⟩
  obtain ⟨p,Hs3,ep,g3,r3⟩:=ok.xa i Hs2 H2 x H3 s2 sr2.gr.sub hlt y
  exact Jv.turn (Hx:=H2) (H1:=H2) tgv ep sr2 s2 h2 g3 r3
 ·have e:i=xs.length:=by omega
  refine .inl ⟨ok.stop i Hs2 H2 s2 sr2.gr.sub (by omega),?_⟩
  exact Jv.done (E:=E) (set:=set) (body:=body) (xs:=xs) (B:=B) (H₀:=H₀) (Hs1:=Hs') (n:=i) ⟨Hs2,env2,sr2,s2,h2⟩ (by omega)
end L2
namespace L2
open PySem PySem.Spec PyProof.Rows
abbrev EF:St->XK:=fun _ _ _ _=>False
def n9 (env:af):Prop:=∀ (i:Nat) (x:SV),env[i]?=some (some x)->∃ p,x=.sh p
theorem n9.ow {env:af} (n:n9 env) {i:Nat} {xs:List PV} (e:env[i]?=some (some (.ow xs))):False:=by obtain ⟨p,z⟩:=n i _ e;cases z
theorem n9.bd {env:af} (n:n9 env) {i:Nat} {a C:Addr} {fs:List (Str×PV)} (e:env[i]?=some (some (.bd a C fs))):False:=by obtain ⟨p,z⟩:=n i _ e;cases z
def J6 {α:Type}:M α->M α
 | some (.ok a)=>some (.ok a)
 | _=>none
theorem az.J6 {α:Type} {x:M α} {Q:α->Prop} {E:EX->Prop} (h:az (L2.J6 x) Q E):az x Q (fun _=>False):=by
 cases x with
 | none=>exact h
 | some x=>cases x with
  | ok a=>exact h
  | error e=>exact h
def lp (n:Nat) (js:List Nat) (env:af):af:=List.replicate n none++js.map fun j=>match env[j]? with
 | some (some (.sh p))=>some (.sh p)
 | _=>none
theorem rY {n:Nat} {js:List Nat} {env:af} {i:Nat} {x:SV} (h:(lp n js env)[i]?=some (some x)):∃ j p,n<=i/\js[i-n]?=some j/\env[j]?=some (some (.sh p))/\x=.sh p:=by
 unfold lp at h
 by_cases hi:i<n
 ·rw [List.getElem?_append_left (by simpa using hi),List.getElem?_replicate] at h
  split at h <;> cases h
 ·rw [List.getElem?_append_right (by simpa using hi),List.getElem?_map,List.length_replicate] at h
  cases hj:js[i-n]? with
  | none=>rw [hj] at h;cases h
  | some j =>
   rw [hj] at h
   have h':(match env[j]? with | some (some (.sh p))=>some (SV.sh p) | _=>none)=some x:=Option.some.inj h
   split at h'
   ·rename_i p e
    cases h'
    exact ⟨j,p,by omega,rfl,e,rfl⟩
   ·cases h'
theorem g_ {n:Nat} {js:List Nat} {env:af}:n9 (lp n js env):=fun i xs e=>by
 obtain ⟨_,p,_,_,_,z⟩:=rY e
 exact ⟨p,z⟩
theorem SR.block {B H₀ Hs H:Hp} {σ:St} {env:af} {ts:List Str} {js:List Nat} {D:Addr} (r:SR B H₀ Hs H σ env) (hD:H D=none):SR Hs H Hs (upd H D (.lst [])) (gS ts js σ) (lp ts.length js env) where
 gr:=by
  have ne:∀ c u,H c=some u->c≠D:=fun c u q z=>by rw [z,hD] at q;cases q
  exact ⟨fun _ _ e=>e,fun c u e=>by rw [au (ne c u e)];exact e,fun c u e=>by rw [au (ne c u (r.gr.sub c u e))];exact r.gr.sub c u e,fun _ _ e _=>e⟩
 len:=by unfold gS lp;simp
 sh:=fun i p e=>by
  obtain ⟨j,q,hn,hj,he,z⟩:=rY e
  cases z
  obtain ⟨v,h1,h2⟩:=r.sh j p he
  refine ⟨v,?_,h2⟩
  unfold gS
  rw [List.getElem?_append_right (by simpa using hn),List.getElem?_map,List.length_map,hj]
  show some (σ[j]?).join=_
  rw [h1];rfl
 ow:=fun i xs e=>(g_.ow e).elim
 sep:=fun i j xs ys a _ e=>(g_.ow e).elim
 bd:=fun i a C fs e=>(g_.bd e).elim
 one:=fun i j a b C D fs gs e=>(g_.bd e).elim
theorem SR.G3 {B H₀ Hs H:Hp} {σ:St} {env:af} {D:Addr} {o:HO} (r:SR B H₀ Hs H σ env) (n:n9 env) (h1:Hs D=none) (h2:H₀ D=none):SR B H₀ Hs (upd H D o) σ env where
 gr:=⟨r.gr.st,fun c u q=>by rw [au (fun z=>by rw [z,h2] at q;cases q)];exact r.gr.al c u q,fun c u q=>by rw [au (fun z=>by rw [z,h1] at q;cases q)];exact r.gr.sub c u q,r.gr.nw⟩
 len:=r.len
 sh:=r.sh
 ow:=fun i xs e=>(n.ow e).elim
 sep:=fun i j xs ys a _ e=>(n.ow e).elim
 bd:=fun i a C fs e=>(n.bd e).elim
 one:=fun i j a b C D fs gs e=>(n.bd e).elim
def bX (set:PV->af->M af) (t:Option (af->M Bool)) (f:af->M PV):List PV->af->M (List PV)
 | [],_=>M.ok []
 | x::xs,env=>(set x env).bind fun e=>match t with
  | none=>(f e).bind fun y=>(bX set t f xs e).bind fun ys=>M.ok (y::ys)
  | some t'=>(t' e).bind fun b=>if b=true then (f e).bind fun y=>(bX set t f xs e).bind fun ys=>M.ok (y::ys) else bX set t f xs e
def fy (it:af->M (List PV)) (set:PV->af->M af) (t:Option (af->M Bool)) (f:af->M PV) (n:Nat) (js:List Nat):af->M (List PV):=fun env=>(it env).bind fun xs=>cy (xs.length<=sizeLine) (J6 (bX set t f xs (lp n js env)))
def xT (set:PV->af->M af):Prop:=∀ p env e,set p env=some (.ok e)->n9 env->n9 e
theorem kB {i:Nat} {env:af} {p:PV} (n:n9 env):n9 (env.set i (some (.sh p))):=fun j xs e=>by
 rw [List.getElem?_set] at e
 by_cases z:i=j
 ·rw [if_pos z] at e
  split at e
  ·cases e;exact ⟨p,rfl⟩
  ·cases e
 ·rw [if_neg z] at e;exact n j xs e
theorem cx {i:Nat}:xT (cn i):=fun p env e h n=>by
 cases h
 exact kB n
theorem hX {i j:Nat}:xT (bY i j):=fun p env e h n=>by
 unfold bY at h
 split at h
 ·cases h;exact kB (kB n)
 ·cases h
section
variable {set:PV->af->M af} {t:Option (af->M Bool)} {f:af->M PV} {Q:VK} {Hs1 H1:Hp} {D:Addr} {xs:List PV}
def Jc (set:PV->af->M af) (t:Option (af->M Bool)) (f:af->M PV) (Q:VK) (Hs1 H1:Hp) (D:Addr) (xs:List PV) (i:Nat) (σ:St) (H:Hp):Prop:=∃ Hs env ys vs,SR Hs1 H1 Hs H σ env/\n9 env/\H D=some (.lst vs)/\Hs D=none/\aK Hs ys vs/\ys.length<=i ∧
 az (bX set t f (xs.drop i) env) (fun zs=>KO Q Hs1 H1 (ys++zs)) (fun _=>False)
def rem (H:Hp) (D:Addr):Hp:=fun a=>if a=D then none else H a
theorem Cy {H:Hp} {D:Addr}:rem H D D=none:=by unfold rem;rw [if_pos rfl]
theorem w9 {H:Hp} {D a:Addr} (n:a≠D):rem H D a=H a:=by unfold rem;rw [if_neg n]
theorem DV {H:Hp} {D:Addr} {o:HO} (h:H D=some o):upd (rem H D) D o=H:=by
 funext a
 by_cases z:a=D
 ·subst z;rw [aC,h]
 ·rw [au z,w9 z]
theorem Jc.done {i:Nat} {σ:St} {H:Hp} (hD:H1 D=none) (j:Jc set t f Q Hs1 H1 D xs i σ H) (hi:xs.length<=i):Q (.ref D) H:=by
 obtain ⟨Hs,env,ys,vs,sr,n,h1,h2,r,_,h⟩:=j
 rw [List.drop_eq_nil_of_le hi] at h
 have h':KO Q Hs1 H1 (ys++[]):=h
 rw [List.append_nil] at h'
 have gr:bB Hs1 H1 Hs (rem H D):=by
  refine ⟨sr.gr.st,fun c u q=>?_,fun c u q=>?_,sr.gr.nw⟩
  ·rw [w9 (fun z=>by rw [z,hD] at q;cases q)];exact sr.gr.al c u q
  ·rw [w9 (fun z=>by rw [z,h2] at q;cases q)];exact sr.gr.sub c u q
 have:=h' vs D Hs (rem H D) gr r Cy
 rw [DV h1] at this
 exact this
theorem Jc.put {i:Nat} {σ:St} {Hs H:Hp} {env:af} {ys:List PV} {vs:List V} {y:PV} {v:V} (hD:H1 D=none) (sr:SR Hs1 H1 Hs H σ env) (n:n9 env) (h1:H D=some (.lst vs)) (h2:Hs D=none) (r:aK Hs ys vs) (hy:ys.length<=i) (hi:i<sizeLine) (rv:Rep Hs y v)
  (h:az ((bX set t f (xs.drop (i+1)) env).bind fun zs=>M.ok (y::zs)) (fun zs=>KO Q Hs1 H1 (ys++zs)) (fun _=>False)) :
  ∃ us,H D=some (.lst us)/\us.length<sizeLine/\Jc set t f Q Hs1 H1 D xs (i+1) σ (upd H D (.lst (us++[v]))):=by
 refine ⟨vs,h1,by rw [← r.length];omega,Hs,env,ys++[y],vs++[v],sr.G3 n h2 hD,n,aC,h2,r.snoc rv,by rw [List.length_append];show ys.length+1<=i+1;omega,(az.bind h).imp (fun zs hz=>?_) fun _ z=>z⟩
 have hz':KO Q Hs1 H1 (ys++(y::zs)):=hz
 rw [List.append_assoc]
 exact hz'
end
section
variable {X:Cx} {E:St->XK} {tg elt iter c:Expr} {scope:Scope} {cl:List (Str×Addr)} {pos:Pos} {wi:TI} {it:af->M (List PV)} {g:TG} {set:PV->af->M af} {f:af->M PV} {u:af->M Bool} {ts fs:List Str} {js:List Nat}
theorem x_ {C:Addr} {s₀:Shared} {H₀:Hp} {ex:List Addr} {pins:List (Addr×Obj)} {N:List Str}:eQ (C8 X scope cl N C s₀ H₀ ex pins) EF where
 pass:=fun _ _ _ _ _ _ _ h=>by
  obtain ⟨_,_,_,_,_,_,_,_,_,_,_,_,_,z⟩:=h
  exact z.elim
 new:=fun _ _ _ _ _ _ _ _ _ z=>z.elim
 own:=PassesOwn.never
theorem bI (hcalm:X.calm=true)
  (hclos:closureFor scope X.env=pure cl) (hk:scope.kind=.function) (nc:lq scope.names=true) (lo:tP scope.names=true) (fh:sM cl scope.names=true) (ag:jt X cl) (fr:nV X scope cl fs js)
  (hi:PI X tg iter wi) (hv:CH E wi it) (hg:∀ C s₀ H₀ ex pins,PG (C8 X scope cl (ts++fs) C s₀ H₀ ex pins) tg g) (tgv:∀ E,HZ E g set) (so:xT set) (he:∀ C s₀ H₀ ex pins,PE (C8 X scope cl (ts++fs) C s₀ H₀ ex pins) elt (tE EF f))
  (hs:∀ x,foldedSetIterable iter X.env x=pure x:=by intro _;rfl):PE X (.ListComp elt [⟨tg,iter,[],0⟩] scope pos) (tO E (fy it set none f ts.length js)):=by
 refine (AE hcalm hclos hk nc lo fh ag fr hi hg he hs).imp fun σ H Q q=>hv σ H _ ?_
 obtain ⟨B,H₀,Hs,env,sr,q⟩:=q
 refine ⟨B,H₀,Hs,env,sr,(az.bind q).imp (fun xs hp J Hs1 H1 gr ok D hD=>?_) fun e he=>he⟩
 obtain ⟨hz,hp⟩:=az.cy hp
 have hp:=az.J6 hp
 have sr1:=sr.grow gr
 refine ⟨fun i m σ H=>m=xs.length-i/\i<=xs.length/\Jc set none f Q Hs1 H1 D xs i σ H,⟨xs.length,by simp,Nat.zero_le _,Hs1,_,[],[],sr1.block hD,g_,aC,?_,.nil,Nat.le_refl _,hp.imp (fun zs hz vs p Hs2 H2 g2 r n=>hz vs p Hs2 H2 (gr.trans g2) r n) fun _ z=>z⟩,?_⟩
 ·cases z:Hs1 D with
  | none=>rfl
  | some o=>have:=gr.sub _ _ z;rw [hD] at this;cases this
 rintro i m σ' H2 ⟨rfl,hi,Hs2,env2,ys,vs,sr2,n2,d1,d2,r2,l2,h2⟩
 by_cases hlt:i<xs.length
 ·refine .inr ⟨ok.go i Hs2 H2 sr2.gr.st sr2.gr.sub hlt,Jc set none f Q Hs1 H1 D xs (i+1),fun σ3 H3 j=>⟨xs.length-(i+1),by omega,rfl,hlt,j⟩,fun x H3 y=>?_⟩
  obtain ⟨p,Hs3,ep,g3,r3⟩:=ok.xa i Hs2 H2 x H3 sr2.gr.st sr2.gr.sub hlt y
  have hd:xs.drop i=p::xs.drop (i+1):=by
   rw [List.drop_eq_getElem_cons hlt]
   rw [List.getElem?_eq_getElem hlt] at ep
   rw [Option.some.inj ep]
  rw [hd] at h2
  have h3:=az.bind h2
  have sr3:=sr2.grow g3
  refine tgv (fun _ _ _=>False) Hs1 H1 Hs3 H3 σ' env2 p x _ (fun _=>False) sr3 r3 ?_
  cases hset:set p env2 with
  | none=>rw [hset] at h3;exact h3
  | some z=>cases z with
   | error e=>rw [hset] at h3;exact h3
   | ok e3 =>
    rw [hset] at h3
    intro σ4 sr4
    have n4:=so p env2 e3 hset n2
    refine ⟨Hs1,H1,Hs3,e3,sr4,(az.bind h3).imp (fun y hy v Hs5 H5 g5 r5=>?_) fun _ z=>z.elim⟩
    exact Jc.put (set:=set) (t:=none) (f:=f) hD (sr4.grow g5) n4 (g5.al _ _ (g3.al _ _ d1)) (g5.nw _ _ (g3.nw _ _ d2 d1) (g3.al _ _ d1)) ((r2.mono g3.st).mono g5.st) l2 (by omega) r5 hy
 ·refine .inl ⟨ok.stop i Hs2 H2 sr2.gr.st sr2.gr.sub (by omega),?_⟩
  exact Jc.done (set:=set) (t:=none) (f:=f) (xs:=xs) (Hs1:=Hs1) (H1:=H1) (i:=i) hD ⟨Hs2,env2,ys,vs,sr2,n2,d1,d2,r2,l2,h2⟩ (by omega)
def gu (fo:af->M (List PV)):af->M PV:=fun env=>(fo env).bind fun ps=>M.ok (.lst ps)
theorem eD {fo:af->M (List PV)} {e:Expr} (he:PE X e (tO E fo)):PE X e (tE E (gu fo)):=he.imp fun σ H Q q=>by
 obtain ⟨B,H₀,Hs,env,sr,q⟩:=q
 refine ⟨B,H₀,Hs,env,sr,(az.bind q).imp (fun ps hp vs p Hs' H' g r n=>?_) fun e he=>he⟩
 have gn:=bB.new (o:=.lst vs) g.sub n
 exact hp _ _ _ (g.trans gn) (.lst aC (r.mono gn.st))
end
end L2
namespace L2
open PySem PySem.Spec PyProof.Rows
def uw (f:Str) (v:PV):List (Str×PV)->List (Str×PV)
 | []=>[(f,v)]
 | (g,x)::r=>if g=f then (g,v)::r else (g,x)::uw f v r
theorem i8.put {H:Hp} {f:Str} {p:PV} {v:V} (h:Rep H p v):∀ {fs:List (Str×PV)} {vs:List (Str×V)},i8 H fs vs->i8 H (uw f p fs) (jN f v vs)
 | _,_,.nil=>.cons h .nil
 | (g,x)::r,_,.cons hx hr=>by
  unfold uw jN
  by_cases z:g=f
  ·rw [if_pos z,if_pos z];exact .cons h hr
  ·rw [if_neg z,if_neg z];exact .cons hx (hr.put h)
theorem i8.length {H:Hp}:∀ {fs:List (Str×PV)} {vs:List (Str×V)},i8 H fs vs->fs.length=vs.length
 | _,_,.nil=>rfl
 | _,_,.cons _ r=>by simp [r.length]
theorem SR.Sk {B H₀ Hs H:Hp} {σ:St} {env:af} {i:Nat} {a C dx:Addr} {fs gs:List (Str×PV)} {us:List (Str×V)} (r:SR B H₀ Hs H σ env) (e:env[i]?=some (some (.bd a C fs))) (h:i8 Hs gs us):SR B H₀ Hs (upd H a (.ins C dx us)) σ (env.set i (some (.bd a C gs))):=by
 obtain ⟨dx0,vs,h1,h2,h3,h4,h5⟩:=r.bd i a C fs e
 have nS:∀ c u,Hs c=some u->c≠a:=fun c u q z=>by rw [z,h3] at q;cases q
 have n0:∀ c u,H₀ c=some u->c≠a:=fun c u q z=>by rw [z,h4] at q;cases q
 refine ⟨⟨r.gr.st,fun c u q=>by rw [au (n0 c u q)];exact r.gr.al c u q,fun c u q=>by rw [au (nS c u q)];exact r.gr.sub c u q,r.gr.nw⟩,by rw [List.length_set];exact r.len,fun j q ej=>?_,fun j zs ej=>?_,fun j k y1 y2 b nj e1 e2 e3 e4=>?_,fun j ba D fs' ej=>?_,fun j k _ _ C' D fs' gs' e1 e2=>?_⟩
 ·rw [List.getElem?_set] at ej
  by_cases z:i=j
  ·subst z
   rw [if_pos rfl] at ej
   split at ej <;> cases ej
  ·rw [if_neg z] at ej;exact r.sh j q ej
 ·rw [List.getElem?_set] at ej
  by_cases z:i=j
  ·subst z
   rw [if_pos rfl] at ej
   split at ej <;> cases ej
  ·rw [if_neg z] at ej
   obtain ⟨b,ws,q1,q2,q3,q4,q5⟩:=r.ow j zs ej
   have nb:b≠a:=fun w=>by subst w;rw [h2] at q2;cases q2
   exact ⟨b,ws,q1,by rw [au nb];exact q2,q3,q4,q5⟩
 ·rw [List.getElem?_set] at e1 e2
  by_cases z:i=j
  ·subst z
   rw [if_pos rfl] at e1
   split at e1 <;> cases e1
  ·by_cases z2:i=k
   ·subst z2
    rw [if_pos rfl] at e2
    split at e2 <;> cases e2
   ·rw [if_neg z] at e1
    rw [if_neg z2] at e2
    exact r.sep j k y1 y2 b nj e1 e2 e3 e4
 ·rw [List.getElem?_set] at ej
  by_cases z:i=j
  ·subst z
   rw [if_pos rfl] at ej
   split at ej
   ·cases ej;exact ⟨dx,us,h1,aC,h3,h4,h⟩
   ·cases ej
  ·rw [if_neg z] at ej
   exact absurd (r.one i j _ _ _ _ _ _ e ej) z
 ·have o1:∃ b D w,env[j]?=some (some (.bd b D w)):=by
   rw [List.getElem?_set] at e1
   by_cases z:i=j
   ·subst z;exact ⟨_,_,_,e⟩
   ·rw [if_neg z] at e1;exact ⟨_,_,_,e1⟩
  have o2:∃ b D w,env[k]?=some (some (.bd b D w)):=by
   rw [List.getElem?_set] at e2
   by_cases z:i=k
   ·subst z;exact ⟨_,_,_,e⟩
   ·rw [if_neg z] at e2;exact ⟨_,_,_,e2⟩
  obtain ⟨_,_,w1,o1⟩:=o1
  obtain ⟨_,_,w2,o2⟩:=o2
  exact r.one j k _ _ _ _ _ _ o1 o2
def Bz (i:Nat) (C:Addr) (f:Str) (p:PV) (env:af):M Out:=match env[i]? with
 | some (some (.bd a C' fs))=>cy (C'=C/\fs.length<1000) (M.ok (.nx (env.set i (some (.bd a C (uw f p fs))))))
 | _=>none
def jC (i:Nat) (C:Addr) (fl:Str) (f:af->M PV):af->M Out:=fun env=>(f env).bind fun p=>Bz i C fl p env
section
variable {X:Cx} {E:XK} {e:Expr} {pos pos' px:Pos} {f:af->M PV} {i:Nat} {x fl:Str} {C:Addr}
theorem lu (hi:X.N[i]?=some x) (hv:DF X.env.scope x) (c:mj X.K C) (na:bK X.K C fl) (he:PE X e (tE (fun _=>E) f)) (hd:(x==("__debug__" : Str))=false:=by decide) (hcd:(x==("__classdict__" : Str))=false:=by decide)
  (hs:swapsWith e (some (.Attribute (.Name x px) fl pos')) pos.line X.env=pure false:=by rfl):PS X (.Assign [.Attribute (.Name x px) fl pos'] e pos) (tS E (jC i C fl f)):=by
 refine (HI (pd hi hv hd hcd) he hs).imp fun D σ H q=>mi q fun B H₀ Hs H1 env p v sr rp hp=>?_
 unfold Bz at hp
 split at hp
 ·rename_i a C' fs ex
  obtain ⟨⟨rfl,hz⟩,hp⟩:=az.cy hp
  obtain ⟨dx,vs,h1,h2,h3,h4,h5⟩:=sr.bd i a _ fs ex
  exact ⟨.ref a,h1,a,_,dx,vs,rfl,h2,c,na,by rw [← h5.length];exact hz,hp σ Hs _ (sr.Sk ex (h5.put rp))⟩
 ·exact hp.elim
end
def xo (m:Nat) (a C:Addr) (ps:List PV):af:=some (.bd a C [])::jo (m-1) ps
def An (a C:Addr) (env:af):M (List (Str×PV)):=match (env[0]?:Option (Option SV)) with
 | some (some (.bd b D fs))=>cy (b=a/\D=C) (M.ok fs)
 | _=>none
def outI (a C:Addr):Out->M (List (Str×PV))
 | .nx env=>An a C env
 | _=>none
def wQ (m:Nat) (g:af->M Out) (C a:Addr) (ps:List PV):M (List (Str×PV)):=(g (xo m a C ps)).bind (outI a C)
noncomputable def FR {α:Type} (s:Addr->M α):M α:=open Classical in if h:∃ r,∀ a,s a=r then h.choose else none
theorem wM {α:Type} {s:Addr->M α} {r:M α} (h:∀ a,s a=r):FR s=r:=by
 have hx:∃ r,∀ a,s a=r:=⟨r,h⟩
 unfold FR
 rw [dif_pos hx,← hx.choose_spec 0,h 0]
theorem az.FR {α:Type} {s:Addr->M α} {Q:α->Prop} {E:EX->Prop} (h:az (L2.FR s) Q E) (a:Addr):az (s a) Q E:=by
 unfold L2.FR at h
 split at h
 ·rename_i hx
  rw [hx.choose_spec a];exact h
 ·exact h.elim
def E5 (n:Nat) (C:Addr) (sem:Addr->List PV->M (List (Str×PV))):Sp:=fun vs H Q E=>vs.length=n/\∃ a dx us Hs H1 ps,vs=.ref a::us/\H1 a=none/\H1 dx=none/\dx≠a/\H=upd (upd H1 dx (.own a)) a (.ins C dx [])/\aX Hs H1/\aK Hs ps us ∧
 az (sem a ps) (fun fs=>∀ dx' ws Hs' H',bB Hs H1 Hs' H'->H' a=some (.ins C dx' ws)->Hs' a=none->i8 Hs' fs ws->Q .cI H') (XW E Hs H1)
theorem SR.F7 {Hs H₀ H:Hp} {N:List Str} {a C dx:Addr} {ps:List PV} {vs:List V} (s:aX Hs H₀) (hN:0<N.length) (ha:H₀ a=none) (r:aK Hs ps vs) (hH:H=upd H₀ a (.ins C dx [])):SR Hs H₀ Hs H (L2.start N (.ref a::vs)) (xo N.length a C ps):=by
 have hs:Hs a=none:=by
  cases q:Hs a with
  | none=>rfl
  | some o=>have:=s _ _ q;rw [ha] at this;cases this
 have ne:∀ c u,H₀ c=some u->c≠a:=fun c u e z=>by rw [z,ha] at e;cases e
 have s0:=SR.start (N:=N.tail) s r
 have e1:L2.start N (.ref a::vs)=some (.ref a)::L2.start N.tail vs:=by
  unfold L2.start
  simp only [List.map_cons,List.cons_append,List.length_cons,List.length_tail]
  rw [Nat.sub_sub,Nat.add_comm]
 have e2:xo N.length a C ps=some (.bd a C [])::jo N.tail.length ps:=by unfold xo;rw [List.length_tail]
 have al:aX H₀ H:=fun c u q=>by rw [hH,au (ne c u q)];exact q
 rw [e1,e2]
 refine ⟨⟨fun _ _ e=>e,al,fun c u q=>al c u (s c u q),fun c u q _=>q⟩,by simp [s0.len],fun j q ej=>?_,fun j zs ej=>?_,fun j k y1 y2 b nj e1 e2 e3 e4=>?_,fun j ba D fs' ej=>?_,fun j k a1 a2 C' D fs' gs' e1 e2=>?_⟩
 ·cases j with
  | zero=>cases ej
  | succ j=>exact s0.sh j q (by simpa using ej)
 ·cases j with
  | zero=>cases ej
  | succ j=>exact absurd (s0.ow j zs (by simpa using ej)) (fun ⟨b,ws,q1,q2,q3,q4,q5⟩=>by rw [q4] at q2;cases q2)
 ·cases j with
  | zero=>cases e1
  | succ j=>exact absurd (s0.ow j y1 (by simpa using e1)) (fun ⟨b,ws,q1,q2,q3,q4,q5⟩=>by rw [q4] at q2;cases q2)
 ·cases j with
  | zero=>cases ej;exact ⟨dx,[],rfl,by rw [hH];exact aC,hs,ha,.nil⟩
  | succ j=>exact absurd (s0.bd j ba D fs' (by simpa using ej)) (fun ⟨b,ws,q1,q2,q3,q4,q5⟩=>by rw [q4] at q2;cases q2)
 ·cases j with
  | zero=>cases k with
   | zero=>rfl
   | succ k=>exact absurd (s0.bd k a2 D gs' (by simpa using e2)) (fun ⟨b,ws,q1,q2,q3,q4,q5⟩=>by rw [q4] at q2;cases q2)
  | succ j=>exact absurd (s0.bd j a1 C' fs' (by simpa using e1)) (fun ⟨b,ws,q1,q2,q3,q4,q5⟩=>by rw [q4] at q2;cases q2)
theorem CT {P:Program} {w:World} {K:PySem.W.Frag} {mg:Str->Option Value} {base:Heap} {k:Nat} {f C:Addr} {name qual:Str} {params:Arguments} {body:List Stmt} {scope:Scope} {dV kV doc pm cdv ct oc:Value} {an od:Option Addr}
  {osl:Array (Option Value)} {N ps:List Str} {g:af->M Out} (lk:K.lookup f=some ⟨oc,od,.func (PySem.W.fnOf name qual params body scope dV kV doc pm an cdv ct),osl⟩) (hcd:PySem.W.codeIn K cdv qual=true) (S:ax N ps scope) (hN:0<N.length)
  (hb:∀ (A:Around) (outer:List Env) (s:Shared) (H:Hp) (E:XK),bR k (A.deeper (envOfC qual scope s.heap.objs.size f cdv))->mW ((k_ (bM P w) P w K mg base N qual scope f cdv A outer s H E).out fun _=>E) body (tS E g)) :
  aN P w K mg base (bM P w) (k+1) f (PySem.W.fnOf name qual params body scope dV kV doc pm an cdv ct) ps (E5 ps.length C (wQ N.length g C)):=by
 refine uL lk hcd S (fun vs H Q E h=>h.1) fun A outer s H vs Q E hr hs=>⟨_,hb A outer s H E hr,?_⟩
 obtain ⟨_,a,dx,us,Hs,H1,ps',rfl,ha,hdx,hne,hH,sm,r,h⟩:=hs
 have ne:∀ c u,H1 c=some u->c≠dx:=fun c u e z=>by rw [z,hdx] at e;cases e
 have s0:aX H1 (upd H1 dx (.own a)):=fun c u q=>by rw [au (ne c u q)];exact q
 have g0:bB Hs H1 Hs (upd H1 dx (.own a)):=⟨fun _ _ e=>e,s0,fun c u q=>s0 c u (sm c u q),fun _ _ e _=>e⟩
 refine ⟨Hs,_,Hs,_,SR.F7 (dx:=dx) g0.sub hN (by rw [au (Ne.symm hne)];exact ha) r hH,(az.bind h).imp (fun o ho=>?_) fun e he=>he.grow g0⟩
 cases o with
 | rt p=>exact ho.elim
 | bk env=>exact ho.elim
 | ct env=>exact ho.elim
 | nx env =>
  intro σ Hs' H' sr
  have ho':az (An a C env) _ _:=ho
  unfold An at ho'
  split at ho'
  ·rename_i b D fs ex
   obtain ⟨⟨rfl,rfl⟩,hp⟩:=az.cy ho'
   obtain ⟨dx',ws,h1,h2,h3,h4,h5⟩:=sr.bd 0 _ _ fs ex
   exact hp dx' ws Hs' H' (g0.trans sr.gr) h2 h3 h5
  ·exact ho'.elim
noncomputable def i7 (C:Addr) (sem:Addr->List PV->M (List (Str×PV))) (dps:List PV) (ps:List PV):M PV:=(FR fun a=>sem a (ps++dps)).bind fun fs=>M.ok (.obj C fs)
section
variable {X:Cx} {E:St->XK} {k n:Nat} {f C:Addr} {fd:FuncData} {ns:List Str} {sem:Addr->List PV->M (List (Str×PV))} {x:Str} {p pos:Pos} {e:Expr} {es:List Expr} {fs:af->M (List PV)}
theorem C6 {ds:List Value} {dvs:List V} {dps:List PV} (Mk:Mk X.K C f) (F:aN X.prog X.w X.K X.mg X.base (bM X.prog X.w) k f fd ns (E5 n C sem)) (hr:bR (k+1) X.A) (hg:Gl X x) (hm:X.mg x=some (.ref C)) (hb:Binds X.K fd ns ds) (hd:Vals dvs ds) (hdp:∀ H,aK H dps dvs) (O:eQ X E)
  (hl:∀ a ps,sem a (ps++dps)≠none->ps.length+dps.length+1=n)
  (ha:PA X (e::es) (tL E fs)) (hdb:(x==("__debug__" : Str))=false:=by decide) (he:starEach (e::es) X.env=(false,eval e X.env)::starEach es X.env:=by rfl) (hpl:(backTo pos (starEach es X.env)).any (·.1)=false:=by rfl) :
  PE X (.Call (.Name x p) (e::es) [] pos) (tE E (ai (i7 C sem dps) fs)):=by
 refine (Bi Mk F hr hg hm hb hd O ha hdb he hpl).imp fun σ H Q q=>dz (K:=kL Q) kL.g q fun B H₀ Hs H1 env ps' v sr rp hp=>?_
 intro a dx ha hdx hne
 have r2:aK Hs (ps'++dps) (v++dvs):=rp.append (hdp Hs)
 have hp':=(az.bind hp).FR a
 have hn:sem a (ps'++dps)≠none:=fun z=>by
  rw [z] at hp';exact hp'
 refine ⟨?_,a,dx,v++dvs,Hs,H1,ps'++dps,rfl,ha,hdx,hne,rfl,sr.gr.sub,r2,hp'.imp (fun fl hfl dx' ws Hs' H' g hw hsw rw'=>⟨rfl,?_⟩) fun e he=>he⟩
 ·show (v++dvs).length+1=n
  rw [← r2.length,List.length_append]
  exact hl a ps' hn
 ·have ne:∀ c u,Hs' c=some u->c≠a:=fun c u q z=>by rw [z,hsw] at q;cases q
  have hst:aX Hs' (upd Hs' a (.ins C dx' ws)):=fun c u q=>by rw [au (ne c u q)];exact q
  refine hfl (.ref a) (upd Hs' a (.ins C dx' ws)) H' ⟨fun c u q=>hst c u (g.st c u q),g.al,fun c u q=>?_,fun c u q1 q2=>?_⟩ (.obj aC (rw'.mono hst))
  ·by_cases z:c=a
   ·subst z;rw [aC] at q;cases q;exact hw
   ·rw [au z] at q;exact g.sub c u q
  ·have z:c≠a:=fun z=>by rw [z,ha] at q2;cases q2
   rw [au z];exact g.nw c u q1 q2
end
end L2
namespace L2
open PySem PySem.Spec PyProof.Rows
section
variable {X:Cx} {E:St->XK} {a b c e:Expr} {pos:Pos} {f g h:af->M PV}
theorem nK {n m:Nat} (h:n.log2<m):n<2^m:=by
 by_cases z:n=0
 ·subst z;exact Nat.two_pow_pos m
 ·exact (Nat.log2_lt z).mp h
theorem aK.rep {H:Hp} {xs:List PV} {vs:List V} (r:aK H xs vs):∀ k:Nat,aK H (List.replicate k xs).flatten (List.replicate k vs).flatten
 | 0=>.nil
 | k+1=>by rw [List.replicate_succ,List.replicate_succ,List.flatten_cons,List.flatten_cons];exact r.append (r.rep k)
def cW:PV->PV->M PV
 | .int i,.int j=>cy (i.natAbs.log2<67108864/\j.natAbs.log2<67108864) (M.ok (.int (i*j)))
 | .tup xs,.int k=>cy (xs.isEmpty=false/\-(2^63)<=k/\k<2^63/\xs.length*k.toNat<=sizeLine) (M.ok (.tup (List.replicate k.toNat xs).flatten))
 | .lst xs,.int k=>cy (-(2^63)<=k/\k<2^63/\xs.length*k.toNat<=sizeLine) (M.ok (.lst (List.replicate k.toNat xs).flatten))
 | _,_=>none
def EB (K:PySem.W.Frag):R2:=fun x y H Q=>(rI (fun i j=>IntMulOk i j) fun i j=>.int (i*j)) x y H Q\/EA K x y H Q\/Ji x y H Q
theorem DU:gW X (binaryOp .Mult) (EB X.K):=gW.or Dp (gW.or CQ GN)
theorem Gf {K:PySem.W.Frag}:lK E (EB K) cW:=by
 intro σ Hs H p q v u Q s rp rq h
 cases rp with
 | int i=>cases rq with
  | int j =>
   obtain ⟨hz,h⟩:=az.cy h
   exact .inl ⟨i,j,rfl,rfl,BV (nK hz.1) (nK hz.2) (Nat.le_refl _),eJ.flat h s (.int _)⟩
  | _=>exact h.elim
 | @tup a xs vs ha hx=>cases rq with
  | int k =>
   obtain ⟨⟨h0,h1,h2,h3⟩,h⟩:=az.cy h
   have n1:vs≠[]:=fun z=>by
    have:=hx.length
    rw [z] at this
    cases xs with
    | nil=>cases h0
    | cons _ _=>cases this
   refine .inr (.inl ⟨a,k,vs,rfl,rfl,ib.of (s _ _ ha),n1,h1,h2,by rw [← hx.length];exact h3,fun z=>?_,fun z=>eJ.tup h s (hx.rep _)⟩)
   subst z
   rw [show (1:Int).toNat=1 from rfl,List.replicate_succ,List.replicate_zero,List.flatten_cons,List.flatten_nil,List.append_nil] at h
   exact eJ.flat h s (.tup ha hx)
  | _=>exact h.elim
 | @lst a xs vs ha hx=>cases rq with
  | int k =>
   obtain ⟨⟨h1,h2,h3⟩,h⟩:=az.cy h
   exact .inr (.inr ⟨a,k,vs,rfl,rfl,s _ _ ha,h1,h2,by rw [← hx.length];exact h3,eJ.lst h s (hx.rep _)⟩)
  | _=>exact h.elim
 | _=>exact h.elim
theorem Dr:lK E (rI Cz fun i j=>.int (i.fdiv j)) (xf (fun _ j=>decide (j≠0/\j.natAbs.log2<9000)) fun i j=>i.fdiv j):=xG fun i j z=>(of_decide_eq_true z:j≠0/\j.natAbs.log2<9000)
theorem Ff:lK E (rI (fun _ j=>j≠0) fun i j=>.int (i.fmod j)) (xf (fun _ j=>decide (j≠0)) fun i j=>i.fmod j):=xG fun i j z=>of_decide_eq_true z
theorem HL:lK E (rI G6 fun i j=>.int (i^j.toNat)) (xf (fun i j=>decide (0<=j/\j<=1000000/\i.natAbs<2^64)) fun i j=>i^j.toNat):=xG fun i j z=>(of_decide_eq_true z:0<=j/\j<=1000000/\i.natAbs<2^64)
def JX:PV->M PV
 | .int i=>M.ok (.int (-i))
 | _=>none
def mU (f:af->M PV):af->M PV:=fun env=>(f env).bind JX
theorem GP (ha:PE X a (tE E f)):PE X (.UnaryOp .USub a pos) (tE E (mU f)) :=
 (JW Fb ha).imp fun σ H Q q=>JJ q fun Hs H1 p v s rp h=>by
  cases rp with
  | int i=>exact ⟨i,rfl,eJ.flat h s (.int _)⟩
  | _=>exact h.elim
def yl:PV->Bool
 | .cI=>true
 | _=>false
theorem zV {H:Hp} {p:PV} {v:V} (r:Rep H p v):decide (v=.cI)=yl p:=by
 cases r <;> rfl
def xC:PV->PV->M PV
 | p,.cI=>M.ok (.bl (yl p))
 | _,_=>none
theorem zY:lK E (fun x y H Q=>y=.cI/\Q (.bl (decide (x=.cI))) H) xC:=by
 intro σ Hs H p q v u Q s rp rq h
 cases rq with
 | cI =>
  have h':az (M.ok (PV.bl (yl p))) (eJ Hs H Q) (XW (E σ) Hs H):=by cases p <;> exact h
  exact ⟨rfl,by rw [zV rp];exact eJ.flat h' s (.bl _)⟩
 | _=>cases p <;> exact h.elim
def hZ (o o':PV->PV->M PV) (f g h:af->M PV):af->M PV:=fun env=>(f env).bind fun p=>(g env).bind fun q=>(o p q).bind fun z=>(xx z).bind fun k=>if k=true then (h env).bind fun r=>o' q r else M.ok (.bl false)
theorem vC {r r':R2} {o o':PV->PV->M PV} (hv:lK E r o) (hv':lK E r' o') {σ:St} {H:Hp} {Q:VK} (q:tE E (hZ o o' f g h) σ H Q):xj r r' (tE E f) (tE E g) (tE E h) σ H Q:=by
 refine bU (K:=kL Q) kL.g q fun B H₀ Hs H1 env p v sr rp hp=>?_
 refine ⟨B,H₀,Hs,env,sr,(az.bind hp).imp (fun q hq u Hs2 H2 g2 ru=>?_) fun e he=>he⟩
 have sr2:=sr.grow g2
 refine hv σ Hs2 H2 p q v u _ sr2.gr.sub (rp.mono g2.st) ru ((az.bind hq).imp (fun z hz w Hs3 H3 g3 rw'=>?_) fun e he=>he.grow g2)
 obtain ⟨k,ek,hk⟩:=az.Kc (az.bind hz)
 subst ek
 cases rw'
 refine ⟨k,rfl,?_⟩
 have sr3:=sr2.grow g3
 cases k with
 | false=>exact hk _ _ _ (g2.trans g3) (.bl _)
 | true =>
  have hk':az ((h env).bind fun r=>o' q r) (kL Q Hs H1) (XW (E σ) Hs H1):=hk
  refine ⟨B,H₀,Hs3,env,sr3,(az.bind hk').imp (fun r hr w Hs4 H4 g4 rw4=>?_) fun e he=>he.grow (g2.trans g3)⟩
  exact hv' σ Hs4 H4 q r u w Q (sr3.grow g4).gr.sub ((ru.mono g3.st).mono g4.st) rw4 (hr.imp (fun z hz w' Hs5 H5 g5 r5=>hz w' Hs5 H5 ((g2.trans g3).trans (g4.trans g5)) r5) fun e he=>he.grow ((g2.trans g3).trans g4))
theorem uZ {op op':CmpOp} {r r':R2} {o o':PV->PV->M PV} (ho:gW X (compareOp op) r) (hv:lK E r o) (ho':gW X (compareOp op') r') (hv':lK E r' o') (ha:PE X a (tE E f)) (hb:PE X b (tE E g)) (hc:PE X c (tE E h))
  (hm:lastMarks [op,op'] [b,c]=false:=by with_unfolding_all rfl):PE X (.Compare a [op,op'] [b,c] pos) (tE E (hZ o o' f g h)) :=
 (Ab ho ho' ha hb hc hm).imp fun σ H Q q=>vC hv hv' q
theorem vy {op op':CmpOp} {r r':R2} {o o':PV->PV->M PV} (ho:gW X (compareOp op) r) (hv:lK E r o) (ho':gW X (compareOp op') r') (hv':lK E r' o') (ha:PE X a (tE E f)) (hb:PE X b (tE E g)) (hc:PE X c (tE E h))
  (hm:lastMarks [op,op'] [b,c]=false:=by with_unfolding_all rfl):PT X (.Compare a [op,op'] [b,c] pos) (tT E (cL (hZ o o' f g h))) :=
 (A_ ho ho' ha hb hc hm).imp fun σ H Q q=>vC hv hv' (pG q)
def cB (u:af->M Bool) (b:af->M Out):Nat->af->M Out
 | 0,_=>none
 | n+1,env=>(u env).bind fun t=>if t=true then (b env).bind fun o=>match o with
   | .nx env'=>cB u b n env'
   | .ct env'=>cB u b n env'
   | .bk env'=>M.ok (.nx env')
   | .rt p=>M.ok (.rt p)
  else M.ok (.nx env)
theorem yX {E:XK} {u:af->M Bool} {g:af->M Out} {body:List Stmt} (n:af->Nat) (O:eQ X fun _=>E) (hc:PT X c (tT (fun _=>E) u)) (hb:mW X body (tS E g)):PS X (.While c body [] pos) (tS E fun env=>cB u g (n env) env):=by
 refine (Au O.own hc hb).imp fun D σ H q=>?_
 obtain ⟨B,H₀,Hs,env,sr,q⟩:=q
 refine ⟨fun m σ H=>∃ Hs env,SR B H₀ Hs H σ env/\az (cB u g m env) (KS D B H₀) (XW E B H₀),⟨n env,Hs,env,sr,q⟩,?_⟩
 rintro m σ1 H1 ⟨Hs1,env1,sr1,q1⟩
 cases m with
 | zero=>exact q1.elim
 | succ m =>
  refine ⟨B,H₀,Hs1,env1,sr1,(az.bind q1).imp (fun t ht Hs2 H2 g2=>?_) fun e he=>he.grow sr1.gr⟩
  have sr2:=sr1.grow g2
  cases t with
  | false=>exact ht σ1 Hs2 H2 sr2
  | true =>
   refine ⟨fun σ' H'=>∃ Hs' env',SR B H₀ Hs' H' σ' env'/\az (cB u g m env') (KS D B H₀) (XW E B H₀),fun σ' H' z=>⟨m,Nat.lt_succ_self m,z⟩,B,H₀,Hs2,env1,sr2,(az.bind ht).imp (fun o ho=>?_) fun e he=>he⟩
   cases o with
   | nx env'=>exact fun σ' Hs' H' sr'=>⟨Hs',env',sr',ho⟩
   | ct env'=>exact fun σ' Hs' H' sr'=>⟨Hs',env',sr',ho⟩
   | bk env'=>exact ho
   | rt p=>exact ho
theorem jh {u:af->M Bool} {g:af->M Out}:∀ (n k:Nat) (env:af),cB u g n env≠none->cB u g (n+k) env=cB u g n env
 | 0,_,_,h=>(h rfl).elim
 | n+1,k,env,h=>by
  rw [show n+1+k=(n+k)+1 by omega]
  unfold cB at h ⊢
  cases hu:u env with
  | none=>rfl
  | some z =>
   cases z with
   | error e=>rfl
   | ok t =>
    rw [hu] at h
    cases t with
    | false=>rfl
    | true =>
     show M.bind (g env) _=M.bind (g env) _
     have h':M.bind (g env) (fun o=>match o with
      | .nx env'=>cB u g n env'
      | .ct env'=>cB u g n env'
      | .bk env'=>M.ok (.nx env')
      | .rt p=>M.ok (.rt p))≠none:=h
     cases hg:g env with
     | none=>rfl
     | some z =>
      cases z with
      | error e=>rfl
      | ok o =>
       rw [hg] at h'
       cases o with
       | nx env'=>exact jh n k env' h'
       | ct env'=>exact jh n k env' h'
       | bk env'=>rfl
       | rt p=>rfl
noncomputable def mK (u:af->M Bool) (b:af->M Out) (env:af):M Out:=open Classical in cB u b (if h:∃ n,cB u b n env≠none then h.choose else 0) env
theorem zg {u:af->M Bool} {b:af->M Out} {n:Nat} {env:af} (h:cB u b n env≠none):mK u b env=cB u b n env:=by
 have hx:∃ n,cB u b n env≠none:=⟨n,h⟩
 unfold mK
 rw [dif_pos hx]
 have h1:=hx.choose_spec
 rw [← jh _ n env h1,← jh n hx.choose env h,Nat.add_comm]
theorem AK {E:XK} {u:af->M Bool} {g:af->M Out} {body:List Stmt} (O:eQ X fun _=>E) (hc:PT X c (tT (fun _=>E) u)) (hb:mW X body (tS E g)):PS X (.While c body [] pos) (tS E (mK u g)) :=
 yX (fun env=>open Classical in if h:∃ n,cB u g n env≠none then h.choose else 0) O hc hb
end
end L2
namespace L2
open PySem PySem.Spec PyProof.Rows
def J3:PV->Option String
 | .cI=>some "NoneType"
 | .bl _=>some "bool"
 | .int _=>some "int"
 | .str _=>some "str"
 | .lst _=>some "list"
 | .jR _=>some "list"
 | .tup _=>some "tuple"
 | .emp=>some "dict"
 | _=>none
def ja (a t:String):Bool:=a==t||(a == "bool" && t == "int")
theorem n8 (K:PySem.W.Frag):PySem.W.kitOne K (.type "NoneType") (.type "int")=some false:=by with_unfolding_all kernel_rfl
theorem uY (K:PySem.W.Frag):PySem.W.kitOne K (.type "bool") (.type "int")=some true:=by with_unfolding_all kernel_rfl
def tys:List String:=["int", "bool", "str", "list", "tuple"]
theorem Iu (K:PySem.W.Frag) {p:PV} {a t:String} (ha:J3 p=some a) (ht:t∈tys):PySem.W.kitOne K (.type a) (.type t)=some (ja a t):=by
 have ht2:t = "int" \/ t = "bool" \/ t = "str" \/ t = "list" \/ t = "tuple" := by simpa [tys] using ht
 cases p <;> cases ha <;> rcases ht2 with rfl | rfl | rfl | rfl | rfl <;> first
  | exact n8 K
  | exact kt_NoneType_bool K
  | exact kt_NoneType_str K
  | exact kt_NoneType_list K
  | exact kt_NoneType_tuple K
  | exact uY K
  | exact kt_bool_bool K
  | exact kt_bool_str K
  | exact kt_bool_list K
  | exact kt_bool_tuple K
  | exact kt_int_int K
  | exact kt_int_bool K
  | exact kt_int_str K
  | exact kt_int_list K
  | exact kt_int_tuple K
  | exact kt_str_int K
  | exact kt_str_bool K
  | exact kt_str_str K
  | exact kt_str_list K
  | exact kt_str_tuple K
  | exact kt_list_int K
  | exact kt_list_bool K
  | exact kt_list_str K
  | exact kt_list_list K
  | exact kt_list_tuple K
  | exact kt_tuple_int K
  | exact kt_tuple_bool K
  | exact kt_tuple_str K
  | exact kt_tuple_list K
  | exact kt_tuple_tuple K
  | exact kt_dict_int K
  | exact kt_dict_bool K
  | exact kt_dict_str K
  | exact kt_dict_list K
  | exact kt_dict_tuple K
theorem AU {K:PySem.W.Frag} {Hs H:Hp} {p:PV} {v:V} {a:String} (s:aX Hs H) (r:Rep Hs p v) (ha:J3 p=some a):jT K H v (.type a):=by
 cases r with
 | cI=>cases ha;exact .cI
 | bl b=>cases ha;exact .bl b
 | int i=>cases ha;exact .int i
 | str x=>cases ha;exact .str x
 | tup h _=>cases ha;exact .tup (s _ _ h)
 | lst h _=>cases ha;exact .lst (s _ _ h)
 | jR h _=>cases ha;exact .qU (s _ _ h)
 | emp h=>cases ha;exact .dK (s _ _ h)
 | _=>cases ha
theorem xS (K:PySem.W.Frag) {p:PV} {a:String} (ha:J3 p=some a):∀ {Ts:List String},(∀ t∈Ts,t∈tys)->PySem.W.kitAny K (.type a) (Ts.map Value.type)=some (Ts.any fun t=>ja a t)
 | [],_=>rfl
 | t::r,h=>by
  have h1:=Iu K ha (h t List.mem_cons_self)
  have h2:=xS K ha (Ts:=r) fun t q=>h t (List.mem_cons_of_mem _ q)
  simp only [List.map_cons,PySem.W.kitAny,h1,List.any_cons]
  cases ja a t with
  | true=>rfl
  | false=>exact h2
structure Gp (K:PySem.W.Frag) (C:Addr):Prop where
 cls:mj K C
 ha:PySem.W.findIn K (.ref C) "__class__" = some (some (.builtin "object.__class__"))
 hn:PySem.W.specialIn K (.builtin "object.__class__") "__get__" = some (some (.builtin "getset_descriptor.__get__"))
 HN:PySem.W.takesIn K (.builtin "object.__class__")=some true
 hm:PySem.W.mroIn K C (.type "object")=some true
def zR (b:String->Bool) (ob oe:Addr->Option Bool):PV->M PV
 | .obj C _=>fu ((ob C).map .bl)
 | .exc C _=>fu ((oe C).map .bl)
 | p=>fu ((J3 p).map fun a=>.bl (b a))
section
variable {X:Cx} {E:St->XK} {e:Expr} {pos p px pt:Pos} {f:af->M PV} {T:String} {x:Str} {C:Addr} {ob oe:Addr->Option Bool}
theorem GO {H:Hp} {C:Addr} {fo:Option (List (Str×PV))} {Hs:Hp} {v:V} (s:aX Hs H) (r:Rep Hs (.exc C fo) v):∃ a fo',v=.ref a/\ExcAt H a C fo':=by
 cases r with
 | @zA a _ h=>exact ⟨a,none,rfl,s _ _ h⟩
 | @y_ a _ d _ vs h h2 _=>exact ⟨a,some vs,rfl,d,s _ _ h,s _ _ h2⟩
def uU (b:String->Bool) (ob oe:Addr->Option Bool) (f:af->M PV):af->M PV:=fun env=>(f env).bind (zR b ob oe)
theorem v5 {b:String->Bool} {p:PV} {Q:PV->Prop} {F:EX->Prop} (h:az (zR b ob oe p) Q F):(∃ a,J3 p=some a/\Q (.bl (b a)))\/(∃ C fs k,p=.obj C fs/\ob C=some k/\Q (.bl k))\/∃ C fo k,p=.exc C fo/\oe C=some k/\Q (.bl k):=by
 cases p with
 | obj C fs =>
  obtain ⟨z,e,q⟩:=az.opt h
  obtain ⟨k,e2,rfl⟩:=Option.map_eq_some_iff.mp e
  exact .inr (.inl ⟨C,fs,k,rfl,e2,q⟩)
 | exc C fo =>
  obtain ⟨z,e,q⟩:=az.opt h
  obtain ⟨k,e2,rfl⟩:=Option.map_eq_some_iff.mp e
  exact .inr (.inr ⟨C,fo,k,rfl,e2,q⟩)
 | cI=>exact .inl ⟨_,rfl,h⟩
 | bl _=>exact .inl ⟨_,rfl,h⟩
 | int _=>exact .inl ⟨_,rfl,h⟩
 | str _=>exact .inl ⟨_,rfl,h⟩
 | tup _=>exact .inl ⟨_,rfl,h⟩
 | lst _=>exact .inl ⟨_,rfl,h⟩
 | jR _=>exact .inl ⟨_,rfl,h⟩
 | emp=>exact .inl ⟨_,rfl,h⟩
theorem Bb {K:PySem.W.Frag} {Hs H:Hp} {C:Addr} {fs:List (Str×PV)} {v:V} (s:aX Hs H) (r:Rep Hs (.obj C fs) v) (c:Gp K C):jT K H v (.ref C):=by
 cases r with
 | obj h _=>exact .ins (s _ _ h) c.cls c.ha c.hn c.HN c.hm
theorem fA (hg:Gl X "isinstance") (hm:X.mg "isinstance" = none) (hT:PE X (.Name x pt) (tC (.ty T))) (ht:T∈tys) (hob:∀ C b,ob C=some b->Gp X.K C/\PySem.W.kitOne X.K (.ref C) (.type T)=some b) (hoe:∀ C b,oe C=some b->ji X.K C/\PySem.W.kitOne X.K (.ref C) (.type T)=some b) (he:PE X e (tE E f))
  (h1:starEach [e,.Name x pt] X.env=(false,eval e X.env)::starEach [.Name x pt] X.env:=by rfl) (h2:starEach [.Name x pt] X.env=(false,eval (.Name x pt) X.env)::starEach [] X.env:=by rfl) (hpl:(backTo pos (starEach [.Name x pt] X.env)).any (·.1)=false:=by rfl) :
  PE X (.Call (.Name "isinstance" p) [e,.Name x pt] [] pos) (tE E (uU (fun a=>ja a T) ob oe f)):=by
 refine (pb (dJ.or B7 AV) hg hm z9 (iH he (iH hT pI h2) h1) (by decide) (by decide) h1 hpl).imp fun σ H Q q=>bU (K:=kL Q) kL.g q fun B H₀ Hs H1 env p v sr rp hp=>?_
 rcases v5 hp with ⟨a,ha,q⟩ | ⟨C,fs,k,rfl,e,q⟩ | ⟨C,fo,k,rfl,e,q⟩
 ·exact .inl ⟨v,T,_,_,rfl,AU sr.gr.sub rp ha,Iu X.K ha ht,eJ.flat q sr.gr.sub (.bl _)⟩
 ·exact .inl ⟨v,T,_,_,rfl,Bb sr.gr.sub rp (hob C k e).1,(hob C k e).2,eJ.flat q sr.gr.sub (.bl _)⟩
 ·obtain ⟨a,fo',rfl,hx⟩:=GO sr.gr.sub rp
  exact .inr ⟨a,C,fo',k,(hoe C k e).1,hx,.inl ⟨T,rfl,(hoe C k e).2⟩,eJ.flat q sr.gr.sub (.bl _)⟩
theorem Er {e2:Expr} {t2:TE} {Ts:List String} (hg:Gl X "isinstance") (hm:X.mg "isinstance" = none) (hT:PE X e2 t2) (ht2:∀ σ H R,(∀ p,H p=none->R (.ref p) (upd H p (.tup (Ts.map V.ty))))->t2 σ H R) (ht:∀ t∈Ts,t∈tys) (hob:∀ C b,ob C=some b->Gp X.K C/\PySem.W.kitAny X.K (.ref C) (Ts.map Value.type)=some b) (he:PE X e (tE E f))
  (h1:starEach [e,e2] X.env=(false,eval e X.env)::starEach [e2] X.env:=by rfl) (h2:starEach [e2] X.env=(false,eval e2 X.env)::starEach [] X.env:=by rfl) (hpl:(backTo pos (starEach [e2] X.env)).any (·.1)=false:=by rfl) :
  PE X (.Call (.Name "isinstance" p) [e,e2] [] pos) (tE E (uU (fun a=>Ts.any fun t=>ja a t) ob (fun _=>none) f)):=by
 refine (pb yL hg hm z9 (iH he (iH hT pI h2) h1) (by decide) (by decide) h1 hpl).imp fun σ H Q q=>bU (K:=kL Q) kL.g q fun B H₀ Hs H1 env p v sr rp hp=>?_
 refine ht2 σ H1 _ fun tp hn=>?_
 have g:=bB.new (o:=.tup (Ts.map V.ty)) sr.gr.sub hn
 rcases v5 hp with ⟨a,ha,q⟩ | ⟨C,fs,k,rfl,e,q⟩ | ⟨C,fo,k,rfl,e,q⟩
 ·exact ⟨v,tp,Ts,_,_,rfl,aC,AU g.sub (rp.mono g.st) ha,xS X.K ha ht,q _ _ _ g (.bl _)⟩
 ·exact ⟨v,tp,Ts,_,_,rfl,aC,Bb g.sub (rp.mono g.st) (hob C k e).1,(hob C k e).2,q _ _ _ g (.bl _)⟩
 ·cases e
end
end L2
namespace L2
open PySem PySem.Spec PyProof.Rows
open PySem.SeqAt (shaped noMix noMixAll)
mutual
def dat:PV->Option PyData
 | .cI=>some .none
 | .bl b=>some (.bool b)
 | .int i=>some (.int i)
 | .str x=>some (.str x)
 | .tup xs=>(nA xs).map .tuple
 | .lst xs=>(nA xs).map .list
 | .jR xs=>(nA xs).map .list
 | .obj _ _=>none
 | .exc _ _=>none
 | .emp=>none
def nA:List PV->Option (List PyData)
 | []=>some []
 | p::r=>(dat p).bind fun d=>(nA r).map (d::·)
end
section
variable {X:Cx} {pins:List (Addr×Obj)} {σ:St} {H:Hp} {s:Shared}
mutual
theorem Rep.reads {Hs:Hp} (I:Inv X pins σ H s) (sm:aX Hs H):∀ {p:PV} {v:V} {u:Value} {d:PyData},Rep Hs p v->RelV v u->dat p=some d->∃ as,Reads s.heap u d as
 | _,_,u,d,.cI,r,e=>by
  cases e;cases (show u=Value.none from r);exact ⟨_,.none⟩
 | _,_,u,d,.bl b,r,e=>by
  cases e;cases (show u=Value.bool b from r);exact ⟨_,.bool b⟩
 | _,_,u,d,.int i,r,e=>by
  cases e;obtain ⟨t,rfl⟩:=(show ∃ t,u=Value.int i t from r);exact ⟨_,.int i t⟩
 | _,_,u,d,.str i,r,e=>by
  cases e;obtain ⟨t,rfl⟩:=(show ∃ t,u=Value.str i t from r);exact ⟨_,.str i t⟩
 | _,_,u,d,.tup (a:=a) ha hx,r,e=>by
  obtain ⟨ds,e2,rfl⟩:=Option.map_eq_some_iff.mp (show (nA _).map PyData.tuple=some d from e)
  cases (show u=Value.ref a from r)
  obtain ⟨its,r1,⟨o,ho,hc,n,hd⟩,_⟩:=I.tuple (ib.of (sm _ _ ha))
  obtain ⟨as,ra⟩:=aK.reads I sm hx r1 e2
  exact ⟨_,.tuple ho hc hd (by simpa using ra)⟩
 | _,_,u,d,.lst (a:=a) ha hx,r,e=>by
  obtain ⟨ds,e2,rfl⟩:=Option.map_eq_some_iff.mp (show (nA _).map PyData.list=some d from e)
  cases (show u=Value.ref a from r)
  obtain ⟨its,r1,⟨o,n,ho,hc,_,hd⟩,_⟩:=I.list (jg.of (sm _ _ ha))
  obtain ⟨as,ra⟩:=aK.reads I sm hx r1 e2
  exact ⟨_,.list ho hc hd (by simpa using ra)⟩
 | _,_,u,d,.jR (a:=a) (o:=ob) ha hx,r,e=>by
  obtain ⟨ds,e2,rfl⟩:=Option.map_eq_some_iff.mp (show (nA _).map PyData.list=some d from e)
  cases (show u=Value.ref a from r)
  obtain ⟨its,r1,⟨o,n,ho,hc,_,hd⟩,_⟩:=I.list (.inl (.inr ⟨ob,sm _ _ ha⟩))
  obtain ⟨as,ra⟩:=aK.reads I sm hx r1 e2
  exact ⟨_,.list ho hc hd (by simpa using ra)⟩
 | _,_,u,d,.obj _ _,r,e=>by cases e
 | _,_,u,d,.zA _,r,e=>by cases e
 | _,_,u,d,.y_ _ _ _,r,e=>by cases e
 | _,_,u,d,.emp _,r,e=>by cases e
theorem aK.reads {Hs:Hp} (I:Inv X pins σ H s) (sm:aX Hs H):∀ {p:List PV} {v:List V} {u:List Value} {d:List PyData},aK Hs p v->Vals v u->nA p=some d->∃ as,ReadsAll s.heap u d as
 | _,_,_,_,.nil,.nil,e=>by cases e;exact ⟨_,.nil⟩
 | _,_,_,d,.cons (p:=p) (ps:=ps) h hr,.cons r rr,e=>by
  obtain ⟨d1,e1,e2⟩:=Option.bind_eq_some_iff.mp (show (dat p).bind (fun d=>(nA ps).map (d::·))=some d from e)
  obtain ⟨ds,e3,rfl⟩:=Option.map_eq_some_iff.mp e2
  obtain ⟨as,ra⟩:=Rep.reads I sm h r e1
  obtain ⟨bs,rb⟩:=aK.reads I sm hr rr e3
  exact ⟨_,.cons ra rb⟩
end
end
def AI (d e:PyData):M Bool:=cy (shaped d=true/\shaped e=true/\noMix d e=true) (M.ok (same d e))
def ml (o:Bool->PV) (p q:PV):M PV:=match dat p,dat q with
 | some d,some e=>(AI d e).bind fun b=>M.ok (o b)
 | _,_=>none
def lJ:PV->PV->M PV:=ml fun b=>.bl b
def mQ:PV->PV->M PV:=ml fun b=>.bl (!b)
def Af (o:Bool->Bool):R2:=fun x y H Q=>∃ Hs p q d e,aX Hs H/\Rep Hs p x/\Rep Hs q y/\dat p=some d/\dat q=some e/\shaped d=true/\shaped e=true/\noMix d e=true/\Q (.bl (o (same d e))) H
section
variable {X:Cx} {E:St->XK}
theorem Ci (hu:X.A.units+64<cLine):gW X (compareOp .Eq) (Af id):=by
 intro pins s σ H x y v u Q I rx ry h
 obtain ⟨Hs,p,q,d,e,sm,rp,rq,hd,he,h1,h2,h3,hq⟩:=h
 obtain ⟨as,ra⟩:=Rep.reads I sm rp rx hd
 obtain ⟨bs,rb⟩:=Rep.reads I sm rq ry he
 exact eq_dataH_same ra rb h1 h2 hu h3 (xr I hq rfl)
theorem Bl (hu:X.A.units+64<cLine):gW X (compareOp .NotEq) (Af not):=by
 intro pins s σ H x y v u Q I rx ry h
 obtain ⟨Hs,p,q,d,e,sm,rp,rq,hd,he,h1,h2,h3,hq⟩:=h
 obtain ⟨as,ra⟩:=Rep.reads I sm rp rx hd
 obtain ⟨bs,rb⟩:=Rep.reads I sm rq ry he
 exact ne_dataH_same ra rb h1 h2 hu h3 (xr I hq rfl)
theorem Co {o:Bool->Bool}:lK E (Af o) (ml fun b=>.bl (o b)):=by
 intro σ Hs H p q v u Q s rp rq h
 unfold ml at h
 split at h
 ·rename_i d e hd he
  have h':=az.bind h
  obtain ⟨⟨h1,h2,h3⟩,h⟩:=az.cy h'
  exact ⟨Hs,p,q,d,e,s,rp,rq,hd,he,h1,h2,h3,eJ.flat h s (.bl _)⟩
 ·exact h.elim
theorem EM:lK E (Af id) lJ:=Co
theorem EC:lK E (Af not) mQ:=Co
end
def lC (xs:List PV) (lo hi:Option Int):List PV:=(xs.drop (HT.dh xs.length 0 lo)).take (HT.dh xs.length xs.length hi-HT.dh xs.length 0 lo)
theorem aK.cut {H:Hp} {xs:List PV} {vs:List V} (r:aK H xs vs) (lo hi:Option Int):aK H (lC xs lo hi) (vR vs lo hi):=by
 unfold lC vR
 rw [r.length]
 exact (r.drop _).take _
abbrev JU (Q:Option Int->Hp->Prop):Hp->Hp->Option Int->Prop:=fun Hs H k=>∀ Hs' H',bB Hs H Hs' H'->Q k H'
def J_ (E:St->XK) (g:af->M (Option Int)):TO:=fun σ H Q=>tG E g (JU Q) σ H
theorem PO.imp {X:Cx} {e:Option Expr} {t t':TO} (h:PO X e t) (i:∀ σ H Q,t' σ H Q->t σ H Q):PO X e t':=fun pins s σ H Q I q=>h pins s σ H Q I (i σ H Q q)
def IZ:PV->M (Option Int)
 | .int i=>M.ok (some i)
 | _=>none
def AF:af->M (Option Int):=fun _=>M.ok none
def qd (f:af->M PV):af->M (Option Int):=fun env=>(f env).bind IZ
section
variable {X:Cx} {E:St->XK} {e:Expr} {lo hi:Option Expr} {pos p2:Pos} {f:af->M PV} {gl gh:af->M (Option Int)}
theorem JU.g {Q:Option Int->Hp->Prop}:KG (JU Q):=fun Hs H Hs' H' b k g Hs2 H2 g2=>k Hs2 H2 (g.trans g2)
theorem tF:PO X none (J_ E AF):=D9.imp fun σ H Q q=>by
 obtain ⟨B,H₀,Hs,env,sr,q⟩:=q
 exact q Hs H (.refl sr.gr.sub)
theorem ua (he:PE X e (tE E f)):PO X (some e) (J_ E (qd f)):=(DT he).imp fun σ H Q q=>bU (K:=JU Q) JU.g q fun B H₀ Hs H1 env p v sr rp hp=>by
 cases rp with
 | int i=>exact ⟨i,rfl,hp Hs H1 (.refl sr.gr.sub)⟩
 | _=>exact hp.elim
end
def fx (xs:List PV):List PV:=xs.mapIdx fun i x=>.tup [.int (i:Nat),x]
def EU:List PV->M (List PV)
 | [.lst xs]=>M.ok (fx xs)
 | [.jR xs]=>M.ok (fx xs)
 | _=>none
section
variable {E:St->XK} {K:PySem.W.Frag} {fs:af->M (List PV)}
theorem sF {a:Addr} {Hs1:Hp} {xs:List PV} {vs:List V} (hq:∀ Hs' H',aX Hs1 Hs'->aX Hs' H'->jg K H' a vs) (hr:aK Hs1 xs vs):j_ (Ho K a) Hs1 (fx xs) where
 stop:=fun i Hs H s1 s2 hi=>by
  unfold fx at hi
  rw [List.length_mapIdx,hr.length] at hi
  exact ⟨vs,hq Hs H s1 s2,hi⟩
 go:=fun i Hs H s1 s2 hi=>by
  unfold fx at hi
  rw [List.length_mapIdx] at hi
  obtain ⟨v,e,_⟩:=hr.get (List.getElem?_eq_getElem hi)
  exact ⟨vs,v,hq Hs H s1 s2,e⟩
 xa:=fun i Hs H x H2 s1 s2 hi y=>by
  unfold fx at hi
  rw [List.length_mapIdx] at hi
  obtain ⟨v,e,r⟩:=hr.get (List.getElem?_eq_getElem hi)
  obtain ⟨pa,v',hn,rfl,rfl,y1⟩:=y
  have z1:=y1 vs (hq Hs H s1 s2)
  rw [e] at z1;cases z1
  have gr:=bB.new (o:=.tup [.int (i:Nat),v]) s2 hn
  refine ⟨.tup [.int (i:Nat),xs[i]],_,?_,gr,.tup aC (.cons (.int _) (.cons ((r.mono s1).mono gr.st) .nil))⟩
  unfold fx
  rw [List.getElem?_mapIdx,List.getElem?_eq_getElem hi]
  rfl
end
end L2
namespace L2
open PySem PySem.Spec PyProof.Rows
def Dm (lo st:Int) (n:Nat):It:=⟨fun i _=>i<n,fun i H x H'=>H'=H/\x=.int (lo+(i:Nat)*st),fun i _=>n<=i⟩
theorem wt {P:Program} {w:World} {K:PySem.W.Frag} {tg:Expr} (it:Addr) (lo st:Int) (n:Nat):Turn P w K tg (Dm lo st n) [it] it (fun i h=>IsRangeIter h it (lo+(i:Nat)*st) ((n:Int)-(i:Nat)) st) where
 mem:=by simp
 obj:=fun i h st b hb=>by
  have e:b=it:=by simpa using hb
  subst e
  exact ⟨_,st,fun v z=>by
   have z':Data.fields _=Data.cell v:=z
   cases z'⟩
 keep:=fun i h h' st k=>k it (by simp) _ st
 item:=by
  intro X hP hw hK hc i pins s σ H E I hf st' hg
  subst hP hw hK
  obtain ⟨f0,f1,f2,f3,f4,f5⟩:=hf it (by simp)
  have W:=Walks.range (prog:=X.prog) (w:=X.w) (I.ok.hd hc) it lo st n
  refine W.item i s _ _ hg st' fun v h' tk hv st'' kk=>?_
  obtain ⟨t,rfl⟩:=hv
  have I1:Inv X pins σ H { s with heap:=h',toks:=tk }:=I.turned (fun b o hb e=>kk b o (by simpa using hb) e) f0 f1 f3 f4 f5
  exact ⟨_,rfl,xU (s:={ s with heap:=h',toks:=tk }) (n := "range_iterator") st'' rfl rfl (by decide) ⟨.int (lo+(i:Nat)*st),H,I1,⟨t,rfl⟩,⟨rfl,rfl⟩,st'',fun b hb=>(hf b hb).1⟩⟩
 done:=by
  intro X hP hw hK hc i pins s σ H E I hf st' hg
  subst hP hw hK
  obtain ⟨f0,f1,f2,f3,f4,f5⟩:=hf it (by simp)
  exact wpAny_pyNext_range_end (I.ok.hd hc) st' (by have:n<=i:=hg;omega) fun h' eb=>⟨rfl,I.turned (t':=s.toks) (fun b o hb e=>eb b o hb e) f0 f1 f3 f4 f5⟩
 self:=fun _ _ _ _ _ st h=>wpAny_pyIter_rangeiter st h
theorem t9 (a b c:Int):0<=Builtin.Range.rangeSize a b c:=by
 unfold Builtin.Range.rangeSize
 split
 ·split
  ·have:=Int.ediv_nonneg (a:=b-a-1) (b:=c) (by omega) (by omega);omega
  ·omega
 ·split
  ·have:=Int.ediv_nonneg (a:=a-b-1) (b:=-c) (by omega) (by omega);omega
  ·omega
section
variable {X:Cx} {tg:Expr}
theorem yY {pins:List (Addr×Obj)} {σ:St} {H:Hp} {s:Shared} {R:It->Hp->Prop} {E:Value->Shared->Prop} {lo hi st:Int} {t u v:Tok} {tk:Nat} (I:Inv X pins σ H s) (hsm:Builtin.Range.small lo hi st=true)
  (q:R (Dm lo st (Builtin.Range.rangeSize lo hi st).toNat) H):wpAny (model X.prog X.w) X.A (pyIter (.ref s.heap.objs.size)) (Mj X pins σ tg R) E { s with heap:=s.heap.push { cls:=.type "range", data:=.fields #[.int lo t,.int hi u,.int st v] },toks:=tk }:=by
 refine wpAny_pyIter_range (IsRange.new ..) hsm ?_
 have I1:Inv X pins σ H { s with heap:=s.heap.push { cls:=.type "range", data:=.fields #[.int lo t,.int hi u,.int st v] },toks:=tk }:=I.kept fun b o e=>Heap.get?_push_of_some _ e
 refine ⟨(s.heap.push { cls:=.type "range", data:=.fields #[.int lo t,.int hi u,.int st v] }).objs.size,[(s.heap.push { cls:=.type "range", data:=.fields #[.int lo t,.int hi u,.int st v] }).objs.size],_,_,H,rfl,
  I1.kept (t':=tk) fun b o e=>Heap.get?_push_of_some _ e,wt _ lo st (Builtin.Range.rangeSize lo hi st).toNat,?_,fun b hb=>?_,q⟩
 ·have e1:lo+((0:Nat):Int)*st=lo:=by simp
  have e2:(((Builtin.Range.rangeSize lo hi st).toNat:Nat):Int)-((0:Nat):Int)=Builtin.Range.rangeSize lo hi st:=by have:=t9 lo hi st;omega
  show IsRangeIter _ _ (lo+((0:Nat):Int)*st) ((((Builtin.Range.rangeSize lo hi st).toNat:Nat):Int)-((0:Nat):Int)) st
  rw [e1,e2]
  exact Heap.get?_push_size _ rfl
 ·have e:b=(s.heap.push { cls:=.type "range", data:=.fields #[.int lo t,.int hi u,.int st v] }).objs.size:=by simpa using hb
  subst e
  exact I1.vk (Nat.le_refl _) (I1.bx.fresh (Nat.le_refl _))
def C3 (i j k:Int):Bool:=decide (k≠0)&&decide (k.natAbs<1073741824)&&Builtin.Range.small i j k
def E6 (ta:TA):TI:=fun σ H R=>ta σ H fun vs H1=>∃ i j k:Int,vs=[.int i,.int j,.int k]/\C3 i j k=true/\R (Dm i k (Builtin.Range.rangeSize i j k).toNat) H1
theorem yC {a b c:Expr} {ta:TA} {p pos:Pos} (hg:Gl X "range") (hm:X.mg "range" = none) (ha:PA X [a,b,c] ta) (hs:starEach [a,b,c] X.env=[(false,eval a X.env),(false,eval b X.env),(false,eval c X.env)]:=by rfl) (hs2:starEach [b,c] X.env=[(false,eval b X.env),(false,eval c X.env)]:=by rfl) :
  PI X tg (.Call (.Name "range" p) [a,b,c] [] pos) (E6 ta):=by
 intro pins s σ H R I h
 refine Call_ (jl I hg hm boot_range (PyProof.Rows.callWith_type1 (cG (ha pos pins s σ H _ I h) fun us s1 ⟨vs,H1,I1,r1,q1⟩=>?_) (by rw [hs,hs2]) (by rw [hs2];rfl)))
 obtain ⟨i,j,k,e,hc,q⟩:=q1
 subst e
 cases r1 with
 | cons r rr =>
  cases rr with
  | cons r' rr =>
   cases rr with
   | cons r'' rr =>
    cases rr
    obtain ⟨t,rfl⟩:=r
    obtain ⟨t',rfl⟩:=r'
    obtain ⟨t'',rfl⟩:=r''
    unfold C3 at hc
    rw [Bool.and_eq_true,Bool.and_eq_true] at hc
    exact call_range_3 (of_decide_eq_true hc.1.1) (yY I1 hc.2 q) (.inl (PyProof.noPylong_small (of_decide_eq_true hc.1.2)))
end
def BC:List PV->M (List PV)
 | [.int i,.int j,.int k]=>cy (C3 i j k=true) (M.ok ((List.range (Builtin.Range.rangeSize i j k).toNat).map fun (n:Nat)=>.int (i+n*k)))
 | _=>none
section
variable {E:St->XK} {K:PySem.W.Frag} {fs:af->M (List PV)}
theorem zq {lo st:Int} {n:Nat} {Hs1:Hp}:j_ (Dm lo st n) Hs1 ((List.range n).map fun (i:Nat)=>PV.int (lo+(i:Int)*st)) where
 stop:=fun i Hs H s1 s2 hi=>show n<=i by simpa using hi
 go:=fun i Hs H s1 s2 hi=>show i<n by simpa using hi
 xa:=fun i Hs H x H2 s1 s2 hi y=>by
  obtain ⟨rfl,rfl⟩:=y
  have hi':i<n:=by simpa using hi
  exact ⟨.int (lo+(i:Int)*st),Hs,by simp [hi'],.refl s2,.int _⟩
theorem yP {ps:List PV} {Q:List PV->Prop} {F:EX->Prop} (h:az (BC ps) Q F):∃ i j k,ps=[.int i,.int j,.int k]/\C3 i j k=true/\Q ((List.range (Builtin.Range.rangeSize i j k).toNat).map fun (n:Nat)=>.int (i+n*k)):=by
 unfold BC at h
 split at h
 ·obtain ⟨hc,h⟩:=az.cy h
  exact ⟨_,_,_,rfl,hc,h⟩
 ·exact h.elim
theorem aK.three {H:Hp} {p q r:PV} {vs:List V} (h:aK H [p,q,r] vs):∃ v u w,vs=[v,u,w]/\Rep H p v/\Rep H q u/\Rep H r w:=by
 cases h with
 | cons h r=>obtain ⟨u,w,rfl,h2,h3⟩:=r.two;exact ⟨_,_,_,rfl,h,h2,h3⟩
theorem A4:CH E (E6 (tL E fs)) (k9 BC fs):=by
 intro σ H R q
 refine dz (K:=KI R) KI.g q fun B H₀ Hs H1 env ps v sr rp hp=>?_
 obtain ⟨i,j,k,rfl,hc,hp⟩:=yP hp
 obtain ⟨w,u,z,rfl,rw',ru,rz⟩:=rp.three
 cases rw'
 cases ru
 cases rz
 exact ⟨i,j,k,rfl,hc,hp _ Hs H1 (.refl sr.gr.sub) zq⟩
end
end L2
namespace L2
open PySem PySem.Spec PyProof.Rows
def jG:List PV->List PV->List PV->List PV
 | x::xs,y::ys,z::zs=>.tup [x,y,z]::jG xs ys zs
 | _,_,_=>[]
theorem sd:∀ {xs ys zs:List PV} {i:Nat} (h1:i<xs.length) (h2:i<ys.length) (h3:i<zs.length),(jG xs ys zs)[i]?=some (.tup [xs[i],ys[i],zs[i]])
 | x::xs,y::ys,z::zs,0,_,_,_=>rfl
 | x::xs,y::ys,z::zs,i+1,h1,h2,h3=>by
  show (jG xs ys zs)[i]?=_
  exact sd (xs:=xs) (ys:=ys) (zs:=zs) (i:=i) (by simpa using h1) (by simpa using h2) (by simpa using h3)
 | [],_,_,_,h1,_,_=>by simp at h1
 | _::_,[],_,_,_,h2,_=>by simp at h2
 | _::_,_::_,[],_,_,_,h3=>by simp at h3
theorem kl:∀ {xs ys zs:List PV},(jG xs ys zs).length=min xs.length (min ys.length zs.length)
 | x::xs,y::ys,z::zs=>by
  show (jG xs ys zs).length+1=_
  rw [kl]
  simp only [List.length_cons]
  omega
 | [],_,_=>by simp [jG]
 | _::_,[],_=>by simp [jG]
 | _::_,_::_,[]=>by simp [jG]
def zd:List PV->M (List PV)
 | [p,q,r]=>match bC p,bC q,bC r with
  | some xs,some ys,some zs=>M.ok (jG xs ys zs)
  | _,_,_=>none
 | _=>none
section
variable {E:St->XK} {K:PySem.W.Frag} {fs:af->M (List PV)}
theorem yz {b1 b2 b3:Bool} {a1 a2 a3:Addr} {Hs1:Hp} {xs ys zs:List PV} {vs us ws:List V} (hq1:∀ Hs' H',aX Hs1 Hs'->aX Hs' H'->kE K H' b1 a1 vs) (hr1:aK Hs1 xs vs) (hq2:∀ Hs' H',aX Hs1 Hs'->aX Hs' H'->kE K H' b2 a2 us) (hr2:aK Hs1 ys us)
  (hq3:∀ Hs' H',aX Hs1 Hs'->aX Hs' H'->kE K H' b3 a3 ws) (hr3:aK Hs1 zs ws):j_ (RR K b1 b2 b3 a1 a2 a3) Hs1 (jG xs ys zs) where
 stop:=fun i Hs H s1 s2 hi=>by
  rw [kl,hr1.length,hr2.length,hr3.length] at hi
  exact ⟨vs,us,ws,hq1 Hs H s1 s2,hq2 Hs H s1 s2,hq3 Hs H s1 s2,by omega⟩
 go:=fun i Hs H s1 s2 hi=>by
  rw [kl] at hi
  obtain ⟨v,e,_⟩:=hr1.get (List.getElem?_eq_getElem (show i<xs.length by omega))
  obtain ⟨u,e',_⟩:=hr2.get (List.getElem?_eq_getElem (show i<ys.length by omega))
  obtain ⟨w,e'',_⟩:=hr3.get (List.getElem?_eq_getElem (show i<zs.length by omega))
  exact ⟨vs,us,ws,v,u,w,hq1 Hs H s1 s2,hq2 Hs H s1 s2,hq3 Hs H s1 s2,e,e',e''⟩
 xa:=fun i Hs H x H2 s1 s2 hi y=>by
  rw [kl] at hi
  have l1:i<xs.length:=by omega
  have l2:i<ys.length:=by omega
  have l3:i<zs.length:=by omega
  obtain ⟨v,e,r⟩:=hr1.get (List.getElem?_eq_getElem l1)
  obtain ⟨u,e',r'⟩:=hr2.get (List.getElem?_eq_getElem l2)
  obtain ⟨w,e'',r''⟩:=hr3.get (List.getElem?_eq_getElem l3)
  obtain ⟨pa,v',u',w',hn,rfl,rfl,y1,y2,y3⟩:=y
  have z1:=y1 vs (hq1 Hs H s1 s2)
  have z2:=y2 us (hq2 Hs H s1 s2)
  have z3:=y3 ws (hq3 Hs H s1 s2)
  rw [e] at z1;cases z1
  rw [e'] at z2;cases z2
  rw [e''] at z3;cases z3
  have gr:=bB.new (o:=.tup [v,u,w]) s2 hn
  exact ⟨_,_,sd l1 l2 l3,gr,.tup aC (.cons ((r.mono s1).mono gr.st) (.cons ((r'.mono s1).mono gr.st) (.cons ((r''.mono s1).mono gr.st) .nil)))⟩
theorem yI {ps:List PV} {Q:List PV->Prop} {F:EX->Prop} (h:az (zd ps) Q F):∃ p q r xs ys zs,ps=[p,q,r]/\bC p=some xs/\bC q=some ys/\bC r=some zs/\Q (jG xs ys zs):=by
 unfold zd at h
 split at h
 ·split at h
  ·exact ⟨_,_,_,_,_,_,rfl,by assumption,by assumption,by assumption,h⟩
  ·exact h.elim
 ·exact h.elim
theorem Ce:CH E (EK K (tL E fs)) (k9 zd fs):=by
 intro σ H R q
 refine dz (K:=KI R) KI.g q fun B H₀ Hs H1 env ps v sr rp hp=>?_
 obtain ⟨p,q,r,xs,ys,zs,rfl,e1,e2,e3,hp⟩:=yI hp
 obtain ⟨w,u,z,rfl,rw',ru,rz⟩:=rp.three
 obtain ⟨b1,a1,vs,rfl,hq1,hr1⟩:=ju (K:=K) sr.gr.sub rw' e1
 obtain ⟨b2,a2,us,rfl,hq2,hr2⟩:=ju (K:=K) sr.gr.sub ru e2
 obtain ⟨b3,a3,ws,rfl,hq3,hr3⟩:=ju (K:=K) sr.gr.sub rz e3
 exact ⟨b1,b2,b3,a1,a2,a3,rfl,⟨vs,hq1 Hs H1 (fun _ _ z=>z) sr.gr.sub⟩,⟨us,hq2 Hs H1 (fun _ _ z=>z) sr.gr.sub⟩,⟨ws,hq3 Hs H1 (fun _ _ z=>z) sr.gr.sub⟩,hp _ Hs H1 (.refl sr.gr.sub) (yz hq1 hr1 hq2 hr2 hq3 hr3)⟩
end
end L2
namespace L2
open PySem PySem.Spec PyProof.Rows
def qj (i j k:Nat):PV->af->M af
 | .tup [p,q,r],env=>M.ok (((env.set i (some (.sh p))).set j (some (.sh q))).set k (some (.sh r)))
 | _,_=>none
theorem D6 {E:XK} {K:PySem.W.Frag} {i j k:Nat}:HZ E (jM K 3 (bp (aI i) (bp (aI j) (bp (aI k) jP)))) (qj i j k):=by
 intro B H₀ Hs H σ env p v Q Z sr r h
 cases r with
 | @tup a xs vs ha hx =>
  match xs,hx with
  | [p,q,r],hx =>
   obtain ⟨v,u,w,rfl,rp,rq,rr⟩:=hx.three
   exact ⟨a,[v,u,w],rfl,ib.of (sr.gr.sub _ _ ha),rfl,v,[u,w],rfl,u,[w],rfl,w,[],rfl,rfl,h _ (((sr.set rp).set rq).set rr)⟩
  | [],_=>exact h.elim
  | [_],_=>exact h.elim
  | [_,_],_=>exact h.elim
  | _::_::_::_::_,_=>exact h.elim
 | _=>exact h.elim
theorem wB {i j k:Nat}:xT (qj i j k):=fun p env e h n=>by
 unfold qj at h
 split at h
 ·cases h;exact kB (kB (kB n))
 ·cases h
section
variable {X:Cx} {E:XK} {e:Expr} {es:List Expr} {pos pos' px:Pos} {fs:af->M (List PV)} {f h:af->M PV} {i:Nat} {x:Str}
def ownAt (i:Nat) (env:af):M (List PV):=match env[i]? with
 | some (some (.ow xs))=>M.ok xs
 | _=>none
theorem az.own {i:Nat} {env:af} {Q:List PV->Prop} {F:EX->Prop} (h:az (ownAt i env) Q F):∃ xs,env[i]?=some (some (.ow xs))/\Q xs:=by
 unfold ownAt at h
 split at h
 ·exact ⟨_,by assumption,h⟩
 ·exact h.elim
def JA (n:Nat) (sem:List PV->M (List PV)):Sp:=fun vs H Q E=>vs.length=n/\∃ Hs ps,aX Hs H/\aK Hs ps vs/\az (sem ps) (KO Q Hs H) (XW E Hs H)
end
theorem DY {P:Program} {w:World} {K:PySem.W.Frag} {mg:Str->Option Value} {base:Heap} {k:Nat} {f:Addr} {name qual:Str} {params:Arguments} {e:Expr} {pos:Pos} {scope:Scope} {dV kV doc pm cdv ct oc:Value} {an od:Option Addr}
  {osl:Array (Option Value)} {N ps:List Str} {g:af->M (List PV)} (lk:K.lookup f=some ⟨oc,od,.func (PySem.W.fnOf name qual params [.Return (some e) pos] scope dV kV doc pm an cdv ct),osl⟩) (hcd:PySem.W.codeIn K cdv qual=true) (S:ax N ps scope)
  (hb:∀ (A:Around) (outer:List Env) (s:Shared) (H:Hp) (E:XK),bR k (A.deeper (envOfC qual scope s.heap.objs.size f cdv))->PE ((k_ (bM P w) P w K mg base N qual scope f cdv A outer s H E).out fun _=>E) e (tO (fun _=>E) g)) :
  aN P w K mg base (bM P w) (k+1) f (PySem.W.fnOf name qual params [.Return (some e) pos] scope dV kV doc pm an cdv ct) ps (JA ps.length fun ps=>g (jo N.length ps)):=by
 refine uL lk hcd S (fun vs H Q E h=>h.1) fun A outer s H vs Q E hr hs=>⟨_,xX (AX (hb A outer s H E hr)),?_⟩
 obtain ⟨_,Hs,ps',sm,r,h⟩:=hs
 exact ⟨Hs,H,Hs,_,SR.start sm r,h⟩
theorem KO.gr {Q:VK}:KG (KO Q):=fun Hs H Hs' H' b k g vs p Hs2 H2 g2 r n=>k vs p Hs2 H2 (g.trans g2) r n
section
variable {X:Cx} {E:St->XK} {k n:Nat} {f C:Addr} {fd:FuncData} {ps:List Str} {sem:List PV->M (List PV)} {m:Str} {p pos apos cpos:Pos} {e o:Expr} {es:List Expr} {fs:af->M (List PV)} {g:af->M PV}
def xZ (C:Addr) (m:Str) (sem:List PV->M (List PV)) (g:af->M PV):af->M (List PV):=fun env=>(g env).bind fun p=>match p with
 | .obj C' fl=>cy (C'=C/\fl.lookup m=none) (sem [.obj C' fl])
 | _=>none
theorem Cu {pl:Sem Bool} (he:PE X o (tE E g)) (c:mj X.K C) (hm:Meth X.K C m f) (F:aN X.prog X.w X.K X.mg X.base (bM X.prog X.w) k f fd ps (JA 1 sem)) (hr:bR k X.A) (hb:Binds X.K fd ps []) (O:eQ X E)
  (ht:eval (.Call (.Attribute o m apos) [] [] pos) X.env=(do
   let ov ← eval o X.env
   standAt apos.atName
   let (f,first) ← holding [ov] (getMethod ov m pl)
   callWith pos f first (backTo pos (starEach [] X.env)) (backToKw pos (keywordEach [] X.env))):=by rfl) :
  PE X (.Call (.Attribute o m apos) [] [] pos) (tO E (xZ C m sem g)):=by
 refine (rP he c hm F hr hb .nil O ht).imp fun σ H Q q=>bU (K:=KO Q) KO.gr q fun B H₀ Hs H1 env p v sr rp hp=>?_
 cases rp with
 | @obj a C' dx fl fvs ho hx =>
  obtain ⟨⟨e1,hn⟩,CF⟩:=az.cy hp
  subst e1
  exact ⟨a,dx,fvs,rfl,sr.gr.sub _ _ ho,hx.none hn,rfl,Hs,_,sr.gr.sub,.cons (Rep.obj ho hx) .nil,CF⟩
 | _=>exact hp.elim
def w5 (g:af->M (List PV)):af->M PV:=fun env=>(g env).bind fun _=>M.ok .cI
theorem zE {go:af->M (List PV)} (he:PE X o (tO E go)) (hbase:attributeBase o "clear" X.env (eval o X.env)=eval o X.env:=by rfl) (hline:(apos.endLine==cpos.line)=true:=by rfl) :
  PE X (.Call (.Attribute o "clear" apos) [] [] cpos) (tE E (w5 go)):=by
 refine (Hm PySem.F.plainAttrs_list PySem.F.slot_list_clear PySem.F.type_list_clear Ah he hbase hline).imp fun σ H Q q=>?_
 obtain ⟨B,H₀,Hs,env,sr,q⟩:=q
 refine ⟨B,H₀,Hs,env,sr,(az.bind q).imp (fun ps hp vs p Hs' H' g r n=>?_) fun e he=>he⟩
 refine ⟨.inl ⟨rfl,vs,jg.of aC⟩,p,vs,rfl,rfl,aC,?_⟩
 rw [uR]
 exact hp .cI _ _ (g.trans (bB.new (o:=.lst []) g.sub n)) .cI
end
end L2
namespace L2
open PySem PySem.Spec PyProof.Rows
mutual
def pJ:PV->Bool
 | .cI=>true
 | .bl _=>true
 | .int _=>true
 | .str _=>true
 | .tup xs=>my xs
 | _=>false
def my:List PV->Bool
 | []=>true
 | p::r=>pJ p&&my r
end
mutual
theorem Rep.away {Hs:Hp} {a:Addr} {ws:List V} (ha:Hs a=some (.lst ws)):∀ {p:PV} {v:V},Rep Hs p v->pJ p=true->Rep (rem Hs a) p v
 | _,_,.cI,_=>.cI
 | _,_,.bl b,_=>.bl b
 | _,_,.int b,_=>.int b
 | _,_,.str b,_=>.str b
 | _,_,.tup (a:=c) h r,n=>by
  have nc:c≠a:=fun z=>by subst z;rw [ha] at h;cases h
  exact .tup (by unfold rem;rw [if_neg nc];exact h) (r.away ha n)
 | _,_,.lst _ _,n=>by cases n
 | _,_,.jR _ _,n=>by cases n
 | _,_,.obj _ _,n=>by cases n
 | _,_,.zA _,n=>by cases n
 | _,_,.y_ _ _ _,n=>by cases n
theorem aK.away {Hs:Hp} {a:Addr} {ws:List V} (ha:Hs a=some (.lst ws)):∀ {p:List PV} {v:List V},aK Hs p v->my p=true->aK (rem Hs a) p v
 | _,_,.nil,_=>.nil
 | _,_,.cons h r,n=>by
  have n':=Bool.and_eq_true_iff.mp (show (pJ _&&my _)=true from n)
  exact .cons (h.away ha n'.1) (r.away ha n'.2)
end
def Dk:M PV->M PV
 | some (.ok p)=>cy (pJ p=true) (M.ok p)
 | _=>none
theorem az.Dk {r:M PV} {Q:PV->Prop} {E:EX->Prop} (h:az (L2.Dk r) Q E):az r (fun p=>pJ p=true/\Q p) (fun _=>False):=by
 cases r with
 | none=>exact h
 | some r=>cases r with
  | error e=>exact h
  | ok p =>
   obtain ⟨n,h⟩:=az.cy h
   exact ⟨n,h⟩
theorem bB.back {Hs H Hs' H':Hp} {a:Addr} {ws:List V} (h1:Hs a=none) (hH:H a=some (.lst ws)) (s:aX Hs H) (g:bB (upd Hs a (.lst ws)) H Hs' H'):bB Hs H (rem Hs' a) H'/\Hs' a=some (.lst ws):=by
 have e:Hs' a=some (.lst ws):=g.st _ _ aC
 refine ⟨⟨fun c u q=>?_,g.al,fun c u q=>?_,fun c u q1 q2=>?_⟩,e⟩
 ·have nc:c≠a:=fun z=>by subst z;rw [h1] at q;cases q
  unfold rem;rw [if_neg nc]
  exact g.st c u (by rw [au nc];exact q)
 ·unfold rem at q
  split at q
  ·cases q
  ·exact g.sub c u q
 ·unfold rem
  by_cases nc:c=a
  ·rw [if_pos nc]
  ·rw [if_neg nc]
   exact g.nw c u (by rw [au nc];exact q1) q2
theorem SR.lend {B H₀ Hs H:Hp} {σ:St} {env:af} {i:Nat} {xs:List PV} (r:SR B H₀ Hs H σ env) (e:env[i]?=some (some (.ow xs))):∃ a vs,Hs a=none/\H a=some (.lst vs)/\SR B H₀ (upd Hs a (.lst vs)) H σ (vK i env):=by
 obtain ⟨a,vs,h1,h2,h3,h4,h5⟩:=r.ow i xs e
 refine ⟨a,vs,h3,h2,?_⟩
 have ne:∀ c u,Hs c=some u->c≠a:=fun c u q z=>by rw [z,h3] at q;cases q
 have hst:aX Hs (upd Hs a (.lst vs)):=fun c u q=>by rw [au (ne c u q)];exact q
 unfold vK
 rw [e]
 refine ⟨⟨fun c u q=>hst c u (r.gr.st c u q),r.gr.al,fun c u q=>?_,fun c u q1 q2=>?_⟩,by rw [List.length_set];exact r.len,fun j q ej=>?_,fun j ys ej=>?_,fun j k ys zs b nj e1 e2 e3 e4=>?_,fun j ba C fs ej=>?_,fun j k _ _ C D fs gs e1 e2=>?_⟩
 ·by_cases z:c=a
  ·subst z;rw [aC] at q;cases q;exact h2
  ·rw [au z] at q;exact r.gr.sub c u q
 ·have z:c≠a:=fun z=>by rw [z,h4] at q2;cases q2
  rw [au z];exact r.gr.nw c u q1 q2
 ·rw [List.getElem?_set] at ej
  by_cases z:i=j
  ·subst z
   rw [if_pos rfl] at ej
   split at ej
   ·cases ej
    exact ⟨.ref a,h1,.lst aC (h5.mono hst)⟩
   ·cases ej
  ·rw [if_neg z] at ej
   obtain ⟨v,q1,q2⟩:=r.sh j q ej
   exact ⟨v,q1,q2.mono hst⟩
 ·rw [List.getElem?_set] at ej
  by_cases z:i=j
  ·subst z
   rw [if_pos rfl] at ej
   split at ej <;> cases ej
  ·rw [if_neg z] at ej
   obtain ⟨b,us,q1,q2,q3,q4,q5⟩:=r.ow j ys ej
   have nb:b≠a:=fun w=>by subst w;exact r.sep i j xs ys b z e ej h1 q1
   exact ⟨b,us,q1,q2,by rw [au nb];exact q3,q4,q5.mono hst⟩
 ·rw [List.getElem?_set] at e1 e2
  by_cases z:i=j
  ·subst z
   rw [if_pos rfl] at e1
   split at e1 <;> cases e1
  ·by_cases z2:i=k
   ·subst z2
    rw [if_pos rfl] at e2
    split at e2 <;> cases e2
   ·rw [if_neg z] at e1
    rw [if_neg z2] at e2
    exact r.sep j k ys zs b nj e1 e2 e3 e4
 ·rw [List.getElem?_set] at ej
  by_cases z:i=j
  ·subst z
   rw [if_pos rfl] at ej
   split at ej <;> cases ej
  ·rw [if_neg z] at ej
   obtain ⟨dx,us,q1,q2,q3,q4,q5⟩:=r.bd j ba C fs ej
   have nb:ba≠a:=fun w=>by subst w;rw [h2] at q2;cases q2
   exact ⟨dx,us,q1,q2,by rw [au nb];exact q3,q4,q5.mono hst⟩
 ·rw [List.getElem?_set] at e1 e2
  by_cases z:i=j
  ·subst z
   rw [if_pos rfl] at e1
   split at e1 <;> cases e1
  ·by_cases z2:i=k
   ·subst z2
    rw [if_pos rfl] at e2
    split at e2 <;> cases e2
   ·rw [if_neg z] at e1
    rw [if_neg z2] at e2
    exact r.one j k _ _ C D fs gs e1 e2
def Ac (i:Nat) (f:af->M PV):af->M PV:=fun env=>(ownAt i env).bind fun _=>Dk (f (vK i env))
section
variable {X:Cx} {E:St->XK} {e:Expr} {f:af->M PV} {u:af->M Bool}
theorem Ex (i:Nat) (he:PE X e (tE E f)):PE X e (tE E (Ac i f)):=he.imp fun σ H Q q=>by
 obtain ⟨B,H₀,Hs,env,sr,q⟩:=q
 obtain ⟨xs,ex,q⟩:=az.own (az.bind q)
 obtain ⟨a,vs,h3,h2,sr2⟩:=sr.lend ex
 refine ⟨B,H₀,_,_,sr2,(az.Dk q).imp (fun p hp v Hs' H' g r=>?_) fun _ z=>z.elim⟩
 obtain ⟨g2,ea⟩:=bB.back h3 h2 sr.gr.sub g
 exact hp.2 v _ _ g2 (r.away ea hp.1)
end
end L2
namespace L2
open PySem PySem.Spec PyProof.Rows
def cQ:PV->PV->M PV:=xf (fun _ j=>decide (j≠0/\j.natAbs.log2<9000)) fun i j=>i.fdiv j
def fG:PV->PV->M PV:=xf (fun _ j=>decide (j≠0)) fun i j=>i.fmod j
def Cr:PV->PV->M PV:=xf (fun i j=>decide (0<=j/\j<=1000000/\i.natAbs<2^64)) fun i j=>i^j.toNat
def wu:PV->PV->M PV:=Aa fun i j=>decide (i<j)
def zS:PV->PV->M PV:=Aa fun i j=>decide (i<=j)
def Fi:PV->PV->M PV:=Aa fun i j=>decide (j<i)
def HP:PV->PV->M PV:=Aa fun i j=>decide (j<=i)
section
variable {E:St->XK}
theorem BH:lK E (rI Cz fun i j=>.int (i.fdiv j)) cQ:=Dr
theorem D7:lK E (rI (fun _ j=>j≠0) fun i j=>.int (i.fmod j)) fG:=Ff
theorem DI:lK E (rI G6 fun i j=>.int (i^j.toNat)) Cr:=HL
theorem ql:lK E (xJ fun i j=>.bl (decide (i<j))) wu:=sR
theorem lj:lK E (xJ fun i j=>.bl (decide (i<=j))) zS:=sR
theorem Bw:lK E (xJ fun i j=>.bl (decide (j<i))) Fi:=sR
theorem Bg:lK E (xJ fun i j=>.bl (decide (j<=i))) HP:=sR
end
def bb (n:Nat) (s:List PV->M PV):List PV->M PV:=fun ps=>cy (ps.length=n) (s ps)
theorem qc {n:Nat} {s:List PV->M PV} {ps:List PV} (h:bb n s ps≠none):ps.length=n:=by
 unfold bb cy at h
 split at h
 ·assumption
 ·exact (h rfl).elim
section
variable {P:Program} {w:World} {K:PySem.W.Frag} {mg:Str->Option Value} {base:Heap}
theorem BF {k n:Nat} {f:Addr} {fd:FuncData} {ps:List Str} {s:List PV->M PV} (F:aN P w K mg base (bM P w) k f fd ps (fm n s)):aN P w K mg base (bM P w) k f fd ps (fm n (bb n s)) where
 len:=fun vs H Q E h=>by
  obtain ⟨h0,Hs,qs,sm,r,h⟩:=h
  exact F.len vs H Q E ⟨h0,Hs,qs,sm,r,(az.cy h).2⟩
 run:=fun A outer s H args us vs Q E hr e hb rv h=>by
  obtain ⟨h0,Hs,qs,sm,r,h⟩:=h
  exact F.run A outer s H args us vs Q E hr e hb rv ⟨h0,Hs,qs,sm,r,(az.cy h).2⟩
structure bL (P:Program) (w:World) (K:PySem.W.Frag) (mg:Str->Option Value) (base:Heap) (n:Nat) (x:Str) (m:Nat) (sem:List PV->M PV):Prop where
 ex:∃ (f:Addr) (fd:FuncData) (ps:List Str),mg x=some (.ref f)/\PySem.W.keepIn K (.ref f)=true/\ps.length=m/\Binds K fd ps []/\aN P w K mg base (bM P w) n f fd ps (fm m (bb m sem))
theorem aF.hV {x qual:Str} {st:Stmt} {dv:Value} {f:Addr} {fd:FuncData} {N ps:List Str} {k:Nat} {g:af->M Out} (F:aF K x qual st dv f fd) (S:ax N ps (ah st))
  (hb:∀ (cdv:Value) (A:Around) (outer:List Env) (s:Shared) (H:Hp) (E:XK),bR k (A.deeper (envOfC qual (ah st) s.heap.objs.size f cdv))->eQ ((k_ (bM P w) P w K mg base N qual (ah st) f cdv A outer s H E).out fun _=>E) (fun _=>E)->mW ((k_ (bM P w) P w K mg base N qual (ah st) f cdv A outer s H E).out fun _=>E) (aA st) (tS E g)) :
  aN P w K mg base (bM P w) (k+1) f fd ps (fm ps.length (bb ps.length (aw N.length g))):=by
 obtain ⟨oc,od,kV,doc,pm,an,cdv,ct,osl,rfl,lk,hcd⟩:=F.ex
 exact BF (FK lk hcd S fun A outer s H E hr=>hb cdv A outer s H E hr (Ar rfl rfl))
end
section
variable {X:Cx} {E:St->XK} {n m k:Nat} {x:Str} {sem:List PV->M PV} {e:Expr} {es:List Expr} {fs:af->M (List PV)} {p pos:Pos}
theorem bL.call (F:bL X.prog X.w X.K X.mg X.base n x m sem) (hr:bR k X.A) (hn:n<=k) (hg:Gl X x) (O:eQ X E) (ha:PA X (e::es) (tL E fs)) (hdb:(x==("__debug__" : Str))=false:=by decide) (he:starEach (e::es) X.env=(false,eval e X.env)::starEach es X.env:=by rfl) (hpl:(backTo pos (starEach es X.env)).any (·.1)=false:=by rfl) :
  PE X (.Call (.Name x p) (e::es) [] pos) (tE E (ai (bb m sem) fs)):=by
 obtain ⟨f,fd,ps,h1,h2,h3,h4,h5⟩:=F.ex
 have:=CW (p:=p) (dps:=[]) h5 (hr.mono hn) hg h1 h2 h4 .nil (fun _=>.nil) O (fun ps' hp=>by rw [List.append_nil] at hp;exact qc hp) ha hdb he hpl
 refine this.imp fun σ H Q q=>?_
 have e:(fun ps=>bb m sem (ps++[]))=bb m sem:=by funext ps;rw [List.append_nil]
 rw [e];exact q
structure lh (P:Program) (w:World) (K:PySem.W.Frag) (mg:Str->Option Value) (base:Heap) (C:Addr) (n:Nat) (x:Str) (m:Nat) (sem:List PV->M PV):Prop where
 ex:∃ (f:Addr) (fd:FuncData) (ps:List Str),mj K C/\Meth K C x f/\Binds K fd ps []/\aN P w K mg base (bM P w) n f fd ps (fm m (bb m sem))
theorem lh.call {C:Addr} {o:Expr} {g:af->M PV} {apos:Pos} {pl:Sem Bool} (F:lh X.prog X.w X.K X.mg X.base C n x m sem) (hr:bR k X.A) (hn:n<=k) (O:eQ X E) (ho:PE X o (tE E g)) (ha:PA X (e::es) (tL E fs))
  (hst:starEach (e::es) X.env=(false,eval e X.env)::starEach es X.env:=by rfl) (hpl:(backTo pos (starEach es X.env)).any (·.1)=false:=by rfl)
  (ht:eval (.Call (.Attribute o x apos) (e::es) [] pos) X.env=(do
   let ov ← eval o X.env
   standAt apos.atName
   let (f,first) ← holding [ov] (getMethod ov x pl)
   callWith pos f first (backTo pos (starEach (e::es) X.env)) (backToKw pos (keywordEach [] X.env))):=by rfl) :
  PE X (.Call (.Attribute o x apos) (e::es) [] pos) (tE E (b_ C x (bb m sem) g fs)):=by
 obtain ⟨f,fd,ps,h1,h2,h3,h4⟩:=F.ex
 exact C0 ho h1 h2 h4 (hr.mono hn) h3 O (fun ps' hp=>qc hp) ha hst hpl ht
theorem lh.AO {C:Addr} {o:Expr} {g:af->M PV} {apos:Pos} {pl:Sem Bool} (F:lh X.prog X.w X.K X.mg X.base C n x m sem) (hr:bR k X.A) (hn:n<=k) (O:eQ X E) (ho:PE X o (tE E g))
  (ht:eval (.Call (.Attribute o x apos) [] [] pos) X.env=(do
   let ov ← eval o X.env
   standAt apos.atName
   let (f,first) ← holding [ov] (getMethod ov x pl)
   callWith pos f first (backTo pos (starEach [] X.env)) (backToKw pos (keywordEach [] X.env))):=by rfl) :
  PE X (.Call (.Attribute o x apos) [] [] pos) (tE E (b_ C x (bb m sem) g aq)):=by
 obtain ⟨f,fd,ps,h1,h2,h3,h4⟩:=F.ex
 exact BB ho h1 h2 h4 (hr.mono hn) h3 O (fun ps' hp=>qc hp) ht
end
structure Gi (P:Program) (w:World) (K:PySem.W.Frag) (mg:Str->Option Value) (base:Heap) (C:Addr) (n:Nat) (x:Str) (m:Nat) (dps:List PV) (sem:Addr->List PV->M (List (Str×PV))):Prop where
 ex:∃ (f:Addr) (fd:FuncData) (ps:List Str) (ds:List Value) (dvs:List V),mg x=some (.ref C)/\Mk K C f/\Binds K fd ps ds/\Vals dvs ds/\(∀ H,aK H dps dvs)/\aN P w K mg base (bM P w) n f fd ps (E5 m C sem)
def rE (m:Nat) (sem:Addr->List PV->M (List (Str×PV))):Addr->List PV->M (List (Str×PV)):=fun a ps=>cy (ps.length+1=m) (sem a ps)
theorem zm {P:Program} {w:World} {K:PySem.W.Frag} {mg:Str->Option Value} {base:Heap} {k n:Nat} {f C:Addr} {fd:FuncData} {ps:List Str} {s:Addr->List PV->M (List (Str×PV))} (F:aN P w K mg base (bM P w) k f fd ps (E5 n C s)):aN P w K mg base (bM P w) k f fd ps (E5 n C (rE n s)) where
 len:=fun vs H Q E h=>by
  obtain ⟨h0,a,dx,us,Hs,H1,qs,e1,e2,e3,e4,e5,sm,r,h⟩:=h
  exact F.len vs H Q E ⟨h0,a,dx,us,Hs,H1,qs,e1,e2,e3,e4,e5,sm,r,(az.cy h).2⟩
 run:=fun A outer s H args us vs Q E hr e hb rv h=>by
  obtain ⟨h0,a,dx,us',Hs,H1,qs,e1,e2,e3,e4,e5,sm,r,h⟩:=h
  exact F.run A outer s H args us vs Q E hr e hb rv ⟨h0,a,dx,us',Hs,H1,qs,e1,e2,e3,e4,e5,sm,r,(az.cy h).2⟩
theorem aF.Uz {P:Program} {w:World} {K:PySem.W.Frag} {mg:Str->Option Value} {base:Heap} {x qual:Str} {st:Stmt} {dv:Value} {f C:Addr} {fd:FuncData} {N ps:List Str} {k:Nat} {g:af->M Out} (F:aF K x qual st dv f fd) (S:ax N ps (ah st)) (hN:0<N.length)
  (hb:∀ (cdv:Value) (A:Around) (outer:List Env) (s:Shared) (H:Hp) (E:XK),bR k (A.deeper (envOfC qual (ah st) s.heap.objs.size f cdv))->eQ ((k_ (bM P w) P w K mg base N qual (ah st) f cdv A outer s H E).out fun _=>E) (fun _=>E)->mW ((k_ (bM P w) P w K mg base N qual (ah st) f cdv A outer s H E).out fun _=>E) (aA st) (tS E g)) :
  aN P w K mg base (bM P w) (k+1) f fd ps (E5 ps.length C (rE ps.length (wQ N.length g C))):=by
 obtain ⟨oc,od,kV,doc,pm,an,cdv,ct,osl,rfl,lk,hcd⟩:=F.ex
 exact zm <| CT lk hcd S hN fun A outer s H E hr=>hb cdv A outer s H E hr (Ar rfl rfl)
section
variable {X:Cx} {E:St->XK} {n m k:Nat} {x:Str} {e:Expr} {es:List Expr} {fs:af->M (List PV)} {p pos:Pos}
theorem Gi.make {C:Addr} {dps:List PV} {sem:Addr->List PV->M (List (Str×PV))} (F:Gi X.prog X.w X.K X.mg X.base C n x m dps (rE m sem)) (hr:bR k X.A) (hn:n+1<=k) (hg:Gl X x) (O:eQ X E) (ha:PA X (e::es) (tL E fs)) (hdb:(x==("__debug__" : Str))=false:=by decide) (he:starEach (e::es) X.env=(false,eval e X.env)::starEach es X.env:=by rfl) (hpl:(backTo pos (starEach es X.env)).any (·.1)=false:=by rfl) :
  PE X (.Call (.Name x p) (e::es) [] pos) (tE E (ai (i7 C (rE m sem) dps) fs)):=by
 obtain ⟨f,fd,ps,ds,dvs,h1,h2,h4,h5,h6,h7⟩:=F.ex
 refine C6 (p:=p) h2 h7 (hr.mono hn) hg h1 h4 h5 h6 O (fun a ps' hp=>?_) ha hdb he hpl
 unfold rE cy at hp
 split at hp
 ·rename_i h;rwa [List.length_append] at h
 ·exact (hp rfl).elim
end
def kc:Addr->Option Bool:=fun _=>none
theorem fB {P:Addr->Bool->Prop}:∀ C b,kc C=some b->P C b:=fun _ _ h=>by cases h
theorem vr {X:Cx} {E:St->XK} {x:Str} {pos:Pos} (i:Nat) (hN:X.N[i]?=some x:=by rfl) (hv:DF X.env.scope x:=by first | exact .inl rfl | exact .inr (.inl rfl) | exact .inr (.inr rfl)) (hd:(x==("__debug__" : Str))=false:=by decide) (hcd:(x==("__classdict__" : Str))=false:=by decide):PE X (.Name x pos) (tE E (aa i)):=GJ hN hv hd hcd
end L2
namespace L2
open PySem PySem.Spec PyProof.Rows
theorem E8 {env:Env} {e:Expr} {es:List Expr} (h:(match e with | .Starred ..=>true | _=>false)=false):starEach (e::es) env=(false,eval e env)::starEach es env:=by
 cases e <;> first | rfl | cases h
def kx:List Expr->Option (List Int)
 | []=>some []
 | .Constant (.int i) _ _::r=>(kx r).map (i::·)
 | _=>none
section
variable {X:Cx} {E:St->XK} {pos:Pos}
theorem xH:∀ {es:List Expr} {ns:List Int},kx es=some ns->PA X es (tL E fun _=>M.ok (ns.map PV.int))
 | [],_,h=>by cases h;exact z6
 | .Constant (.int i) j p::r,ns,h=>by
  obtain ⟨ms,h1,rfl⟩:=Option.map_eq_some_iff.mp (show (kx r).map (i::·)=some ns from h)
  exact xK By (xH h1) (E8 rfl)
theorem yi {es:List Expr} (ns:List Int) (h:kx es=some ns:=by rfl) (hz:ns.length<=1000:=by decide):PE X (.List es pos) (tE E fun _=>M.ok (.lst (ns.map PV.int))):=by
 refine (AN (E:=E) (xH h)).imp fun σ H Q q=>?_
 have e:(AB fun _=>M.ok (ns.map PV.int))=fun _=>M.ok (.lst (ns.map PV.int)):=by
  funext env
  show cy _ _=_
  unfold cy
  rw [if_pos (by rw [List.length_map];exact Nat.le_trans hz (by decide))]
 rw [e];exact q
end
end L2
namespace L2
open PySem PySem.Spec PyProof.Rows
section
variable {X:Cx} {E:St->XK} {a b:Expr} {pos:Pos} {f g:af->M PV}
end
end L2
namespace L2
open PySem PySem.Spec PyProof.Rows
structure Cq (K:PySem.W.Frag) (mg:Str->Option Value) (C:Addr) (x:Str):Prop where
 hc:PySem.W.excIn K C eE "ValueError.__new__" = true
 c:ji K C
 ht:PySem.W.typeIn K (.ref C)=some (.type "type")
 kp:PySem.W.keepIn K (.ref C)=true
 m:mg x=some (.ref C)
structure tZ (P:Program) (w:World) (K:PySem.W.Frag) (mg:Str->Option Value) (base:Heap) (C:Addr) (x fl:Str):Prop where
 ex:∃ (f:Addr) (fd:FuncData) (ps:List Str),kh K C "ValueError.__new__" f=true/\PySem.W.isFn K (.ref f)=true/\aN P w K mg base (bM P w) 1 f fd ps (zC K C fl)/\Binds K fd ps []
 c:ji K C
 ht:PySem.W.typeIn K (.ref C)=some (.type "type")
 kp:PySem.W.keepIn K (.ref C)=true
 m:mg x=some (.ref C)
section
variable {X:Cx} {E:XK} {e:Expr} {es:List Expr} {pos p cpos:Pos} {x fl:Str} {C:Addr} {k:Nat} {fs:af->M (List PV)}
theorem Cq.raise (F:Cq X.K X.mg C x) (O:eQ X fun _=>E) (hcalm:X.calm=true) (hg:Gl X x) (ha:PA X (e::es) (tL (fun _=>E) fs))
  (hdb:(x==("__debug__" : Str))=false:=by decide) (he:starEach (e::es) X.env=(false,eval e X.env)::starEach es X.env:=by rfl) (hpl:(backTo cpos (starEach es X.env)).any (·.1)=false:=by rfl) :
  PS X (.Raise (some (.Call (.Name x p) (e::es) [] cpos)) none pos) (tS E (kZ C fs)):=yq O hcalm F.hc F.c F.ht F.kp hg F.m ha hdb he hpl
theorem tZ.raise (F:tZ X.prog X.w X.K X.mg X.base C x fl) (hr:bR k X.A) (hn:2<=k) (O:eQ X fun _=>E) (hcalm:X.calm=true) (hg:Gl X x) (ha:PA X [e] (tL (fun _=>E) fs))
  (hdb:(x==("__debug__" : Str))=false:=by decide) (he:starEach [e] X.env=(false,eval e X.env)::starEach [] X.env:=by rfl) (hpl:(backTo cpos (starEach [] X.env)).any (·.1)=false:=by rfl) :
  PS X (.Raise (some (.Call (.Name x p) [e] [] cpos)) none pos) (tS E (j8 C fl fs)):=by
 obtain ⟨f,fd,ps,h1,h2,h3,h4⟩:=F.ex
 exact ze O hcalm h1 h2 F.c F.ht F.kp h3 (hr.mono hn) h4 hg F.m ha hdb he hpl
end
end L2
namespace L2
open PySem PySem.Spec PyProof.Rows
def h_ (bt:Int->Int->Bool):List Int->Int->Int
 | [],m=>m
 | n::r,m=>h_ bt r (if bt n m=true then n else m)
theorem si (bt:Int->Int->Bool) (n:Int):∀ (r:List Int) (j:Nat),j<r.length+1->(n::r).getD (argBest (fun i k=>bt ((n::r).getD i 0) ((n::r).getD k 0)) j) 0=h_ bt (r.take j) n
 | r,0,_=>by simp [argBest,h_]
 | r,j+1,h=>by
  have ih:=si bt n r j (by omega)
  have hj:j<r.length:=by omega
  have e1:h_ bt (r.take (j+1)) n=(if bt r[j] (h_ bt (r.take j) n)=true then r[j] else h_ bt (r.take j) n):=by
   have:∀ (l:List Int) (x m:Int),h_ bt (l++[x]) m=(if bt x (h_ bt l m)=true then x else h_ bt l m):=by
    intro l x
    induction l with
    | nil=>intro m;rfl
    | cons a l ih=>intro m;exact ih _
   rw [List.take_succ,List.getElem?_eq_getElem hj]
   exact this _ _ _
  have e2:(n::r).getD (j+1) 0=r[j]:=by simp [List.getD,hj]
  rw [e1,← ih]
  have e3:argBest (fun i k=>bt ((n::r).getD i 0) ((n::r).getD k 0)) (j+1)=if bt ((n::r).getD (j+1) 0) ((n::r).getD (argBest (fun i k=>bt ((n::r).getD i 0) ((n::r).getD k 0)) j) 0)=true then j+1 else argBest (fun i k=>bt ((n::r).getD i 0) ((n::r).getD k 0)) j:=rfl
  rw [e3]
  by_cases z:bt ((n::r).getD (j+1) 0) ((n::r).getD (argBest (fun i k=>bt ((n::r).getD i 0) ((n::r).getD k 0)) j) 0)=true
  ·rw [if_pos z,e2,if_pos (by rw [← e2];exact z)]
  ·rw [if_neg z,if_neg (by rw [← e2];exact z)]
theorem vQ (bt:Int->Int->Bool) (n:Int) (r:List Int):(n::r).getD (argBest (fun i k=>bt ((n::r).getD i 0) ((n::r).getD k 0)) r.length) 0=h_ bt r n:=by
 rw [si bt n r r.length (by omega),List.take_length]
section
variable {X:Cx} {E:St->XK}
theorem mT {ns:List Int} {its:List Value} (rv:Vals (ns.map V.int) its):∀ (i:Nat) (v:Value),its.toArray[i]?=some v->∃ t,v=Value.int (ns.getD i 0) t:=by
 intro i v h
 have h':its[i]?=some v:=by simpa using h
 have hl:=rv.length
 have hi:i<ns.length:=by
  have:=(List.getElem?_eq_some_iff.mp h').1
  rw [← hl,List.length_map] at this;exact this
 obtain ⟨u,hu,ru⟩:=rv.get (show (ns.map V.int)[i]?=some (.int ns[i]) by rw [List.getElem?_map,List.getElem?_eq_getElem hi];rfl)
 rw [h'] at hu;cases hu
 obtain ⟨t,e⟩:=ru
 exact ⟨t,by rw [e];simp [List.getD,hi]⟩
def Cv (K:PySem.W.Frag) (bt:Int->Int->Bool):List V->Hp->VK->Prop:=fun xs H Q=>∃ (b:Bool) (a:Addr) (n:Int) (r:List Int),xs=[.ref a]/\kE K H b a ((n::r).map V.int)/\Q (.int (h_ bt r n)) H
theorem zv (hc:X.calm=true):dJ X (.builtin "max") (Cv X.K fun i j=>decide (i>j)):=by
 intro pins s σ H xs us Q I r h
 obtain ⟨b,a,n,rr,rfl,hq,q⟩:=h
 cases r with
 | cons r1 r2 =>
  cases r2
  cases (show _=Value.ref a from r1)
  obtain ⟨its,rv,p,hz⟩:=I.row hq
  have hln:its.length=rr.length+1:=by have:=rv.length;simpa using this.symm
  obtain ⟨oa,na,ea,_⟩:=p.obj
  have hlt:a<s.heap.objs.size:=Heap.lt_size ea
  have fin:∀ (v:Value) (h':Heap) (tk:Nat),its.toArray[argBest (fun i j=>decide ((n::rr).getD i 0>(n::rr).getD j 0)) (its.toArray.size-1)]?=some v->(∀ c o,c≠s.heap.objs.size->(s.heap.push (zZ b a)).get? c=some o->h'.get? c=some o)->EP X pins σ Q v { s with heap:=h',toks:=tk }:=by
   intro v h' tk hv hk
   obtain ⟨t,e⟩:=mT rv _ _ hv
   have e2:=vQ (fun i j=>decide (i>j)) n rr
   rw [show its.toArray.size-1=rr.length by simp [hln]] at e
   rw [e2] at e
   refine ⟨.int _,H,I.kept (t':=tk) (fun c x e'=>?_),⟨t,e⟩,q⟩
   exact hk c x (fun z=>by rw [z] at e';exact Nat.lt_irrefl _ (Heap.lt_size e')) (Heap.get?_push_of_some _ e')
  have hsz:0<its.toArray.size:=by simp [hln]
  cases b with
  | true =>
   refine call_max_walk (wpAny_pyIter_list p ⟨s.heap.objs.size,[s.heap.objs.size,a],[s.heap.objs.size],its.toArray.size,_,_,_,rfl,Walks.list (A:=X.A.in1) (I.ok.hd hc) _ a (Nat.ne_of_lt hlt) its.toArray,⟨⟨_,Heap.get?_push_size _ rfl,rfl,rfl⟩,Heap.IsList.push p _⟩,fun c hc'=>?_,hsz,CmpOf.ints_gt (fun i=>(n::rr).getD i 0) (fun i v hv=>mT rv i v hv),fun v h' tk hP hk=>fin v h' tk hP fun c o nc e=>hk c o (by simpa using nc) e⟩)
   rw [Heap.size_push]
   rcases List.mem_cons.mp hc' with z | z
   ·rw [z];exact Nat.lt_succ_self _
   ·rw [List.mem_singleton.mp z];exact Nat.lt_succ_of_lt hlt
  | false =>
   refine call_max_walk (wpAny_pyIter_tuple p ⟨s.heap.objs.size,[s.heap.objs.size,a],[s.heap.objs.size],its.toArray.size,_,_,_,rfl,Walks.tuple (A:=X.A.in1) (I.ok.hd hc) _ a (Nat.ne_of_lt hlt) its.toArray,⟨⟨_,Heap.get?_push_size _ rfl,rfl,rfl⟩,f7.push (b:=false) p _⟩,fun c hc'=>?_,hsz,CmpOf.ints_gt (fun i=>(n::rr).getD i 0) (fun i v hv=>mT rv i v hv),fun v h' tk hP hk=>fin v h' tk hP fun c o nc e=>hk c o (by simpa using nc) e⟩)
   rw [Heap.size_push]
   rcases List.mem_cons.mp hc' with z | z
   ·rw [z];exact Nat.lt_succ_self _
   ·rw [List.mem_singleton.mp z];exact Nat.lt_succ_of_lt hlt
theorem yB (hc:X.calm=true):dJ X (.builtin "min") (Cv X.K fun i j=>decide (i<j)):=by
 intro pins s σ H xs us Q I r h
 obtain ⟨b,a,n,rr,rfl,hq,q⟩:=h
 cases r with
 | cons r1 r2 =>
  cases r2
  cases (show _=Value.ref a from r1)
  obtain ⟨its,rv,p,hz⟩:=I.row hq
  have hln:its.length=rr.length+1:=by have:=rv.length;simpa using this.symm
  obtain ⟨oa,na,ea,_⟩:=p.obj
  have hlt:a<s.heap.objs.size:=Heap.lt_size ea
  have fin:∀ (v:Value) (h':Heap) (tk:Nat),its.toArray[argBest (fun i j=>decide ((n::rr).getD i 0<(n::rr).getD j 0)) (its.toArray.size-1)]?=some v->(∀ c o,c≠s.heap.objs.size->(s.heap.push (zZ b a)).get? c=some o->h'.get? c=some o)->EP X pins σ Q v { s with heap:=h',toks:=tk }:=by
   intro v h' tk hv hk
   obtain ⟨t,e⟩:=mT rv _ _ hv
   have e2:=vQ (fun i j=>decide (i<j)) n rr
   rw [show its.toArray.size-1=rr.length by simp [hln]] at e
   rw [e2] at e
   refine ⟨.int _,H,I.kept (t':=tk) (fun c x e'=>?_),⟨t,e⟩,q⟩
   exact hk c x (fun z=>by rw [z] at e';exact Nat.lt_irrefl _ (Heap.lt_size e')) (Heap.get?_push_of_some _ e')
  have hsz:0<its.toArray.size:=by simp [hln]
  cases b with
  | true =>
   refine call_min_walk (wpAny_pyIter_list p ⟨s.heap.objs.size,[s.heap.objs.size,a],[s.heap.objs.size],its.toArray.size,_,_,_,rfl,Walks.list (A:=X.A.in1) (I.ok.hd hc) _ a (Nat.ne_of_lt hlt) its.toArray,⟨⟨_,Heap.get?_push_size _ rfl,rfl,rfl⟩,Heap.IsList.push p _⟩,fun c hc'=>?_,hsz,CmpOf.ints_lt (fun i=>(n::rr).getD i 0) (fun i v hv=>mT rv i v hv),fun v h' tk hP hk=>fin v h' tk hP fun c o nc e=>hk c o (by simpa using nc) e⟩)
   rw [Heap.size_push]
   rcases List.mem_cons.mp hc' with z | z
   ·rw [z];exact Nat.lt_succ_self _
   ·rw [List.mem_singleton.mp z];exact Nat.lt_succ_of_lt hlt
  | false =>
   refine call_min_walk (wpAny_pyIter_tuple p ⟨s.heap.objs.size,[s.heap.objs.size,a],[s.heap.objs.size],its.toArray.size,_,_,_,rfl,Walks.tuple (A:=X.A.in1) (I.ok.hd hc) _ a (Nat.ne_of_lt hlt) its.toArray,⟨⟨_,Heap.get?_push_size _ rfl,rfl,rfl⟩,f7.push (b:=false) p _⟩,fun c hc'=>?_,hsz,CmpOf.ints_lt (fun i=>(n::rr).getD i 0) (fun i v hv=>mT rv i v hv),fun v h' tk hP hk=>fin v h' tk hP fun c o nc e=>hk c o (by simpa using nc) e⟩)
   rw [Heap.size_push]
   rcases List.mem_cons.mp hc' with z | z
   ·rw [z];exact Nat.lt_succ_self _
   ·rw [List.mem_singleton.mp z];exact Nat.lt_succ_of_lt hlt
def v_ (bt:Int->Int->Bool) (p:PV):M PV:=match (bC p).bind sx with
 | some (n::r)=>M.ok (.int (h_ bt r n))
 | _=>none
def yb (bt:Int->Int->Bool):List PV->M PV
 | [p]=>v_ bt p
 | _=>none
theorem xV {K:PySem.W.Frag} {bt:Int->Int->Bool}:lA E (Cv K bt) (yb bt):=by
 intro σ Hs H ps vs Q s r h
 match ps,r with
 | [],_=>exact h.elim
 | _::_::_,_=>exact h.elim
 | [p],r =>
  obtain ⟨v,rfl,rp⟩:=r.one
  have h':az (v_ bt p) (eJ Hs H Q) (XW (E σ) Hs H):=h
  unfold v_ at h'
  split at h'
  ·rename_i n rr e
   obtain ⟨xs,e1,e2⟩:=Option.bind_eq_some_iff.mp e
   obtain ⟨b,a,us,rfl,hq,hx⟩:=ju (K:=K) s rp e1
   rw [yk e2] at hx
   exact ⟨b,a,n,rr,rfl,hx.ints▸hq Hs H (fun _ _ z=>z) s,eJ.flat h' s (.int _)⟩
  ·exact h'.elim
end
end L2
namespace L2
open PySem PySem.Spec PyProof.Rows
structure Eg (P:Program) (w:World) (K:PySem.W.Frag) (mg:Str->Option Value) (base:Heap) (C:Addr) (n:Nat) (x:Str) (sem:List PV->M (List PV)):Prop where
 ex:∃ (f:Addr) (fd:FuncData) (ps:List Str),mj K C/\Meth K C x f/\Binds K fd ps []/\aN P w K mg base (bM P w) n f fd ps (JA 1 sem)
theorem Eg.AO {X:Cx} {E:St->XK} {n k:Nat} {x:Str} {sem:List PV->M (List PV)} {pos apos:Pos} {C:Addr} {o:Expr} {g:af->M PV} {pl:Sem Bool} (F:Eg X.prog X.w X.K X.mg X.base C n x sem) (hr:bR k X.A) (hn:n<=k) (O:eQ X E) (ho:PE X o (tE E g))
  (ht:eval (.Call (.Attribute o x apos) [] [] pos) X.env=(do
   let ov ← eval o X.env
   standAt apos.atName
   let (f,first) ← holding [ov] (getMethod ov x pl)
   callWith pos f first (backTo pos (starEach [] X.env)) (backToKw pos (keywordEach [] X.env))):=by rfl) :
  PE X (.Call (.Attribute o x apos) [] [] pos) (tO E (xZ C x sem g)):=by
 obtain ⟨f,fd,ps,h1,h2,h3,h4⟩:=F.ex
 exact Cu ho h1 h2 h4 (hr.mono hn) h3 O ht
theorem aF.Vz {P:Program} {w:World} {K:PySem.W.Frag} {mg:Str->Option Value} {base:Heap} {x qual:Str} {st:Stmt} {dv:Value} {f:Addr} {fd:FuncData} {N ps:List Str} {k:Nat} {e:Expr} {pos:Pos} {g:af->M (List PV)} (F:aF K x qual st dv f fd) (S:ax N ps (ah st)) (hbody:aA st=[.Return (some e) pos])
  (hb:∀ (cdv:Value) (A:Around) (outer:List Env) (s:Shared) (H:Hp) (E:XK),bR k (A.deeper (envOfC qual (ah st) s.heap.objs.size f cdv))->eQ ((k_ (bM P w) P w K mg base N qual (ah st) f cdv A outer s H E).out fun _=>E) (fun _=>E)->PE ((k_ (bM P w) P w K mg base N qual (ah st) f cdv A outer s H E).out fun _=>E) e (tO (fun _=>E) g)) :
  aN P w K mg base (bM P w) (k+1) f fd ps (JA ps.length fun ps=>g (jo N.length ps)):=by
 obtain ⟨oc,od,kV,doc,pm,an,cdv,ct,osl,rfl,lk,hcd⟩:=F.ex
 rw [hbody] at lk ⊢
 exact DY lk hcd S fun A outer s H E hr=>hb cdv A outer s H E hr (Ar rfl rfl)
end L2
namespace L2
open PySem PySem.Spec PyProof.Rows
def JN (i j:Nat) (env:af):List PV->M Out
 | [p,q]=>M.ok (.nx ((env.set i (some (.sh p))).set j (some (.sh q))))
 | _=>none
def GK (i j:Nat) (fs:af->M (List PV)):af->M Out:=fun env=>(fs env).bind (JN i j env)
theorem GD {X:Cx} {E:XK} {i j:Nat} {x y:Str} {a b:Expr} {fs:af->M (List PV)} {px py pt pos:Pos} {kt k2:Nat} {pt2:Pos} (hc:X.calm=true) (hN:X.N.Nodup) (hi:X.N[i]?=some x) (hj:X.N[j]?=some y) (hij:i≠j)
  (hx:X.env.scope.names.lookup x=some .local) (hy:X.env.scope.names.lookup y=some .local) (ha:PA X [a,b] (tL (fun _=>E) fs))
  (hw:swappedStores [.Tuple [.Name x px,.Name y py] kt pt] (.Tuple [a,b] k2 pt2) X.env=pure (some [x,y]))
  (hs:swapsWithSole [.Tuple [.Name x px,.Name y py] kt pt] (.Tuple [a,b] k2 pt2) pos.line X.env=pure false:=by rfl) :
  PS X (.Assign [.Tuple [.Name x px,.Name y py] kt pt] (.Tuple [a,b] k2 pt2) pos) (tS E (GK i j fs)):=by
 refine (Gb hc hN hi hj hij hx hy ha hw hs).imp fun D σ H q=>o_ q fun B H₀ Hs H1 env ps v sr rp hp=>?_
 match ps,rp,hp with
 | [],_,hp=>exact hp.elim
 | [_],_,hp=>exact hp.elim
 | _::_::_::_,_,hp=>exact hp.elim
 | [p,q],rp,hp =>
  obtain ⟨v,u,rfl,r1,r2⟩:=rp.two
  exact ⟨v,u,rfl,hp _ Hs H1 ((sr.set r1).set r2)⟩
end L2
namespace L2
open PySem PySem.Spec PyProof.Rows
section
variable {X:Cx} {E:St->XK} {pos:Pos}
end
end L2
namespace L2
open PySem PySem.Spec PyProof.Rows
section
variable {X:Cx} {tg elt iter c:Expr} {scope:Scope} {cl:List (Str×Addr)} {pos:Pos} {wi:TI} {it:af->M (List PV)} {g:TG} {set:PV->af->M af} {f:af->M PV} {ts fs:List Str} {js:List Nat}
variable {E:XK} {i:Nat} {y:Str} {py spos:Pos}
end
end L2
namespace L2
open PySem PySem.Spec PyProof.Rows
section
variable {X:Cx} {tg:Expr} {a:Expr} {ta:TA} {p pos:Pos}
end
def Jq:PV->M (List PV)
 | .int n=>cy (0<=n/\n<2^30) (M.ok ((List.range n.toNat).map fun (i:Nat)=>.int (n-1-(i:Int))))
 | _=>none
def Js:List PV->M (List PV)
 | [p]=>Jq p
 | _=>none
section
variable {E:St->XK} {X:Cx} {fs:af->M (List PV)} {a tg:Expr} {p p2 pos pos2:Pos}
end
end L2
namespace L2
open PySem PySem.Spec PyProof.Rows
open AutoSeq1 (wpAny_loadPart')
theorem yH (l:Addr) (items:Array Value) (n:Nat) (dct:Option Addr) (sl:Array (Option Value)) :
  Meets (Builtin.«enumerate.__new__» ⟨[.type "enumerate", .ref l],[]⟩) (fun _ R s=>s.heap.get? l=some { cls:=.type "tuple", dict:=dct,data:=.seq items n,slots:=sl } ∧
   R (.ok (.ret (.ref (s.heap.push { cls:=.type "tuple_iterator", data:=.fields #[.ref l,.int 0 0] }).objs.size)))
    { s with heap:=(s.heap.push { cls:=.type "tuple_iterator", data:=.fields #[.ref l,.int 0 0] }).push { cls:=.type "enumerate", data:=.fields #[.none,.bool false,.ref s.heap.objs.size,rawInt 0,.none,.none] } }) :=
 .of_wp fun prog w A R s h=>by
  obtain ⟨hp,g,d,tk,os⟩:=s;obtain ⟨hl,h⟩:=h
  have hsub:=sub_enumerate
  have hL:Heap.IsTuple (Shared.heap ⟨hp,g,d,tk,os⟩) l items:=⟨_,hl,rfl,n,rfl⟩
  wp_walk using wpAny_loadPart' hl
  refine wpAny_stack_any fun st=>wpAny_pure ?_
  split
  ·rename_i c _ _ _ _ _
   cases (c==Value.type "enumerate")
   ·wp_walk using wpAny_loadPart' hl,wpAny_pyIter_tuple hL
    exact ⟨_,rfl,h⟩
   ·wp_walk using wpAny_loadPart' hl,wpAny_pyIter_tuple hL
    exact ⟨_,rfl,h⟩
  ·wp_walk using wpAny_loadPart' hl,wpAny_pyIter_tuple hL
   exact ⟨_,rfl,h⟩
section
variable {prog:Program} {w:World} {A:Around} {E:Value->Shared->Prop} {s:Shared}
theorem wG {l:Addr} {items:Array Value} {Q:Value->Shared->Prop} (hL:s.heap.IsTuple l items)
  (h:∀ h',IsEnum h' (s.heap.objs.size+1) s.heap.objs.size 0 .none->h'.IsTupleIter s.heap.objs.size l 0->h'.objs.size=s.heap.objs.size+2 ->
   (∀ b o,s.heap.get? b=some o->h'.get? b=some o)->Q (.ref (s.heap.objs.size+1)) { s with heap:=h' }) :
  wpAny (model prog w) A (call (.type "enumerate") [.ref l]) Q E s:=by
 obtain ⟨⟨c,dct,dt,sl⟩,hl,hc,n,hd⟩:=hL
 replace hc:c=.type "tuple" := hc
 replace hd:dt=.seq items n:=hd
 subst hc hd
 refine callType_new F.called_enumerate (by decide) (F.typeCall_enumerate_1 _) (F.newCall_enumerate_1 _) (fun obj=>F.args_object_init_2 obj _) F.entry_enumerate_new
  (yH l items n dct sl) ⟨hl,?_⟩
 have hz:(s.heap.push { cls:=.type "tuple_iterator", data:=.fields #[.ref l,.int 0 0] }).objs.size=s.heap.objs.size+1:=Heap.size_push ..
 show _/\_
 rw [hz]
 have he:IsEnum ((s.heap.push { cls:=.type "tuple_iterator", data:=.fields #[.ref l,.int 0 0] }).push
   { cls:=.type "enumerate", data:=.fields #[.none,.bool false,.ref s.heap.objs.size,rawInt 0,.none,.none] }) (s.heap.objs.size+1) s.heap.objs.size 0 .none:=by
  have:=Heap.get?_push_size (s.heap.push { cls:=.type "tuple_iterator", data:=.fields #[.ref l,.int 0 0] })
   (o:={ cls:=.type "enumerate", data:=.fields #[.none,.bool false,.ref s.heap.objs.size,rawInt 0,.none,.none] }) rfl
  rw [hz] at this;exact this
 refine ⟨⟨_,he,rfl⟩,h _ he ⟨_,Heap.get?_push_of_some _ (Heap.get?_push_size _ rfl),rfl,rfl⟩ (by rw [Heap.size_push,hz]) fun b o x=>Heap.get?_push_of_some _ (Heap.get?_push_of_some _ x)⟩
end
theorem Gh {prog:Program} {w:World} {A:Around} (hh:A.handled=none) (it t:Addr) (items:Array Value) :
  Draws prog w A it [it,t] items.size (fun i v=>items[i]?=some v) (fun i h=>h.IsTupleIter it t i/\h.IsTuple t items) where
 live:=fun _ _ st=>let ⟨⟨o,ho,_⟩,_⟩:=st;⟨o,ho⟩
 frame:=fun _ _ _ st hk=>by
  obtain ⟨⟨o,ho,r⟩,⟨o2,ho2,r2⟩⟩:=st
  exact ⟨⟨o,hk it (by simp) o ho,r⟩,⟨o2,hk t (by simp) o2 ho2,r2⟩⟩
 item:=fun i s Q E hi st hQ=>by
  obtain ⟨st,tt⟩:=st
  refine iE st tt (x:=items[i]) (by simp [hi]) fun h' hit' hs'=>?_
  refine hQ _ h' s.toks (by simp [hi]) ⟨hit',?_⟩ hs'
  obtain ⟨o,ho,c1,_⟩:=st
  obtain ⟨o2,ho2,c2,r2⟩:=tt
  refine ⟨o2,(hs'.2 t fun z=>?_).trans ho2,c2,r2⟩
  rw [z,ho] at ho2;cases ho2
  rw [c1] at c2;exact absurd c2 (by decide)
 done:=fun s Q E st hE=>fI hh st.1 st.2 (by simp) hE
section
variable {X:Cx}
def Gx (K : PySem.W.Frag) (a : Addr) : It :=
  ⟨fun i H => ∃ xs x, ib K H a xs /\ xs[i]? = some x,
   fun i H y H' => ∃ p x, H p = none /\ y = .ref p /\ H' = upd H p (.tup [.int i, x]) /\ ∀ xs, ib K H a xs -> xs[i]? = some x,
   fun i H => ∃ xs, ib K H a xs /\ xs.length <= i⟩
theorem wD {P:Program} {w:World} {K:PySem.W.Frag} {elts:List Expr} {x1:Nat} {tp:Pos} (a e it:Addr) (hne:e≠it):Turn P w K (.Tuple elts x1 tp) (Gx K a) [e,it] e (fun i h=>(∃ old,IsEnum h e it i old)/\h.IsTupleIter it a i) where
 mem:=by simp
 obj:=fun i h st b hb=>by
  obtain ⟨⟨old,he⟩,⟨o,e1,c,d⟩⟩:=st
  rcases List.mem_cons.mp hb with z | z
  ·subst z
   exact ⟨_,he,fun v z=>by cases z⟩
  ·have z':b=it:=by simpa using z
   subst z'
   exact ⟨o,e1,fun v z=>by rw [d] at z;cases z⟩
 keep:=fun i h h' st k=>by
  obtain ⟨⟨old,he⟩,⟨o,ho,r⟩⟩:=st
  exact ⟨⟨old,k e (by simp) _ he⟩,⟨o,k it (by simp) o ho,r⟩⟩
 item:=by
  intro X hP hw hK hc i pins s σ H E I hf st hg
  subst hP hw hK
  obtain ⟨xs,x,hq,hx⟩:=hg
  obtain ⟨its,rv,p,hz⟩:=I.tuple hq
  obtain ⟨u,hu,ru⟩:=rv.get hx
  obtain ⟨⟨old,he⟩,hit⟩:=st
  have helt:e<s.heap.objs.size:=Heap.lt_size he
  have hilt:it<s.heap.objs.size:=by obtain ⟨_,z,_⟩:=hit;exact Heap.lt_size z
  have hea:e ∉ [it,a]:=fun z=>by
   rcases List.mem_cons.mp z with z | z
   ·exact hne z
   ·obtain ⟨o,ho,c,_⟩:=p
    rw [← List.mem_singleton.mp z,he] at ho
    cases ho;exact absurd (show Value.type "enumerate" = Value.type "tuple" from c) (by decide)
  have hi':i<its.toArray.size:=by
   have:=(List.getElem?_eq_some_iff.mp hu).1
   simpa using this
  refine wpAny_pyNext_enum_itemD (Gh (A:=X.A.in1) (I.ok.hd hc) it a its.toArray) he ⟨hit,p⟩ hi' hne hea fun u' h' tk hu' ho hst hT hsz hk=>⟨_,rfl,?_⟩
  have eu:u'=u:=by
   rw [List.getElem?_toArray,hu] at hu';exact (Option.some.inj hu').symm
  subst eu
  refine wpAny_letOwnedTupleGo_enum (s:={ s with heap:=h',toks:=tk+1 }) ho fun h2 he2 hs2=>?_
  have keep2:∀ b o,b ∉ [e,it]->s.heap.get? b=some o->h2.get? b=some o:=fun b o hb q=>by
   have n1:b≠e:=fun z=>hb (by simp [z])
   have n2:b≠it:=fun z=>hb (by simp [z])
   exact (hs2.2 b n1).trans (hk b o n1 n2 q)
  have hT2:h2.get? s.heap.objs.size=some { cls:=.type "tuple", data:=.seq #[.int i tk,u'] }:=(hs2.2 _ (Nat.ne_of_gt helt)).trans hT
  have I2:Inv X pins σ (upd H s.heap.objs.size (.tup [.int i,x])) { s with heap:=h2,toks:=tk+1 } :=
   I.kq (ch:=[e,it]) keep2 hf (Nat.le_refl _) (fun b hb=>by
    rcases List.mem_cons.mp hb with z | z
    ·subst z;exact ⟨_,he⟩
    ·have z':b=it:=by simpa using z
     subst z'
     obtain ⟨o,z,_⟩:=hit
     exact ⟨o,z⟩)
    ⟨by show 2<=sizeLine;decide,[.int i tk,u'],.cons ⟨_,rfl⟩ (.cons ru .nil),⟨_,hT2,rfl,_,rfl⟩⟩
  have hnew:H s.heap.objs.size=none:=I.bx.fresh (Nat.le_refl _)
  obtain ⟨oi,hoi,ri⟩:=hst.1
  refine ⟨.ref s.heap.objs.size,_,I2,rfl,⟨_,x,hnew,rfl,rfl,fun ys hy=>by rw [I.mV hy hq];exact hx⟩,⟨⟨u',by simpa using he2⟩,⟨oi,(hs2.2 it (Ne.symm hne)).trans hoi,ri⟩⟩,fun b hb=>?_⟩
  have nb:b≠s.heap.objs.size:=by
   rcases List.mem_cons.mp hb with z | z
   ·rw [z];exact Nat.ne_of_lt helt
   ·have z':b=it:=by simpa using z
    rw [z'];exact Nat.ne_of_lt hilt
  rw [au nb]
  exact (hf b hb).1
 done:=by
  intro X hP hw hK hc i pins s σ H E I hf st hg
  subst hP hw hK
  obtain ⟨xs,hq,hx⟩:=hg
  obtain ⟨its,rv,p,hz⟩:=I.tuple hq
  have hl:=rv.length
  obtain ⟨⟨old,he⟩,hit⟩:=st
  obtain ⟨f0,f1,f2,f3,f4,f5⟩:=hf it (by simp)
  have hT:s.TypeIs (.ref e) "enumerate" := ⟨_,he,rfl⟩
  unfold pyNext
  refine wpAny_bind (wpAny_attempt (wpAny_callSpecial?_slot (name:=Str.ofString "__next__") hT F.slot_enumerate_next
   (wpAny_call_entry F.slot_enumerate_next hT F.entry_enumerate_next ?_ (F.args_enumerate_next_1 _))))
  show wpAny _ _ (field (.ref e) 2 >>= _) _ _ _
  refine wpAny_bind (wpAny_field he rfl (x:=.ref it) rfl ?_)
  refine wpAny_bind (fI (I.ok.hd hc) hit p (by simp;omega) fun h' x he' hx'=>?_)
  obtain ⟨o,ho,hc'⟩:=hx'
  refine wpAny_bind (wpAny_isInstance (T := "StopIteration") (b:=true) ⟨o,ho,hc'⟩ isSubtype_stop ?_)
  exact wpAny_pure ⟨rfl,I.turned (t':=s.toks) (fun b o hb e=>he' b o hb e) f0 f1 f3 f4 f5⟩
 self:=fun _ _ _ _ _ st h=>by
  obtain ⟨⟨old,he⟩,_⟩:=st
  exact wpAny_pyIter_enum he h
def Jh (K:PySem.W.Frag) (tl:TA):TI:=fun σ H R=>tl σ H fun vs H1=>∃ a,vs=[.ref a]/\(((∃ xs,jg K H1 a xs)/\R (Ho K a) H1)\/((∃ xs,ib K H1 a xs)/\R (Gx K a) H1))
theorem jY {elts:List Expr} {x1:Nat} {tp:Pos} {l:Expr} {tl:TA} {p pos:Pos} (hg:Gl X "enumerate") (hm:X.mg "enumerate" = none) (hl:PA X [l] tl) (hs:starEach [l] X.env=[(false,eval l X.env)]:=by rfl) :
  PI X (.Tuple elts x1 tp) (.Call (.Name "enumerate" p) [l] [] pos) (Jh X.K tl):=by
 intro pins s σ H R I h
 refine Call_ (jl I hg hm PyProof.Rows.boot_enumerate (PyProof.Rows.callWith_type1 (cG (hl pos pins s σ H _ I h) fun us s1 ⟨vs,H1,I1,r1,q1⟩=>?_) hs rfl))
 obtain ⟨a,e,q⟩:=q1
 subst e
 cases r1 with
 | cons r rr =>
  cases rr
  cases (show _=Value.ref a from r)
  have fp:∀ b∈[s1.heap.objs.size+1,s1.heap.objs.size],n5 X pins H1 b:=fun b hb=>by
   rcases List.mem_cons.mp hb with z | z
   ·subst z
    exact I1.vk (Nat.le_succ _) (I1.bx.fresh (Nat.le_succ _))
   ·have z':b=s1.heap.objs.size:=by simpa using z
    subst z'
    exact I1.vk (Nat.le_refl _) (I1.bx.fresh (Nat.le_refl _))
  rcases q with ⟨⟨xs,hq⟩,q⟩ | ⟨⟨xs,hq⟩,q⟩
  ·obtain ⟨its,rv,pl,hz⟩:=I1.list hq
   refine call_enumerate_list pl.isList fun h' he hit hsz hk=>?_
   refine wpAny_pyIter_enum (s:={ s1 with heap:=h' }) he ?_
   exact ⟨s1.heap.objs.size+1,[s1.heap.objs.size+1,s1.heap.objs.size],_,_,H1,rfl,I1.kept (t':=s1.toks) hk,zu a _ _ (Nat.succ_ne_self _),⟨⟨_,he⟩,hit⟩,fp,q⟩
  ·obtain ⟨its,rv,pl,hz⟩:=I1.tuple hq
   refine wG pl fun h' he hit hsz hk=>?_
   refine wpAny_pyIter_enum (s:={ s1 with heap:=h' }) he ?_
   exact ⟨s1.heap.objs.size+1,[s1.heap.objs.size+1,s1.heap.objs.size],_,_,H1,rfl,I1.kept (t':=s1.toks) hk,wD a _ _ (Nat.succ_ne_self _),⟨⟨_,he⟩,hit⟩,fp,q⟩
end
def Q8 (p:PV):M (List PV):=match bC p with
 | some xs=>M.ok (fx xs)
 | none=>none
def y0:List PV->M (List PV)
 | [p]=>Q8 p
 | _=>none
section
variable {E:St->XK} {K:PySem.W.Frag} {fs:af->M (List PV)}
theorem Ay {a:Addr} {Hs1:Hp} {xs:List PV} {vs:List V} (hq:∀ Hs' H',aX Hs1 Hs'->aX Hs' H'->ib K H' a vs) (hr:aK Hs1 xs vs):j_ (Gx K a) Hs1 (fx xs) where
 stop:=fun i Hs H s1 s2 hi=>by
  unfold fx at hi
  rw [List.length_mapIdx,hr.length] at hi
  exact ⟨vs,hq Hs H s1 s2,hi⟩
 go:=fun i Hs H s1 s2 hi=>by
  unfold fx at hi
  rw [List.length_mapIdx] at hi
  obtain ⟨v,e,_⟩:=hr.get (List.getElem?_eq_getElem hi)
  exact ⟨vs,v,hq Hs H s1 s2,e⟩
 xa:=fun i Hs H x H2 s1 s2 hi y=>by
  unfold fx at hi
  rw [List.length_mapIdx] at hi
  obtain ⟨v,e,r⟩:=hr.get (List.getElem?_eq_getElem hi)
  obtain ⟨pa,v',hn,rfl,rfl,y1⟩:=y
  have z1:=y1 vs (hq Hs H s1 s2)
  rw [e] at z1;cases z1
  have gr:=bB.new (o:=.tup [.int (i:Nat),v]) s2 hn
  refine ⟨.tup [.int (i:Nat),xs[i]],_,?_,gr,.tup aC (.cons (.int _) (.cons ((r.mono s1).mono gr.st) .nil))⟩
  unfold fx
  rw [List.getElem?_mapIdx,List.getElem?_eq_getElem hi]
  rfl
theorem iI:CH E (Jh K (tL E fs)) (k9 y0 fs):=by
 intro σ H R q
 refine dz (K:=KI R) KI.g q fun B H₀ Hs H1 env ps v sr rp hp=>?_
 match ps,rp,hp with
 | [],_,hp=>exact hp.elim
 | _::_::_,_,hp=>exact hp.elim
 | [p],rp,hp =>
  obtain ⟨w,rfl,rw'⟩:=rp.one
  cases rw' with
  | lst ha hx=>exact ⟨_,rfl,.inl ⟨⟨_,jg.of (sr.gr.sub _ _ ha)⟩,hp _ Hs H1 (.refl sr.gr.sub) (sF (fun Hs' H' s1 s2=>jg.of (s2 _ _ (s1 _ _ ha))) hx)⟩⟩
  | jR ha hx=>exact ⟨_,rfl,.inl ⟨⟨_,.inl (.inr ⟨_,sr.gr.sub _ _ ha⟩)⟩,hp _ Hs H1 (.refl sr.gr.sub) (sF (fun Hs' H' s1 s2=>.inl (.inr ⟨_,s2 _ _ (s1 _ _ ha)⟩)) hx)⟩⟩
  | tup ha hx=>exact ⟨_,rfl,.inr ⟨⟨_,ib.of (sr.gr.sub _ _ ha)⟩,hp _ Hs H1 (.refl sr.gr.sub) (Ay (fun Hs' H' s1 s2=>ib.of (s2 _ _ (s1 _ _ ha))) hx)⟩⟩
  | _=>exact hp.elim
end
end L2
namespace L2
open PySem PySem.Spec PyProof.Rows
section
variable {X:Cx} {E:St->XK} {e:Expr} {pos pos':Pos} {f:af->M PV} {i:Nat} {x:Str}
end
section
variable {X:Cx} {E:St->XK} {e:Expr} {pos pos':Pos} {f:af->M PV} {i:Nat} {x:Str}
end
section
variable {X:Cx} {pins pins':List (Addr×Obj)} {σ:St} {H:Hp} {s:Shared} {ea:Addr}
end
section
variable {X:Cx} {pins:List (Addr×Obj)} {σ:St} {H Hc B H₀ Hs:Hp} {s:Shared} {ea T C:Addr} {dd:Option Addr} {E:XK} {env:af} {fo:Option (List (Str×PV))} {D:Ends} {Z:EX->Prop} {F:Value->Shared->Prop}
end
end L2
namespace L2
open PySem PySem.Spec PyProof.Rows
section
variable {X:Cx} {E:St->XK} {e:Expr} {pos p px pt:Pos} {f:af->M PV} {x:Str} {D:Addr} {ys ns yo no:List Addr}
end
end L2
namespace L2
open PySem PySem.Spec PyProof.Rows
section
variable {X:Cx} {E:St->XK} {e o:Expr} {pos apos cpos:Pos} {f g:af->M PV}
end
end L2
namespace L2
open PySem PySem.Spec PyProof.Rows _root_.HT
section
variable {prog:Program} {w:World} {A:Around} {E:Value->Shared->Prop} {s:Shared}
theorem ly {t sl:Addr} {items:Array Value} {vl vu:Value} {lo hi:Option Int} {Q:Value->Shared->Prop} (ht:IsTup s.heap t items) (hs:s.heap.IsSliceOf sl vl vu .none) (pl:IsPart vl lo) (pu:IsPart vu hi)
  (hw:dh items.size 0 lo=0/\dh items.size items.size hi=items.size) (h:Q (.ref t) s):wpAny (model prog w) A (getItem (.ref t) (.ref sl)) Q E s:=by
 obtain ⟨os,hos,hcs,hds⟩:=id hs
 have hTs:s.TypeIs (.ref sl) "slice" := ⟨os,hos,hcs⟩
 unfold getItem
 try with_reducible refine wpAny_holding ?_
 first | refine wpAny_bind (wpAny_pure ?_) | skip
 refine wpAny_bind (wpAny_sequenceKey ht.typeIs (by decide) ?_)
 refine wpAny_bind (wpAny_callSpecial?_slot (name:=Str.ofString "__getitem__") ht.typeIs PyProof.Rows.slot_tuple_getitem
  (wpAny_call_entry PyProof.Rows.slot_tuple_getitem ht.typeIs entry_tuple_getitem ?_ (args_tuple_getitem _ _)))
 show wpAny _ _ (Builtin.Tuple.tupleItemsOf (.ref t) >>= _) _ _ s
 refine wpAny_bind (tupleItemsOf_ ht ?_)
 refine wpAny_bind (wpAny_typeOf hTs ?_)
 rw [if_pos (by decide)]
 refine wpAny_bind (je hs pl pu ?_)
 have hyes:(((dh items.size 0 lo:Nat):Int)==0&&(1:Int)==1&&(dh items.size items.size hi-dh items.size 0 lo)==items.size)=true:=by
  rw [hw.1,hw.2];simp
 show wpAny _ _ (if (((dh items.size 0 lo:Nat):Int)==0&&(1:Int)==1&&(dh items.size items.size hi-dh items.size 0 lo)==items.size)=true then _ else _) _ _ s
 rw [if_pos hyes]
 unfold Builtin.Tuple.tupleIsExact
 refine wpAny_bind (wpAny_bind (wpAny_typeOf ht.typeIs (wpAny_pure ?_)))
 rw [if_pos (show ((Value.type "tuple" == Value.type "tuple")=true) from beq_self_eq_true _)]
 refine wpAny_bind (wpAny_rule ?_)
 first
  | exact wpAny_bind (wpAny_pure (wpAny_pure ⟨_,rfl,wpAny_pure h⟩))
  | exact wpAny_bind (wpAny_pure ⟨_,rfl,wpAny_pure h⟩)
  | exact wpAny_pure ⟨_,rfl,wpAny_pure h⟩
end
section
variable {X:Cx} {E:St->XK} {e:Expr} {lo hi:Option Expr} {pos p2:Pos} {f:af->M PV} {gl gh:af->M (Option Int)}
def NX (K:PySem.W.Frag):V->Option Int->Option Int->Hp->VK->Prop:=fun x lo hi H Q=>∃ a xs,x=.ref a/\ib K H a xs/\(dh xs.length 0 lo=0/\dh xs.length xs.length hi=xs.length)/\Q (.ref a) H
theorem Dc:CG X (NX X.K):=by
 intro pins s σ H x v vl vu lo hi sl Q I rx hs pl pu h
 obtain ⟨a,xs,rfl,hx,hw,q⟩:=h
 cases rx
 obtain ⟨its,r,ht,hz⟩:=I.tuple hx
 have hlen:its.toArray.size=xs.length:=by rw [List.size_toArray];exact r.length.symm
 refine ⟨"tuple", _,PyProof.Rows.slot_tuple_getitem.lookup,ht.typeIs,?_⟩
 exact ly ht hs pl pu (by rw [hlen];exact hw) ⟨.ref a,H,I,rfl,q⟩
def Ik (p:PV) (lo hi:Option Int):M PV:=match p with
 | .tup xs=>M.ok (.tup (lC xs lo hi))
 | .lst xs=>M.ok (.lst (lC xs lo hi))
 | .jR xs=>M.ok (.lst (lC xs lo hi))
 | _=>none
def pf (f:af->M PV) (lo hi:af->M (Option Int)):af->M PV:=fun env=>(f env).bind fun p=>(lo env).bind fun l=>(hi env).bind fun h=>Ik p l h
theorem nh (he:PE X e (tE E f)) (hl:PO X lo (J_ E gl)) (hh:PO X hi (J_ E gh)):PE X (.Subscript e (.Slice lo hi none p2) pos) (tE E (pf f gl gh)):=by
 refine (Ct (CG.or Hn (CG.or Dc Dg)) he hl hh).imp fun σ H Q q=>bU (K:=kL Q) kL.g q fun B H₀ Hs H1 env p v sr rp hp=>?_
 refine ⟨B,H₀,Hs,env,sr,(az.bind hp).imp (fun l hl Hs2 H2 g2=>?_) fun e he=>he⟩
 have sr2:=sr.grow g2
 refine ⟨B,H₀,Hs2,env,sr2,(az.bind hl).imp (fun h hh Hs3 H3 g3=>?_) fun e he=>he.grow g2⟩
 have sr3:=sr2.grow g3
 have hz:az (Ik p l h) (eJ Hs3 H3 Q) (fun _=>True):=hh.imp (fun z hz w Hs4 H4 g4 r=>hz w Hs4 H4 ((g2.trans g3).trans g4) r) fun _ _=>trivial
 have rp3:=(rp.mono g2.st).mono g3.st
 cases rp3 with
 | @tup a xs vs ha hx =>
  by_cases hn:dh xs.length 0 l=0/\dh xs.length xs.length h=xs.length
  ·refine .inr (.inl ⟨_,_,rfl,ib.of (sr3.gr.sub _ _ ha),by rw [← hx.length];exact hn,?_⟩)
   have e:lC xs l h=xs:=by
    unfold lC;rw [hn.1,hn.2,List.drop_zero,Nat.sub_zero,List.take_length]
   have hz':eJ Hs3 H3 Q (.tup xs):=by
    have z:eJ Hs3 H3 Q (.tup (lC xs l h)):=hz
    rw [e] at z;exact z
   exact eJ.flat hz' sr3.gr.sub (.tup ha hx)
  ·exact .inl ⟨_,_,rfl,ib.of (sr3.gr.sub _ _ ha),by rw [← hx.length];exact hn,eJ.tup hz sr3.gr.sub (hx.cut l h)⟩
 | lst ha hx=>exact .inr (.inr ⟨_,_,rfl,jg.of (sr3.gr.sub _ _ ha),eJ.lst hz sr3.gr.sub (hx.cut l h)⟩)
 | jR ha hx=>exact .inr (.inr ⟨_,_,rfl,.inl (.inr ⟨_,sr3.gr.sub _ _ ha⟩),eJ.lst hz sr3.gr.sub (hx.cut l h)⟩)
 | _=>exact hz.elim
end
end L2
namespace L2
open PySem PySem.Spec PyProof.Rows
open PySem.SeqAt (shaped noMix noMixAll)
section
variable {α β:Type}
theorem M.aJ (a:α) (f:α->M β):M.bind (M.ok a) f=f a:=Eq.trans rfl rfl
theorem M.AD (e:EX) (f:α->M β):M.bind (some (Except.error e)) f=some (.error e):=Eq.trans rfl rfl
theorem M.bind_none (f:α->M β):M.bind none f=none:=Eq.trans rfl rfl
theorem M.bind_some (a:α) (f:α->M β):M.bind (some (Except.ok a)) f=f a:=Eq.trans rfl rfl
theorem M.bind_assoc {γ:Type} (x:M α) (f:α->M β) (g:β->M γ):M.bind (M.bind x f) g=M.bind x fun a=>M.bind (f a) g:=by
 cases x with
 | none=>rfl
 | some x=>cases x <;> rfl
theorem ar {c:Prop} [Decidable c] {x:M α} (h:c):cy c x=x:=if_pos h
theorem Gg (a:α):J6 (M.ok a)=M.ok a:=Eq.trans rfl rfl
end
theorem zM (x:PV):fu (some x)=M.ok x:=Eq.trans rfl rfl
theorem vB (g:af->M Out) (env:af):Ca g (.nx env)=g env:=Eq.trans rfl rfl
theorem v9 (g:af->M Out) (p:PV):Ca g (.rt p)=M.ok (.rt p):=Eq.trans rfl rfl
theorem Ep (b:Bool):xx (.bl b)=M.ok b:=Eq.trans rfl rfl
theorem DC (p:PV):Hb (.rt p)=M.ok p:=Eq.trans rfl rfl
theorem En (e:af):Hb (.nx e)=M.ok .cI:=Eq.trans rfl rfl
def tI (xs:List Int):PV:=.tup (xs.map PV.int)
def lI (xs:List Int):PV:=.lst (xs.map PV.int)
theorem yd (xs:List Int):bC (tI xs)=some (xs.map PV.int):=Eq.trans rfl rfl
theorem DW (xs:List Int):bC (lI xs)=some (xs.map PV.int):=Eq.trans rfl rfl
theorem Cs (xs:List PV):bC (.tup xs)=some xs:=Eq.trans rfl rfl
theorem BX (xs:List PV):bC (.lst xs)=some xs:=Eq.trans rfl rfl
theorem BR (xs:List PV):bC (.jR xs)=some xs:=Eq.trans rfl rfl
theorem DO (xs:List Int):uP (tI xs)=M.ok (.int xs.length):=by simp [uP,tI,bC,fu]
theorem DA (xs:List Int):uP (lI xs)=M.ok (.int xs.length):=by simp [uP,lI,bC,fu]
theorem Bc (xs:List PV):uP (.tup xs)=M.ok (.int xs.length):=Eq.trans rfl rfl
theorem vX (xs:List PV):uP (.lst xs)=M.ok (.int xs.length):=Eq.trans rfl rfl
theorem BE (xs:List PV):uP (.jR xs)=M.ok (.int xs.length):=Eq.trans rfl rfl
theorem JH (xs:List Int):FN [.lst (xs.map PV.int)]=M.ok (.int xs.sum):=by simp [FN,H0,mP,fu]
theorem vS (xs:List Bool):wc [.lst (xs.map PV.bl)]=M.ok (.bl (xs.all id)):=by simp [wc,all1,ve,fu]
theorem g9 {α:Type} {f:af->M PV} {inj h:α->PV} {rest:af} {x0:Option SV} (xs:List α) (H:∀ a∈xs,f (some (.sh (inj a))::rest)=M.ok (h a)):bX (cn 0) none f (xs.map inj) (x0::rest)=M.ok (xs.map h):=by
 induction xs generalizing x0 with
 | nil=>rfl
 | cons a r ih =>
  rw [List.map_cons,bX]
  show M.bind (M.ok ((x0::rest).set 0 (some (.sh (inj a))))) _=_
  rw [M.aJ,List.set_cons_zero]
  show M.bind (f _) _=_
  rw [H a List.mem_cons_self,M.aJ,ih fun b hb=>H b (List.mem_cons_of_mem _ hb)]
  rfl
theorem pz {α:Type} {f:af->M PV} {p q h:α->PV} {rest:af} {x0 x1:Option SV} (xs:List α) (H:∀ a∈xs,f (some (.sh (p a))::some (.sh (q a))::rest)=M.ok (h a)):bX (bY 0 1) none f (xs.map fun a=>.tup [p a,q a]) (x0::x1::rest)=M.ok (xs.map h):=by
 induction xs generalizing x0 x1 with
 | nil=>rfl
 | cons a r ih =>
  rw [List.map_cons,bX]
  show M.bind (M.ok (((x0::x1::rest).set 0 (some (.sh (p a)))).set 1 (some (.sh (q a))))) _=_
  rw [M.aJ,List.set_cons_zero,List.set_cons_succ,List.set_cons_zero]
  show M.bind (f _) _=_
  rw [H a List.mem_cons_self,M.aJ,ih fun b hb=>H b (List.mem_cons_of_mem _ hb)]
  rfl
theorem Bu {α:Type} {f:af->M PV} {p q s h:α->PV} {rest:af} {x0 x1 x2:Option SV} (xs:List α) (H:∀ a∈xs,f (some (.sh (p a))::some (.sh (q a))::some (.sh (s a))::rest)=M.ok (h a)):bX (qj 0 1 2) none f (xs.map fun a=>.tup [p a,q a,s a]) (x0::x1::x2::rest)=M.ok (xs.map h):=by
 induction xs generalizing x0 x1 x2 with
 | nil=>rfl
 | cons a r ih =>
  rw [List.map_cons,bX]
  show M.bind (M.ok ((((x0::x1::x2::rest).set 0 (some (.sh (p a)))).set 1 (some (.sh (q a)))).set 2 (some (.sh (s a))))) _=_
  rw [M.aJ,List.set_cons_zero,List.set_cons_succ,List.set_cons_zero,List.set_cons_succ,List.set_cons_succ,List.set_cons_zero]
  show M.bind (f _) _=_
  rw [H a List.mem_cons_self,M.aJ,ih fun b hb=>H b (List.mem_cons_of_mem _ hb)]
  rfl
theorem i5 {α β:Type} {f:α->PV} {g:β->PV} {p q:PV} (xs:List α) (ys:List β) (hp:bC p=some (xs.map f)) (hq:bC q=some (ys.map g)):zip2 [p,q]=M.ok ((xs.zip ys).map fun z=>.tup [f z.1,g z.2]):=by
 simp only [zip2,hp,hq]
 congr 2
 rw [List.zipWith_map,List.zip_eq_zipWith,List.map_zipWith]
theorem vM {α β γ:Type} {f:α->PV} {g:β->PV} {h:γ->PV} {p q r:PV} (xs:List α) (ys:List β) (zs:List γ) (hp:bC p=some (xs.map f)) (hq:bC q=some (ys.map g)) (hr:bC r=some (zs.map h)):zd [p,q,r]=M.ok ((xs.zip (ys.zip zs)).map fun z=>.tup [f z.1,g z.2.1,h z.2.2]):=by
 simp only [zd,hp,hq,hr]
 congr 2
 clear hp hq hr
 induction xs generalizing ys zs with
 | nil=>cases ys <;> cases zs <;> rfl
 | cons a r ih =>
  cases ys with
  | nil=>rfl
  | cons b s =>
   cases zs with
   | nil=>rfl
   | cons c t=>simp only [List.map_cons,jG,List.zip_cons_cons,ih]
theorem mG {α:Type} {f:α->PV} (xs:List α):fx (xs.map f)=(xs.zipIdx).map fun z=>.tup [.int (z.2:Int),f z.1]:=by
 unfold fx
 rw [List.mapIdx_eq_zipIdx_map,List.zipIdx_map,List.map_map]
 rfl
theorem lY {set:PV->af->M af} {body:af->M Out} {α:Type} {inj:α->PV} (J:List α->af->Prop)
  (H:∀ a r env,J (a::r) env->∃ e' env',set (inj a) env=M.ok e'/\body e'=M.ok (.nx env')/\J r env'):∀ (xs:List α) (env:af),J xs env->∃ env',iX set body (xs.map inj) env=M.ok (.nx env')/\J [] env'
 | [],env,h=>⟨env,rfl,h⟩
 | a::r,env,h=>by
  obtain ⟨e',env',h1,h2,h3⟩:=H a r env h
  obtain ⟨env'',h4,h5⟩:=lY J H r env' h3
  refine ⟨env'',?_,h5⟩
  rw [List.map_cons,iX,h1,M.aJ,h2,M.aJ]
  exact h4
theorem sk {u:af->M Bool} {b:af->M Out} (J:af->Prop) (m:af->Nat)
  (H:∀ env,J env->(u env=M.ok false)\/(u env=M.ok true/\∃ env',b env=M.ok (.nx env')/\J env'/\m env'<m env)) (env:af) (h:J env):∃ env',mK u b env=M.ok (.nx env')/\J env'/\u env'=M.ok false:=by
 have key:∀ (n:Nat) (env:af),J env->m env<n->∃ env',cB u b n env=M.ok (.nx env')/\J env'/\u env'=M.ok false:=by
  intro n
  induction n with
  | zero=>intro env _ hn;omega
  | succ n ih =>
   intro env h hn
   rcases H env h with hu | ⟨hu,env',hb,hj,hm⟩
   ·exact ⟨env,by rw [cB,hu,M.aJ];rfl,h,hu⟩
   ·obtain ⟨env'',h1,h2,h3⟩:=ih env' hj (by omega)
    exact ⟨env'',by rw [cB,hu,M.aJ,if_pos rfl,hb,M.aJ];exact h1,h2,h3⟩
 obtain ⟨env',h1,h2,h3⟩:=key (m env+1) env h (Nat.lt_succ_self _)
 refine ⟨env',?_,h2,h3⟩
 rw [zg (n:=m env+1) (by rw [h1];exact fun z=>nomatch z),h1]
theorem log2_small {i:Int} {k:Nat} (h:i.natAbs<2^k) (hk:k<=9000):i.natAbs.log2<67108864:=by
 by_cases z:i.natAbs=0
 ·rw [z];decide
 ·have:=(Nat.log2_lt z).mpr h
  omega
theorem bo {i j:Int} {k l:Nat} (hi:i.natAbs<2^k) (hj:j.natAbs<2^l) (hk:k<=9000:=by decide) (hl:l<=9000:=by decide):cW (.int i) (.int j)=M.ok (.int (i*j)):=by
 rw [cW,ar ⟨log2_small hi hk,log2_small hj hl⟩]
theorem mI {i j:Int} (h0:j≠0) (h:j.natAbs<2^9000):cQ (.int i) (.int j)=M.ok (.int (i.fdiv j)):=by
 show cy _ _=_
 refine ar (decide_eq_true ⟨h0,(Nat.log2_lt (by omega)).mpr h⟩)
theorem CD {i j:Int} (h0:j≠0):fG (.int i) (.int j)=M.ok (.int (i.fmod j)):=by
 show cy _ _=_
 exact ar (decide_eq_true h0)
theorem aW {i j:Int} (h0:0<j) (h:j<2^64):cQ (.int i) (.int j)=M.ok (.int (i/j)):=by
 rw [mI (by omega) (Nat.lt_of_lt_of_le (show j.natAbs<2^64 by omega) (Nat.pow_le_pow_right (by decide) (by decide))),Int.fdiv_eq_ediv_of_nonneg _ (by omega)]
theorem aZ {i j:Int} (h0:0<j):fG (.int i) (.int j)=M.ok (.int (i%j)):=by
 rw [CD (by omega),Int.fmod_eq_emod_of_nonneg _ (by omega)]
theorem bN {xs:List PV} {p:PV} {j:Nat} {x:PV} (hs:bC p=some xs) (h:xs[j]?=some x):aG p (.int (j:Int))=M.ok x:=by
 cases p with
 | tup ys=>cases hs;simp only [aG,tj h,fu]
 | lst ys=>cases hs;simp only [aG,tj h,fu]
 | jR ys=>cases hs;simp only [aG,tj h,fu]
 | _=>cases hs
section
variable {b:String->Bool} {ob oe:Addr->Option Bool}
theorem FI (xs:List Int):zR b ob oe (tI xs)=M.ok (.bl (b "tuple")):=Eq.trans rfl rfl
theorem Fv (xs:List Int):zR b ob oe (lI xs)=M.ok (.bl (b "list")):=Eq.trans rfl rfl
theorem CY (xs:List PV):zR b ob oe (.tup xs)=M.ok (.bl (b "tuple")):=Eq.trans rfl rfl
theorem DH (xs:List PV):zR b ob oe (.lst xs)=M.ok (.bl (b "list")):=Eq.trans rfl rfl
theorem D8 (i:Int):zR b ob oe (.int i)=M.ok (.bl (b "int")):=Eq.trans rfl rfl
theorem Fo (i:Bool):zR b ob oe (.bl i)=M.ok (.bl (b "bool")):=Eq.trans rfl rfl
theorem Ej:zR b ob oe .cI=M.ok (.bl (b "NoneType")):=Eq.trans rfl rfl
theorem CP (x:Str):zR b ob oe (.str x)=M.ok (.bl (b "str")):=Eq.trans rfl rfl
theorem El:zR b ob oe .emp=M.ok (.bl (b "dict")):=Eq.trans rfl rfl
end
theorem Eb (i j:Int):mQ (.int i) (.int j)=M.ok (.bl (!decide (i=j))):=by
 simp only [mQ,ml,dat,AI,shaped,PyData.canLay0,PyData.depth,noMix]
 rw [ar ⟨rfl,rfl,trivial⟩]
 unfold same
 rw [M.aJ];congr
theorem Ef (i j:Int):lJ (.int i) (.int j)=M.ok (.bl (decide (i=j))):=by
 simp only [lJ,ml,dat,AI,shaped,PyData.canLay0,PyData.depth,noMix]
 rw [ar ⟨rfl,rfl,trivial⟩]
 unfold same
 rw [M.aJ];congr
theorem GB (i j:Bool):mQ (.bl i) (.bl j)=M.ok (.bl (!decide (i=j))):=by
 simp only [mQ,ml,dat,AI,shaped,PyData.canLay0,PyData.depth,noMix]
 rw [ar ⟨rfl,rfl,trivial⟩]
 unfold same
 rw [M.aJ];congr
theorem F6 (i j:Bool):lJ (.bl i) (.bl j)=M.ok (.bl (decide (i=j))):=by
 simp only [lJ,ml,dat,AI,shaped,PyData.canLay0,PyData.depth,noMix]
 rw [ar ⟨rfl,rfl,trivial⟩]
 unfold same
 rw [M.aJ];congr
theorem i4 (xs:List Int):nA (xs.map PV.int)=some (xs.map PyData.int):=by
 induction xs with
 | nil=>rfl
 | cons a r ih=>simp [nA,dat,ih]
theorem gj (xs:List Int):PyData.canLayAll0 (xs.map PyData.int)=true:=by
 induction xs with
 | nil=>rfl
 | cons a r ih=>simp [PyData.canLayAll0,PyData.canLay0,ih]
theorem iq (xs:List Int):PyData.depthAll (xs.map PyData.int)=0:=by
 induction xs with
 | nil=>rfl
 | cons a r ih=>simp [PyData.depthAll,PyData.depth,ih]
theorem noMix_ints:∀ (xs ys:List Int),noMixAll (xs.map PyData.int) (ys.map PyData.int)=true
 | [],[]=>by simp [noMixAll]
 | [],_::_=>by simp [noMixAll]
 | _::_,[]=>by simp [noMixAll]
 | a::r,b::s=>by simp [noMixAll,noMix,noMix_ints r s]
theorem same_ints:∀ (xs ys:List Int),sameAll (xs.map PyData.int) (ys.map PyData.int)=decide (xs=ys)
 | [],[]=>by simp [sameAll]
 | [],_::_=>by simp [sameAll]
 | _::_,[]=>by simp [sameAll]
 | a::r,b::s=>by
  simp only [List.map_cons,sameAll,same_ints r s]
  unfold same
  rw [Bool.eq_iff_iff];simp
theorem rV (xs:List (List Int)):nA (xs.map tI)=some (xs.map fun r=>.tuple (r.map PyData.int)):=by
 induction xs with
 | nil=>rfl
 | cons a r ih=>simp [nA,dat,tI,i4] at ih ⊢;simp [ih]
theorem nU (xs:List (List Int)):PyData.canLayAll0 (xs.map fun r=>.tuple (r.map PyData.int))=true:=by
 induction xs with
 | nil=>rfl
 | cons a r ih=>simp [PyData.canLayAll0,PyData.canLay0,ih,gj]
theorem jw (xs:List (List Int)):PyData.depthAll (xs.map fun r=>.tuple (r.map PyData.int))<=1:=by
 induction xs with
 | nil=>exact Nat.zero_le _
 | cons a r ih=>simp [PyData.depthAll,PyData.depth,iq,ih]
theorem kX:∀ (xs ys:List (List Int)),noMixAll (xs.map fun r=>.tuple (r.map PyData.int)) (ys.map fun r=>.tuple (r.map PyData.int))=true
 | [],[]=>by simp [noMixAll]
 | [],_::_=>by simp [noMixAll]
 | _::_,[]=>by simp [noMixAll]
 | a::r,b::s=>by simp [noMixAll,noMix,noMix_ints,kX r s]
theorem mZ:∀ (xs ys:List (List Int)),sameAll (xs.map fun r=>.tuple (r.map PyData.int)) (ys.map fun r=>.tuple (r.map PyData.int))=decide (xs=ys)
 | [],[]=>by simp [sameAll]
 | [],_::_=>by simp [sameAll]
 | _::_,[]=>by simp [sameAll]
 | a::r,b::s=>by
  simp only [List.map_cons,sameAll,mZ r s]
  unfold same
  rw [same_ints,Bool.eq_iff_iff];simp
theorem TU (xs ys:List Int):lJ (tI xs) (tI ys)=M.ok (.bl (decide (xs=ys))):=by
 simp only [lJ,ml,dat,tI,i4,Option.map_some,AI]
 rw [ar (by simp [shaped,PyData.canLay0,PyData.depth,gj,iq,noMix,noMix_ints])]
 unfold same
 rw [same_ints];rfl
theorem t4 (xs ys:List Int):mQ (tI xs) (tI ys)=M.ok (.bl (!decide (xs=ys))):=by
 simp only [mQ,ml,dat,tI,i4,Option.map_some,AI]
 rw [ar (by simp [shaped,PyData.canLay0,PyData.depth,gj,iq,noMix,noMix_ints])]
 unfold same
 rw [same_ints];rfl
theorem Jt (xs ys:List (List Int)):lJ (.tup (xs.map tI)) (.tup (ys.map tI))=M.ok (.bl (decide (xs=ys))):=by
 simp only [lJ,ml,dat,rV,Option.map_some,AI]
 have h1:=jw xs
 have h2:=jw ys
 rw [ar (by simp [shaped,PyData.canLay0,PyData.depth,nU,noMix,kX];omega)]
 unfold same
 rw [mZ];rfl
theorem CS (i j:Int):wu (.int i) (.int j)=M.ok (.bl (decide (i<j))):=Eq.trans rfl rfl
theorem DQ (i j:Int):zS (.int i) (.int j)=M.ok (.bl (decide (i<=j))):=Eq.trans rfl rfl
theorem DM (i j:Int):Fi (.int i) (.int j)=M.ok (.bl (decide (j<i))):=Eq.trans rfl rfl
theorem DN (i j:Int):HP (.int i) (.int j)=M.ok (.bl (decide (j<=i))):=Eq.trans rfl rfl
theorem BP (i j:Int):fN (.int i) (.int j)=M.ok (.int (i+j)):=Eq.trans rfl rfl
theorem Av (i j:Int):k4 (.int i) (.int j)=M.ok (.int (i-j)):=Eq.trans rfl rfl
theorem i0 {n:Int} (h:0<=n) (h2:n<2^62):qo [.int n]=M.ok ((List.range n.toNat).map fun (i:Nat)=>.int (i:Int)):=by
 show cy (-(2^62)<=n/\n<2^62) _=_
 rw [ar (by omega)]
 simp
theorem Kq {i:Int} {n:Nat} (h:-(n:Int)<i) (h2:i<n):i.natAbs<n:=by omega
theorem dI {β:Type} {set:PV->af->M af} {body:af->M Out} {α:Type} {inj:α->PV} {k:Out->M β} {r:M β} (xs:List α) (J:List α->af->Prop) {env:af} (h:J xs env)
  (H:∀ a r env,J (a::r) env->∃ e' env',set (inj a) env=M.ok e'/\body e'=M.ok (.nx env')/\J r env') (hk:∀ env',J [] env'->k (.nx env')=r):M.bind (iX set body (xs.map inj) env) k=r:=by
 obtain ⟨env',e,h'⟩:=lY J H xs env h
 rw [e,M.aJ];exact hk env' h'
theorem G1 {β:Type} {u:af->M Bool} {b:af->M Out} {k:Out->M β} {r:M β} (J:af->Prop) (m:af->Nat) {env:af} (h:J env)
  (H:∀ env,J env->(u env=M.ok false)\/(u env=M.ok true/\∃ env',b env=M.ok (.nx env')/\J env'/\m env'<m env)) (hk:∀ env',J env'->u env'=M.ok false->k (.nx env')=r):M.bind (mK u b env) k=r:=by
 obtain ⟨env',e,h',h2⟩:=sk J m H env h
 rw [e,M.aJ];exact hk env' h' h2
theorem Jx (xs:List Int):EU [lI xs]=M.ok (xs.zipIdx.map fun z=>.tup [.int (z.2:Int),.int z.1]):=by
 show M.ok (fx _)=_
 rw [mG]
theorem HR {α:Type} {f:α->PV} (xs:List α):EU [.lst (xs.map f)]=M.ok (xs.zipIdx.map fun z=>.tup [.int (z.2:Int),f z.1]):=by
 show M.ok (fx _)=_
 rw [mG]
theorem aM {n:Nat} (h:n<=1000):n<=sizeLine:=Nat.le_of_lt (mC h)
def tupK (ps:List PV):M PV:=cy (ps.length<=sizeLine) (M.ok (.tup ps))
def lstK (ps:List PV):M PV:=cy (ps.length<=sizeLine) (M.ok (.lst ps))
theorem C9 (fs:af->M (List PV)) (env:af):jK fs env=(fs env).bind tupK:=rfl
theorem CI (fs:af->M (List PV)) (env:af):AB fs env=(fs env).bind lstK:=rfl
theorem Gn:tupK []=M.ok (.tup []):=ar (aM (show 0<=1000 by decide))
theorem G9:lstK []=M.ok (.lst []):=ar (aM (show 0<=1000 by decide))
theorem Fx (a:PV):tupK [a]=M.ok (.tup [a]):=ar (aM (show 1<=1000 by decide))
theorem Fp (a:PV):lstK [a]=M.ok (.lst [a]):=ar (aM (show 1<=1000 by decide))
theorem F1 (a b:PV):tupK [a,b]=M.ok (.tup [a,b]):=ar (aM (show 2<=1000 by decide))
theorem Hh (a b:PV):lstK [a,b]=M.ok (.lst [a,b]):=ar (aM (show 2<=1000 by decide))
theorem E_ (a b c:PV):tupK [a,b,c]=M.ok (.tup [a,b,c]):=ar (aM (show 3<=1000 by decide))
theorem Fy (a b c:PV):lstK [a,b,c]=M.ok (.lst [a,b,c]):=ar (aM (show 3<=1000 by decide))
theorem FX (a b c d:PV):tupK [a,b,c,d]=M.ok (.tup [a,b,c,d]):=ar (aM (show 4<=1000 by decide))
theorem Gz (a b c d:PV):lstK [a,b,c,d]=M.ok (.lst [a,b,c,d]):=ar (aM (show 4<=1000 by decide))
theorem F_ (a b c d e:PV):tupK [a,b,c,d,e]=M.ok (.tup [a,b,c,d,e]):=ar (aM (show 5<=1000 by decide))
theorem GF (a b c d e:PV):lstK [a,b,c,d,e]=M.ok (.lst [a,b,c,d,e]):=ar (aM (show 5<=1000 by decide))
theorem Fj (a b c d e f:PV):tupK [a,b,c,d,e,f]=M.ok (.tup [a,b,c,d,e,f]):=ar (aM (show 6<=1000 by decide))
theorem Hw (a b c d e f:PV):lstK [a,b,c,d,e,f]=M.ok (.lst [a,b,c,d,e,f]):=ar (aM (show 6<=1000 by decide))
end L2
namespace L2
open PySem PySem.Spec PyProof.Rows
def fq {α:Type} (m:M α) (Q:α->Prop):Prop:=∃ a,m=M.ok a/\Q a
section
variable {α β γ:Type} {Q Q':α->Prop} {m:M α}
theorem fq.ok {a:α} (h:Q a):fq (M.ok a) Q:=⟨a,rfl,h⟩
theorem fq.imp (h:fq m Q) (i:∀ a,Q a->Q' a):fq m Q':=let ⟨a,e,q⟩:=h;⟨a,e,i a q⟩
theorem fq.bind {R:β->Prop} {f:α->M β} (h:fq m fun a=>fq (f a) R):fq (M.bind m f) R:=by
 obtain ⟨a,rfl,b,e,q⟩:=h
 exact ⟨b,e,q⟩
theorem fq.Ua {R:β->Prop} {f:α->M β} (h:fq m Q) (k:∀ a,Q a->fq (f a) R):fq (M.bind m f) R:=fq.bind (h.imp k)
theorem fq.eq {a:α} (h:fq m fun x=>x=a):m=M.ok a:=by obtain ⟨b,e,rfl⟩:=h;exact e
theorem fq.of {a:α} (h:m=M.ok a) (q:Q a):fq m Q:=⟨a,h,q⟩
def Tn (J:af->Prop) (B:af->Prop) (R:PV->Prop):Out->Prop
 | .nx e=>J e
 | .ct e=>J e
 | .bk e=>B e
 | .rt p=>R p
theorem fq.ym {set:PV->af->M af} {body:af->M Out} {inj:γ->PV} {B:af->Prop} {R:PV->Prop} (J:List γ->af->Prop)
  (H:∀ a r env,J (a::r) env->fq (M.bind (set (inj a) env) body) (Tn (J r) B R)):∀ (xs:List γ) (env:af),J xs env->fq (iX set body (xs.map inj) env) fun o=>(∃ e,o=.nx e/\(J [] e\/B e))\/∃ p,o=.rt p/\R p
 | [],env,h=>⟨_,rfl,.inl ⟨_,rfl,.inl h⟩⟩
 | a::r,env,h=>by
  obtain ⟨o,e,q⟩:=H a r env h
  rw [List.map_cons,iX,← M.bind_assoc,e,M.aJ]
  cases o with
  | nx e'=>exact fq.ym J H r e' q
  | ct e'=>exact fq.ym J H r e' q
  | bk e'=>exact ⟨_,rfl,.inl ⟨_,rfl,.inr q⟩⟩
  | rt p=>exact ⟨_,rfl,.inr ⟨_,rfl,q⟩⟩
theorem fq.loop {R:β->Prop} {set:PV->af->M af} {body:af->M Out} {inj:γ->PV} {k:Out->M β} {xs:List γ} {env:af} (J:List γ->af->Prop) (h:J xs env)
  (H:∀ a r env,J (a::r) env->fq (M.bind (set (inj a) env) body) (Tn (J r) (fun _=>False) fun _=>False)) (hk:∀ env',J [] env'->fq (k (.nx env')) R):fq (M.bind (iX set body (xs.map inj) env) k) R:=by
 obtain ⟨o,e,q⟩:=fq.ym J H xs env h
 rw [e,M.aJ]
 rcases q with ⟨e',rfl,q | q⟩ | ⟨p,_,q⟩
 ·exact hk e' q
 ·exact q.elim
 ·exact q.elim
theorem fq.Ur {R:β->Prop} {set:PV->af->M af} {body:af->M Out} {inj:γ->PV} {k:Out->M β} {xs:List γ} {env:af} (J:List γ->af->Prop) (h:J xs env)
  (H:∀ a r env,J (a::r) env->fq (M.bind (set (inj a) env) body) (Tn (J r) (fun e=>fq (k (.nx e)) R) fun p=>fq (k (.rt p)) R)) (hk:∀ env',J [] env'->fq (k (.nx env')) R):fq (M.bind (iX set body (xs.map inj) env) k) R:=by
 obtain ⟨o,e,q⟩:=fq.ym J H xs env h
 rw [e,M.aJ]
 rcases q with ⟨e',rfl,q | q⟩ | ⟨p,rfl,q⟩
 ·exact hk e' q
 ·exact q
 ·exact q
end
def JV (i:Nat) (env:af) (xs:List PV) (p:PV):M Out:=if xs.length<sizeLine then M.ok (.nx (env.set i (some (.ow (xs++[p]))))) else none
theorem iF (i:Nat) (f:af->M PV) (env:af):jq i f env=(ownAt i env).bind fun xs=>(f env).bind fun p=>JV i env xs p:=by
 unfold jq ownAt
 rcases env[i]? with _ | _ | (_ | _ | _) <;> rfl
theorem iw {i:Nat} {env:af} {xs:List PV} {p:PV} (h:xs.length<1000):JV i env xs p=M.ok (.nx (env.set i (some (.ow (xs++[p]))))):=if_pos (mC (Nat.le_of_lt h))
def yg (C:Addr) (m:Str) (sem:List PV->M PV) (p:PV) (x:M (List PV)):M PV:=match p with
 | .obj C' fl=>cy (C'=C/\fl.lookup m=none) (x.bind fun ps=>sem (.obj C' fl::ps))
 | _=>none
theorem cN (C:Addr) (m:Str) (sem:List PV->M PV) (g:af->M PV) (fs:af->M (List PV)) (env:af):b_ C m sem g fs env=(g env).bind fun p=>yg C m sem p (fs env):=rfl
theorem rT {C:Addr} {m:Str} {sem:List PV->M PV} {fl:List (Str×PV)} {x:M (List PV)} (h:fl.lookup m=none):yg C m sem (.obj C fl) x=x.bind fun ps=>sem (.obj C fl::ps):=ar ⟨rfl,h⟩
def wR (C:Addr) (m:Str) (sem:List PV->M (List PV)) (p:PV):M (List PV):=match p with
 | .obj C' fl=>cy (C'=C/\fl.lookup m=none) (sem [.obj C' fl])
 | _=>none
theorem zW (C:Addr) (m:Str) (sem:List PV->M (List PV)) (g:af->M PV) (env:af):xZ C m sem g env=(g env).bind (wR C m sem):=rfl
theorem xy {C:Addr} {m:Str} {sem:List PV->M (List PV)} {fl:List (Str×PV)} (h:fl.lookup m=none):wR C m sem (.obj C fl)=sem [.obj C fl]:=ar ⟨rfl,h⟩
def Ap (ok:Addr->Bool) (f:Str) (p:PV):M PV:=match p with
 | .obj C fs=>cy (ok C=true) (fu (fs.lookup f))
 | _=>none
theorem jn (ok:Addr->Bool) (f:Str) (g:af->M PV) (env:af):fv ok f g env=(g env).bind (Ap ok f):=rfl
theorem p6 {ok:Addr->Bool} {f:Str} {C:Addr} {fs:List (Str×PV)} {x:PV} (h:ok C=true) (hl:fs.lookup f=some x):Ap ok f (.obj C fs)=M.ok x:=by
 show cy _ _=_
 rw [ar h,hl];rfl
theorem MN (xs ys:List Int):mQ (lI xs) (lI ys)=M.ok (.bl (!decide (xs=ys))):=by
 simp only [mQ,ml,dat,lI,i4,Option.map_some,AI]
 rw [ar (by simp [SeqAt.shaped,PyData.canLay0,PyData.depth,gj,iq,SeqAt.noMix,noMix_ints])]
 unfold same
 rw [same_ints];rfl
theorem NA (xs ys:List Int):lJ (lI xs) (lI ys)=M.ok (.bl (decide (xs=ys))):=by
 simp only [lJ,ml,dat,lI,i4,Option.map_some,AI]
 rw [ar (by simp [SeqAt.shaped,PyData.canLay0,PyData.depth,gj,iq,SeqAt.noMix,noMix_ints])]
 unfold same
 rw [same_ints];rfl
theorem zx (xs ys:List (List Int)):lJ (.lst (xs.map tI)) (.lst (ys.map tI))=M.ok (.bl (decide (xs=ys))):=by
 simp only [lJ,ml,dat,rV,Option.map_some,AI]
 have h1:=jw xs
 have h2:=jw ys
 rw [ar (by simp [SeqAt.shaped,PyData.canLay0,PyData.depth,nU,SeqAt.noMix,kX];omega)]
 unfold same
 rw [mZ];rfl
theorem gZ (xs:List Int) (x:Int):xs.map PV.int++[.int x]=(xs++[x]).map PV.int:=by simp
end L2
namespace L2
open PySem PySem.Spec PyProof.Rows
theorem uj {α:Type} {f:α->PV} {p:PV} (xs:List α) (h:bC p=some (xs.map f)):y0 [p]=M.ok (xs.zipIdx.map fun z=>.tup [.int (z.2:Int),f z.1]):=by
 show Q8 p=_
 unfold Q8
 rw [h]
 show M.ok (fx _)=_
 rw [mG]
theorem GR (xs:List Int):y0 [lI xs]=M.ok (xs.zipIdx.map fun z=>.tup [.int (z.2:Int),.int z.1]):=uj xs rfl
theorem xA (xs:List Int):y0 [tI xs]=M.ok (xs.zipIdx.map fun z=>.tup [.int (z.2:Int),.int z.1]):=uj xs rfl
theorem lS {α:Type} {f:α->PV} (xs:List α):y0 [.lst (xs.map f)]=M.ok (xs.zipIdx.map fun z=>.tup [.int (z.2:Int),f z.1]):=uj xs rfl
end L2
namespace L2
open PySem PySem.Spec PyProof.Rows
theorem wx {α:Type} {us:List α} (h:us.length=1):∃ a,us=[a]:=by
 cases us with
 | nil=>cases h
 | cons a t=>cases t with
  | nil=>exact ⟨a,rfl⟩
  | cons b t=>cases h
theorem ln2 {α:Type} {us:List α} (h:us.length=2):∃ a b,us=[a,b]:=by
 cases us with
 | nil=>cases h
 | cons a t=>obtain ⟨b,rfl⟩:=wx (Nat.succ.inj h);exact ⟨a,b,rfl⟩
theorem IK {α:Type} {us:List α} (h:us.length=3):∃ a b c,us=[a,b,c]:=by
 cases us with
 | nil=>cases h
 | cons a t=>obtain ⟨b,c,rfl⟩:=ln2 (Nat.succ.inj h);exact ⟨a,b,c,rfl⟩
theorem ET {α:Type} {us:List α} (h:us.length=4):∃ a b c d,us=[a,b,c,d]:=by
 cases us with
 | nil=>cases h
 | cons a t=>obtain ⟨b,c,d,rfl⟩:=IK (Nat.succ.inj h);exact ⟨a,b,c,d,rfl⟩
theorem UL {α:Type} {us:List α} (h:us.length=5):∃ a b c d e,us=[a,b,c,d,e]:=by
 cases us with
 | nil=>cases h
 | cons a t=>obtain ⟨b,c,d,e,rfl⟩:=ET (Nat.succ.inj h);exact ⟨a,b,c,d,e,rfl⟩
def xI (K:PySem.W.Frag):Bool:=K.all fun p=>match p.2.cls with
 | .type t=>t != "list"
 | _=>true
theorem zU {K:PySem.W.Frag} (h:xI K=true) {a:Addr} {o:Obj} (e:K.lookup a=some o):o.cls≠.type "list" := by
 induction K with
 | nil=>cases e
 | cons p r ih =>
  obtain ⟨b,u⟩:=p
  rw [xI,List.all_cons,Bool.and_eq_true] at h
  rw [List.lookup_cons] at e
  cases q:a==b with
  | true =>
   rw [q] at e;cases e
   intro z
   have h1:=h.1
   simp only [z] at h1
   exact absurd h1 (by decide)
  | false=>rw [q] at e;exact ih h.2 e
theorem rO {H:Hp}:∀ ns:List Int,aK H (ns.map PV.int) (ns.map V.int)
 | []=>.nil
 | i::r=>.cons (.int i) (rO r)
theorem w_ {l:PySem.W.OpenLaw} {n k:Nat} {q:Program} {loose:List Str} {XP:(Str->Option Value)->Heap->Prop} {YP:World->Heap->Prop} {d:DefRec} {K:Params->PySem.W.Frag} {sem:List PV->M PV} {x:Str}
  (hn:l.most=some n) (hn2:n<=sizeLine) (hdf:d.params.defaults=[]) (hr:bR k callerA)
  (hY:∀ (w:World) (h:Heap),YP w h->(K w.params).In h)
  (hK:∀ w:World,xI (K w.params)=true)
  (F:∀ (w:World) (mg:Str->Option Value) (fa:Addr) (h:Heap),(K w.params).In h->h.Ns mainGlobals mg->mg d.name=some (.ref fa) ->
   ∃ fd:FuncData,(∀ (s:Shared) (u:Value),BindsTo s fd ⟨[u],[]⟩ [(x,u)]) ∧
    ∀ base:Heap,(K w.params).In base->base.Ns mainGlobals mg->aN l.prog w (K w.params) mg base (bM l.prog w) k fa fd [x] (fm 1 sem))
  (hsem:∀ ns:List Int,ns.length<=n->(∀ i∈ns,Builtin.Int.intBits i<=1048576)->sem [.jR (ns.map PV.int)]=M.ok (.bl true)) :
  PySem.W.WalkO q loose XP YP l.row.toRowW d [] (fun f vs=>PySem.call f vs):=by
 intro w s₀ s₁ mg mb G Y fa o pm cd doc dV kV ho hd hcd hD hmg hg args vals as yy hlay hrd hwl hlo
 obtain rfl:dV=.none:=PySem.W.Dflts.none hD hdf
 obtain rfl:kV=.none:=PySem.W.Dflts.noKw hD
 obtain ⟨a,vs,ns,rfl,rfl,hobj,hints,hlen⟩:=Att.yZ hn yy hwl
 have hbits:∀ i∈ns,Builtin.Int.intBits i<=1048576:=fun i hi=>by
  have h1:=PySem.W.layableW_arg hlay _ (List.mem_singleton.mpr rfl)
  have h2:=PySem.W.layableW_item h1 (.int i) (List.mem_map.mpr ⟨i,hi,rfl⟩)
  exact intBits_le_of_layable h2
 have KX:=hY w _ Y
 obtain ⟨fd,hb,hF⟩:=F w mg fa _ KX G.T.g hmg
 have hs:=hsem ns hlen hbits
 refine PySem.W.enter_call (codeAny_mono (Ad KX G.T.g G.T.b G.T.builtins G.T.nolimit hg hobj hints (Nat.le_trans hlen hn2) hr hF hb (fun H hO hS=>⟨rfl,H,[.jR (ns.map PV.int)],fun _ _ e=>e,?_,?_⟩) fun H e s' z=>?_) fun r s' hq=>?_)
 ·rcases hS with (hS | ⟨ob,hS⟩) | ⟨ob,its,m,e1,e2,_⟩
  ·rcases hO a with z | ⟨ob,xs,z⟩
   ·rw [z] at hS;cases hS
   ·rw [z] at hS;cases hS
  ·exact .cons (.jR hS (rO ns)) .nil
  ·exact absurd e2 (zU (hK w) e1)
 ·rw [hs]
  intro v Hs' H' g r
  cases r;rfl
 ·obtain ⟨ea,T,C,dd,Hc,_,_,_,_,_,_,_,_,z⟩:=z;exact z
 ·obtain ⟨rfl,h2,h3,h4⟩:=hq
  exact ⟨.inl ⟨.bool true,.bool true,[],rfl,fun _=>rfl,.bool true,Att.zt l _,fun _=>⟨List.Pairwise.nil,fun _ hm=>(nomatch hm)⟩⟩,h2,h3,h4⟩
end L2
namespace HD
open PySem PySem.W L2
abbrev pw:Program:=PySem.Challenge.pw_dialvault_k23_steps_walked
noncomputable section
def st (s:String) (t:Nat):Value:=.str (Str.ofString s) t
def en (P:Params) (s:String) (t:Nat) (v:Value):DictEntry:=⟨PyData.keyHash P (Str.ofString s),st s t,v⟩
def tu (xs:List Value):Obj:=⟨.type "tuple", none,.seq ⟨xs⟩ 0,⟨[]⟩⟩
def di (n:Nat) (es:List DictEntry):Obj:=⟨.type "dict", none,.dict ⟨es⟩ n,⟨[]⟩⟩
def tp (i:Nat):Stmt:=pw.main.body.getD i (.Pass ⟨0,0,0,0⟩)
def mp (i j:Nat):Stmt:=inClass (tp i) j
def co (a b:String) (t:Nat) (l n:Int) (x1 x2 x3 x4 x5:Nat) (u:Nat):Obj:=⟨.type "code", none,.fields ⟨[st a t,st b (t+1),st "/claim/cut.py" (t+2),.int l 0,.int n 0,.int 0 0,.int 0 0,.int 3 0,.ref x1,.bool true,.int 181 0,.ref x2,.none,.ref x3,.ref x4,.ref x5,.int u 0,.int l 0,st "/claim/cut.py" (u+1)]⟩,⟨[]⟩⟩
def ft (a b:String) (s:Stmt):Obj:=⟨.none,none,.func ⟨Str.ofString a,Str.ofString b,aB s,.stmts (aA s),ah s,0,[],.none,.none,.none,.none,none,.none,.none,0⟩,⟨[]⟩⟩
def fo (a b:String) (s:Stmt) (df pm:Value) (cd:Nat):Obj:=⟨.type "function", none,.func ⟨Str.ofString a,Str.ofString b,aB s,.stmts (aA s),ah s,3,[],df,.none,.none,pm,none,.ref cd,.none,0⟩,⟨[]⟩⟩
def Fu:List Obj->List Obj
 | []=>[]
 | [a]=>[a]
 | a::_::r=>a::Fu r
def bt:Nat->List Obj->BT
 | 0,_=>.nil
 | _+1,[]=>.nil
 | n+1,a::r=>.node a (bt n (Fu r)) (bt n (Fu (r.drop 1)))
def S (L:Params->List Obj) (n k:Nat) (w:World) (os:OsState):SharedT:=⟨bt 14 (L w.params),n,{},⟨[]⟩,⟨0,0,0,0⟩,k,os⟩
def F (L:Params->List Obj) (k:Nat) (w:World) (os:OsState):Shared:=⟨⟨⟨L w.params⟩,{}⟩,⟨[]⟩,⟨0,0,0,0⟩,k,os⟩
def cc (a:String) (t:Nat) (l:Int) (x y u:Nat):Obj:=⟨.type "code", none,.fields ⟨[st a t,st a (t+1),st "/claim/cut.py" (t+2),.int l 0,.int 0 0,.int 0 0,.int 0 0,.int 0 0,.ref x,.bool false,.int 181 0,.ref y,.none,.none,.none,.none,.int u 0,.int l 0,st "/claim/cut.py" (u+1)]⟩,⟨[]⟩⟩
def fr (a b:Nat) (s:String) (t:Nat):Obj:=⟨.type "frame", none,.plain,⟨[some (.ref a),some (.ref 3),some (.ref b),none,some (st s t),none,some (.ref 0)]⟩⟩
def su (a:Nat):Obj:=⟨.type "super", none,.fields ⟨[.ref a,.ref a,.ref a]⟩,⟨[]⟩⟩
def ii (a:Nat):Obj:=⟨.type "builtin_function_or_method", none,.fields ⟨[.builtin "object.__init_subclass__", .ref a]⟩,⟨[]⟩⟩
def wW:List Nat->List Value
 | a::b::c::r=>.int a 0::.int b 0::.ref c::wW r
 | _=>[]
def fi (xs:List Nat):Obj:=⟨.none,none,.fields ⟨wW xs⟩,⟨[]⟩⟩
def cl (n:Str) (bs ms:List Value) (k:Nat) (ss:List Value) (sl:List (Option Value)):Obj:=⟨.type "type", none,.cls ⟨n,bs,ms,k,n,true,[],ss,false,none,false⟩,⟨sl⟩⟩
def pt (L:List Obj) (us:List (Nat×Obj)) (ns:List Obj):List Obj:=us.foldl (fun l u=>l.set u.1 u.2) L++ns
abbrev b0:=boot_o_0
abbrev b1:=boot_o_1
abbrev b2:=boot_o_2
abbrev b3:=boot_o_3
abbrev b4:=boot_o_4
abbrev b5:=boot_o_5
abbrev b6:=boot_o_6
abbrev b7:=boot_o_7
abbrev b8:=boot_o_8
abbrev b9:=boot_o_9
abbrev UR:=boot_o_10
def gl P:=[en P "__doc__" 166 .none,en P "__package__" 167 .none,en P "__loader__" 168 (.builtin "__main__.__loader__#opaque"),en P "__spec__" 169 .none,en P "__annotations__" 170 (.ref 6),en P "__builtins__" 171 (.ref 4),en P "__file__" 173 (st "/claim/cut.py" 172),en P "__cached__" 174 .none,en P "_wall" 193 (.ref 21),en P "VaultError" 220 (.ref 38),en P "NoDial" 252 (.ref 65),en P "NoLever" 284 (.ref 91),en P "NoPrice" 316 (.ref 117),en P "NoSetting" 339 (.ref 136),en P "TooMany" 362 (.ref 155),en P "is_whole" 371 (.ref 164),en P "is_row" 377 (.ref 169),en P "common" 389 (.ref 176),en P "multiple_of" 398 (.ref 183),en P "unit_row" 404 (.ref 188),en P "MOST_DIALS" 408 (.int 6 407),en P "LEAST_SIZE" 410 (.int 2 409),en P "MOST_SIZE" 412 (.int 360 411),en P "MOST_LEVERS" 414 (.int 8 413),en P "LEAST_PRICE" 416 (.int 1 415),en P "MOST_PRICE" 418 (.int 1000 417),en P "Vault" 476 (.ref 232),en P "is_within" 485 (.ref 243),en P "need_sizes" 494 (.ref 250),en P "need_levers" 504 (.ref 257),en P "prices_for" 513 (.ref 264),en P "rests" 519 (.ref 269),en P "nought" 526 (.ref 276),en P "is_setting" 532 (.ref 281),en P "need_setting" 540 (.ref 288),en P "mixed" 548 (.ref 293),en P "mixed_made" 560 (.ref 300),en P "unpulled" 568 (.ref 307),en P "pulled_once" 577 (.ref 314),en P "step_size" 587 (.ref 321),en P "taken_in" 602 (.ref 328),en P "lowered" 614 (.ref 335),en P "in_spans" 624 (.ref 342),en P "Rungs" 708 (.ref 405),en P "_law_cell" 718 (.ref 416),en P "_law_stream" 729 (.ref 423),en P "_law_digits" 740 (.ref 430),en P "_law_sizes" 746 (.ref 435),en P "_law_great" 753 (.ref 442),en P "_law_lever" 765 (.ref 449),en P "_law_levers" 776 (.ref 456),en P "_law_added" 782 (.ref 461),en P "_law_turned" 795 (.ref 468),en P "_law_brought_down" 808 (.ref 475),en P "_law_is_nought" 815 (.ref 482),en P "_law_step_good" 830 (.ref 489),en P "_law_product" 839 (.ref 496),en P "_law_idle_good" 845 (.ref 501),en P "_law_spans_good" 860 (.ref 508),en P "law" 877 (.ref 515)]
def o0:=cc "<module>" 182 1 11 12 185
def o1:=fr 13 3 "__main__" 164
def LA (P:Params):List Obj:=[b0 P,b1 P,b2 P,b3 P,b4 P,b5 P,b6 P,b7 P,b8 P,b9 P,UR P,b7 P,b8 P,o0,o1]
def o2 P:=di 11 (en P "__name__" 165 (st "dialvault.errors" 194)::(gl P).take 10)
def o3:=fi [1,0,20,5,0,27]
def o4:=tu [st "k" 190]
def o5:=ft "_wall" "_wall" (tp 0)
def o6:=co "_wall" "_wall" 187 1 1 15 16 17 18 19 191
def o7:=fo "_wall" "_wall" (tp 0) .none (st "__main__" 164) 20
def o8:=tu [.type "ValueError"]
def o9:Obj:=⟨.type "builtin_function_or_method", none,(.fields ⟨[.builtin "type.__prepare__", .type "type"]⟩),⟨[]⟩⟩
def UP P:=di 5 [en P "__module__" 203 (st "dialvault.errors" 194),en P "__qualname__" 205 (st "VaultError" 204),en P "__firstlineno__" 207 (.int 5 206),en P "word" 214 (.ref 35),en P "__static_attributes__" 215 (.ref 36)]
def V5:=fi [7,4,34]
def UT:=cc "VaultError" 198 5 25 26 201
def Wi:=fr 27 24 "dialvault.errors" 194
def WU:=tu [st "self" 211]
def U6:=ft "word" "VaultError.word" (mp 2 0)
def Vd:=co "word" "VaultError.word" 208 7 1 29 30 31 32 33 212
def VM:=fo "word" "VaultError.word" (mp 2 0) .none (st "dialvault.errors" 194) 34
def Wu P:=di 3 [en P "__module__" 203 (st "dialvault.errors" 194),en P "__firstlineno__" 207 (.int 5 206),en P "word" 214 (.ref 35),en P "__static_attributes__" 215 (.ref 36),en P "__weakref__" 217 (.ref 39),en P "__doc__" 218 .none]
def V0:=cl "VaultError" [.type "ValueError"] [.ref 38,.type "ValueError", .type "Exception", .type "BaseException", .type "object"] 37 [] [some (.ref 22),none,some (st "VaultError" 196),some (st "VaultError" 204),some (.builtin "ValueError.__new__"),some (.bool true)]
def WI:Obj:=⟨.type "getset_descriptor", none,(.fields ⟨[st "__weakref__" 216,.ref 38,.builtin "ExceptionGroup.__weakref__", .none]⟩),⟨[]⟩⟩
def V9:=su 38
def W5:=ii 38
def L0 P:=pt (LA P) [(3,o2 P),(12,o3)] [b7 P,b8 P,o4,b7 P,o5,o6,o7,o8,o9,UP P,b7 P,V5,UT,Wi,b7 P,b8 P,WU,b7 P,U6,Vd,VM,b7 P,Wu P,V0,WI,V9,W5]
def XD P:=di 12 (en P "__name__" 165 (st "dialvault.errors" 194)::(gl P).take 11)
def U0:=fi [1,0,20,5,0,27,9,0,47]
def Wo:=cl "VaultError" [.type "ValueError"] [.ref 38,.type "ValueError", .type "Exception", .type "BaseException", .type "object"] 37 [.ref 65] [some (.ref 22),none,some (st "VaultError" 196),some (st "VaultError" 204),some (.builtin "ValueError.__new__"),some (.bool true)]
def ID:=tu [.ref 38]
def W4 P:=di 6 [en P "__module__" 228 (st "dialvault.errors" 194),en P "__qualname__" 230 (st "NoDial" 229),en P "__firstlineno__" 232 (.int 9 231),en P "__init__" 240 (.ref 55),en P "word" 247 (.ref 62),en P "__static_attributes__" 249 (.ref 63)]
def Vv:=fi [11,4,54,14,4,61]
def Xm:=cc "NoDial" 223 9 45 46 226
def Wz:=fr 47 44 "dialvault.errors" 194
def Vq:=tu [st "self" 236,st "dial" 237]
def WW:=ft "__init__" "NoDial.__init__" (mp 3 0)
def Wb:=co "__init__" "NoDial.__init__" 233 11 2 49 50 51 52 53 238
def Xz:=fo "__init__" "NoDial.__init__" (mp 3 0) .none (st "dialvault.errors" 194) 54
def VF:=tu [st "self" 244]
def Vf:=ft "word" "NoDial.word" (mp 3 1)
def VV:=co "word" "NoDial.word" 241 14 1 56 57 58 59 60 245
def Wr:=fo "word" "NoDial.word" (mp 3 1) .none (st "dialvault.errors" 194) 61
def Vm:=tu [st "dial" 248]
def WC P:=di 2 [en P "__module__" 228 (st "dialvault.errors" 194),en P "__firstlineno__" 232 (.int 9 231),en P "__init__" 240 (.ref 55),en P "word" 247 (.ref 62),en P "__static_attributes__" 249 (.ref 63),en P "__doc__" 250 .none]
def WX:=cl "NoDial" [.ref 38] [.ref 65,.ref 38,.type "ValueError", .type "Exception", .type "BaseException", .type "object"] 64 [] [some (.ref 42),none,some (st "NoDial" 221),some (st "NoDial" 229),some (.builtin "ValueError.__new__"),some (.bool true)]
def VR:=su 65
def VW:=ii 65
def L1 P:=pt (L0 P) [(3,XD P),(12,U0),(38,Wo)] [ID,o9,W4 P,b7 P,Vv,Xm,Wz,b7 P,b8 P,Vq,b7 P,WW,Wb,Xz,b7 P,b8 P,VF,b7 P,Vf,VV,Wr,Vm,WC P,WX,VR,VW]
def Vx P:=di 13 (en P "__name__" 165 (st "dialvault.errors" 194)::(gl P).take 12)
def Wj:=fi [1,0,20,5,0,27,9,0,47,16,0,73]
def Vj:=cl "VaultError" [.type "ValueError"] [.ref 38,.type "ValueError", .type "Exception", .type "BaseException", .type "object"] 37 [.ref 65,.ref 91] [some (.ref 22),none,some (st "VaultError" 196),some (st "VaultError" 204),some (.builtin "ValueError.__new__"),some (.bool true)]
def Xa P:=di 6 [en P "__module__" 260 (st "dialvault.errors" 194),en P "__qualname__" 262 (st "NoLever" 261),en P "__firstlineno__" 264 (.int 16 263),en P "__init__" 272 (.ref 81),en P "word" 279 (.ref 88),en P "__static_attributes__" 281 (.ref 89)]
def VP:=fi [18,4,80,21,4,87]
def Wn:=cc "NoLever" 255 16 71 72 258
def XA:=fr 73 70 "dialvault.errors" 194
def V6:=tu [st "self" 268,st "lever" 269]
def UU:=ft "__init__" "NoLever.__init__" (mp 4 0)
def WJ:=co "__init__" "NoLever.__init__" 265 18 2 75 76 77 78 79 270
def Vt:=fo "__init__" "NoLever.__init__" (mp 4 0) .none (st "dialvault.errors" 194) 80
def Ws:=tu [st "self" 276]
def W8:=ft "word" "NoLever.word" (mp 4 1)
def Vp:=co "word" "NoLever.word" 273 21 1 82 83 84 85 86 277
def Wv:=fo "word" "NoLever.word" (mp 4 1) .none (st "dialvault.errors" 194) 87
def Wm:=tu [st "lever" 280]
def Va P:=di 2 [en P "__module__" 260 (st "dialvault.errors" 194),en P "__firstlineno__" 264 (.int 16 263),en P "__init__" 272 (.ref 81),en P "word" 279 (.ref 88),en P "__static_attributes__" 281 (.ref 89),en P "__doc__" 282 .none]
def Ww:=cl "NoLever" [.ref 38] [.ref 91,.ref 38,.type "ValueError", .type "Exception", .type "BaseException", .type "object"] 90 [] [some (.ref 68),none,some (st "NoLever" 253),some (st "NoLever" 261),some (.builtin "ValueError.__new__"),some (.bool true)]
def VN:=su 91
def Ve:=ii 91
def L2 P:=pt (L1 P) [(3,Vx P),(12,Wj),(38,Vj)] [ID,o9,Xa P,b7 P,VP,Wn,XA,b7 P,b8 P,V6,b7 P,UU,WJ,Vt,b7 P,b8 P,Ws,b7 P,W8,Vp,Wv,Wm,Va P,Ww,VN,Ve]
def Xd P:=di 14 (en P "__name__" 165 (st "dialvault.errors" 194)::(gl P).take 13)
def XC:=fi [1,0,20,5,0,27,9,0,47,16,0,73,23,0,99]
def VU:=cl "VaultError" [.type "ValueError"] [.ref 38,.type "ValueError", .type "Exception", .type "BaseException", .type "object"] 37 [.ref 65,.ref 91,.ref 117] [some (.ref 22),none,some (st "VaultError" 196),some (st "VaultError" 204),some (.builtin "ValueError.__new__"),some (.bool true)]
def W7 P:=di 6 [en P "__module__" 292 (st "dialvault.errors" 194),en P "__qualname__" 294 (st "NoPrice" 293),en P "__firstlineno__" 296 (.int 23 295),en P "__init__" 304 (.ref 107),en P "word" 311 (.ref 114),en P "__static_attributes__" 313 (.ref 115)]
def U8:=fi [25,4,106,28,4,113]
def Xo:=cc "NoPrice" 287 23 97 98 290
def Xb:=fr 99 96 "dialvault.errors" 194
def WO:=tu [st "self" 300,st "lever" 301]
def V4:=ft "__init__" "NoPrice.__init__" (mp 5 0)
def V7:=co "__init__" "NoPrice.__init__" 297 25 2 101 102 103 104 105 302
def W0:=fo "__init__" "NoPrice.__init__" (mp 5 0) .none (st "dialvault.errors" 194) 106
def U2:=tu [st "self" 308]
def Xp:=ft "word" "NoPrice.word" (mp 5 1)
def Xu:=co "word" "NoPrice.word" 305 28 1 108 109 110 111 112 309
def Wg:=fo "word" "NoPrice.word" (mp 5 1) .none (st "dialvault.errors" 194) 113
def UW:=tu [st "lever" 312]
def Xv P:=di 2 [en P "__module__" 292 (st "dialvault.errors" 194),en P "__firstlineno__" 296 (.int 23 295),en P "__init__" 304 (.ref 107),en P "word" 311 (.ref 114),en P "__static_attributes__" 313 (.ref 115),en P "__doc__" 314 .none]
def Vr:=cl "NoPrice" [.ref 38] [.ref 117,.ref 38,.type "ValueError", .type "Exception", .type "BaseException", .type "object"] 116 [] [some (.ref 94),none,some (st "NoPrice" 285),some (st "NoPrice" 293),some (.builtin "ValueError.__new__"),some (.bool true)]
def VD:=su 117
def Xr:=ii 117
def L3 P:=pt (L2 P) [(3,Xd P),(12,XC),(38,VU)] [ID,o9,W7 P,b7 P,U8,Xo,Xb,b7 P,b8 P,WO,b7 P,V4,V7,W0,b7 P,b8 P,U2,b7 P,Xp,Xu,Wg,UW,Xv P,Vr,VD,Xr]
def WH P:=di 15 (en P "__name__" 165 (st "dialvault.errors" 194)::(gl P).take 14)
def Xq:=fi [1,0,20,5,0,27,9,0,47,16,0,73,23,0,99,30,0,125]
def Vy:=cl "VaultError" [.type "ValueError"] [.ref 38,.type "ValueError", .type "Exception", .type "BaseException", .type "object"] 37 [.ref 65,.ref 91,.ref 117,.ref 136] [some (.ref 22),none,some (st "VaultError" 196),some (st "VaultError" 204),some (.builtin "ValueError.__new__"),some (.bool true)]
def VY P:=di 5 [en P "__module__" 324 (st "dialvault.errors" 194),en P "__qualname__" 326 (st "NoSetting" 325),en P "__firstlineno__" 328 (.int 30 327),en P "word" 335 (.ref 133),en P "__static_attributes__" 336 (.ref 134)]
def Wx:=fi [32,4,132]
def WK:=cc "NoSetting" 319 30 123 124 322
def Xh:=fr 125 122 "dialvault.errors" 194
def VA:=tu [st "self" 332]
def Xc:=ft "word" "NoSetting.word" (mp 6 0)
def U3:=co "word" "NoSetting.word" 329 32 1 127 128 129 130 131 333
def VL:=fo "word" "NoSetting.word" (mp 6 0) .none (st "dialvault.errors" 194) 132
def U_ P:=di 2 [en P "__module__" 324 (st "dialvault.errors" 194),en P "__firstlineno__" 328 (.int 30 327),en P "word" 335 (.ref 133),en P "__static_attributes__" 336 (.ref 134),en P "__doc__" 337 .none]
def W_:=cl "NoSetting" [.ref 38] [.ref 136,.ref 38,.type "ValueError", .type "Exception", .type "BaseException", .type "object"] 135 [] [some (.ref 120),none,some (st "NoSetting" 317),some (st "NoSetting" 325),some (.builtin "ValueError.__new__"),some (.bool true)]
def VQ:=su 136
def WM:=ii 136
def L4 P:=pt (L3 P) [(3,WH P),(12,Xq),(38,Vy)] [ID,o9,VY P,b7 P,Wx,WK,Xh,b7 P,b8 P,VA,b7 P,Xc,U3,VL,b7 P,U_ P,W_,VQ,WM]
def VI P:=di 21 (en P "__name__" 165 (st "dialvault.wholes" 363)::(gl P).take 20)
def Le:=fi [1,0,20,5,0,27,9,0,47,16,0,73,23,0,99,30,0,125,34,0,144,39,0,163,41,0,168,45,0,175,56,0,182,61,0,187]
def Tq:=cl "VaultError" [.type "ValueError"] [.ref 38,.type "ValueError", .type "Exception", .type "BaseException", .type "object"] 37 [.ref 65,.ref 91,.ref 117,.ref 136,.ref 155] [some (.ref 22),none,some (st "VaultError" 196),some (st "VaultError" 204),some (.builtin "ValueError.__new__"),some (.bool true)]
def Mv P:=di 5 [en P "__module__" 347 (st "dialvault.errors" 194),en P "__qualname__" 349 (st "TooMany" 348),en P "__firstlineno__" 351 (.int 34 350),en P "word" 358 (.ref 152),en P "__static_attributes__" 359 (.ref 153)]
def Kv:=fi [36,4,151]
def Nu:=cc "TooMany" 342 34 142 143 345
def PU:=fr 144 141 "dialvault.errors" 194
def QZ:=tu [st "self" 355]
def O0:=ft "word" "TooMany.word" (mp 7 0)
def Nk:=co "word" "TooMany.word" 352 36 1 146 147 148 149 150 356
def Ph:=fo "word" "TooMany.word" (mp 7 0) .none (st "dialvault.errors" 194) 151
def Nz P:=di 2 [en P "__module__" 347 (st "dialvault.errors" 194),en P "__firstlineno__" 351 (.int 34 350),en P "word" 358 (.ref 152),en P "__static_attributes__" 359 (.ref 153),en P "__doc__" 360 .none]
def Kz:=cl "TooMany" [.ref 38] [.ref 155,.ref 38,.type "ValueError", .type "Exception", .type "BaseException", .type "object"] 154 [] [some (.ref 139),none,some (st "TooMany" 340),some (st "TooMany" 348),some (.builtin "ValueError.__new__"),some (.bool true)]
def PF:=su 155
def Mu:=ii 155
def RJ:=tu [st "thing" 368]
def Rh:=ft "is_whole" "is_whole" (tp 9)
def R4:=co "is_whole" "is_whole" 365 39 1 158 159 160 161 162 369
def S1:=fo "is_whole" "is_whole" (tp 9) .none (st "dialvault.wholes" 363) 163
def QX:=ft "is_row" "is_row" (tp 10)
def Rk:Obj:=⟨.type "code", none,(.fields ⟨[st "is_row" 372,st "is_row" 373,st "/claim/cut.py" 374,.int 41 0,.int 2 0,.int 0 0,.int 0 0,.int 3 0,.ref 165,.bool true,.int 181 0,.ref 166,.none,.none,.none,.ref 167,.int 375 0,.int 41 0,st "/claim/cut.py" 376]⟩),⟨[]⟩⟩
def KW:=fo "is_row" "is_row" (tp 10) .none (st "dialvault.wholes" 363) 168
def TZ:=tu [st "one" 381,st "other" 382,st "row" 383,st "behind" 384,st "times" 385,st "rest" 386]
def Qo:=ft "common" "common" (tp 11)
def Qr:=co "common" "common" 378 45 2 170 171 172 173 174 387
def Oy:=fo "common" "common" (tp 11) .none (st "dialvault.wholes" 363) 175
def Lf:=tu [st "numbers" 393,st "multiple" 394,st "number" 395]
def Lb:=ft "multiple_of" "multiple_of" (tp 12)
def K8:=co "multiple_of" "multiple_of" 390 56 1 177 178 179 180 181 396
def Tr:=fo "multiple_of" "multiple_of" (tp 12) .none (st "dialvault.wholes" 363) 182
def S_:=ft "unit_row" "unit_row" (tp 13)
def QU:Obj:=⟨.type "code", none,(.fields ⟨[st "unit_row" 399,st "unit_row" 400,st "/claim/cut.py" 401,.int 61 0,.int 2 0,.int 0 0,.int 0 0,.int 3 0,.ref 184,.bool true,.int 181 0,.ref 185,.none,.none,.none,.ref 186,.int 402 0,.int 61 0,st "/claim/cut.py" 403]⟩),⟨[]⟩⟩
def Si:=fo "unit_row" "unit_row" (tp 13) .none (st "dialvault.wholes" 363) 187
def L5 P:=pt (L4 P) [(3,VI P),(12,Le),(38,Tq)] [ID,o9,Mv P,b7 P,Kv,Nu,PU,b7 P,b8 P,QZ,b7 P,O0,Nk,Ph,b7 P,Nz P,Kz,PF,Mu,b7 P,b8 P,RJ,b7 P,Rh,R4,S1,b7 P,b8 P,QX,Rk,KW,b7 P,b8 P,TZ,b7 P,Qo,Qr,Oy,b7 P,b8 P,Lf,b7 P,Lb,K8,Tr,b7 P,b8 P,S_,QU,Si]
def NM P:=di 27 (en P "__name__" 165 (st "dialvault.vault" 405)::(gl P).take 26)
def L6 P:=pt (L5 P) [(3,NM P)] []
def RY P:=di 29 (en P "__name__" 165 (st "dialvault.vault" 405)::(gl P).take 28)
def NZ:=fi [1,0,20,5,0,27,9,0,47,16,0,73,23,0,99,30,0,125,34,0,144,39,0,163,41,0,168,45,0,175,56,0,182,61,0,187,70,0,194,91,0,242]
def PX P:=di 9 [en P "__module__" 426 (st "dialvault.vault" 405),en P "__qualname__" 428 (st "Vault" 427),en P "__firstlineno__" 430 (.int 70 429),en P "__init__" 436 (.ref 201),en P "sizes" 443 (.ref 208),en P "levers" 450 (.ref 215),en P "prices" 457 (.ref 222),en P "around" 464 (.ref 229),en P "__static_attributes__" 469 (.ref 230)]
def K5:=fi [72,4,200,80,4,207,83,4,214,86,4,221,89,4,228]
def O4:=cc "Vault" 421 70 192 193 424
def RX:=fr 194 191 "dialvault.vault" 405
def Mn:=tu [.none]
def P5:=ft "__init__" "Vault.__init__" (mp 21 0)
def Pz:Obj:=⟨.type "code", none,(.fields ⟨[st "__init__" 431,st "Vault.__init__" 432,st "/claim/cut.py" 433,.int 72 0,.int 4 0,.int 0 0,.int 0 0,.int 3 0,.ref 197,.bool true,.int 181 0,.ref 198,.none,.none,.none,.ref 199,.int 434 0,.int 72 0,st "/claim/cut.py" 435]⟩),⟨[]⟩⟩
def N7:=fo "__init__" "Vault.__init__" (mp 21 0) (.ref 196) (st "dialvault.vault" 405) 200
def K7:=tu [st "self" 440]
def LW:=ft "sizes" "Vault.sizes" (mp 21 1)
def Mr:=co "sizes" "Vault.sizes" 437 80 1 202 203 204 205 206 441
def NF:=fo "sizes" "Vault.sizes" (mp 21 1) .none (st "dialvault.vault" 405) 207
def Mh:=tu [st "self" 447]
def Qh:=ft "levers" "Vault.levers" (mp 21 2)
def MA:=co "levers" "Vault.levers" 444 83 1 209 210 211 212 213 448
def N8:=fo "levers" "Vault.levers" (mp 21 2) .none (st "dialvault.vault" 405) 214
def RI:=tu [st "self" 454]
def RB:=ft "prices" "Vault.prices" (mp 21 3)
def MK:=co "prices" "Vault.prices" 451 86 1 216 217 218 219 220 455
def LU:=fo "prices" "Vault.prices" (mp 21 3) .none (st "dialvault.vault" 405) 221
def KN:=tu [st "self" 461]
def P2:=ft "around" "Vault.around" (mp 21 4)
def Oz:=co "around" "Vault.around" 458 89 1 223 224 225 226 227 462
def LZ:=fo "around" "Vault.around" (mp 21 4) .none (st "dialvault.vault" 405) 228
def NO:=tu [st "dial_sizes" 465,st "least_round" 466,st "lever_prices" 467,st "lever_settings" 468]
def S4 P:=di 4 [en P "__module__" 426 (st "dialvault.vault" 405),en P "__firstlineno__" 430 (.int 70 429),en P "__init__" 436 (.ref 201),en P "sizes" 443 (.ref 208),en P "levers" 450 (.ref 215),en P "prices" 457 (.ref 222),en P "around" 464 (.ref 229),en P "__static_attributes__" 469 (.ref 230),en P "__dict__" 471 (.ref 233),en P "__weakref__" 473 (.ref 234),en P "__doc__" 474 .none]
def SW:=cl "Vault" [.type "object"] [.ref 232,.type "object"] 231 [] [none,none,some (st "Vault" 419),some (st "Vault" 427),some (.builtin "object.__new__"),some (.bool true)]
def TH:Obj:=⟨.type "getset_descriptor", none,(.fields ⟨[st "__dict__" 470,.ref 232,.builtin "function.__dict__", .builtin "function.__dict__#set"]⟩),⟨[]⟩⟩
def OD:Obj:=⟨.type "getset_descriptor", none,(.fields ⟨[st "__weakref__" 472,.ref 232,.builtin "ExceptionGroup.__weakref__", .none]⟩),⟨[]⟩⟩
def Ly:=su 232
def LK:=ii 232
def LN:=tu [st "thing" 480,st "least" 481,st "most" 482]
def MF:=ft "is_within" "is_within" (tp 22)
def Sa:=co "is_within" "is_within" 477 91 3 237 238 239 240 241 483
def PR:=fo "is_within" "is_within" (tp 22) .none (st "dialvault.vault" 405) 242
def L7 P:=pt (L6 P) [(3,RY P),(12,NZ)] [b7 P,o9,PX P,b7 P,K5,O4,RX,Mn,b7 P,b8 P,P5,Pz,N7,b7 P,b8 P,K7,b7 P,LW,Mr,NF,b7 P,b8 P,Mh,b7 P,Qh,MA,N8,b7 P,b8 P,RI,b7 P,RB,MK,LU,b7 P,b8 P,KN,b7 P,P2,Oz,LZ,NO,S4 P,SW,TH,OD,Ly,LK,b7 P,b8 P,LN,b7 P,MF,Sa,PR]
def Ql P:=di 41 (en P "__name__" 165 (st "dialvault.rungs" 541)::(gl P).take 40)
def Ms:=fi [1,0,20,5,0,27,9,0,47,16,0,73,23,0,99,30,0,125,34,0,144,39,0,163,41,0,168,45,0,175,56,0,182,61,0,187,70,0,194,91,0,242,93,0,249,101,0,256,107,0,263,116,0,268,118,0,275,120,0,280,125,0,287,129,0,292,131,0,299,134,0,306,136,0,313,139,0,320]
def Np:=tu [st "sizes" 489,st "dial" 490,st "size" 491]
def TC:=ft "need_sizes" "need_sizes" (tp 23)
def O1:=co "need_sizes" "need_sizes" 486 93 1 244 245 246 247 248 492
def Pn:=fo "need_sizes" "need_sizes" (tp 23) .none (st "dialvault.vault" 405) 249
def Po:=tu [st "levers" 498,st "dials" 499,st "place" 500,st "lever" 501]
def M3:=ft "need_levers" "need_levers" (tp 24)
def LX:=co "need_levers" "need_levers" 495 101 2 251 252 253 254 255 502
def PD:=fo "need_levers" "need_levers" (tp 24) .none (st "dialvault.vault" 405) 256
def QS:=tu [st "levers" 508,st "prices" 509,st "place" 510]
def KQ:=ft "prices_for" "prices_for" (tp 25)
def QM:=co "prices_for" "prices_for" 505 107 2 258 259 260 261 262 511
def Om:=fo "prices_for" "prices_for" (tp 25) .none (st "dialvault.vault" 405) 263
def LS:=ft "rests" "rests" (tp 26)
def PJ:Obj:=⟨.type "code", none,(.fields ⟨[st "rests" 514,st "rests" 515,st "/claim/cut.py" 516,.int 116 0,.int 2 0,.int 0 0,.int 0 0,.int 3 0,.ref 265,.bool true,.int 181 0,.ref 266,.none,.none,.none,.ref 267,.int 517 0,.int 116 0,st "/claim/cut.py" 518]⟩),⟨[]⟩⟩
def Th:=fo "rests" "rests" (tp 26) .none (st "dialvault.vault" 405) 268
def O2:=tu [st "vault" 523]
def Tu:=ft "nought" "nought" (tp 27)
def Pr:=co "nought" "nought" 520 118 1 270 271 272 273 274 524
def Rl:=fo "nought" "nought" (tp 27) .none (st "dialvault.vault" 405) 275
def QA:=ft "is_setting" "is_setting" (tp 28)
def Oe:Obj:=⟨.type "code", none,(.fields ⟨[st "is_setting" 527,st "is_setting" 528,st "/claim/cut.py" 529,.int 120 0,.int 2 0,.int 0 0,.int 0 0,.int 3 0,.ref 277,.bool true,.int 181 0,.ref 278,.none,.none,.none,.ref 279,.int 530 0,.int 120 0,st "/claim/cut.py" 531]⟩),⟨[]⟩⟩
def Lr:=fo "is_setting" "is_setting" (tp 28) .none (st "dialvault.vault" 405) 280
def Oh:=tu [st "vault" 536,st "thing" 537]
def Sx:=ft "need_setting" "need_setting" (tp 29)
def Nt:=co "need_setting" "need_setting" 533 125 2 282 283 284 285 286 538
def Pp:=fo "need_setting" "need_setting" (tp 29) .none (st "dialvault.vault" 405) 287
def MR:=ft "mixed" "mixed" (tp 31)
def Rc:Obj:=⟨.type "code", none,(.fields ⟨[st "mixed" 543,st "mixed" 544,st "/claim/cut.py" 545,.int 129 0,.int 4 0,.int 0 0,.int 0 0,.int 3 0,.ref 289,.bool true,.int 181 0,.ref 290,.none,.none,.none,.ref 291,.int 546 0,.int 129 0,st "/claim/cut.py" 547]⟩),⟨[]⟩⟩
def Ry:=fo "mixed" "mixed" (tp 31) .none (st "dialvault.rungs" 541) 292
def KZ:=tu [st "sizes" 552,st "made" 553,st "times" 554,st "other" 555,st "others" 556,st "doing" 557]
def RW:=ft "mixed_made" "mixed_made" (tp 32)
def LR:=co "mixed_made" "mixed_made" 549 131 5 294 295 296 297 298 558
def Qd:=fo "mixed_made" "mixed_made" (tp 32) .none (st "dialvault.rungs" 541) 299
def P_:=tu [st "vault" 564,st "setting" 565]
def TJ:=ft "unpulled" "unpulled" (tp 33)
def LB:=co "unpulled" "unpulled" 561 134 2 301 302 303 304 305 566
def RA:=fo "unpulled" "unpulled" (tp 33) .none (st "dialvault.rungs" 541) 306
def M8:=tu [st "vault" 572,st "lever" 573,st "levers" 574]
def Tx:=ft "pulled_once" "pulled_once" (tp 34)
def Q9:=co "pulled_once" "pulled_once" 569 136 2 308 309 310 311 312 575
def RZ:=fo "pulled_once" "pulled_once" (tp 34) .none (st "dialvault.rungs" 541) 313
def LV:=tu [st "sizes" 581,st "made_rows" 582,st "dial" 583,st "notch" 584]
def RP:=ft "step_size" "step_size" (tp 35)
def Mg:=co "step_size" "step_size" 578 139 3 315 316 317 318 319 585
def Sv:=fo "step_size" "step_size" (tp 35) .none (st "dialvault.rungs" 541) 320
def L8 P:=pt (L7 P) [(3,Ql P),(12,Ms)] [b7 P,b8 P,Np,b7 P,TC,O1,Pn,b7 P,b8 P,Po,b7 P,M3,LX,PD,b7 P,b8 P,QS,b7 P,KQ,QM,Om,b7 P,b8 P,LS,PJ,Th,b7 P,b8 P,O2,b7 P,Tu,Pr,Rl,b7 P,b8 P,QA,Oe,Lr,b7 P,b8 P,Oh,b7 P,Sx,Nt,Pp,b7 P,b8 P,MR,Rc,Ry,b7 P,b8 P,KZ,b7 P,RW,LR,Qd,b7 P,b8 P,P_,b7 P,TJ,LB,RA,b7 P,b8 P,M8,b7 P,Tx,Q9,RZ,b7 P,b8 P,LV,b7 P,RP,Mg,Sv]
def Pu P:=di 44 (en P "__name__" 165 (st "dialvault.rungs" 541)::(gl P).take 43)
def RN:=fi [1,0,20,5,0,27,9,0,47,16,0,73,23,0,99,30,0,125,34,0,144,39,0,163,41,0,168,45,0,175,56,0,182,61,0,187,70,0,194,91,0,242,93,0,249,101,0,256,107,0,263,116,0,268,118,0,275,120,0,280,125,0,287,129,0,292,131,0,299,134,0,306,136,0,313,139,0,320,142,0,327,151,0,334,156,0,341]
def Ku:=tu [st "sizes" 591,st "made_rows" 592,st "left" 593,st "wider" 594,st "dial" 595,st "made" 596,st "step" 597,st "notch" 598,st "found" 599]
def Qe:=ft "taken_in" "taken_in" (tp 36)
def MJ:=co "taken_in" "taken_in" 588 142 3 322 323 324 325 326 600
def NK:=fo "taken_in" "taken_in" (tp 36) .none (st "dialvault.rungs" 541) 327
def QB:=tu [st "sizes" 606,st "made_rows" 607,st "made" 608,st "first" 609,st "dial" 610,st "times" 611]
def M_:=ft "lowered" "lowered" (tp 37)
def NN:=co "lowered" "lowered" 603 151 4 329 330 331 332 333 612
def Sy:=fo "lowered" "lowered" (tp 37) .none (st "dialvault.rungs" 541) 334
def OO:=tu [st "pulls" 618,st "idle_rows" 619,st "lever" 620,st "row" 621]
def OP:=ft "in_spans" "in_spans" (tp 38)
def Nd:=co "in_spans" "in_spans" 615 156 2 336 337 338 339 340 622
def P4:=fo "in_spans" "in_spans" (tp 38) .none (st "dialvault.rungs" 541) 341
def L9 P:=pt (L8 P) [(3,Pu P),(12,RN)] [b7 P,b8 P,Ku,b7 P,Qe,MJ,NK,b7 P,b8 P,QB,b7 P,M_,NN,Sy,b7 P,b8 P,OO,b7 P,OP,Nd,P4]
def LP P:=di 45 (en P "__name__" 165 (st "dialvault.rungs" 541)::(gl P).take 44)
def OT:=fi [1,0,20,5,0,27,9,0,47,16,0,73,23,0,99,30,0,125,34,0,144,39,0,163,41,0,168,45,0,175,56,0,182,61,0,187,70,0,194,91,0,242,93,0,249,101,0,256,107,0,263,116,0,268,118,0,275,120,0,280,125,0,287,129,0,292,131,0,299,134,0,306,136,0,313,139,0,320,142,0,327,151,0,334,156,0,341,161,0,348]
def ND P:=di 13 [en P "__module__" 632 (st "dialvault.rungs" 541),en P "__qualname__" 634 (st "Rungs" 633),en P "__firstlineno__" 636 (.int 161 635),en P "__init__" 642 (.ref 354),en P "steps" 648 (.ref 359),en P "rows" 654 (.ref 364),en P "spans" 660 (.ref 369),en P "idle" 667 (.ref 376),en P "brought_down" 675 (.ref 383),en P "least" 683 (.ref 390),en P "pulls_to" 689 (.ref 395),en P "weights_at" 697 (.ref 402),en P "__static_attributes__" 701 (.ref 403)]
def Mf:=fi [163,4,353,175,4,358,179,4,363,182,4,368,185,4,375,188,4,382,192,4,389,195,4,394,201,4,401]
def S9:=cc "Rungs" 627 161 346 347 630
def K3:=fr 348 345 "dialvault.rungs" 541
def Lj:=ft "__init__" "Rungs.__init__" (mp 39 0)
def Pb:Obj:=⟨.type "code", none,(.fields ⟨[st "__init__" 637,st "Rungs.__init__" 638,st "/claim/cut.py" 639,.int 163 0,.int 2 0,.int 0 0,.int 0 0,.int 3 0,.ref 350,.bool true,.int 181 0,.ref 351,.none,.none,.none,.ref 352,.int 640 0,.int 163 0,st "/claim/cut.py" 641]⟩),⟨[]⟩⟩
def NH:=fo "__init__" "Rungs.__init__" (mp 39 0) .none (st "dialvault.rungs" 541) 353
def Rq:=ft "steps" "Rungs.steps" (mp 39 1)
def MO:Obj:=⟨.type "code", none,(.fields ⟨[st "steps" 643,st "Rungs.steps" 644,st "/claim/cut.py" 645,.int 175 0,.int 1 0,.int 0 0,.int 0 0,.int 3 0,.ref 355,.bool true,.int 181 0,.ref 356,.none,.none,.none,.ref 357,.int 646 0,.int 175 0,st "/claim/cut.py" 647]⟩),⟨[]⟩⟩
def QJ:=fo "steps" "Rungs.steps" (mp 39 1) .none (st "dialvault.rungs" 541) 358
def Qx:=ft "rows" "Rungs.rows" (mp 39 2)
def Lm:Obj:=⟨.type "code", none,(.fields ⟨[st "rows" 649,st "Rungs.rows" 650,st "/claim/cut.py" 651,.int 179 0,.int 1 0,.int 0 0,.int 0 0,.int 3 0,.ref 360,.bool true,.int 181 0,.ref 361,.none,.none,.none,.ref 362,.int 652 0,.int 179 0,st "/claim/cut.py" 653]⟩),⟨[]⟩⟩
def QD:=fo "rows" "Rungs.rows" (mp 39 2) .none (st "dialvault.rungs" 541) 363
def Nb:=ft "spans" "Rungs.spans" (mp 39 3)
def QH:Obj:=⟨.type "code", none,(.fields ⟨[st "spans" 655,st "Rungs.spans" 656,st "/claim/cut.py" 657,.int 182 0,.int 1 0,.int 0 0,.int 0 0,.int 3 0,.ref 365,.bool true,.int 181 0,.ref 366,.none,.none,.none,.ref 367,.int 658 0,.int 182 0,st "/claim/cut.py" 659]⟩),⟨[]⟩⟩
def MI:=fo "spans" "Rungs.spans" (mp 39 3) .none (st "dialvault.rungs" 541) 368
def So:=tu [st "self" 664]
def LJ:=ft "idle" "Rungs.idle" (mp 39 4)
def Sm:=co "idle" "Rungs.idle" 661 185 1 370 371 372 373 374 665
def SG:=fo "idle" "Rungs.idle" (mp 39 4) .none (st "dialvault.rungs" 541) 375
def SJ:=tu [st "self" 671,st "setting" 672]
def N9:=ft "brought_down" "Rungs.brought_down" (mp 39 5)
def KP:=co "brought_down" "Rungs.brought_down" 668 188 2 377 378 379 380 381 673
def Q5:=fo "brought_down" "Rungs.brought_down" (mp 39 5) .none (st "dialvault.rungs" 541) 382
def Pa:=tu [st "self" 679,st "setting" 680]
def N0:=ft "least" "Rungs.least" (mp 39 6)
def PK:=co "least" "Rungs.least" 676 192 2 384 385 386 387 388 681
def La:=fo "least" "Rungs.least" (mp 39 6) .none (st "dialvault.rungs" 541) 389
def Ot:=ft "pulls_to" "Rungs.pulls_to" (mp 39 7)
def Mb:Obj:=⟨.type "code", none,(.fields ⟨[st "pulls_to" 684,st "Rungs.pulls_to" 685,st "/claim/cut.py" 686,.int 195 0,.int 2 0,.int 0 0,.int 0 0,.int 3 0,.ref 391,.bool true,.int 181 0,.ref 392,.none,.none,.none,.ref 393,.int 687 0,.int 195 0,st "/claim/cut.py" 688]⟩),⟨[]⟩⟩
def QV:=fo "pulls_to" "Rungs.pulls_to" (mp 39 7) .none (st "dialvault.rungs" 541) 394
def M6:=tu [st "self" 693,st "dial" 694]
def Od:=ft "weights_at" "Rungs.weights_at" (mp 39 8)
def Lp:=co "weights_at" "Rungs.weights_at" 690 201 2 396 397 398 399 400 695
def Qt:=fo "weights_at" "Rungs.weights_at" (mp 39 8) .none (st "dialvault.rungs" 541) 401
def Oo:=tu [st "idle_rows" 698,st "made_rows" 699,st "vault" 700]
def P6 P:=di 4 [en P "__module__" 632 (st "dialvault.rungs" 541),en P "__firstlineno__" 636 (.int 161 635),en P "__init__" 642 (.ref 354),en P "steps" 648 (.ref 359),en P "rows" 654 (.ref 364),en P "spans" 660 (.ref 369),en P "idle" 667 (.ref 376),en P "brought_down" 675 (.ref 383),en P "least" 683 (.ref 390),en P "pulls_to" 689 (.ref 395),en P "weights_at" 697 (.ref 402),en P "__static_attributes__" 701 (.ref 403),en P "__dict__" 703 (.ref 406),en P "__weakref__" 705 (.ref 407),en P "__doc__" 706 .none]
def Rb:=cl "Rungs" [.type "object"] [.ref 405,.type "object"] 404 [] [none,none,some (st "Rungs" 625),some (st "Rungs" 633),some (.builtin "object.__new__"),some (.bool true)]
def O5:Obj:=⟨.type "getset_descriptor", none,(.fields ⟨[st "__dict__" 702,.ref 405,.builtin "function.__dict__", .builtin "function.__dict__#set"]⟩),⟨[]⟩⟩
def O_:Obj:=⟨.type "getset_descriptor", none,(.fields ⟨[st "__weakref__" 704,.ref 405,.builtin "ExceptionGroup.__weakref__", .none]⟩),⟨[]⟩⟩
def KJ:=su 405
def Q6:=ii 405
def Nl P:=pt (L9 P) [(3,LP P),(12,OT)] [b7 P,o9,ND P,b7 P,Mf,S9,K3,b7 P,b8 P,Lj,Pb,NH,b7 P,b8 P,Rq,MO,QJ,b7 P,b8 P,Qx,Lm,QD,b7 P,b8 P,Nb,QH,MI,b7 P,b8 P,So,b7 P,LJ,Sm,SG,b7 P,b8 P,SJ,b7 P,N9,KP,Q5,b7 P,b8 P,Pa,b7 P,N0,PK,La,b7 P,b8 P,Ot,Mb,QV,b7 P,b8 P,M6,b7 P,Od,Lp,Qt,Oo,P6 P,Rb,O5,O_,KJ,Q6]
def OR P:=di 57 (en P "__name__" 165 (st "law_dialvault_k23_steps_walked" 709)::(gl P).take 56)
def SO:=fi [1,0,20,5,0,27,9,0,47,16,0,73,23,0,99,30,0,125,34,0,144,39,0,163,41,0,168,45,0,175,56,0,182,61,0,187,70,0,194,91,0,242,93,0,249,101,0,256,107,0,263,116,0,268,118,0,275,120,0,280,125,0,287,129,0,292,131,0,299,134,0,306,136,0,313,139,0,320,142,0,327,151,0,334,156,0,341,161,0,348,204,0,415,208,0,422,215,0,429,222,0,434,233,0,441,235,0,448,246,0,455,255,0,460,257,0,467,262,0,474,268,0,481,270,0,488]
def Ta:=tu [st "_law_script" 714,st "_law_k" 715]
def PQ:=ft "_law_cell" "_law_cell" (tp 41)
def PL:=co "_law_cell" "_law_cell" 711 204 2 410 411 412 413 414 716
def Oq:=fo "_law_cell" "_law_cell" (tp 41) .none (st "law_dialvault_k23_steps_walked" 709) 415
def Rt:=tu [st "_law_cell_here" 722,st "_law_many" 723,st "_law_found" 724,st "_law_number" 725,st "_law_k" 726]
def P7:=ft "_law_stream" "_law_stream" (tp 42)
def Qz:=co "_law_stream" "_law_stream" 719 208 2 417 418 419 420 421 727
def N4:=fo "_law_stream" "_law_stream" (tp 42) .none (st "law_dialvault_k23_steps_walked" 709) 422
def SN:=tu [st "_law_cell_here" 733,st "_law_bases" 734,st "_law_found" 735,st "_law_left" 736,st "_law_base" 737]
def LC:=ft "_law_digits" "_law_digits" (tp 43)
def N_:=co "_law_digits" "_law_digits" 730 215 2 424 425 426 427 428 738
def Mo:=fo "_law_digits" "_law_digits" (tp 43) .none (st "law_dialvault_k23_steps_walked" 709) 429
def Tc:=ft "_law_sizes" "_law_sizes" (tp 44)
def Na:Obj:=⟨.type "code", none,(.fields ⟨[st "_law_sizes" 741,st "_law_sizes" 742,st "/claim/cut.py" 743,.int 222 0,.int 1 0,.int 0 0,.int 0 0,.int 3 0,.ref 431,.bool true,.int 181 0,.ref 432,.none,.none,.none,.ref 433,.int 744 0,.int 222 0,st "/claim/cut.py" 745]⟩),⟨[]⟩⟩
def Me:=fo "_law_sizes" "_law_sizes" (tp 44) .none (st "law_dialvault_k23_steps_walked" 709) 434
def TR:=tu [st "_law_number" 750]
def NC:=ft "_law_great" "_law_great" (tp 45)
def OY:=co "_law_great" "_law_great" 747 233 1 436 437 438 439 440 751
def N5:=fo "_law_great" "_law_great" (tp 45) .none (st "law_dialvault_k23_steps_walked" 709) 441
def S6:=tu [st "_law_cell_here" 757,st "_law_sizes_here" 758,st "_law_row" 759,st "_law_number" 760,st "_law_size" 761,st "_law_share" 762]
def Px:=ft "_law_lever" "_law_lever" (tp 46)
def Mt:=co "_law_lever" "_law_lever" 754 235 2 443 444 445 446 447 763
def LD:=fo "_law_lever" "_law_lever" (tp 46) .none (st "law_dialvault_k23_steps_walked" 709) 448
def Pf:=tu [st "_law_script" 769,st "_law_sizes_here" 770,st "_law_levers_here" 771,st "_law_k" 772,st "_law_cell_here" 773]
def PB:=ft "_law_levers" "_law_levers" (tp 47)
def Mm:=co "_law_levers" "_law_levers" 766 246 2 450 451 452 453 454 774
def QF:=fo "_law_levers" "_law_levers" (tp 47) .none (st "law_dialvault_k23_steps_walked" 709) 455
def Oi:=ft "_law_added" "_law_added" (tp 48)
def Qn:Obj:=⟨.type "code", none,(.fields ⟨[st "_law_added" 777,st "_law_added" 778,st "/claim/cut.py" 779,.int 255 0,.int 4 0,.int 0 0,.int 0 0,.int 3 0,.ref 457,.bool true,.int 181 0,.ref 458,.none,.none,.none,.ref 459,.int 780 0,.int 255 0,st "/claim/cut.py" 781]⟩),⟨[]⟩⟩
def OI:=fo "_law_added" "_law_added" (tp 48) .none (st "law_dialvault_k23_steps_walked" 709) 460
def Sd:=tu [st "_law_sizes_here" 786,st "_law_levers_here" 787,st "_law_setting" 788,st "_law_pulls" 789,st "_law_found" 790,st "_law_row" 791,st "_law_times" 792]
def Pt:=ft "_law_turned" "_law_turned" (tp 49)
def MC:=co "_law_turned" "_law_turned" 783 257 4 462 463 464 465 466 793
def Tz:=fo "_law_turned" "_law_turned" (tp 49) .none (st "law_dialvault_k23_steps_walked" 709) 467
def Md:=tu [st "_law_sizes_here" 799,st "_law_steps" 800,st "_law_rows" 801,st "_law_setting" 802,st "_law_left" 803,st "_law_dial" 804,st "_law_step" 805]
def NR:=ft "_law_brought_down" "_law_brought_down" (tp 50)
def Ll:=co "_law_brought_down" "_law_brought_down" 796 262 4 469 470 471 472 473 806
def Pl:=fo "_law_brought_down" "_law_brought_down" (tp 50) .none (st "law_dialvault_k23_steps_walked" 709) 474
def KA:=tu [st "_law_row" 812]
def Tf:=ft "_law_is_nought" "_law_is_nought" (tp 51)
def NI:=co "_law_is_nought" "_law_is_nought" 809 268 1 476 477 478 479 480 813
def Mx:=fo "_law_is_nought" "_law_is_nought" (tp 51) .none (st "law_dialvault_k23_steps_walked" 709) 481
def TL:=tu [st "_law_sizes_here" 819,st "_law_steps" 820,st "_law_rows" 821,st "_law_dial" 822,st "_law_step" 823,st "_law_row" 824,st "_law_number" 825,st "_law_other" 826,st "_law_round_about" 827]
def QO:=ft "_law_step_good" "_law_step_good" (tp 52)
def RC:=co "_law_step_good" "_law_step_good" 816 270 4 483 484 485 486 487 828
def To:=fo "_law_step_good" "_law_step_good" (tp 52) .none (st "law_dialvault_k23_steps_walked" 709) 488
def Pd P:=pt (Nl P) [(3,OR P),(12,SO)] [b7 P,b8 P,Ta,b7 P,PQ,PL,Oq,b7 P,b8 P,Rt,b7 P,P7,Qz,N4,b7 P,b8 P,SN,b7 P,LC,N_,Mo,b7 P,b8 P,Tc,Na,Me,b7 P,b8 P,TR,b7 P,NC,OY,N5,b7 P,b8 P,S6,b7 P,Px,Mt,LD,b7 P,b8 P,Pf,b7 P,PB,Mm,QF,b7 P,b8 P,Oi,Qn,OI,b7 P,b8 P,Sd,b7 P,Pt,MC,Tz,b7 P,b8 P,Md,b7 P,NR,Ll,Pl,b7 P,b8 P,KA,b7 P,Tf,NI,Mx,b7 P,b8 P,TL,b7 P,QO,RC,To]
def P9 P:=di 61 (en P "__name__" 165 (st "law_dialvault_k23_steps_walked" 709)::gl P)
def Td:=fi [1,0,20,5,0,27,9,0,47,16,0,73,23,0,99,30,0,125,34,0,144,39,0,163,41,0,168,45,0,175,56,0,182,61,0,187,70,0,194,91,0,242,93,0,249,101,0,256,107,0,263,116,0,268,118,0,275,120,0,280,125,0,287,129,0,292,131,0,299,134,0,306,136,0,313,139,0,320,142,0,327,151,0,334,156,0,341,161,0,348,204,0,415,208,0,422,215,0,429,222,0,434,233,0,441,235,0,448,246,0,455,255,0,460,257,0,467,262,0,474,268,0,481,270,0,488,285,0,495,290,0,500,297,0,507,311,0,514]
def Nx:=tu [st "_law_numbers" 834,st "_law_found" 835,st "_law_number" 836]
def RM:=ft "_law_product" "_law_product" (tp 53)
def MY:=co "_law_product" "_law_product" 831 285 1 490 491 492 493 494 837
def NW:=fo "_law_product" "_law_product" (tp 53) .none (st "law_dialvault_k23_steps_walked" 709) 495
def Te:=ft "_law_idle_good" "_law_idle_good" (tp 54)
def Lo:Obj:=⟨.type "code", none,(.fields ⟨[st "_law_idle_good" 840,st "_law_idle_good" 841,st "/claim/cut.py" 842,.int 290 0,.int 5 0,.int 0 0,.int 0 0,.int 3 0,.ref 497,.bool true,.int 181 0,.ref 498,.none,.none,.none,.ref 499,.int 843 0,.int 290 0,st "/claim/cut.py" 844]⟩),⟨[]⟩⟩
def Tv:=fo "_law_idle_good" "_law_idle_good" (tp 54) .none (st "law_dialvault_k23_steps_walked" 709) 500
def QT:=tu [st "_law_rungs" 849,st "_law_sizes_here" 850,st "_law_levers_here" 851,st "_law_steps" 852,st "_law_spans" 853,st "_law_idle" 854,st "_law_span" 855,st "_law_lever_here" 856,st "_law_row" 857]
def Ml:=ft "_law_spans_good" "_law_spans_good" (tp 55)
def Sf:=co "_law_spans_good" "_law_spans_good" 846 297 4 502 503 504 505 506 858
def MH:=fo "_law_spans_good" "_law_spans_good" (tp 55) .none (st "law_dialvault_k23_steps_walked" 709) 507
def SH:=tu [st "_law_script" 864,st "_law_sizes_here" 865,st "_law_levers_here" 866,st "_law_rungs" 867,st "_law_steps" 868,st "_law_rows" 869,st "_law_dial" 870,st "_law_pulls" 871,st "_law_row" 872,st "_law_lever_here" 873,st "_law_once" 874]
def OZ:=ft "law" "law" (tp 56)
def Sn:=co "law" "law" 861 311 1 509 510 511 512 513 875
def SQ:=fo "law" "law" (tp 56) .none (st "law_dialvault_k23_steps_walked" 709) 514
def Q4 P:=pt (Pd P) [(3,P9 P),(12,Td)] [b7 P,b8 P,Nx,b7 P,RM,MY,NW,b7 P,b8 P,Te,Lo,Tv,b7 P,b8 P,QT,b7 P,Ml,Sf,MH,b7 P,b8 P,SH,b7 P,OZ,Sn,SQ]
def LF (P:Params):=Q4 P
def bE:List Stmt:=behindTheImports pw
def env:Env:={ scope:=pw.main.scope,locals:=mainNs,globals:=mainNs,cells:=[],code:=.ref 13,frame:=some 14 }
def cE:Code:=.body bE env
abbrev B:List Frame:=[topFrame ⟨0,0,0,0⟩]
abbrev ann:Option Value:=(some (.ref 6))
def E9:List Stmt:=(bE.drop 0).take 3
def Hg:List Stmt:=(bE.drop 3).take 1
def GW:List Stmt:=(bE.drop 4).take 1
def Gu:List Stmt:=(bE.drop 5).take 1
def FZ:List Stmt:=(bE.drop 6).take 1
def GX:List Stmt:=(bE.drop 7).take 7
def F8:List Stmt:=(bE.drop 14).take 7
def Hj:List Stmt:=(bE.drop 21).take 2
def GG:List Stmt:=(bE.drop 23).take 13
def Fh:List Stmt:=(bE.drop 36).take 3
def Cw:List Stmt:=(bE.drop 39).take 1
def A9:List Stmt:=(bE.drop 40).take 13
def BA:List Stmt:=(bE.drop 53).take 4
end
theorem yy:∀ w:World,(fun os=>topGo treeTable pw w 11 ann 12 ⟨boot_heap w.params,⟨[]⟩,boot_drawn,boot_toks,os⟩ (topStub pw))=fun os=>some (F LA 187 w os,⟨denote treeTable cE,cE,⟨0,0,0,0⟩,B⟩):=fun w=>by
 rw [PySem.W.Fast.te15667345088766844465,PySem.W.Fast.te14364793385576792824,PySem.W.Fast.te11892475500146522536]
 kernel_rfl
theorem Rx:∀ w:World,(fun os=>segRun treeTable pw w 11 ann 1 1 (F LA 187 w os) (blockOf bE env cE ⟨0,0,0,0⟩ B))=fun os=>some (Flow.next,(S LA 15 187 w os).abs,cE,⟨0,0,0,0⟩):=fun w=>by
 rw [PySem.W.Fast.te14374325043358763698,PySem.W.Fast.te14364793385576792824]
 kernel_rfl
theorem WD:∀ w:World,(fun os=>segRunT treeTable pw w 11 ann 1 255 (S LA 15 187 w os) (piecesOf E9 env cE ⟨0,0,0,0⟩ B))=fun os=>some (Flow.next,S L0 42 221 w os,cE,⟨5,0,8,16⟩):=fun w=>by
 rw [PySem.W.Fast.te10110043849684766642,PySem.W.Fast.te14364793385576792824]
 kernel_rfl
theorem V1:∀ w:World,(fun os=>segRunT treeTable pw w 11 ann 1 277 (S L0 42 221 w os) (piecesOf Hg env cE ⟨5,0,8,16⟩ B))=fun os=>some (Flow.next,S L1 68 253 w os,cE,⟨9,0,15,16⟩):=fun w=>by
 rw [PySem.W.Fast.te10110043849684766642,PySem.W.Fast.te14364793385576792824]
 kernel_rfl
theorem CF:∀ w:World,(fun os=>segRunT treeTable pw w 11 ann 1 277 (S L1 68 253 w os) (piecesOf GW env cE ⟨9,0,15,16⟩ B))=fun os=>some (Flow.next,S L2 94 285 w os,cE,⟨16,0,22,16⟩):=fun w=>by
 rw [PySem.W.Fast.te10110043849684766642,PySem.W.Fast.te14364793385576792824]
 kernel_rfl
theorem W2:∀ w:World,(fun os=>segRunT treeTable pw w 11 ann 1 277 (S L2 94 285 w os) (piecesOf Gu env cE ⟨16,0,22,16⟩ B))=fun os=>some (Flow.next,S L3 120 317 w os,cE,⟨23,0,29,16⟩):=fun w=>by
 rw [PySem.W.Fast.te10110043849684766642,PySem.W.Fast.te14364793385576792824]
 kernel_rfl
theorem VH:∀ w:World,(fun os=>segRunT treeTable pw w 11 ann 1 244 (S L3 120 317 w os) (piecesOf FZ env cE ⟨23,0,29,16⟩ B))=fun os=>some (Flow.next,S L4 139 340 w os,cE,⟨30,0,33,16⟩):=fun w=>by
 rw [PySem.W.Fast.te10110043849684766642,PySem.W.Fast.te14364793385576792824]
 kernel_rfl
theorem VX:∀ w:World,(fun os=>segRunT treeTable pw w 11 ann 1 399 (S L4 139 340 w os) (piecesOf GX env cE ⟨30,0,33,16⟩ B))=fun os=>some (Flow.next,S L5 189 405 w os,cE,⟨61,0,62,73⟩):=fun w=>by
 rw [PySem.W.Fast.te10110043849684766642,PySem.W.Fast.te14364793385576792824]
 kernel_rfl
theorem V_:∀ w:World,(fun os=>segRunT treeTable pw w 11 ann 1 64 (S L5 189 405 w os) (piecesOf F8 env cE ⟨61,0,62,73⟩ B))=fun os=>some (Flow.next,S L6 189 419 w os,cE,⟨69,0,69,10⟩):=fun w=>by
 rw [PySem.W.Fast.te10110043849684766642,PySem.W.Fast.te14364793385576792824]
 kernel_rfl
theorem V2:∀ w:World,(fun os=>segRunT treeTable pw w 11 ann 1 378 (S L6 189 419 w os) (piecesOf Hj env cE ⟨69,0,69,10⟩ B))=fun os=>some (Flow.next,S L7 244 486 w os,cE,⟨91,0,92,53⟩):=fun w=>by
 rw [PySem.W.Fast.te10110043849684766642,PySem.W.Fast.te14364793385576792824]
 kernel_rfl
theorem Wl:∀ w:World,(fun os=>segRunT treeTable pw w 11 ann 1 368 (S L7 244 486 w os) (piecesOf GG env cE ⟨91,0,92,53⟩ B))=fun os=>some (Flow.next,S L8 322 588 w os,cE,⟨139,0,141,47⟩):=fun w=>by
 rw [PySem.W.Fast.te10110043849684766642,PySem.W.Fast.te14364793385576792824]
 kernel_rfl
theorem Xw:∀ w:World,(fun os=>segRunT treeTable pw w 11 ann 1 104 (S L8 322 588 w os) (piecesOf Fh env cE ⟨139,0,141,47⟩ B))=fun os=>some (Flow.next,S L9 343 625 w os,cE,⟨156,0,160,16⟩):=fun w=>by
 rw [PySem.W.Fast.te10110043849684766642,PySem.W.Fast.te14364793385576792824]
 kernel_rfl
theorem RS:∀ w:World,(fun os=>segRunT treeTable pw w 11 ann 1 460 (S L9 343 625 w os) (piecesOf Cw env cE ⟨156,0,160,16⟩ B))=fun os=>some (Flow.next,S Nl 410 709 w os,cE,⟨161,0,202,16⟩):=fun w=>by
 rw [PySem.W.Fast.te10110043849684766642,PySem.W.Fast.te14364793385576792824]
 kernel_rfl
theorem NB:∀ w:World,(fun os=>segRunT treeTable pw w 11 ann 1 390 (S Nl 410 709 w os) (piecesOf A9 env cE ⟨161,0,202,16⟩ B))=fun os=>some (Flow.next,S Pd 490 831 w os,cE,⟨270,0,284,102⟩):=fun w=>by
 rw [PySem.W.Fast.te10110043849684766642,PySem.W.Fast.te14364793385576792824]
 kernel_rfl
theorem Mw:∀ w:World,(fun os=>segRunT treeTable pw w 11 ann 1 134 (S Pd 490 831 w os) (piecesOf BA env cE ⟨270,0,284,102⟩ B))=fun os=>some (Flow.next,S Q4 516 878 w os,cE,⟨311,0,337,41⟩):=fun w=>by
 rw [PySem.W.Fast.te10110043849684766642,PySem.W.Fast.te14364793385576792824]
 kernel_rfl
theorem K_:∀ w:World,(fun os=>topRun treeTable pw w 11 ann 2 (S Q4 516 878 w os).abs ⟨doneF .next,cE,⟨311,0,337,41⟩,B⟩)=fun os=>some (F LF 878 w os):=fun w=>by
 rw [PySem.W.Fast.te14082659384304107361,PySem.W.Fast.te14364793385576792824]
 kernel_rfl
theorem U9:bE=(E9++(Hg++(GW++(Gu++(FZ++(GX++(F8++(Hj++(GG++(Fh++(Cw++(A9++(BA++[]))))))))))))):=by kernel_rfl
theorem B5 (w:World) (os:OsState):topRun treeTable pw w 11 ann (255+(277+(277+(277+(244+(399+(64+(378+(368+(104+(460+(390+(134+2))))))))))))) (S LA 15 187 w os).abs (restOf bE env cE ⟨0,0,0,0⟩ B)=some (F LF 878 w os):=by
 rw [show restOf bE env cE ⟨0,0,0,0⟩ B=restOf (E9++(Hg++(GW++(Gu++(FZ++(GX++(F8++(Hj++(GG++(Fh++(Cw++(A9++(BA++[]))))))))))))) env cE ⟨0,0,0,0⟩ B from congrArg (fun b=>restOf b env cE ⟨0,0,0,0⟩ B) U9]
 exact piece_app (segRun_of (congrFun (WD w) os)) (piece_app (segRun_of (congrFun (V1 w) os)) (piece_app (segRun_of (congrFun (CF w) os)) (piece_app (segRun_of (congrFun (W2 w) os)) (piece_app (segRun_of (congrFun (VH w) os)) (piece_app (segRun_of (congrFun (VX w) os)) (piece_app (segRun_of (congrFun (V_ w) os)) (piece_app (segRun_of (congrFun (V2 w) os)) (piece_app (segRun_of (congrFun (Wl w) os)) (piece_app (segRun_of (congrFun (Xw w) os)) (piece_app (segRun_of (congrFun (RS w) os)) (piece_app (segRun_of (congrFun (NB w) os)) (piece_app (segRun_of (congrFun (Mw w) os)) (piece_nil (congrFun (K_ w) os))))))))))))))
theorem LI (w:World) (os:OsState):topRun treeTable pw w 11 ann (12+(1+(255+(277+(277+(277+(244+(399+(64+(378+(368+(104+(460+(390+(134+2))))))))))))))) ⟨boot_heap w.params,⟨[]⟩,boot_drawn,boot_toks,os⟩ (topStub pw)=some (F LF 878 w os) :=
 go_top (congrFun (yy w) os) (piece_block (congrFun (Rx w) os) (B5 w os))
end HD
namespace HD
open PySem PySem.W L2
noncomputable section
def vw:Program:=PySem.W.view pw [0,2,3,4,5,6,7,9,10,11,12,13,15,16,17,18,19,20,21,22,23,24,25,26,27,28,29,31,32,33,34,35,36,37,38,39,41,42,43,44,45,46,47,48,49,50,51,52,53,54,55,56]
def loose:List Str:=[]
def as:List Addr:=[2,3,15,17,18,20,21,22,29,31,32,34,35,36,37,38,39,42,49,51,52,54,55,56,58,59,61,62,63,64,65,68,75,77,78,80,81,82,84,85,87,88,89,90,91,94,101,103,104,106,107,108,110,111,113,114,115,116,117,120,127,129,130,132,133,134,135,136,139,146,148,149,151,152,153,154,155,158,160,161,163,164,165,168,169,170,172,173,175,176,177,179,180,182,183,184,187,188,196,197,200,201,202,204,205,207,208,209,211,212,214,215,216,218,219,221,222,223,225,226,228,229,230,231,232,233,234,237,239,240,242,243,244,246,247,249,250,251,253,254,256,257,258,260,261,263,264,265,268,269,270,272,273,275,276,277,280,281,282,284,285,287,288,289,292,293,294,296,297,299,300,301,303,304,306,307,308,310,311,313,314,315,317,318,320,321,322,324,325,327,328,329,331,332,334,335,336,338,339,341,342,350,353,354,355,358,359,360,363,364,365,368,369,370,372,373,375,376,377,379,380,382,383,384,386,387,389,390,391,394,395,396,398,399,401,402,403,404,405,406,407,410,412,413,415,416,417,419,420,422,423,424,426,427,429,430,431,434,435,436,438,439,441,442,443,445,446,448,449,450,452,453,455,456,457,460,461,462,464,465,467,468,469,471,472,474,475,476,478,479,481,482,483,485,486,488,489,490,492,493,495,496,497,500,501,502,504,505,507,508,509,511,512,514,515]
def K (P:Params):Frag:=as.map fun a=>(a,(LF P).getD a o0)
def hook:Hook:=kHook K as (fun _=>by kernel_rfl)
abbrev rr:RowW:=(PySem.Challenge.rw_dialvault_k23_steps_walked.row).toRowW
def Xt:Shared->Bool:=fun s=>xlAt vw [] s&&recOk (RowW.records rr) s
def H1 (P:Params):Heap:=⟨⟨LF P⟩,{}⟩
end
theorem Jf:∀ w:World,((boot_heap w.params).isNs mainGlobals&&(Array.mk []:Array GenState).size==0,(boot_heap w.params).objs.size,(boot_heap w.params).nsMap mainGlobals "__annotations__")=(true,11,ann):=fun w=>by
 rw [PySem.W.Fast.te8920871248978507458]
 kernel_rfl
theorem Fn:∀ w:World,(fun os=>((staticsOk (importedModules pw.main.body) (boot_heap w.params) (H1 w.params)&&namesBound pw (H1 w.params)&&gensDone ⟨H1 w.params,⟨[]⟩,⟨0,0,0,0⟩,878,os⟩&&laidKept (boot_heap w.params) (H1 w.params)),
  openSeen vw loose (importedModules pw.main.body) Xt true ⟨H1 w.params,⟨[]⟩,⟨0,0,0,0⟩,878,os⟩,Hook.obs hook ⟨H1 w.params,⟨[]⟩,⟨0,0,0,0⟩,878,os⟩))=fun _=>(true,openGood vw loose,Hook.val hook w):=fun w=>by
 rw [PySem.W.Fast.te4187177175401517315,PySem.W.Fast.te5923862056798008813]
 kernel_rfl
theorem Ja:LeftO pw vw loose Xt (Hook.obs hook) (Hook.val hook) 7354 :=
 LeftO.of_pieces (H₀:=boot_heap) (H₁:=H1) (gs₀:=⟨[]⟩) (gs₁:=⟨[]⟩) (d₀:=boot_drawn) (d₁:=⟨0,0,0,0⟩) (k₀:=boot_toks) (k₁:=878) (m₀:=11) (ann:=ann) (M:=(12+(1+(255+(277+(277+(277+(244+(399+(64+(378+(368+(104+(460+(390+(134+2))))))))))))))))
  (boot_open (by kernel_rfl) (by kernel_rfl) (fun s=>by kernel_rfl)) Jf LI (by kernel_rfl) Fn
end HD
open PySem PySem.W
theorem HD.said:PySem.Challenge.rw_dialvault_k23_steps_walked.wellSaid=true:=by
 decide +kernel
namespace wz
open PySem L2 PyProof.Rows
def jc:Addr:=65
def i9:Addr:=91
def gX:Addr:=117
def dm:Addr:=136
def av:Addr:=405
def kH:Addr:=155
def aE:Addr:=232
noncomputable def ic:af->M Out :=
 (ao (retS (BN (uU (fun a=>ja a "int") kc kc (aa 0)) (Ga (uU (fun a=>ja a "bool") kc kc (aa 0)))))
 ak)
noncomputable def dq:List PV->M PV:=bb 1 (aw 1 ic)
noncomputable def iW:af->M Out :=
 (ao (i6 (uK (gN (cL (uU (fun a=>["list", "tuple"].any fun t=>ja a t) kc kc (aa 0)))) (cL (aj mQ (ai cX (ae (aa 0) aq)) (aa 1)))) (ao (retS (fun _=>M.ok (.bl false)))
 ak) ak)
 (ao (retS (ai wc (ae (gu (fy (itemsOf (aa 0)) (cn 0) none (ai dq (ae (aa 0) aq)) 1 [])) aq)))
 ak))
noncomputable def iv:List PV->M PV:=bb 2 (aw 2 iW)
noncomputable def jf:af->M Out :=
 (ao (bg 2 (jK (ae (aa 0) (ae (fun _=>M.ok (.int 1)) (ae (fun _=>M.ok (.int 0)) aq)))))
 (ao (bg 3 (jK (ae (aa 1) (ae (fun _=>M.ok (.int 0)) (ae (fun _=>M.ok (.int 1)) aq)))))
 (ao (mK (cL (aj mQ (aj aG (aa 3) (fun _=>M.ok (.int 0))) (fun _=>M.ok (.int 0)))) (ao (bg 4 (aj cQ (aj aG (aa 2) (fun _=>M.ok (.int 0))) (aj aG (aa 3) (fun _=>M.ok (.int 0)))))
 (ao (bg 5 (jK (ae (aj k4 (aj aG (aa 2) (fun _=>M.ok (.int 0))) (aj cW (aa 4) (aj aG (aa 3) (fun _=>M.ok (.int 0))))) (ae (aj k4 (aj aG (aa 2) (fun _=>M.ok (.int 1))) (aj cW (aa 4) (aj aG (aa 3) (fun _=>M.ok (.int 1))))) (ae (aj k4 (aj aG (aa 2) (fun _=>M.ok (.int 2))) (aj cW (aa 4) (aj aG (aa 3) (fun _=>M.ok (.int 2))))) aq)))))
 (ao (bg 2 (aa 3))
 (ao (bg 3 (aa 5))
 ak)))))
 (ao (i6 (cL (aj wu (aj aG (aa 2) (fun _=>M.ok (.int 0))) (fun _=>M.ok (.int 0)))) (ao (retS (jK (ae (mU (aj aG (aa 2) (fun _=>M.ok (.int 0)))) (ae (mU (aj aG (aa 2) (fun _=>M.ok (.int 1)))) (ae (mU (aj aG (aa 2) (fun _=>M.ok (.int 2)))) aq)))))
 ak) ak)
 (ao (retS (aa 2))
 ak)))))
noncomputable def gv:List PV->M PV:=bb 2 (aw 6 jf)
noncomputable def cU:af->M Out :=
 (ao (bg 1 (fun _=>M.ok (.int 1)))
 (ao (gK (itemsOf (aa 0)) (cn 2) (ao (bg 1 (aj cW (aj cQ (aa 1) (aj aG (ai gv (ae (aa 1) (ae (aa 2) aq))) (fun _=>M.ok (.int 0)))) (aa 2)))
 ak))
 (ao (retS (aa 1))
 ak)))
noncomputable def cS:List PV->M PV:=bb 1 (aw 3 cU)
noncomputable def g8:af->M Out :=
 (ao (retS (ai dN (ae (gu (fy (k9 qo (ae (aa 0) aq)) (cn 0) none (zD (cL (aj lJ (aa 0) (aa 1))) (fun _=>M.ok (.int 1)) (fun _=>M.ok (.int 0))) 1 [1])) aq)))
 ak)
noncomputable def jD:List PV->M PV:=bb 2 (aw 2 g8)
noncomputable def eI:af->M Out :=
 (ao (retS (BN (ai dq (ae (aa 0) aq)) (hZ zS zS (aa 1) (aa 0) (aa 2))))
 ak)
noncomputable def gq:List PV->M PV:=bb 3 (aw 3 eI)
noncomputable def dF:af->M Out :=
 (ao (i6 (cL (aj Fi (ai cX (ae (aa 0) aq)) (fun _=>M.ok (.int 6)))) (ao (kZ kH (ae (fun _=>M.ok (.str "a vault has at most six dials")) aq))
 ak) ak)
 (ao (i6 (cL (aj lJ (ai cX (ae (aa 0) aq)) (fun _=>M.ok (.int 0)))) (ao (j8 jc "dial" (ae (fun _=>M.ok (.int 0)) aq))
 ak) ak)
 (ao (gK (k9 y0 (ae (aa 0) aq)) (bY 1 2) (ao (i6 (gN (cL (ai gq (ae (aa 2) (ae (fun _=>M.ok (.int 2)) (ae (fun _=>M.ok (.int 360)) aq)))))) (ao (j8 jc "dial" (ae (aa 1) aq))
 ak) ak)
 ak))
 ak)))
noncomputable def dB:List PV->M PV:=bb 1 (aw 3 dF)
noncomputable def dZ:af->M Out :=
 (ao (i6 (cL (aj Fi (ai cX (ae (aa 0) aq)) (fun _=>M.ok (.int 8)))) (ao (kZ kH (ae (fun _=>M.ok (.str "a vault has at most eight levers")) aq))
 ak) ak)
 (ao (gK (k9 y0 (ae (aa 0) aq)) (bY 2 3) (ao (i6 (gN (cL (ai iv (ae (aa 3) (ae (aa 1) aq))))) (ao (j8 i9 "lever" (ae (aa 2) aq))
 ak) ak)
 ak))
 ak))
noncomputable def fP:List PV->M PV:=bb 2 (aw 4 dZ)
noncomputable def e7:af->M Out :=
 (ao (i6 (cL (aj xC (aa 1) (fun _=>M.ok .cI))) (ao (retS (aj cW (jK (ae (fun _=>M.ok (.int 1)) aq)) (ai cX (ae (aa 0) aq))))
 ak) ak)
 (ao (gK (k9 qo (ae (ai (E7 fun i j=>if j>i then j else i) (ae (ai cX (ae (aa 0) aq)) (ae (ai cX (ae (aa 1) aq)) aq))) aq)) (cn 2) (ao (i6 (uK (cL (aj HP (aa 2) (ai cX (ae (aa 0) aq)))) (cL (aj HP (aa 2) (ai cX (ae (aa 1) aq))))) (ao (j8 gX "lever" (ae (aa 2) aq))
 ak) ak)
 (ao (i6 (gN (cL (ai gq (ae (aj aG (aa 1) (aa 2)) (ae (fun _=>M.ok (.int 1)) (ae (fun _=>M.ok (.int 1000)) aq)))))) (ao (j8 gX "lever" (ae (aa 2) aq))
 ak) ak)
 ak)))
 (ao (retS (ai dN (ae (aa 1) aq)))
 ak)))
noncomputable def gJ:List PV->M PV:=bb 2 (aw 3 e7)
noncomputable def kj:af->M Out :=
 (ao (retS (ai dN (ae (gu (fy (k9 zip2 (ae (aa 0) (ae (aa 1) aq))) (bY 0 1) none (aj fG (aa 0) (aa 1)) 2 [])) aq)))
 ak)
noncomputable def jy:List PV->M PV:=bb 2 (aw 2 kj)
noncomputable def kG:af->M Out :=
 (ao (retS (ai dN (ae (gu (fy (k9 zip2 (ae (aa 0) (ae (aa 2) aq))) (bY 0 1) none (aj fN (aj cW (aa 2) (aa 0)) (aj cW (aa 3) (aa 1))) 2 [1,3])) aq)))
 ak)
noncomputable def ky:List PV->M PV:=bb 4 (aw 4 kG)
noncomputable def dE:af->M Out :=
 (ao (bg 5 (ai ky (ae (aj aG (aa 1) (fun _=>M.ok (.int 0))) (ae (aa 2) (ae (aj aG (aa 3) (fun _=>M.ok (.int 0))) (ae (aa 4) aq))))))
 (ao (retS (jK (ae (ai jy (ae (aa 5) (ae (aa 0) aq))) (ae (ai ky (ae (aj aG (aa 1) (fun _=>M.ok (.int 1))) (ae (aa 2) (ae (aj aG (aa 3) (fun _=>M.ok (.int 1))) (ae (aa 4) aq))))) aq))))
 ak))
noncomputable def dG:List PV->M PV:=bb 5 (aw 6 dE)
noncomputable def de:af->M Out :=
 (ao (bg 3 (aj aG (aj aG (aj aG (aa 1) (aa 2)) (fun _=>M.ok (.int 0))) (aa 2)))
 (ao (retS (zD (cL (aj lJ (aa 3) (fun _=>M.ok (.int 0)))) (aj aG (aa 0) (aa 2)) (aa 3)))
 ak))
noncomputable def du:List PV->M PV:=bb 3 (aw 4 de)
noncomputable def ig:af->M Out :=
 (ao (qQ 3 (kf aq))
 (ao (gK (k9 y0 (ae (aa 1) aq)) (bY 4 5) (ao (bg 6 (ai du (ae (aa 0) (ae (aa 1) (ae (aa 4) aq)))))
 (ao (bg 7 (aj aG (aj aG (aa 2) (fun _=>M.ok (.int 0))) (aa 4)))
 (ao (bg 8 (ai gv (ae (aa 6) (ae (aa 7) aq))))
 (ao (jq 3 (ai dG (ae (aa 0) (ae (aa 5) (ae (aj aG (aa 8) (fun _=>M.ok (.int 1))) (ae (aa 2) (ae (aj aG (aa 8) (fun _=>M.ok (.int 2))) aq)))))))
 (ao (bg 2 (ai dG (ae (aa 0) (ae (aa 2) (ae (aj cQ (aa 6) (aj aG (aa 8) (fun _=>M.ok (.int 0)))) (ae (aa 5) (ae (mU (aj cQ (aa 7) (aj aG (aa 8) (fun _=>M.ok (.int 0))))) aq)))))))
 ak))))))
 (ao (rK [3] (retS (jK (ae (aa 3) (ae (aj aG (aa 2) (fun _=>M.ok (.int 1))) aq)))))
 ak)))
noncomputable def jA:List PV->M PV:=bb 3 (aw 9 ig)
noncomputable def gY:af->M Out :=
 (ao (gK (k9 yR (ae (aa 3) (ae (ai cX (ae (aa 0) aq)) aq))) (cn 4) (ao (bg 5 (aj cQ (aj aG (aj aG (aa 2) (fun _=>M.ok (.int 0))) (aa 4)) (ai du (ae (aa 0) (ae (aa 1) (ae (aa 4) aq))))))
 (ao (bg 2 (ai dG (ae (aa 0) (ae (aa 2) (ae (fun _=>M.ok (.int 1)) (ae (aj aG (aa 1) (aa 4)) (ae (mU (aa 5)) aq)))))))
 ak)))
 (ao (retS (aa 2))
 ak))
noncomputable def fL:List PV->M PV:=bb 4 (aw 6 gY)
noncomputable def fF:af->M Out :=
 (ao (gK (k9 BC (ae (aj k4 (ai cX (ae (aa 1) aq)) (fun _=>M.ok (.int 1))) (ae (mU (fun _=>M.ok (.int 1))) (ae (mU (fun _=>M.ok (.int 1))) aq)))) (cn 2) (ao (bg 3 (aj aG (aa 1) (aa 2)))
 (ao (bg 0 (ai ky (ae (aa 0) (ae (fun _=>M.ok (.int 1)) (ae (aa 3) (ae (mU (aj cQ (aj aG (aa 0) (aa 2)) (aj aG (aa 3) (aa 2)))) aq))))))
 ak)))
 (ao (retS (aa 0))
 ak))
noncomputable def ia:List PV->M PV:=bb 2 (aw 4 fF)
noncomputable def eH:af->M Out :=
 (ao (i6 (cL (aj wu (aa 1) (ai cX (ae (aa 0) aq)))) (ao (retS (aj aG (aa 0) (aa 1)))
 ak) ak)
 (ao (retS (fun _=>M.ok (.int 0)))
 ak))
noncomputable def dr:List PV->M PV:=bb 2 (aw 2 eH)
noncomputable def cT:af->M Out :=
 (ao (qQ 2 (kf aq))
 (ao (bg 3 (aj fN (aj fG (aa 0) (fun _=>M.ok (.int 2147483629))) (fun _=>M.ok (.int 17))))
 (ao (gK (k9 qo (ae (aa 1) aq)) (cn 4) (ao (bg 3 (aj fG (aj fN (aj fN (aj cW (aa 3) (fun _=>M.ok (.int 48271))) (aj cW (fun _=>M.ok (.int 7919)) (aa 4))) (fun _=>M.ok (.int 1))) (fun _=>M.ok (.int 2147483647))))
 (ao (jq 2 (aj cQ (aa 3) (fun _=>M.ok (.int 5))))
 ak)))
 (ao (rK [2] (retS (aa 2)))
 ak))))
noncomputable def d_:List PV->M PV:=bb 2 (aw 5 cT)
noncomputable def cV:af->M Out :=
 (ao (qQ 2 (kf aq))
 (ao (bg 3 (aa 0))
 (ao (gK (itemsOf (aa 1)) (cn 4) (ao (jq 2 (aj fG (aa 3) (aa 4)))
 (ao (bg 3 (aj cQ (aa 3) (aa 4)))
 ak)))
 (ao (rK [2] (retS (aa 2)))
 ak))))
noncomputable def dR:List PV->M PV:=bb 2 (aw 5 cV)
noncomputable def eP:af->M Out :=
 (ao (bg 1 (aj fN (fun _=>M.ok (.int 1)) (aj fG (aj cQ (aa 0) (fun _=>M.ok (.int 2))) (fun _=>M.ok (.int 6)))))
 (ao (i6 (cL (aj lJ (aj fG (aa 0) (fun _=>M.ok (.int 2))) (fun _=>M.ok (.int 1)))) (ao (retS (gu (fy (itemsOf (ai dR (ae (aj cQ (aa 0) (fun _=>M.ok (.int 12))) (ae (aj cW (AB (ae (fun _=>M.ok (.int 359)) aq)) (aa 1)) aq)))) (cn 0) none (aj fN (fun _=>M.ok (.int 2)) (aa 0)) 1 [])))
 ak) ak)
 (ao (qQ 2 (kf aq))
 (ao (gK (itemsOf (ai d_ (ae (aj cQ (aa 0) (fun _=>M.ok (.int 12))) (ae (aa 1) aq)))) (cn 3) (ao (i6 (cL (aj lJ (aj fG (aj cQ (aa 0) (fun _=>M.ok (.int 12))) (fun _=>M.ok (.int 2))) (fun _=>M.ok (.int 0)))) (ao (jq 2 (aj aG (fun _=>M.ok (.lst (([2,3,4,6,8,9,12,16,24,27,32,36,64,72,81,128,243,256,360]:List Int).map PV.int))) (aj fG (aa 3) (fun _=>M.ok (.int 19)))))
 ak) (ao (jq 2 (aj cW (fun _=>M.ok (.int 12)) (aj fN (fun _=>M.ok (.int 1)) (aj fG (aa 3) (fun _=>M.ok (.int 30))))))
 ak))
 ak))
 (ao (rK [2] (retS (aa 2)))
 ak)))))
noncomputable def gP:List PV->M PV:=bb 1 (aw 4 eP)
noncomputable def eR:af->M Out :=
 (ao (retS (aj k4 (aj fG (aj cW (aa 0) (fun _=>M.ok (.int 618033988749894848204586834365))) (aj k4 (aj cW (fun _=>M.ok (.int 2)) (aj Cr (fun _=>M.ok (.int 10)) (fun _=>M.ok (.int 30)))) (fun _=>M.ok (.int 1)))) (aj k4 (aj Cr (fun _=>M.ok (.int 10)) (fun _=>M.ok (.int 30))) (fun _=>M.ok (.int 1)))))
 ak)
noncomputable def gU:List PV->M PV:=bb 1 (aw 1 eR)
noncomputable def ff:af->M Out :=
 (ao (qQ 2 (kf aq))
 (ao (gK (k9 zip2 (ae (ai d_ (ae (aa 0) (ae (ai cX (ae (aa 1) aq)) aq))) (ae (aa 1) aq))) (bY 3 4) (ao (i6 (cL (aj lJ (aj fG (aa 3) (fun _=>M.ok (.int 4))) (fun _=>M.ok (.int 0)))) (ao (jq 2 (ai gU (ae (aj cQ (aa 3) (fun _=>M.ok (.int 4))) aq)))
 ak) (ao (i6 (cL (aj lJ (aj fG (aa 3) (fun _=>M.ok (.int 4))) (fun _=>M.ok (.int 1)))) (ao (jq 2 (fun _=>M.ok (.int 0)))
 ak) (ao (bg 5 (aj aG (fun _=>M.ok (.lst (([1,1,2,3,4,6,12]:List Int).map PV.int))) (aj fG (aj cQ (aa 3) (fun _=>M.ok (.int 4))) (fun _=>M.ok (.int 7)))))
 (ao (jq 2 (aj fG (aj cW (aj fG (aj cQ (aa 3) (fun _=>M.ok (.int 28))) (aa 4)) (aa 5)) (aa 4)))
 ak)))
 ak))
 ak))
 (ao (rK [2] (retS (aa 2)))
 ak)))
noncomputable def gR:List PV->M PV:=bb 2 (aw 6 ff)
noncomputable def dO:af->M Out :=
 (ao (qQ 2 (kf aq))
 (ao (gK (k9 qo (ae (aj fG (ai dr (ae (aa 0) (ae (fun _=>M.ok (.int 1)) aq))) (fun _=>M.ok (.int 9))) aq)) (cn 3) (ao (bg 4 (ai dr (ae (aa 0) (ae (aj fN (fun _=>M.ok (.int 2)) (aa 3)) aq))))
 (ao (i6 (cL (aj lJ (aj fG (aj cQ (ai dr (ae (aa 0) (ae (fun _=>M.ok (.int 1)) aq))) (fun _=>M.ok (.int 9))) (fun _=>M.ok (.int 2))) (fun _=>M.ok (.int 1)))) (ao (jq 2 (ai dR (ae (aa 4) (ae (aa 1) aq))))
 ak) (ao (jq 2 (ai gR (ae (aj fN (aa 4) (aj cW (fun _=>M.ok (.int 7919)) (aa 3))) (ae (aa 1) aq))))
 ak))
 ak)))
 (ao (rK [2] (retS (aa 2)))
 ak)))
noncomputable def gf:List PV->M PV:=bb 2 (aw 5 dO)
noncomputable def bJ:af->M Out :=
 (ao (retS (ai dN (ae (gu (fy (k9 zd (ae (aa 1) (ae (aa 2) (ae (aa 0) aq)))) (qj 0 1 2) none (aj fG (aj fN (aa 0) (aj cW (aa 3) (aa 1))) (aa 2)) 3 [3])) aq)))
 ak)
noncomputable def bf:List PV->M PV:=bb 4 (aw 4 bJ)
noncomputable def cR:af->M Out :=
 (ao (bg 4 (ai dN (ae (aa 2) aq)))
 (ao (gK (k9 zip2 (ae (aa 1) (ae (aa 3) aq))) (bY 5 6) (ao (bg 4 (ai bf (ae (aa 0) (ae (aa 4) (ae (aa 5) (ae (aa 6) aq))))))
 ak))
 (ao (retS (aa 4))
 ak)))
noncomputable def cu:List PV->M PV:=bb 4 (aw 7 cR)
noncomputable def bh:af->M Out :=
 (ao (bg 4 (ai dN (ae (aa 3) aq)))
 (ao (gK (k9 y0 (ae (aa 1) aq)) (bY 5 6) (ao (i6 (cL (aj wu (aa 6) (aj aG (aa 0) (aa 5)))) (ao (bg 4 (ai bf (ae (aa 0) (ae (aa 4) (ae (aj aG (aa 2) (aa 5)) (ae (aj k4 (fun _=>M.ok (.int 0)) (aj cQ (aj aG (aa 4) (aa 5)) (aa 6))) aq))))))
 ak) ak)
 ak))
 (ao (retS (aa 4))
 ak)))
noncomputable def bG:List PV->M PV:=bb 4 (aw 7 bh)
noncomputable def bq:af->M Out :=
 (ao (retS (BN (aj lJ (ai (yb fun i j=>decide (i>j)) (ae (aa 0) aq)) (fun _=>M.ok (.int 0))) (aj lJ (ai (yb fun i j=>decide (i<j)) (ae (aa 0) aq)) (fun _=>M.ok (.int 0)))))
 ak)
noncomputable def bu:List PV->M PV:=bb 1 (aw 1 bq)
noncomputable def cD:af->M Out :=
 (ao (GK 4 5 (ae (aj aG (aa 1) (aa 3)) (ae (aj aG (aa 2) (aa 3)) aq)))
 (ao (i6 (uK (gN (cL (uU (fun a=>ja a "int") kc kc (aa 4)))) (uK (cL (uU (fun a=>ja a "bool") kc kc (aa 4))) (uK (cL (aj wu (aa 4) (fun _=>M.ok (.int 1)))) (cL (aj mQ (aj fG (aj aG (aa 0) (aa 3)) (aa 4)) (fun _=>M.ok (.int 0))))))) (ao (retS (fun _=>M.ok (.bl false)))
 ak) ak)
 (ao (i6 (uK (gN (cL (uU (fun a=>ja a "tuple") kc kc (aa 5)))) (cL (aj mQ (ai cX (ae (aa 5) aq)) (ai cX (ae (aa 0) aq))))) (ao (retS (fun _=>M.ok (.bl false)))
 ak) ak)
 (ao (i6 (cL (aj lJ (aa 4) (aj aG (aa 0) (aa 3)))) (ao (retS (ai bu (ae (aa 5) aq)))
 ak) ak)
 (ao (i6 (cL (aj mQ (pf (aa 5) AF (qd (aj fN (aa 3) (fun _=>M.ok (.int 1))))) (aj fN (aj cW (jK (ae (fun _=>M.ok (.int 0)) aq)) (aa 3)) (jK (ae (aa 4) aq))))) (ao (retS (fun _=>M.ok (.bl false)))
 ak) ak)
 (ao (gK (k9 zip2 (ae (pf (aa 5) (qd (aj fN (aa 3) (fun _=>M.ok (.int 1)))) AF) (ae (pf (aa 1) (qd (aj fN (aa 3) (fun _=>M.ok (.int 1)))) AF) aq))) (bY 6 7) (ao (i6 (gN (cL (hZ zS wu (fun _=>M.ok (.int 0)) (aa 6) (aa 7)))) (ao (retS (fun _=>M.ok (.bl false)))
 ak) ak)
 ak))
 (ao (bg 8 (ai bf (ae (aa 0) (ae (aa 5) (ae (aa 5) (ae (aj k4 (aj cQ (aj aG (aa 0) (aa 3)) (aa 4)) (fun _=>M.ok (.int 1))) aq))))))
 (ao (retS (ai bu (ae (ai bG (ae (aa 0) (ae (aa 1) (ae (aa 2) (ae (aa 8) aq))))) aq)))
 ak))))))))
noncomputable def dD:List PV->M PV:=bb 4 (aw 9 cD)
noncomputable def dw:af->M Out :=
 (ao (bg 1 (fun _=>M.ok (.int 1)))
 (ao (gK (itemsOf (aa 0)) (cn 2) (ao (bg 1 (aj cW (aa 1) (aa 2)))
 ak))
 (ao (retS (aa 1))
 ak)))
noncomputable def cC:List PV->M PV:=bb 1 (aw 3 dw)
noncomputable def cF:af->M Out :=
 (ao (i6 (uK (gN (cL (uU (fun a=>ja a "tuple") kc kc (aa 3)))) (uK (cL (aj mQ (ai cX (ae (aa 3) aq)) (ai cX (ae (aa 1) aq)))) (cL (aj mQ (aj aG (aa 3) (aa 4)) (aj aG (aa 2) (aa 4)))))) (ao (retS (fun _=>M.ok (.bl false)))
 ak) ak)
 (ao (gK (k9 y0 (ae (aa 3) aq)) (bY 5 6) (ao (i6 (uK (Ey (cL (aj Fi (aa 5) (aa 4))) (cL (aj mQ (aa 6) (fun _=>M.ok (.int 0))))) (Ey (cL (aj wu (aa 5) (aa 4))) (gN (cL (hZ zS wu (fun _=>M.ok (.int 0)) (aa 6) (aj aG (aa 2) (aa 5))))))) (ao (retS (fun _=>M.ok (.bl false)))
 ak) ak)
 ak))
 (ao (retS (ai bu (ae (ai cu (ae (aa 0) (ae (aa 1) (ae (gu (fy (itemsOf (aa 0)) (cn 0) none (fun _=>M.ok (.int 0)) 1 [])) (ae (aa 3) aq))))) aq)))
 ak)))
noncomputable def dA:List PV->M PV:=bb 5 (aw 7 cF)
noncomputable def gQ:af->M Out :=
 (ao (pV (ai dB (ae (aa 1) aq)))
 (ao (pV (ai fP (ae (aa 2) (ae (ai cX (ae (aa 1) aq)) aq))))
 (ao (jC 0 aE "dial_sizes" (ai dN (ae (aa 1) aq)))
 (ao (jC 0 aE "lever_settings" (ai dN (ae (gu (fy (itemsOf (aa 2)) (cn 0) none (ai jy (ae (aa 0) (ae (aa 1) aq))) 1 [1])) aq)))
 (ao (jC 0 aE "lever_prices" (ai gJ (ae (aa 2) (ae (aa 3) aq))))
 (ao (jC 0 aE "least_round" (ai cS (ae (aa 1) aq)))
 ak))))))
noncomputable def eX:Addr->List PV->M (List (Str×PV)):=rE 4 (wQ 4 gQ aE)
noncomputable def bA:af->M Out :=
 (ao (retS (fv (fun c=>c==aE) "dial_sizes" (aa 0)))
 ak)
noncomputable def a_:List PV->M PV:=bb 1 (aw 1 bA)
noncomputable def bQ:af->M Out :=
 (ao (retS (fv (fun c=>c==aE) "lever_settings" (aa 0)))
 ak)
noncomputable def bO:List PV->M PV:=bb 1 (aw 1 bQ)
noncomputable def h9:af->M Out :=
 (ao (retS (fv (fun c=>c==aE) "lever_prices" (aa 0)))
 ak)
noncomputable def pN:List PV->M PV:=bb 1 (aw 1 h9)
noncomputable def dY:af->M Out :=
 (ao (bg 1 (b_ aE "sizes" a_ (fv (fun c=>c==av) "vault" (aa 0)) aq))
 (ao (retS (ai dN (ae (gu (fy (k9 qo (ae (ai cX (ae (aa 1) aq)) aq)) (cn 0) none (ai du (ae (aa 2) (ae (fv (fun c=>c==av) "made_rows" (aa 1)) (ae (aa 0) aq)))) 1 [0,1])) aq)))
 ak))
noncomputable def fS:List PV->M PV:=bb 1 (aw 2 dY)
noncomputable def fg:af->M Out :=
 (ao (retS (gu (fy (itemsOf (fv (fun c=>c==av) "made_rows" (aa 0))) (cn 0) none (aj aG (aa 0) (fun _=>M.ok (.int 0))) 1 [])))
 ak)
noncomputable def e6:List PV->M PV:=bb 1 (aw 1 fg)
noncomputable def dH:List PV->M (List PV):=fun ps=>(fy (itemsOf (fv (fun c=>c==av) "made_rows" (aa 0))) (cn 0) none (aj aG (aa 0) (fun _=>M.ok (.int 0))) 1 []) (jo 1 ps)
noncomputable def dU:af->M Out :=
 (ao (retS (ai dN (ae (gu (fy (k9 y0 (ae (fv (fun c=>c==av) "idle_rows" (aa 0)) aq)) (bY 0 1) none (aj aG (aa 1) (aa 0)) 2 [])) aq)))
 ak)
noncomputable def f6:List PV->M PV:=bb 1 (aw 1 dU)
noncomputable def eO:af->M Out :=
 (ao (retS (ai sH (ae (fv (fun c=>c==av) "idle_rows" (aa 0)) aq)))
 ak)
noncomputable def gL:List PV->M PV:=bb 1 (aw 1 eO)
noncomputable def iY:af->M Out :=
 (ao (retS (aj cW (jK (ae (fun _=>M.ok (.int 0)) aq)) (ai cX (ae (b_ aE "sizes" a_ (aa 0) aq) aq))))
 ak)
noncomputable def iZ:List PV->M PV:=bb 1 (aw 1 iY)
noncomputable def ck:af->M Out :=
 (ao (bg 2 (b_ aE "sizes" a_ (aa 0) aq))
 (ao (i6 (uK (gN (cL (uU (fun a=>ja a "tuple") kc kc (aa 1)))) (gN (cL (ai iv (ae (aa 1) (ae (ai cX (ae (aa 2) aq)) aq)))))) (ao (retS (fun _=>M.ok (.bl false)))
 ak) ak)
 (ao (retS (ai wc (ae (gu (fy (k9 zip2 (ae (aa 1) (ae (aa 2) aq))) (bY 0 1) none (hZ zS wu (fun _=>M.ok (.int 0)) (aa 0) (aa 1)) 2 [])) aq)))
 ak)))
noncomputable def aQ:List PV->M PV:=bb 2 (aw 3 ck)
noncomputable def cz:af->M Out :=
 (ao (i6 (gN (cL (ai aQ (ae (aa 0) (ae (aa 1) aq))))) (ao (kZ dm (ae (fun _=>M.ok (.str "this is no setting of the vault")) aq))
 ak) ak)
 ak)
noncomputable def cA:List PV->M PV:=bb 2 (aw 2 cz)
noncomputable def fz:af->M Out :=
 (ao (retS (jK (ae (aa 1) (ae (aj cW (jK (ae (fun _=>M.ok (.int 0)) aq)) (ai cX (ae (b_ aE "levers" bO (aa 0) aq) aq))) aq))))
 ak)
noncomputable def fK:List PV->M PV:=bb 2 (aw 2 fz)
noncomputable def dS:af->M Out :=
 (ao (bg 2 (b_ aE "levers" bO (aa 0) aq))
 (ao (retS (jK (ae (aj aG (aa 2) (aa 1)) (ae (ai jD (ae (ai cX (ae (aa 2) aq)) (ae (aa 1) aq))) aq))))
 ak))
noncomputable def fZ:List PV->M PV:=bb 2 (aw 3 dS)
noncomputable def cq:af->M Out :=
 (ao (bg 4 (b_ av "spans" f6 (aa 0) aq))
 (ao (bg 5 (b_ av "idle" gL (aa 0) aq))
 (ao (i6 (uK (gN (cL (uU (fun a=>ja a "tuple") kc kc (aa 4)))) (uK (cL (aj mQ (ai cX (ae (aa 4) aq)) (ai cX (ae (aa 2) aq)))) (gN (cL (uU (fun a=>ja a "list") kc kc (aa 5)))))) (ao (retS (fun _=>M.ok (.bl false)))
 ak) ak)
 (ao (gK (itemsOf (aa 4)) (cn 6) (ao (i6 (uK (gN (cL (uU (fun a=>ja a "int") kc kc (aa 6)))) (uK (cL (uU (fun a=>ja a "bool") kc kc (aa 6))) (cL (aj wu (aa 6) (fun _=>M.ok (.int 1)))))) (ao (retS (fun _=>M.ok (.bl false)))
 ak) ak)
 ak))
 (ao (i6 (uK (cL (aj mQ (ai cX (ae (aa 5) aq)) (ai cX (ae (aa 2) aq)))) (cL (aj mQ (aj cW (ai cC (ae (aa 4) aq)) (ai cC (ae (aa 3) aq))) (ai cC (ae (aa 1) aq))))) (ao (retS (fun _=>M.ok (.bl false)))
 ak) ak)
 (ao (gK (k9 y0 (ae (aa 5) aq)) (bY 7 8) (ao (i6 (gN (cL (ai dA (ae (aa 1) (ae (aa 2) (ae (aa 4) (ae (aa 8) (ae (aa 7) aq)))))))) (ao (retS (fun _=>M.ok (.bl false)))
 ak) ak)
 ak))
 (ao (retS (fun _=>M.ok (.bl true)))
 ak)))))))
noncomputable def da:List PV->M PV:=bb 4 (aw 9 cq)
noncomputable def jv:af->M Out :=
 (ao (bg 2 (b_ aE "sizes" a_ (aa 1) aq))
 (ao (bg 3 (gu (fy (itemsOf (aa 2)) (cn 0) none (ai fK (ae (aa 1) (ae (ai iZ (ae (aa 1) aq)) aq))) 1 [1])))
 (ao (qQ 4 (kf aq))
 (ao (gK (k9 qo (ae (ai cX (ae (b_ aE "levers" bO (aa 1) aq) aq)) aq)) (cn 5) (ao (bg 6 (ai jA (ae (aa 2) (ae (aa 3) (ae (ai fZ (ae (aa 1) (ae (aa 5) aq))) aq)))))
 (ao (bg 3 (aj aG (aa 6) (fun _=>M.ok (.int 0))))
 (ao (jq 4 (Ac 4 (ai ia (ae (aj aG (aa 6) (fun _=>M.ok (.int 1))) (ae (aa 4) aq)))))
 ak))))
 (ao (jC 0 av "vault" (aa 1))
 (ao (jC 0 av "made_rows" (gu (fy (k9 y0 (ae (aa 3) aq)) (bY 0 1) none (ai fL (ae (aa 2) (ae (aa 3) (ae (aa 1) (ae (aj fN (aa 0) (fun _=>M.ok (.int 1))) aq))))) 2 [2,3])))
 (ao (rK [4] (jC 0 av "idle_rows" (aa 4)))
 ak)))))))
noncomputable def iK:Addr->List PV->M (List (Str×PV)):=rE 2 (wQ 7 jv av)
noncomputable def aU:af->M Out :=
 (ao (pV (ai cA (ae (fv (fun c=>c==av) "vault" (aa 0)) (ae (aa 1) aq))))
 (ao (retS (ai fL (ae (b_ aE "sizes" a_ (fv (fun c=>c==av) "vault" (aa 0)) aq) (ae (fv (fun c=>c==av) "made_rows" (aa 0)) (ae (ai fK (ae (fv (fun c=>c==av) "vault" (aa 0)) (ae (aa 1) aq))) (ae (fun _=>M.ok (.int 0)) aq))))))
 ak))
noncomputable def aP:List PV->M PV:=bb 2 (aw 2 aU)
noncomputable def dX:af->M Out :=
 (ao (retS (aj aG (b_ av "brought_down" aP (aa 0) (ae (aa 1) aq)) (fun _=>M.ok (.int 0))))
 ak)
noncomputable def dP:List PV->M PV:=bb 2 (aw 2 dX)
noncomputable def bw:af->M Out :=
 (ao (bg 2 (b_ av "brought_down" aP (aa 0) (ae (aa 1) aq)))
 (ao (i6 (cL (aj mQ (aj aG (aa 2) (fun _=>M.ok (.int 0))) (ai iZ (ae (fv (fun c=>c==av) "vault" (aa 0)) aq)))) (ao (retS (fun _=>M.ok .cI))
 ak) ak)
 (ao (retS (ai ia (ae (ai dN (ae (gu (fy (itemsOf (aj aG (aa 2) (fun _=>M.ok (.int 1)))) (cn 0) none (mU (aa 0)) 1 [])) aq)) (ae (fv (fun c=>c==av) "idle_rows" (aa 0)) aq))))
 ak)))
noncomputable def aY:List PV->M PV:=bb 2 (aw 3 bw)
noncomputable def BM:af->M Out :=
 (ao (bg 1 (ai gP (ae (ai dr (ae (aa 0) (ae (fun _=>M.ok (.int 0)) aq))) aq)))
 (ao (bg 2 (ai gf (ae (aa 0) (ae (aa 1) aq))))
 (ao (bg 3 (ai (i7 av iK []) (ae (ai (i7 aE eX [.cI]) (ae (ai dN (ae (aa 1) aq)) (ae (aa 2) aq))) aq)))
 (ao (bg 4 (b_ av "steps" fS (aa 3) aq))
 (ao (bg 5 (b_ av "rows" e6 (aa 3) aq))
 (ao (i6 (uK (gN (cL (uU (fun a=>ja a "tuple") kc kc (aa 4)))) (gN (cL (uU (fun a=>ja a "list") kc kc (aa 5))))) (ao (retS (fun _=>M.ok (.bl false)))
 ak) ak)
 (ao (i6 (uK (cL (aj mQ (ai cX (ae (aa 4) aq)) (ai cX (ae (aa 1) aq)))) (cL (aj mQ (ai cX (ae (aa 5) aq)) (ai cX (ae (aa 1) aq))))) (ao (retS (fun _=>M.ok (.bl false)))
 ak) ak)
 (ao (gK (k9 qo (ae (ai cX (ae (aa 1) aq)) aq)) (cn 6) (ao (i6 (gN (cL (ai dD (ae (aa 1) (ae (aa 4) (ae (aa 5) (ae (aa 6) aq))))))) (ao (retS (fun _=>M.ok (.bl false)))
 ak) ak)
 (ao (bg 7 (b_ av "pulls_to" aY (aa 3) (ae (aj aG (aa 5) (aa 6)) aq)))
 (ao (i6 (cL (aj xC (aa 7) (fun _=>M.ok .cI))) (ao (retS (fun _=>M.ok (.bl false)))
 ak) ak)
 (ao (i6 (cL (aj mQ (ai cu (ae (aa 1) (ae (aa 2) (ae (aj cW (jK (ae (fun _=>M.ok (.int 0)) aq)) (ai cX (ae (aa 1) aq))) (ae (aa 7) aq))))) (aj aG (aa 5) (aa 6)))) (ao (retS (fun _=>M.ok (.bl false)))
 ak) ak)
 ak)))))
 (ao (gK (itemsOf (aa 2)) (cn 8) (ao (bg 9 (ai bf (ae (aa 1) (ae (aa 8) (ae (aa 8) (ae (fun _=>M.ok (.int 0)) aq))))))
 (ao (i6 (gN (cL (ai bu (ae (ai bG (ae (aa 1) (ae (aa 4) (ae (aa 5) (ae (aa 9) aq))))) aq)))) (ao (retS (fun _=>M.ok (.bl false)))
 ak) ak)
 ak)))
 (ao (i6 (gN (cL (ai da (ae (aa 3) (ae (aa 1) (ae (aa 2) (ae (aa 4) aq))))))) (ao (retS (fun _=>M.ok (.bl false)))
 ak) ak)
 (ao (bg 10 (ai sH (ae (aa 5) aq)))
 (ao (pV (w5 (xZ av "rows" dH (aa 3))))
 (ao (retS (aj lJ (b_ av "rows" e6 (aa 3) aq) (aa 10)))
 ak)))))))))))))
noncomputable def sq:List PV->M PV:=bb 1 (aw 11 BM)
end wz
namespace wz
open PySem L2 PyProof.Rows
local macro_rules | `(tactic| walk_at "s")=>`(tactic| exact ⟨rfl,rfl,rfl,by decide +kernel,rfl,by decide +kernel,by decide +kernel⟩)
local macro_rules | `(tactic| walk_at "l")=>`(tactic| first | exact .inl rfl | exact .inr rfl)
local macro_rules | `(tactic| walk_at "pp")=>`(tactic| all_goals repeat' (first | ((with_reducible show mW _ _ (tS _ (ao _ _)));refine AW ?_ ?_) | ((with_reducible show mW _ _ (tS _ ak));exact D4) | ((with_reducible show PE _ _ (tE _ (aa _)));exact vr _) | ((with_reducible show PA _ _ (tL _ (ae _ _)));refine xK ?_ ?_ (E8 rfl)) | ((with_reducible show PA _ _ (tL _ aq));exact z6) | ((with_reducible show PE _ _ (tE _ (fun _=>M.ok (.int _))));first | exact By | exact l7 (Jn (by rfl) (by assumption)) fun _=>.int _) | ((with_reducible show PE _ _ (tE _ (fun _=>M.ok (.bl _))));exact JL) | ((with_reducible show PE _ _ (tE _ (fun _=>M.ok .cI)));exact HE) | ((with_reducible show PE _ _ (tE _ (fun _=>M.ok (.str _))));exact Ft) | ((with_reducible show PE _ _ (tE _ (aj fN _ _)));refine nv Dy FA ?_ ?_) | ((with_reducible show PE _ _ (tE _ (aj k4 _ _)));refine nv Fz He ?_ ?_) | ((with_reducible show PE _ _ (tE _ (aj cW _ _)));refine nv DU Gf ?_ ?_) | ((with_reducible show PE _ _ (tE _ (aj cQ _ _)));refine nv Bq BH ?_ ?_) | ((with_reducible show PE _ _ (tE _ (aj fG _ _)));refine nv DL D7 ?_ ?_) | ((with_reducible show PE _ _ (tE _ (aj Cr _ _)));refine nv FP DI ?_ ?_) | ((with_reducible show PE _ _ (tE _ (aj aG _ _)));refine Hu ?_ ?_ ?_) | ((with_reducible show uB _);exact fun _ _=>rfl) | ((with_reducible show PT _ _ (tT _ (cL (aj lJ _ _))));refine kb (Ci (bR.units (by assumption))) EM ?_ ?_ (dM _)) | ((with_reducible show PE _ _ (tE _ (aj lJ _ _)));refine jW (Ci (bR.units (by assumption))) EM ?_ ?_ (dM _)) | ((with_reducible show PT _ _ (tT _ (cL (aj mQ _ _))));refine kb (Bl (bR.units (by assumption))) EC ?_ ?_ (dM _)) | ((with_reducible show PE _ _ (tE _ (aj mQ _ _)));refine jW (Bl (bR.units (by assumption))) EC ?_ ?_ (dM _)) | ((with_reducible show PT _ _ (tT _ (cL (aj wu _ _))));refine kb vt ql ?_ ?_ (dM _)) | ((with_reducible show PE _ _ (tE _ (aj wu _ _)));refine jW vt ql ?_ ?_ (dM _)) | ((with_reducible show PT _ _ (tT _ (cL (aj zS _ _))));refine kb ph lj ?_ ?_ (dM _)) | ((with_reducible show PE _ _ (tE _ (aj zS _ _)));refine jW ph lj ?_ ?_ (dM _)) | ((with_reducible show PT _ _ (tT _ (cL (aj Fi _ _))));refine kb ED Bw ?_ ?_ (dM _)) | ((with_reducible show PE _ _ (tE _ (aj Fi _ _)));refine jW ED Bw ?_ ?_ (dM _)) | ((with_reducible show PT _ _ (tT _ (cL (aj HP _ _))));refine kb EE Bg ?_ ?_ (dM _)) | ((with_reducible show PE _ _ (tE _ (aj HP _ _)));refine jW EE Bg ?_ ?_ (dM _)) | ((with_reducible show PT _ _ (tT _ (cL (aj xC _ _))));refine kb Ae zY ?_ ?_ (dM _)) | ((with_reducible show PE _ _ (tE _ (aj xC _ _)));refine jW Ae zY ?_ ?_ (dM _)) | ((with_reducible show PT _ _ (tT _ (cL (aj isNotNP _ _))));refine kb op_notN ov_notN ?_ ?_ (dM _)) | ((with_reducible show PE _ _ (tE _ (aj isNotNP _ _)));refine jW op_notN ov_notN ?_ ?_ (dM _)) | ((with_reducible show PT _ _ (tT _ (gN _)));refine Hf ?_) | ((with_reducible show PT _ _ (tT _ (cL (ai _ _))));refine uk ?_) | ((with_reducible show PT _ _ (tT _ (cL (uU _ _ _ _))));refine uk ?_) | ((with_reducible show PT _ _ (tT _ (cL (b_ _ _ _ _ _))));refine uk ?_) | ((with_reducible show PT _ _ (tT _ (cL (aa _))));refine uk ?_) | ((with_reducible show PS _ _ (tS _ (retS _)));refine HK ?_) | ((with_reducible show PS _ _ (tS _ (bg _ _)));refine HC (by assumption) rfl (by walk_at "l") ?_) | ((with_reducible show PS _ _ (tS _ (i6 _ _ _)));refine J1 ?_ ?_ ?_) | ((with_reducible show PS _ _ (tS _ (jq _ _)));refine zL rfl (by first | exact .inl rfl | exact .inr (.inl rfl)) ?_) | ((with_reducible show PS _ _ (tS _ (qQ _ _)));refine CJ (by assumption) rfl (by walk_at "l") ?_) | ((with_reducible show PE _ _ (tO _ (kf _)));refine Hd ?_) | ((with_reducible show PS _ _ (tS _ (rK _ _)));refine HB _ ?_) | ((with_reducible show PS _ _ (tS _ (pV _)));refine Ek ?_) | ((with_reducible show PS _ _ (tS _ (kZ _ _)));refine Cq.raise (by assumption) (by assumption) rfl (by rfl) ?_) | ((with_reducible show PS _ _ (tS _ (j8 _ _ _)));refine tZ.raise (by assumption) (by assumption) (by omega) (by assumption) rfl (by rfl) ?_) | ((with_reducible show PE _ _ (tE _ (jK _)));refine Fq ?_) | ((with_reducible show PE _ _ (tE _ (AB _)));refine AN ?_) | ((with_reducible show PE _ _ (tE _ (mU _)));refine GP ?_) | ((with_reducible show PE _ _ (tE _ (zD _ _ _)));refine Hk ?_ ?_ ?_) | ((with_reducible show PE _ _ (tE _ (fv _ _ _)));refine Hr ?_ (by assumption) rfl) | ((with_reducible show PE _ _ (tE _ (ai cX _)));refine jb yQ GQ (by rfl) (by assumption) PySem.boot_len ?_) | ((with_reducible show PE _ _ (tE _ (ai dN _)));refine mw qE A6 (by rfl) (by assumption) ik ?_) | ((with_reducible show PE _ _ (tE _ (ai sH _)));refine mw uT CZ (by rfl) (by assumption) oC ?_) | ((with_reducible show PE _ _ (tE _ (ai FN _)));refine jb (call_sumL rfl) cv_sum (by rfl) (by assumption) bt_sum ?_) | ((with_reducible show PE _ _ (tE _ (ai wc _)));refine jb (zQ rfl) F5 (by rfl) (by assumption) GV ?_) | ((with_reducible show PE _ _ (tE _ (ai intP1 _)));refine mw call_intB cv_intB (by rfl) (by assumption) t6 ?_) | ((with_reducible show PE _ _ (tE _ (ai (i7 _ _ _) _)));refine Gi.make (by assumption) (by assumption) (by omega) (by rfl) (by first | assumption | exact x_) ?_) | ((with_reducible show PE _ _ (tE _ (ai _ _)));refine bL.call (by assumption) (by assumption) (by omega) (by rfl) (by first | assumption | exact x_) ?_) | ((with_reducible show PE _ _ (tE _ (b_ _ _ _ _ aq)));refine lh.AO (by assumption) (by assumption) (by omega) (by first | assumption | exact x_) ?_) | ((with_reducible show PE _ _ (tE _ (b_ _ _ _ _ _)));refine lh.call (by assumption) (by assumption) (by omega) (by first | assumption | exact x_) ?_ ?_)))
def top (i:Nat):Stmt:=PySem.Challenge.pw_dialvault_k23_steps_walked.main.body.getD i (.Pass ⟨0,0,0,0⟩)
structure Txt (K:PySem.W.Frag) (mg:Str->Option Value):Prop where
 Jo:mg "all" = none
 tM:mg "bool" = none
 bZ:mg "enumerate" = none
 xW:mg "int" = none
 aR:mg "isinstance" = none
 Iq:mg "len" = none
 uO:mg "list" = none
 Ag:mg "max" = none
 EJ:mg "min" = none
 gc:mg "range" = none
 jj:mg "tuple" = none
 nQ:mg "zip" = none
 rj:∃ u,mg "LEAST_PRICE" = some u/\RelV (.int 1) u
 tH:∃ u,mg "LEAST_SIZE" = some u/\RelV (.int 2) u
 ug:∃ u,mg "MOST_DIALS" = some u/\RelV (.int 6) u
 qL:∃ u,mg "MOST_LEVERS" = some u/\RelV (.int 8) u
 sQ:∃ u,mg "MOST_PRICE" = some u/\RelV (.int 1000) u
 vn:∃ u,mg "MOST_SIZE" = some u/\RelV (.int 360) u
 oJ:mj K av
 lP:mj K aE
 vP:Cq K mg dm "NoSetting"
 yw:Cq K mg kH "TooMany"
 iD:bK K av "idle_rows"
 iz:bK K av "made_rows"
 kS:bK K av "vault"
 ie:bK K aE "dial_sizes"
 gB:bK K aE "least_round"
 gk:bK K aE "lever_prices"
 fc:bK K aE "lever_settings"
 uo:∀ C,(C==aE)=true->mj K C/\bK K C "dial_sizes"
 wa:∀ C,(C==av)=true->mj K C/\bK K C "idle_rows"
 qT:∀ C,(C==aE)=true->mj K C/\bK K C "least_round"
 p8:∀ C,(C==aE)=true->mj K C/\bK K C "lever_prices"
 mX:∀ C,(C==aE)=true->mj K C/\bK K C "lever_settings"
 vD:∀ C,(C==av)=true->mj K C/\bK K C "made_rows"
 D5:∀ C,(C==av)=true->mj K C/\bK K C "vault"
variable {P:Program} {w:World} {K:PySem.W.Frag} {mg:Str->Option Value} {base:Heap} {f:Addr} {fd:FuncData} {dv:Value}
theorem nF:ax ["thing"] ["thing"] (ah (top 9)):=by walk_at "s"
theorem wm (F:aF K "is_whole" "is_whole" (top 9) dv f fd) (T:Txt K mg)  : aN P w K mg base (bM P w) 1 f fd ["thing"] (fm 1 dq) :=
 F.hV nF fun _ _ _ _ _ _ hr O=>by
 unfold ic;have:=nF.nd;have T2:=T;cases T2
 walk_at "pp"
 refine (xq ?_ (wU ?_))
 walk_at "pp"
 refine (fA (T := "int") (by rfl) T.aR (cJ (v:=.ty "int") (by rfl) T.xW t6 rfl) (by decide) fB fB ?_)
 walk_at "pp"
 refine (GC ?_)
 walk_at "pp"
 refine (fA (T := "bool") (by rfl) T.aR (cJ (v:=.ty "bool") (by rfl) T.tM sT rfl) (by decide) fB fB ?_)
 walk_at "pp"
theorem rX:ax ["thing", "length"] ["thing", "length"] (ah (top 10)):=by walk_at "s"
theorem uX:((["number"]:List Str)++([]:List Str)).Nodup:=by decide +kernel
theorem yr (F:aF K "is_row" "is_row" (top 10) dv f fd) (T:Txt K mg) (o_is_whole:bL P w K mg base 1 "is_whole" 1 (aw 1 ic)):aN P w K mg base (bM P w) 2 f fd ["thing", "length"] (fm 2 iv) :=
 F.hV rX fun _ _ _ _ _ _ hr O=>by
 unfold iW;have:=rX.nd;have T2:=T;cases T2
 walk_at "pp"
 refine (gm ?_ (gx ?_)).pt
 walk_at "pp"
 refine (Er (Ts:=["list", "tuple"]) (by rfl) T.aR (AG (iH (cJ (v:=.ty "list") (by rfl) T.uO oC rfl) (iH (cJ (v:=.ty "tuple") (by rfl) T.jj ik rfl) pI))) (fun σ H R h=>⟨by show 2<=sizeLine;decide,h⟩) (by decide) fB ?_)
 walk_at "pp"
 refine (eD (bI (g:=(aI 0)) (ts:=["number"]) (fs:=[]) (js:=[]) (cl:=[]) rfl rfl rfl rfl rfl rfl .nil .nil (eZ ?_) cY (fun _ _ _ _ _=>(aD (i:=0) uX rfl (by walk_at "l") (.inr rfl))) (fun _=>bc) cx (fun _ _ _ _ _=>?_)))
 walk_at "pp"
theorem rN:ax ["one", "other", "row", "behind", "times", "rest"] ["one", "other"] (ah (top 11)):=by walk_at "s"
theorem y4 (F:aF K "common" "common" (top 11) dv f fd) (T:Txt K mg)  : aN P w K mg base (bM P w) 1 f fd ["one", "other"] (fm 2 gv) :=
 F.hV rN fun _ _ _ _ _ _ hr O=>by
 unfold jf;have:=rN.nd;have T2:=T;cases T2
 walk_at "pp"
 refine (AK O ?_ ?_)
 walk_at "pp"
theorem hG:ax ["numbers", "multiple", "number"] ["numbers"] (ah (top 12)):=by walk_at "s"
theorem pZ (F:aF K "multiple_of" "multiple_of" (top 12) dv f fd) (T:Txt K mg) (o_common:bL P w K mg base 1 "common" 2 (aw 6 jf)):aN P w K mg base (bM P w) 2 f fd ["numbers"] (fm 1 cS) :=
 F.hV hG fun _ _ _ _ _ _ hr O=>by
 unfold cU;have:=hG.nd;have T2:=T;cases T2
 walk_at "pp"
 refine (bj (g:=(aI 2)) O rfl (eZ ?_) cY (aD (i:=2) hG.nd rfl (by walk_at "l")) bc ?_)
 walk_at "pp"
theorem nI:ax ["length", "place"] ["length", "place"] (ah (top 13)):=by walk_at "s"
theorem rf:((["other"]:List Str)++(["place"]:List Str)).Nodup:=by decide +kernel
theorem vj (F:aF K "unit_row" "unit_row" (top 13) dv f fd) (T:Txt K mg)  : aN P w K mg base (bM P w) 1 f fd ["length", "place"] (fm 2 jD) :=
 F.hV nI fun _ _ _ _ _ _ hr O=>by
 unfold g8;have:=nI.nd;have T2:=T;cases T2
 walk_at "pp"
 refine (eD (bI (g:=(aI 0)) (ts:=["other"]) (fs:=["place"]) (js:=[1]) rfl rfl rfl rfl rfl rfl (.cons rfl .nil) (.cons rfl rfl (by walk_at "l") rfl rfl .nil) (fE (by rfl) T.gc ?_) hU (fun _ _ _ _ _=>(aD (i:=0) rf rfl (by walk_at "l") (.inr rfl))) (fun _=>bc) cx (fun _ _ _ _ _=>?_)))
 walk_at "pp"
theorem lN:ax ["thing", "least", "most"] ["thing", "least", "most"] (ah (top 22)):=by walk_at "s"
theorem uJ (F:aF K "is_within" "is_within" (top 22) dv f fd) (T:Txt K mg) (o_is_whole:bL P w K mg base 1 "is_whole" 1 (aw 1 ic)):aN P w K mg base (bM P w) 2 f fd ["thing", "least", "most"] (fm 3 gq) :=
 F.hV lN fun _ _ _ _ _ _ hr O=>by
 unfold eI;have:=lN.nd;have T2:=T;cases T2
 walk_at "pp"
 refine (xq ?_ (wU ?_))
 walk_at "pp"
 refine (uZ ph lj ph lj ?_ ?_ ?_)
 walk_at "pp"
theorem fW:ax ["sizes", "dial", "size"] ["sizes"] (ah (top 23)):=by walk_at "s"
theorem rH (F:aF K "need_sizes" "need_sizes" (top 23) dv f fd) (T:Txt K mg) (x_NoDial:tZ P w K mg base jc "NoDial" "dial") (o_is_within:bL P w K mg base 2 "is_within" 3 (aw 3 eI)):aN P w K mg base (bM P w) 3 f fd ["sizes"] (fm 1 dB) :=
 F.hV fW fun _ _ _ _ _ _ hr O=>by
 unfold dF;have:=fW.nd;have T2:=T;cases T2
 walk_at "pp"
 refine (bj (g:=(jM K 2 (bp (aI 1) (bp (aI 2) jP)))) O rfl (jY (by rfl) T.bZ ?_) iI (eC (n:=2) rfl (aH (aD (i:=1) fW.nd rfl (by walk_at "l")) (aH (aD (i:=2) fW.nd rfl (by walk_at "l")) cM))) c6 ?_)
 walk_at "pp"
theorem eT:ax ["levers", "dials", "place", "lever"] ["levers", "dials"] (ah (top 24)):=by walk_at "s"
theorem oY (F:aF K "need_levers" "need_levers" (top 24) dv f fd) (T:Txt K mg) (o_is_row:bL P w K mg base 2 "is_row" 2 (aw 2 iW)) (x_NoLever:tZ P w K mg base i9 "NoLever" "lever"):aN P w K mg base (bM P w) 3 f fd ["levers", "dials"] (fm 2 fP) :=
 F.hV eT fun _ _ _ _ _ _ hr O=>by
 unfold dZ;have:=eT.nd;have T2:=T;cases T2
 walk_at "pp"
 refine (bj (g:=(jM K 2 (bp (aI 2) (bp (aI 3) jP)))) O rfl (jY (by rfl) T.bZ ?_) iI (eC (n:=2) rfl (aH (aD (i:=2) eT.nd rfl (by walk_at "l")) (aH (aD (i:=3) eT.nd rfl (by walk_at "l")) cM))) c6 ?_)
 walk_at "pp"
theorem iV:ax ["levers", "prices", "place"] ["levers", "prices"] (ah (top 25)):=by walk_at "s"
theorem qJ (F:aF K "prices_for" "prices_for" (top 25) dv f fd) (T:Txt K mg) (x_NoPrice:tZ P w K mg base gX "NoPrice" "lever") (o_is_within:bL P w K mg base 2 "is_within" 3 (aw 3 eI)):aN P w K mg base (bM P w) 3 f fd ["levers", "prices"] (fm 2 gJ) :=
 F.hV iV fun _ _ _ _ _ _ hr O=>by
 unfold e7;have:=iV.nd;have T2:=T;cases T2
 walk_at "pp"
 refine (bj (g:=(aI 2)) O rfl (fE (by rfl) T.gc ?_) hU (aD (i:=2) iV.nd rfl (by walk_at "l")) bc ?_)
 walk_at "pp"
 refine (jb (za rfl) Dt (by rfl) T.Ag BQ ?_)
 walk_at "pp"
 refine (gm ?_ (gx ?_)).pt
 walk_at "pp"
theorem v8:ax ["numbers", "sizes"] ["numbers", "sizes"] (ah (top 26)):=by walk_at "s"
theorem oZ:((["number", "size"]:List Str)++([]:List Str)).Nodup:=by decide +kernel
theorem z_ (F:aF K "rests" "rests" (top 26) dv f fd) (T:Txt K mg)  : aN P w K mg base (bM P w) 1 f fd ["numbers", "sizes"] (fm 2 jy) :=
 F.hV v8 fun _ _ _ _ _ _ hr O=>by
 unfold kj;have:=v8.nd;have T2:=T;cases T2
 walk_at "pp"
 refine (eD (bI (g:=(jM K 2 (bp (aI 0) (bp (aI 1) jP)))) (ts:=["number", "size"]) (fs:=[]) (js:=[]) (cl:=[]) rfl rfl rfl rfl rfl rfl .nil .nil (mz (by rfl) T.nQ ?_) kA (fun _ _ _ _ _=>(eC (n:=2) rfl (aH (aD (i:=0) oZ rfl (by walk_at "l") (.inr rfl)) (aH (aD (i:=1) oZ rfl (by walk_at "l") (.inr rfl)) cM)))) (fun _=>c6) hX (fun _ _ _ _ _=>?_)))
 walk_at "pp"
theorem vH:ax ["row", "times", "other", "others"] ["row", "times", "other", "others"] (ah (top 31)):=by walk_at "s"
theorem pQ:((["one", "two"]:List Str)++(["times", "others"]:List Str)).Nodup:=by decide +kernel
theorem Bs (F:aF K "mixed" "mixed" (top 31) dv f fd) (T:Txt K mg)  : aN P w K mg base (bM P w) 1 f fd ["row", "times", "other", "others"] (fm 4 ky) :=
 F.hV vH fun _ _ _ _ _ _ hr O=>by
 unfold kG;have:=vH.nd;have T2:=T;cases T2
 walk_at "pp"
 refine (eD (bI (g:=(jM K 2 (bp (aI 0) (bp (aI 1) jP)))) (ts:=["one", "two"]) (fs:=["times", "others"]) (js:=[1,3]) rfl rfl rfl rfl rfl rfl (.cons rfl (.cons rfl .nil)) (.cons rfl rfl (by walk_at "l") rfl rfl (.cons rfl rfl (by walk_at "l") rfl rfl .nil)) (mz (by rfl) T.nQ ?_) kA (fun _ _ _ _ _=>(eC (n:=2) rfl (aH (aD (i:=0) pQ rfl (by walk_at "l") (.inr rfl)) (aH (aD (i:=1) pQ rfl (by walk_at "l") (.inr rfl)) cM)))) (fun _=>c6) hX (fun _ _ _ _ _=>?_)))
 walk_at "pp"
theorem kU:ax ["sizes", "made", "times", "other", "others", "doing"] ["sizes", "made", "times", "other", "others"] (ah (top 32)):=by walk_at "s"
theorem qB (F:aF K "mixed_made" "mixed_made" (top 32) dv f fd) (T:Txt K mg) (o_mixed:bL P w K mg base 1 "mixed" 4 (aw 4 kG)) (o_rests:bL P w K mg base 1 "rests" 2 (aw 2 kj)):aN P w K mg base (bM P w) 2 f fd ["sizes", "made", "times", "other", "others"] (fm 5 dG) :=
 F.hV kU fun _ _ _ _ _ _ hr O=>by
 unfold dE;have:=kU.nd;have T2:=T;cases T2
 walk_at "pp"
theorem l9:ax ["sizes", "made_rows", "dial", "notch"] ["sizes", "made_rows", "dial"] (ah (top 35)):=by walk_at "s"
theorem tJ (F:aF K "step_size" "step_size" (top 35) dv f fd) (T:Txt K mg)  : aN P w K mg base (bM P w) 1 f fd ["sizes", "made_rows", "dial"] (fm 3 du) :=
 F.hV l9 fun _ _ _ _ _ _ hr O=>by
 unfold de;have:=l9.nd;have T2:=T;cases T2
 walk_at "pp"
theorem iy:ax ["sizes", "made_rows", "left", "wider", "dial", "made", "step", "notch", "found"] ["sizes", "made_rows", "left"] (ah (top 36)):=by walk_at "s"
theorem vY (F:aF K "taken_in" "taken_in" (top 36) dv f fd) (T:Txt K mg) (o_step_size:bL P w K mg base 1 "step_size" 3 (aw 4 de)) (o_common:bL P w K mg base 1 "common" 2 (aw 6 jf)) (o_mixed_made:bL P w K mg base 2 "mixed_made" 5 (aw 6 dE)):aN P w K mg base (bM P w) 3 f fd ["sizes", "made_rows", "left"] (fm 3 jA) :=
 F.hV iy fun _ _ _ _ _ _ hr O=>by
 unfold ig;have:=iy.nd;have T2:=T;cases T2
 walk_at "pp"
 refine (bj (g:=(jM K 2 (bp (aI 4) (bp (aI 5) jP)))) O rfl (jY (by rfl) T.bZ ?_) iI (eC (n:=2) rfl (aH (aD (i:=4) iy.nd rfl (by walk_at "l")) (aH (aD (i:=5) iy.nd rfl (by walk_at "l")) cM))) c6 ?_)
 walk_at "pp"
theorem lx:ax ["sizes", "made_rows", "made", "first", "dial", "times"] ["sizes", "made_rows", "made", "first"] (ah (top 37)):=by walk_at "s"
theorem xt (F:aF K "lowered" "lowered" (top 37) dv f fd) (T:Txt K mg) (o_step_size:bL P w K mg base 1 "step_size" 3 (aw 4 de)) (o_mixed_made:bL P w K mg base 2 "mixed_made" 5 (aw 6 dE)):aN P w K mg base (bM P w) 3 f fd ["sizes", "made_rows", "made", "first"] (fm 4 fL) :=
 F.hV lx fun _ _ _ _ _ _ hr O=>by
 unfold gY;have:=lx.nd;have T2:=T;cases T2
 walk_at "pp"
 refine (bj (g:=(aI 4)) O rfl (zI (by rfl) T.gc ?_) B0 (aD (i:=4) lx.nd rfl (by walk_at "l")) bc ?_)
 walk_at "pp"
theorem j6:ax ["pulls", "idle_rows", "lever", "row"] ["pulls", "idle_rows"] (ah (top 38)):=by walk_at "s"
theorem vi (F:aF K "in_spans" "in_spans" (top 38) dv f fd) (T:Txt K mg) (o_mixed:bL P w K mg base 1 "mixed" 4 (aw 4 kG)):aN P w K mg base (bM P w) 2 f fd ["pulls", "idle_rows"] (fm 2 ia) :=
 F.hV j6 fun _ _ _ _ _ _ hr O=>by
 unfold fF;have:=j6.nd;have T2:=T;cases T2
 walk_at "pp"
 refine (bj (g:=(aI 2)) O rfl (yC (by rfl) T.gc ?_) A4 (aD (i:=2) j6.nd rfl (by walk_at "l")) bc ?_)
 walk_at "pp"
theorem lF:ax ["_law_script", "_law_k"] ["_law_script", "_law_k"] (ah (top 41)):=by walk_at "s"
theorem uF (F:aF K "_law_cell" "_law_cell" (top 41) dv f fd) (T:Txt K mg)  : aN P w K mg base (bM P w) 1 f fd ["_law_script", "_law_k"] (fm 2 dr) :=
 F.hV lF fun _ _ _ _ _ _ hr O=>by
 unfold eH;have:=lF.nd;have T2:=T;cases T2
 walk_at "pp"
theorem ip:ax ["_law_cell_here", "_law_many", "_law_found", "_law_number", "_law_k"] ["_law_cell_here", "_law_many"] (ah (top 42)):=by walk_at "s"
theorem pS (F:aF K "_law_stream" "_law_stream" (top 42) dv f fd) (T:Txt K mg)  : aN P w K mg base (bM P w) 1 f fd ["_law_cell_here", "_law_many"] (fm 2 d_) :=
 F.hV ip fun _ _ _ _ _ _ hr O=>by
 unfold cT;have:=ip.nd;have T2:=T;cases T2
 walk_at "pp"
 refine (bj (g:=(aI 4)) O rfl (fE (by rfl) T.gc ?_) hU (aD (i:=4) ip.nd rfl (by walk_at "l")) bc ?_)
 walk_at "pp"
theorem ir:ax ["_law_cell_here", "_law_bases", "_law_found", "_law_left", "_law_base"] ["_law_cell_here", "_law_bases"] (ah (top 43)):=by walk_at "s"
theorem oW (F:aF K "_law_digits" "_law_digits" (top 43) dv f fd) (T:Txt K mg)  : aN P w K mg base (bM P w) 1 f fd ["_law_cell_here", "_law_bases"] (fm 2 dR) :=
 F.hV ir fun _ _ _ _ _ _ hr O=>by
 unfold cV;have:=ir.nd;have T2:=T;cases T2
 walk_at "pp"
 refine (bj (g:=(aI 4)) O rfl (eZ ?_) cY (aD (i:=4) ir.nd rfl (by walk_at "l")) bc ?_)
 walk_at "pp"
theorem iS:ax ["_law_cell_here", "_law_many", "_law_sizes_here", "_law_number"] ["_law_cell_here"] (ah (top 44)):=by walk_at "s"
theorem om:((["_law_digit"]:List Str)++([]:List Str)).Nodup:=by decide +kernel
theorem qZ (F:aF K "_law_sizes" "_law_sizes" (top 44) dv f fd) (T:Txt K mg) (o__law_digits:bL P w K mg base 1 "_law_digits" 2 (aw 5 cV)) (o__law_stream:bL P w K mg base 1 "_law_stream" 2 (aw 5 cT)):aN P w K mg base (bM P w) 2 f fd ["_law_cell_here"] (fm 1 gP) :=
 F.hV iS fun _ _ _ _ _ _ hr O=>by
 unfold eP;have:=iS.nd;have T2:=T;cases T2
 walk_at "pp"
 refine (eD (bI (g:=(aI 0)) (ts:=["_law_digit"]) (fs:=[]) (js:=[]) (cl:=[]) rfl rfl rfl rfl rfl rfl .nil .nil (eZ ?_) cY (fun _ _ _ _ _=>(aD (i:=0) om rfl (by walk_at "l") (.inr rfl))) (fun _=>bc) cx (fun _ _ _ _ _=>?_)))
 walk_at "pp"
 refine (bj (g:=(aI 3)) O rfl (eZ ?_) cY (aD (i:=3) iS.nd rfl (by walk_at "l")) bc ?_)
 walk_at "pp"
 exact (yi [2,3,4,6,8,9,12,16,24,27,32,36,64,72,81,128,243,256,360])
 walk_at "pp"
theorem kT:ax ["_law_number"] ["_law_number"] (ah (top 45)):=by walk_at "s"
theorem qP (F:aF K "_law_great" "_law_great" (top 45) dv f fd) (T:Txt K mg)  : aN P w K mg base (bM P w) 1 f fd ["_law_number"] (fm 1 gU) :=
 F.hV kT fun _ _ _ _ _ _ hr O=>by
 unfold eR;have:=kT.nd;have T2:=T;cases T2
 walk_at "pp"
theorem f9:ax ["_law_cell_here", "_law_sizes_here", "_law_row", "_law_number", "_law_size", "_law_share"] ["_law_cell_here", "_law_sizes_here"] (ah (top 46)):=by walk_at "s"
theorem rB (F:aF K "_law_lever" "_law_lever" (top 46) dv f fd) (T:Txt K mg) (o__law_stream:bL P w K mg base 1 "_law_stream" 2 (aw 5 cT)) (o__law_great:bL P w K mg base 1 "_law_great" 1 (aw 1 eR)):aN P w K mg base (bM P w) 2 f fd ["_law_cell_here", "_law_sizes_here"] (fm 2 gR) :=
 F.hV f9 fun _ _ _ _ _ _ hr O=>by
 unfold ff;have:=f9.nd;have T2:=T;cases T2
 walk_at "pp"
 refine (bj (g:=(jM K 2 (bp (aI 3) (bp (aI 4) jP)))) O rfl (mz (by rfl) T.nQ ?_) kA (eC (n:=2) rfl (aH (aD (i:=3) f9.nd rfl (by walk_at "l")) (aH (aD (i:=4) f9.nd rfl (by walk_at "l")) cM))) c6 ?_)
 walk_at "pp"
 exact (yi [1,1,2,3,4,6,12])
 walk_at "pp"
theorem ij:ax ["_law_script", "_law_sizes_here", "_law_levers_here", "_law_k", "_law_cell_here"] ["_law_script", "_law_sizes_here"] (ah (top 47)):=by walk_at "s"
theorem oR (F:aF K "_law_levers" "_law_levers" (top 47) dv f fd) (T:Txt K mg) (o__law_cell:bL P w K mg base 1 "_law_cell" 2 (aw 2 eH)) (o__law_digits:bL P w K mg base 1 "_law_digits" 2 (aw 5 cV)) (o__law_lever:bL P w K mg base 2 "_law_lever" 2 (aw 6 ff)):aN P w K mg base (bM P w) 3 f fd ["_law_script", "_law_sizes_here"] (fm 2 gf) :=
 F.hV ij fun _ _ _ _ _ _ hr O=>by
 unfold dO;have:=ij.nd;have T2:=T;cases T2
 walk_at "pp"
 refine (bj (g:=(aI 3)) O rfl (fE (by rfl) T.gc ?_) hU (aD (i:=3) ij.nd rfl (by walk_at "l")) bc ?_)
 walk_at "pp"
theorem kP:ax ["_law_sizes_here", "_law_one", "_law_other", "_law_times"] ["_law_sizes_here", "_law_one", "_law_other", "_law_times"] (ah (top 48)):=by walk_at "s"
theorem gy:((["_law_here", "_law_there", "_law_size"]:List Str)++(["_law_times"]:List Str)).Nodup:=by decide +kernel
theorem qN (F:aF K "_law_added" "_law_added" (top 48) dv f fd) (T:Txt K mg)  : aN P w K mg base (bM P w) 1 f fd ["_law_sizes_here", "_law_one", "_law_other", "_law_times"] (fm 4 bf) :=
 F.hV kP fun _ _ _ _ _ _ hr O=>by
 unfold bJ;have:=kP.nd;have T2:=T;cases T2
 walk_at "pp"
 refine (eD (bI (g:=(jM K 3 (bp (aI 0) (bp (aI 1) (bp (aI 2) jP))))) (ts:=["_law_here", "_law_there", "_law_size"]) (fs:=["_law_times"]) (js:=[3]) rfl rfl rfl rfl rfl rfl (.cons rfl .nil) (.cons rfl rfl (by walk_at "l") rfl rfl .nil) (De (by rfl) T.nQ ?_) Ce (fun _ _ _ _ _=>(eC (n:=3) rfl (aH (aD (i:=0) gy rfl (by walk_at "l") (.inr rfl)) (aH (aD (i:=1) gy rfl (by walk_at "l") (.inr rfl)) (aH (aD (i:=2) gy rfl (by walk_at "l") (.inr rfl)) cM))))) (fun _=>D6) wB (fun _ _ _ _ _=>?_)))
 walk_at "pp"
theorem eM:ax ["_law_sizes_here", "_law_levers_here", "_law_setting", "_law_pulls", "_law_found", "_law_row", "_law_times"] ["_law_sizes_here", "_law_levers_here", "_law_setting", "_law_pulls"] (ah (top 49)):=by walk_at "s"
theorem oN (F:aF K "_law_turned" "_law_turned" (top 49) dv f fd) (T:Txt K mg) (o__law_added:bL P w K mg base 1 "_law_added" 4 (aw 4 bJ)):aN P w K mg base (bM P w) 2 f fd ["_law_sizes_here", "_law_levers_here", "_law_setting", "_law_pulls"] (fm 4 cu) :=
 F.hV eM fun _ _ _ _ _ _ hr O=>by
 unfold cR;have:=eM.nd;have T2:=T;cases T2
 walk_at "pp"
 refine (bj (g:=(jM K 2 (bp (aI 5) (bp (aI 6) jP)))) O rfl (mz (by rfl) T.nQ ?_) kA (eC (n:=2) rfl (aH (aD (i:=5) eM.nd rfl (by walk_at "l")) (aH (aD (i:=6) eM.nd rfl (by walk_at "l")) cM))) c6 ?_)
 walk_at "pp"
theorem cp:ax ["_law_sizes_here", "_law_steps", "_law_rows", "_law_setting", "_law_left", "_law_dial", "_law_step"] ["_law_sizes_here", "_law_steps", "_law_rows", "_law_setting"] (ah (top 50)):=by walk_at "s"
theorem jZ (F:aF K "_law_brought_down" "_law_brought_down" (top 50) dv f fd) (T:Txt K mg) (o__law_added:bL P w K mg base 1 "_law_added" 4 (aw 4 bJ)):aN P w K mg base (bM P w) 2 f fd ["_law_sizes_here", "_law_steps", "_law_rows", "_law_setting"] (fm 4 bG) :=
 F.hV cp fun _ _ _ _ _ _ hr O=>by
 unfold bh;have:=cp.nd;have T2:=T;cases T2
 walk_at "pp"
 refine (bj (g:=(jM K 2 (bp (aI 5) (bp (aI 6) jP)))) O rfl (jY (by rfl) T.bZ ?_) iI (eC (n:=2) rfl (aH (aD (i:=5) cp.nd rfl (by walk_at "l")) (aH (aD (i:=6) cp.nd rfl (by walk_at "l")) cM))) c6 ?_)
 walk_at "pp"
theorem iM:ax ["_law_row"] ["_law_row"] (ah (top 51)):=by walk_at "s"
theorem lE (F:aF K "_law_is_nought" "_law_is_nought" (top 51) dv f fd) (T:Txt K mg)  : aN P w K mg base (bM P w) 1 f fd ["_law_row"] (fm 1 bu) :=
 F.hV iM fun _ _ _ _ _ _ hr O=>by
 unfold bq;have:=iM.nd;have T2:=T;cases T2
 walk_at "pp"
 refine (xq ?_ (wU ?_))
 walk_at "pp"
 refine (jb (zv rfl) xV (by rfl) T.Ag BQ ?_)
 walk_at "pp"
 refine (jb (yB rfl) xV (by rfl) T.EJ FL ?_)
 walk_at "pp"
theorem bW:ax ["_law_sizes_here", "_law_steps", "_law_rows", "_law_dial", "_law_step", "_law_row", "_law_number", "_law_other", "_law_round_about"] ["_law_sizes_here", "_law_steps", "_law_rows", "_law_dial"] (ah (top 52)):=by walk_at "s"
theorem l8 (F:aF K "_law_step_good" "_law_step_good" (top 52) dv f fd) (T:Txt K mg) (o__law_is_nought:bL P w K mg base 1 "_law_is_nought" 1 (aw 1 bq)) (o__law_added:bL P w K mg base 1 "_law_added" 4 (aw 4 bJ)) (o__law_brought_down:bL P w K mg base 2 "_law_brought_down" 4 (aw 7 bh)):aN P w K mg base (bM P w) 3 f fd ["_law_sizes_here", "_law_steps", "_law_rows", "_law_dial"] (fm 4 dD) :=
 F.hV bW fun _ _ _ _ _ _ hr O=>by
 unfold cD;have:=bW.nd;have T2:=T;cases T2
 walk_at "pp"
 refine (GD (i:=4) (j:=5) rfl bW.nd rfl rfl (by decide) rfl rfl ?_ ?_)
 walk_at "pp"
 exact rfl
 walk_at "pp"
 refine (gm ?_ (gm ?_ (gm ?_ (gx ?_)))).pt
 walk_at "pp"
 refine (fA (T := "int") (by rfl) T.aR (cJ (v:=.ty "int") (by rfl) T.xW t6 rfl) (by decide) fB fB ?_)
 walk_at "pp"
 refine (fA (T := "bool") (by rfl) T.aR (cJ (v:=.ty "bool") (by rfl) T.tM sT rfl) (by decide) fB fB ?_)
 walk_at "pp"
 refine (gm ?_ (gx ?_)).pt
 walk_at "pp"
 refine (fA (T := "tuple") (by rfl) T.aR (cJ (v:=.ty "tuple") (by rfl) T.jj ik rfl) (by decide) fB fB ?_)
 walk_at "pp"
 refine (nh ?_ tF (ua ?_))
 walk_at "pp"
 refine (bj (g:=(jM K 2 (bp (aI 6) (bp (aI 7) jP)))) O rfl (mz (by rfl) T.nQ ?_) kA (eC (n:=2) rfl (aH (aD (i:=6) bW.nd rfl (by walk_at "l")) (aH (aD (i:=7) bW.nd rfl (by walk_at "l")) cM))) c6 ?_)
 walk_at "pp"
 refine (nh ?_ (ua ?_) tF)
 walk_at "pp"
 refine (nh ?_ (ua ?_) tF)
 walk_at "pp"
 refine (vy ph lj vt ql ?_ ?_ ?_)
 walk_at "pp"
theorem gA:ax ["_law_numbers", "_law_found", "_law_number"] ["_law_numbers"] (ah (top 53)):=by walk_at "s"
theorem oy (F:aF K "_law_product" "_law_product" (top 53) dv f fd) (T:Txt K mg)  : aN P w K mg base (bM P w) 1 f fd ["_law_numbers"] (fm 1 cC) :=
 F.hV gA fun _ _ _ _ _ _ hr O=>by
 unfold dw;have:=gA.nd;have T2:=T;cases T2
 walk_at "pp"
 refine (bj (g:=(aI 2)) O rfl (eZ ?_) cY (aD (i:=2) gA.nd rfl (by walk_at "l")) bc ?_)
 walk_at "pp"
theorem c9:ax ["_law_sizes_here", "_law_levers_here", "_law_spans", "_law_row", "_law_lever_here", "_law_at", "_law_times"] ["_law_sizes_here", "_law_levers_here", "_law_spans", "_law_row", "_law_lever_here"] (ah (top 54)):=by walk_at "s"
theorem kI:((["_law_size"]:List Str)++([]:List Str)).Nodup:=by decide +kernel
theorem l4 (F:aF K "_law_idle_good" "_law_idle_good" (top 54) dv f fd) (T:Txt K mg) (o__law_turned:bL P w K mg base 2 "_law_turned" 4 (aw 7 cR)) (o__law_is_nought:bL P w K mg base 1 "_law_is_nought" 1 (aw 1 bq)):aN P w K mg base (bM P w) 3 f fd ["_law_sizes_here", "_law_levers_here", "_law_spans", "_law_row", "_law_lever_here"] (fm 5 dA) :=
 F.hV c9 fun _ _ _ _ _ _ hr O=>by
 unfold cF;have:=c9.nd;have T2:=T;cases T2
 walk_at "pp"
 refine (gm ?_ (gm ?_ (gx ?_))).pt
 walk_at "pp"
 refine (fA (T := "tuple") (by rfl) T.aR (cJ (v:=.ty "tuple") (by rfl) T.jj ik rfl) (by decide) fB fB ?_)
 walk_at "pp"
 refine (bj (g:=(jM K 2 (bp (aI 5) (bp (aI 6) jP)))) O rfl (jY (by rfl) T.bZ ?_) iI (eC (n:=2) rfl (aH (aD (i:=5) c9.nd rfl (by walk_at "l")) (aH (aD (i:=6) c9.nd rfl (by walk_at "l")) cM))) c6 ?_)
 walk_at "pp"
 refine (gm ?_ (gx ?_)).pt
 walk_at "pp"
 refine (Bt ?_ (xO ?_)).pt
 walk_at "pp"
 refine (Bt ?_ (xO ?_)).pt
 walk_at "pp"
 refine (vy ph lj vt ql ?_ ?_ ?_)
 walk_at "pp"
 refine (eD (bI (g:=(aI 0)) (ts:=["_law_size"]) (fs:=[]) (js:=[]) (cl:=[]) rfl rfl rfl rfl rfl rfl .nil .nil (eZ ?_) cY (fun _ _ _ _ _=>(aD (i:=0) kI rfl (by walk_at "l") (.inr rfl))) (fun _=>bc) cx (fun _ _ _ _ _=>?_)))
 walk_at "pp"
theorem kO:ax ["self", "sizes", "levers", "prices"] ["self", "sizes", "levers", "prices"] (ah (inClass (top 21) 0)):=by walk_at "s"
theorem ot:((["lever"]:List Str)++(["sizes"]:List Str)).Nodup:=by decide +kernel
theorem qv (F:aF K "__init__" "Vault.__init__" (inClass (top 21) 0) dv f fd) (T:Txt K mg) (o_need_sizes:bL P w K mg base 3 "need_sizes" 1 (aw 3 dF)) (o_need_levers:bL P w K mg base 3 "need_levers" 2 (aw 4 dZ)) (o_rests:bL P w K mg base 1 "rests" 2 (aw 2 kj)) (o_prices_for:bL P w K mg base 3 "prices_for" 2 (aw 3 e7)) (o_multiple_of:bL P w K mg base 2 "multiple_of" 1 (aw 3 cU)):aN P w K mg base (bM P w) 4 f fd ["self", "sizes", "levers", "prices"] (E5 4 aE eX) :=
 F.Uz kO (by decide) fun _ _ _ _ _ _ hr O=>by
 unfold gQ;have:=kO.nd;have T2:=T;cases T2
 walk_at "pp"
 refine (lu (i:=0) rfl (by first | exact .inl rfl | exact .inr (.inl rfl)) T.lP T.ie ?_)
 walk_at "pp"
 refine (lu (i:=0) rfl (by first | exact .inl rfl | exact .inr (.inl rfl)) T.lP T.fc ?_)
 walk_at "pp"
 refine (eD (bI (g:=(aI 0)) (ts:=["lever"]) (fs:=["sizes"]) (js:=[1]) rfl rfl rfl rfl rfl rfl (.cons rfl .nil) (.cons rfl rfl (by walk_at "l") rfl rfl .nil) (eZ ?_) cY (fun _ _ _ _ _=>(aD (i:=0) ot rfl (by walk_at "l") (.inr rfl))) (fun _=>bc) cx (fun _ _ _ _ _=>?_)))
 walk_at "pp"
 refine (lu (i:=0) rfl (by first | exact .inl rfl | exact .inr (.inl rfl)) T.lP T.gk ?_)
 walk_at "pp"
 refine (lu (i:=0) rfl (by first | exact .inl rfl | exact .inr (.inl rfl)) T.lP T.gB ?_)
 walk_at "pp"
theorem j7:ax ["self"] ["self"] (ah (inClass (top 21) 1)):=by walk_at "s"
theorem pR (F:aF K "sizes" "Vault.sizes" (inClass (top 21) 1) dv f fd) (T:Txt K mg)  : aN P w K mg base (bM P w) 1 f fd ["self"] (fm 1 a_) :=
 F.hV j7 fun _ _ _ _ _ _ hr O=>by
 unfold bA;have:=j7.nd;have T2:=T;cases T2
 walk_at "pp"
theorem jJ:ax ["self"] ["self"] (ah (inClass (top 21) 2)):=by walk_at "s"
theorem oz (F:aF K "levers" "Vault.levers" (inClass (top 21) 2) dv f fd) (T:Txt K mg)  : aN P w K mg base (bM P w) 1 f fd ["self"] (fm 1 bO) :=
 F.hV jJ fun _ _ _ _ _ _ hr O=>by
 unfold bQ;have:=jJ.nd;have T2:=T;cases T2
 walk_at "pp"
theorem jE:ax ["self"] ["self"] (ah (inClass (top 21) 3)):=by walk_at "s"
theorem oB (F:aF K "prices" "Vault.prices" (inClass (top 21) 3) dv f fd) (T:Txt K mg)  : aN P w K mg base (bM P w) 1 f fd ["self"] (fm 1 pN) :=
 F.hV jE fun _ _ _ _ _ _ hr O=>by
 unfold h9;have:=jE.nd;have T2:=T;cases T2
 walk_at "pp"
theorem ke:ax ["self", "sizes"] ["self"] (ah (inClass (top 39) 1)):=by walk_at "s"
theorem nr:((["dial"]:List Str)++(["self", "sizes"]:List Str)).Nodup:=by decide +kernel
theorem pM (F:aF K "steps" "Rungs.steps" (inClass (top 39) 1) dv f fd) (T:Txt K mg) (o_Vault_sizes:lh P w K mg base aE 1 "sizes" 1 (aw 1 bA)) (o_step_size:bL P w K mg base 1 "step_size" 3 (aw 4 de)):aN P w K mg base (bM P w) 2 f fd ["self"] (fm 1 fS) :=
 F.hV ke fun _ _ _ _ _ _ hr O=>by
 unfold dY;have:=ke.nd;have T2:=T;cases T2
 walk_at "pp"
 refine (eD (bI (g:=(aI 0)) (ts:=["dial"]) (fs:=["self", "sizes"]) (js:=[0,1]) rfl rfl rfl rfl rfl rfl (.cons rfl (.cons rfl .nil)) (.cons rfl rfl (by walk_at "l") rfl rfl (.cons rfl rfl (by walk_at "l") rfl rfl .nil)) (fE (by rfl) T.gc ?_) hU (fun _ _ _ _ _=>(aD (i:=0) nr rfl (by walk_at "l") (.inr rfl))) (fun _=>bc) cx (fun _ _ _ _ _=>?_)))
 walk_at "pp"
theorem iQ:ax ["self"] ["self"] (ah (inClass (top 39) 2)):=by walk_at "s"
theorem oh:((["made"]:List Str)++([]:List Str)).Nodup:=by decide +kernel
theorem n_:((["made"]:List Str)++([]:List Str)).Nodup:=by decide +kernel
theorem qA (F:aF K "rows" "Rungs.rows" (inClass (top 39) 2) dv f fd) (T:Txt K mg)  : aN P w K mg base (bM P w) 1 f fd ["self"] (fm 1 e6) :=
 F.hV iQ fun _ _ _ _ _ _ hr O=>by
 unfold fg;have:=iQ.nd;have T2:=T;cases T2
 walk_at "pp"
 refine (eD (bI (g:=(aI 0)) (ts:=["made"]) (fs:=[]) (js:=[]) (cl:=[]) rfl rfl rfl rfl rfl rfl .nil .nil (eZ ?_) cY (fun _ _ _ _ _=>(aD (i:=0) oh rfl (by walk_at "l") (.inr rfl))) (fun _=>bc) cx (fun _ _ _ _ _=>?_)))
 walk_at "pp"
theorem qi (F:aF K "rows" "Rungs.rows" (inClass (top 39) 2) dv f fd) (T:Txt K mg)  : aN P w K mg base (bM P w) 1 f fd ["self"] (JA 1 dH) :=
 F.Vz iQ rfl fun _ _ _ _ _ _ hr O=>by
 have T2:=T;cases T2
 walk_at "pp"
 refine (bI (g:=(aI 0)) (ts:=["made"]) (fs:=[]) (js:=[]) (cl:=[]) rfl rfl rfl rfl rfl rfl .nil .nil (eZ ?_) cY (fun _ _ _ _ _=>(aD (i:=0) n_ rfl (by walk_at "l") (.inr rfl))) (fun _=>bc) cx (fun _ _ _ _ _=>?_))
 walk_at "pp"
theorem jX:ax ["self"] ["self"] (ah (inClass (top 39) 3)):=by walk_at "s"
theorem jd:((["lever", "row"]:List Str)++([]:List Str)).Nodup:=by decide +kernel
theorem oO (F:aF K "spans" "Rungs.spans" (inClass (top 39) 3) dv f fd) (T:Txt K mg)  : aN P w K mg base (bM P w) 1 f fd ["self"] (fm 1 f6) :=
 F.hV jX fun _ _ _ _ _ _ hr O=>by
 unfold dU;have:=jX.nd;have T2:=T;cases T2
 walk_at "pp"
 refine (eD (bI (g:=(jM K 2 (bp (aI 0) (bp (aI 1) jP)))) (ts:=["lever", "row"]) (fs:=[]) (js:=[]) (cl:=[]) rfl rfl rfl rfl rfl rfl .nil .nil (jY (by rfl) T.bZ ?_) iI (fun _ _ _ _ _=>(eC (n:=2) rfl (aH (aD (i:=0) jd rfl (by walk_at "l") (.inr rfl)) (aH (aD (i:=1) jd rfl (by walk_at "l") (.inr rfl)) cM)))) (fun _=>c6) hX (fun _ _ _ _ _=>?_)))
 walk_at "pp"
theorem kW:ax ["self"] ["self"] (ah (inClass (top 39) 4)):=by walk_at "s"
theorem qM (F:aF K "idle" "Rungs.idle" (inClass (top 39) 4) dv f fd) (T:Txt K mg)  : aN P w K mg base (bM P w) 1 f fd ["self"] (fm 1 gL) :=
 F.hV kW fun _ _ _ _ _ _ hr O=>by
 unfold eO;have:=kW.nd;have T2:=T;cases T2
 walk_at "pp"
theorem rW:ax ["vault"] ["vault"] (ah (top 27)):=by walk_at "s"
theorem yx (F:aF K "nought" "nought" (top 27) dv f fd) (T:Txt K mg) (o_Vault_sizes:lh P w K mg base aE 1 "sizes" 1 (aw 1 bA)):aN P w K mg base (bM P w) 2 f fd ["vault"] (fm 1 iZ) :=
 F.hV rW fun _ _ _ _ _ _ hr O=>by
 unfold iY;have:=rW.nd;have T2:=T;cases T2
 walk_at "pp"
theorem kQ:ax ["vault", "thing", "sizes"] ["vault", "thing"] (ah (top 28)):=by walk_at "s"
theorem jF:((["notch", "size"]:List Str)++([]:List Str)).Nodup:=by decide +kernel
theorem qC (F:aF K "is_setting" "is_setting" (top 28) dv f fd) (T:Txt K mg) (o_Vault_sizes:lh P w K mg base aE 1 "sizes" 1 (aw 1 bA)) (o_is_row:bL P w K mg base 2 "is_row" 2 (aw 2 iW)):aN P w K mg base (bM P w) 3 f fd ["vault", "thing"] (fm 2 aQ) :=
 F.hV kQ fun _ _ _ _ _ _ hr O=>by
 unfold ck;have:=kQ.nd;have T2:=T;cases T2
 walk_at "pp"
 refine (gm ?_ (gx ?_)).pt
 walk_at "pp"
 refine (fA (T := "tuple") (by rfl) T.aR (cJ (v:=.ty "tuple") (by rfl) T.jj ik rfl) (by decide) fB fB ?_)
 walk_at "pp"
 refine (eD (bI (g:=(jM K 2 (bp (aI 0) (bp (aI 1) jP)))) (ts:=["notch", "size"]) (fs:=[]) (js:=[]) (cl:=[]) rfl rfl rfl rfl rfl rfl .nil .nil (mz (by rfl) T.nQ ?_) kA (fun _ _ _ _ _=>(eC (n:=2) rfl (aH (aD (i:=0) jF rfl (by walk_at "l") (.inr rfl)) (aH (aD (i:=1) jF rfl (by walk_at "l") (.inr rfl)) cM)))) (fun _=>c6) hX (fun _ _ _ _ _=>?_)))
 walk_at "pp"
 refine (uZ ph lj vt ql ?_ ?_ ?_)
 walk_at "pp"
theorem jI:ax ["vault", "thing"] ["vault", "thing"] (ah (top 29)):=by walk_at "s"
theorem oo (F:aF K "need_setting" "need_setting" (top 29) dv f fd) (T:Txt K mg) (o_is_setting:bL P w K mg base 3 "is_setting" 2 (aw 3 ck)):aN P w K mg base (bM P w) 4 f fd ["vault", "thing"] (fm 2 cA) :=
 F.hV jI fun _ _ _ _ _ _ hr O=>by
 unfold cz;have:=jI.nd;have T2:=T;cases T2
 walk_at "pp"
theorem nL:ax ["vault", "setting"] ["vault", "setting"] (ah (top 33)):=by walk_at "s"
theorem vv (F:aF K "unpulled" "unpulled" (top 33) dv f fd) (T:Txt K mg) (o_Vault_levers:lh P w K mg base aE 1 "levers" 1 (aw 1 bQ)):aN P w K mg base (bM P w) 2 f fd ["vault", "setting"] (fm 2 fK) :=
 F.hV nL fun _ _ _ _ _ _ hr O=>by
 unfold fz;have:=nL.nd;have T2:=T;cases T2
 walk_at "pp"
theorem ki:ax ["vault", "lever", "levers"] ["vault", "lever"] (ah (top 34)):=by walk_at "s"
theorem pH (F:aF K "pulled_once" "pulled_once" (top 34) dv f fd) (T:Txt K mg) (o_Vault_levers:lh P w K mg base aE 1 "levers" 1 (aw 1 bQ)) (o_unit_row:bL P w K mg base 1 "unit_row" 2 (aw 2 g8)):aN P w K mg base (bM P w) 2 f fd ["vault", "lever"] (fm 2 fZ) :=
 F.hV ki fun _ _ _ _ _ _ hr O=>by
 unfold dS;have:=ki.nd;have T2:=T;cases T2
 walk_at "pp"
theorem bP:ax ["_law_rungs", "_law_sizes_here", "_law_levers_here", "_law_steps", "_law_spans", "_law_idle", "_law_span", "_law_lever_here", "_law_row"] ["_law_rungs", "_law_sizes_here", "_law_levers_here", "_law_steps"] (ah (top 55)):=by walk_at "s"
theorem k6 (F:aF K "_law_spans_good" "_law_spans_good" (top 55) dv f fd) (T:Txt K mg) (o_Rungs_spans:lh P w K mg base av 1 "spans" 1 (aw 1 dU)) (o_Rungs_idle:lh P w K mg base av 1 "idle" 1 (aw 1 eO)) (o__law_product:bL P w K mg base 1 "_law_product" 1 (aw 3 dw)) (o__law_idle_good:bL P w K mg base 3 "_law_idle_good" 5 (aw 7 cF)):aN P w K mg base (bM P w) 4 f fd ["_law_rungs", "_law_sizes_here", "_law_levers_here", "_law_steps"] (fm 4 da) :=
 F.hV bP fun _ _ _ _ _ _ hr O=>by
 unfold cq;have:=bP.nd;have T2:=T;cases T2
 walk_at "pp"
 refine (gm ?_ (gm ?_ (gx ?_))).pt
 walk_at "pp"
 refine (fA (T := "tuple") (by rfl) T.aR (cJ (v:=.ty "tuple") (by rfl) T.jj ik rfl) (by decide) fB fB ?_)
 walk_at "pp"
 refine (fA (T := "list") (by rfl) T.aR (cJ (v:=.ty "list") (by rfl) T.uO oC rfl) (by decide) fB fB ?_)
 walk_at "pp"
 refine (bj (g:=(aI 6)) O rfl (eZ ?_) cY (aD (i:=6) bP.nd rfl (by walk_at "l")) bc ?_)
 walk_at "pp"
 refine (gm ?_ (gm ?_ (gx ?_))).pt
 walk_at "pp"
 refine (fA (T := "int") (by rfl) T.aR (cJ (v:=.ty "int") (by rfl) T.xW t6 rfl) (by decide) fB fB ?_)
 walk_at "pp"
 refine (fA (T := "bool") (by rfl) T.aR (cJ (v:=.ty "bool") (by rfl) T.tM sT rfl) (by decide) fB fB ?_)
 walk_at "pp"
 refine (gm ?_ (gx ?_)).pt
 walk_at "pp"
 refine (bj (g:=(jM K 2 (bp (aI 7) (bp (aI 8) jP)))) O rfl (jY (by rfl) T.bZ ?_) iI (eC (n:=2) rfl (aH (aD (i:=7) bP.nd rfl (by walk_at "l")) (aH (aD (i:=8) bP.nd rfl (by walk_at "l")) cM))) c6 ?_)
 walk_at "pp"
theorem iP:ax ["self", "vault", "sizes", "made_rows", "idle_rows", "lever", "taken"] ["self", "vault"] (ah (inClass (top 39) 0)):=by walk_at "s"
theorem oj:((["size"]:List Str)++(["vault"]:List Str)).Nodup:=by decide +kernel
theorem jH:((["dial", "made"]:List Str)++(["sizes", "made_rows"]:List Str)).Nodup:=by decide +kernel
theorem qV (F:aF K "__init__" "Rungs.__init__" (inClass (top 39) 0) dv f fd) (T:Txt K mg) (o_Vault_sizes:lh P w K mg base aE 1 "sizes" 1 (aw 1 bA)) (o_nought:bL P w K mg base 2 "nought" 1 (aw 1 iY)) (o_unpulled:bL P w K mg base 2 "unpulled" 2 (aw 2 fz)) (o_Vault_levers:lh P w K mg base aE 1 "levers" 1 (aw 1 bQ)) (o_pulled_once:bL P w K mg base 2 "pulled_once" 2 (aw 3 dS)) (o_taken_in:bL P w K mg base 3 "taken_in" 3 (aw 9 ig)) (o_in_spans:bL P w K mg base 2 "in_spans" 2 (aw 4 fF)) (o_lowered:bL P w K mg base 3 "lowered" 4 (aw 6 gY)):aN P w K mg base (bM P w) 4 f fd ["self", "vault"] (E5 2 av iK) :=
 F.Uz iP (by decide) fun _ _ _ _ _ _ hr O=>by
 unfold jv;have:=iP.nd;have T2:=T;cases T2
 walk_at "pp"
 refine (eD (bI (g:=(aI 0)) (ts:=["size"]) (fs:=["vault"]) (js:=[1]) rfl rfl rfl rfl rfl rfl (.cons rfl .nil) (.cons rfl rfl (by walk_at "l") rfl rfl .nil) (eZ ?_) cY (fun _ _ _ _ _=>(aD (i:=0) oj rfl (by walk_at "l") (.inr rfl))) (fun _=>bc) cx (fun _ _ _ _ _=>?_)))
 walk_at "pp"
 refine (bj (g:=(aI 5)) O rfl (fE (by rfl) T.gc ?_) hU (aD (i:=5) iP.nd rfl (by walk_at "l")) bc ?_)
 walk_at "pp"
 refine (Ex 4 ?_)
 walk_at "pp"
 refine (lu (i:=0) rfl (by first | exact .inl rfl | exact .inr (.inl rfl)) T.oJ T.kS ?_)
 walk_at "pp"
 refine (lu (i:=0) rfl (by first | exact .inl rfl | exact .inr (.inl rfl)) T.oJ T.iz ?_)
 walk_at "pp"
 refine (eD (bI (g:=(jM K 2 (bp (aI 0) (bp (aI 1) jP)))) (ts:=["dial", "made"]) (fs:=["sizes", "made_rows"]) (js:=[2,3]) rfl rfl rfl rfl rfl rfl (.cons rfl (.cons rfl .nil)) (.cons rfl rfl (by walk_at "l") rfl rfl (.cons rfl rfl (by walk_at "l") rfl rfl .nil)) (jY (by rfl) T.bZ ?_) iI (fun _ _ _ _ _=>(eC (n:=2) rfl (aH (aD (i:=0) jH rfl (by walk_at "l") (.inr rfl)) (aH (aD (i:=1) jH rfl (by walk_at "l") (.inr rfl)) cM)))) (fun _=>c6) hX (fun _ _ _ _ _=>?_)))
 walk_at "pp"
 refine (lu (i:=0) rfl (by first | exact .inl rfl | exact .inr (.inl rfl)) T.oJ T.iD ?_)
 walk_at "pp"
theorem fw:ax ["self", "setting"] ["self", "setting"] (ah (inClass (top 39) 5)):=by walk_at "s"
theorem jO (F:aF K "brought_down" "Rungs.brought_down" (inClass (top 39) 5) dv f fd) (T:Txt K mg) (o_need_setting:bL P w K mg base 4 "need_setting" 2 (aw 2 cz)) (o_unpulled:bL P w K mg base 2 "unpulled" 2 (aw 2 fz)) (o_Vault_sizes:lh P w K mg base aE 1 "sizes" 1 (aw 1 bA)) (o_lowered:bL P w K mg base 3 "lowered" 4 (aw 6 gY)):aN P w K mg base (bM P w) 5 f fd ["self", "setting"] (fm 2 aP) :=
 F.hV fw fun _ _ _ _ _ _ hr O=>by
 unfold aU;have:=fw.nd;have T2:=T;cases T2
 walk_at "pp"
theorem ka:ax ["self", "setting"] ["self", "setting"] (ah (inClass (top 39) 6)):=by walk_at "s"
theorem qf (F:aF K "least" "Rungs.least" (inClass (top 39) 6) dv f fd) (T:Txt K mg) (o_Rungs_brought_down:lh P w K mg base av 5 "brought_down" 2 (aw 2 aU)):aN P w K mg base (bM P w) 6 f fd ["self", "setting"] (fm 2 dP) :=
 F.hV ka fun _ _ _ _ _ _ hr O=>by
 unfold dX;have:=ka.nd;have T2:=T;cases T2
 walk_at "pp"
theorem ix:ax ["self", "setting", "made"] ["self", "setting"] (ah (inClass (top 39) 7)):=by walk_at "s"
theorem kJ:((["times"]:List Str)++([]:List Str)).Nodup:=by decide +kernel
theorem lX (F:aF K "pulls_to" "Rungs.pulls_to" (inClass (top 39) 7) dv f fd) (T:Txt K mg) (o_Rungs_brought_down:lh P w K mg base av 5 "brought_down" 2 (aw 2 aU)) (o_nought:bL P w K mg base 2 "nought" 1 (aw 1 iY)) (o_in_spans:bL P w K mg base 2 "in_spans" 2 (aw 4 fF)):aN P w K mg base (bM P w) 6 f fd ["self", "setting"] (fm 2 aY) :=
 F.hV ix fun _ _ _ _ _ _ hr O=>by
 unfold bw;have:=ix.nd;have T2:=T;cases T2
 walk_at "pp"
 refine (eD (bI (g:=(aI 0)) (ts:=["times"]) (fs:=[]) (js:=[]) (cl:=[]) rfl rfl rfl rfl rfl rfl .nil .nil (eZ ?_) cY (fun _ _ _ _ _=>(aD (i:=0) kJ rfl (by walk_at "l") (.inr rfl))) (fun _=>bc) cx (fun _ _ _ _ _=>?_)))
 walk_at "pp"
theorem uD:ax ["_law_script", "_law_sizes_here", "_law_levers_here", "_law_rungs", "_law_steps", "_law_rows", "_law_dial", "_law_pulls", "_law_row", "_law_lever_here", "_law_once"] ["_law_script"] (ah (top 56)):=by walk_at "s"
theorem G4 (F:aF K "law" "law" (top 56) dv f fd) (T:Txt K mg) (o__law_cell:bL P w K mg base 1 "_law_cell" 2 (aw 2 eH)) (o__law_sizes:bL P w K mg base 2 "_law_sizes" 1 (aw 4 eP)) (o__law_levers:bL P w K mg base 3 "_law_levers" 2 (aw 5 dO)) (o_Vault_init:Gi P w K mg base aE 4 "Vault" 4 [.cI] eX) (o_Rungs_init:Gi P w K mg base av 4 "Rungs" 2 [] iK) (o_Rungs_steps:lh P w K mg base av 2 "steps" 1 (aw 2 dY)) (o_Rungs_rows:lh P w K mg base av 1 "rows" 1 (aw 1 fg)) (o__law_step_good:bL P w K mg base 3 "_law_step_good" 4 (aw 9 cD)) (o_Rungs_pulls_to:lh P w K mg base av 6 "pulls_to" 2 (aw 3 bw)) (o__law_turned:bL P w K mg base 2 "_law_turned" 4 (aw 7 cR)) (o__law_added:bL P w K mg base 1 "_law_added" 4 (aw 4 bJ)) (o__law_brought_down:bL P w K mg base 2 "_law_brought_down" 4 (aw 7 bh)) (o__law_is_nought:bL P w K mg base 1 "_law_is_nought" 1 (aw 1 bq)) (o__law_spans_good:bL P w K mg base 4 "_law_spans_good" 4 (aw 9 cq)) (q_Rungs_rows:Eg P w K mg base av 1 "rows" dH):aN P w K mg base (bM P w) 7 f fd ["_law_script"] (fm 1 sq) :=
 F.hV uD fun _ _ _ _ _ _ hr O=>by
 unfold BM;have:=uD.nd;have T2:=T;cases T2
 walk_at "pp"
 refine (gm ?_ (gx ?_)).pt
 walk_at "pp"
 refine (fA (T := "tuple") (by rfl) T.aR (cJ (v:=.ty "tuple") (by rfl) T.jj ik rfl) (by decide) fB fB ?_)
 walk_at "pp"
 refine (fA (T := "list") (by rfl) T.aR (cJ (v:=.ty "list") (by rfl) T.uO oC rfl) (by decide) fB fB ?_)
 walk_at "pp"
 refine (gm ?_ (gx ?_)).pt
 walk_at "pp"
 refine (bj (g:=(aI 6)) O rfl (fE (by rfl) T.gc ?_) hU (aD (i:=6) uD.nd rfl (by walk_at "l")) bc ?_)
 walk_at "pp"
 refine (bj (g:=(aI 8)) O rfl (eZ ?_) cY (aD (i:=8) uD.nd rfl (by walk_at "l")) bc ?_)
 walk_at "pp"
 refine (zE (q_Rungs_rows.AO hr (by omega) O ?_))
 walk_at "pp"
end wz
namespace wz
open PySem L2 PyProof.Rows
open PySem.W (nsIn findIn codeIn keepIn isFn mroIn specialIn takesIn hasDictIn typeIn plainGet plainOver makesIn mg_of mg_none_of fnOf excIn clsIn)
noncomputable abbrev κ (w:World):PySem.W.Frag:=HD.K w.params
variable (w:World)
def iG:FuncData:=fnOf "is_whole" "is_whole" (aB (top 9)) (aA (top 9)) (ah (top 9)) .none .none .none (HD.st "dialvault.wholes" 363) none (.ref 163) .none
theorem u1:(κ w).lookup 164=some ⟨.type "function", none,.func iG,⟨[]⟩⟩:=by kernel_rfl
theorem u2:codeIn (κ w) (.ref 163) "is_whole" = true:=by kernel_rfl
theorem u3:keepIn (κ w) (.ref 164)=true:=by kernel_rfl
theorem w8:aF (κ w) "is_whole" "is_whole" (top 9) .none 164 iG:=⟨⟨_,_,_,_,_,_,_,_,_,rfl,(u1 w),(u2 w)⟩,(u3 w)⟩
theorem xB:Binds (κ w) iG ["thing"] []:=Binds.all fun us hl=>by obtain ⟨a,rfl⟩:=wx hl;rfl
def ko:FuncData:=fnOf "is_row" "is_row" (aB (top 10)) (aA (top 10)) (ah (top 10)) .none .none .none (HD.st "dialvault.wholes" 363) none (.ref 168) .none
theorem u4:(κ w).lookup 169=some ⟨.type "function", none,.func ko,⟨[]⟩⟩:=by kernel_rfl
theorem u5:codeIn (κ w) (.ref 168) "is_row" = true:=by kernel_rfl
theorem u6:keepIn (κ w) (.ref 169)=true:=by kernel_rfl
theorem Ai:aF (κ w) "is_row" "is_row" (top 10) .none 169 ko:=⟨⟨_,_,_,_,_,_,_,_,_,rfl,(u4 w),(u5 w)⟩,(u6 w)⟩
theorem A1:Binds (κ w) ko ["thing", "length"] []:=Binds.all fun us hl=>by obtain ⟨a,b,rfl⟩:=ln2 hl;rfl
def kD:FuncData:=fnOf "common" "common" (aB (top 11)) (aA (top 11)) (ah (top 11)) .none .none .none (HD.st "dialvault.wholes" 363) none (.ref 175) .none
theorem u7:(κ w).lookup 176=some ⟨.type "function", none,.func kD,⟨[]⟩⟩:=by kernel_rfl
theorem u8:codeIn (κ w) (.ref 175) "common" = true:=by kernel_rfl
theorem u9:keepIn (κ w) (.ref 176)=true:=by kernel_rfl
theorem AS:aF (κ w) "common" "common" (top 11) .none 176 kD:=⟨⟨_,_,_,_,_,_,_,_,_,rfl,(u7 w),(u8 w)⟩,(u9 w)⟩
theorem BL:Binds (κ w) kD ["one", "other"] []:=Binds.all fun us hl=>by obtain ⟨a,b,rfl⟩:=ln2 hl;rfl
def eV:FuncData:=fnOf "multiple_of" "multiple_of" (aB (top 12)) (aA (top 12)) (ah (top 12)) .none .none .none (HD.st "dialvault.wholes" 363) none (.ref 182) .none
theorem Vi:(κ w).lookup 183=some ⟨.type "function", none,.func eV,⟨[]⟩⟩:=by kernel_rfl
theorem Xy:codeIn (κ w) (.ref 182) "multiple_of" = true:=by kernel_rfl
theorem UA:keepIn (κ w) (.ref 183)=true:=by kernel_rfl
theorem qS:aF (κ w) "multiple_of" "multiple_of" (top 12) .none 183 eV:=⟨⟨_,_,_,_,_,_,_,_,_,rfl,(Vi w),(Xy w)⟩,(UA w)⟩
theorem qX:Binds (κ w) eV ["numbers"] []:=Binds.all fun us hl=>by obtain ⟨a,rfl⟩:=wx hl;rfl
def iO:FuncData:=fnOf "unit_row" "unit_row" (aB (top 13)) (aA (top 13)) (ah (top 13)) .none .none .none (HD.st "dialvault.wholes" 363) none (.ref 187) .none
theorem Vb:(κ w).lookup 188=some ⟨.type "function", none,.func iO,⟨[]⟩⟩:=by kernel_rfl
theorem WN:codeIn (κ w) (.ref 187) "unit_row" = true:=by kernel_rfl
theorem Uq:keepIn (κ w) (.ref 188)=true:=by kernel_rfl
theorem wY:aF (κ w) "unit_row" "unit_row" (top 13) .none 188 iO:=⟨⟨_,_,_,_,_,_,_,_,_,rfl,(Vb w),(WN w)⟩,(Uq w)⟩
theorem w4:Binds (κ w) iO ["length", "place"] []:=Binds.all fun us hl=>by obtain ⟨a,b,rfl⟩:=ln2 hl;rfl
def gO:FuncData:=fnOf "is_within" "is_within" (aB (top 22)) (aA (top 22)) (ah (top 22)) .none .none .none (HD.st "dialvault.vault" 405) none (.ref 242) .none
theorem WA:(κ w).lookup 243=some ⟨.type "function", none,.func gO,⟨[]⟩⟩:=by kernel_rfl
theorem WL:codeIn (κ w) (.ref 242) "is_within" = true:=by kernel_rfl
theorem T8:keepIn (κ w) (.ref 243)=true:=by kernel_rfl
theorem vq:aF (κ w) "is_within" "is_within" (top 22) .none 243 gO:=⟨⟨_,_,_,_,_,_,_,_,_,rfl,(WA w),(WL w)⟩,(T8 w)⟩
theorem u_:Binds (κ w) gO ["thing", "least", "most"] []:=Binds.all fun us hl=>by obtain ⟨a,b,c,rfl⟩:=IK hl;rfl
def fX:FuncData:=fnOf "need_sizes" "need_sizes" (aB (top 23)) (aA (top 23)) (ah (top 23)) .none .none .none (HD.st "dialvault.vault" 405) none (.ref 249) .none
theorem Wd:(κ w).lookup 250=some ⟨.type "function", none,.func fX,⟨[]⟩⟩:=by kernel_rfl
theorem Xi:codeIn (κ w) (.ref 249) "need_sizes" = true:=by kernel_rfl
theorem UE:keepIn (κ w) (.ref 250)=true:=by kernel_rfl
theorem sW:aF (κ w) "need_sizes" "need_sizes" (top 23) .none 250 fX:=⟨⟨_,_,_,_,_,_,_,_,_,rfl,(Wd w),(Xi w)⟩,(UE w)⟩
theorem uz:Binds (κ w) fX ["sizes"] []:=Binds.all fun us hl=>by obtain ⟨a,rfl⟩:=wx hl;rfl
def eU:FuncData:=fnOf "need_levers" "need_levers" (aB (top 24)) (aA (top 24)) (ah (top 24)) .none .none .none (HD.st "dialvault.vault" 405) none (.ref 256) .none
theorem Vh:(κ w).lookup 257=some ⟨.type "function", none,.func eU,⟨[]⟩⟩:=by kernel_rfl
theorem Wc:codeIn (κ w) (.ref 256) "need_levers" = true:=by kernel_rfl
theorem Uj:keepIn (κ w) (.ref 257)=true:=by kernel_rfl
theorem rg:aF (κ w) "need_levers" "need_levers" (top 24) .none 257 eU:=⟨⟨_,_,_,_,_,_,_,_,_,rfl,(Vh w),(Wc w)⟩,(Uj w)⟩
theorem rL:Binds (κ w) eU ["levers", "dials"] []:=Binds.all fun us hl=>by obtain ⟨a,b,rfl⟩:=ln2 hl;rfl
def gg:FuncData:=fnOf "prices_for" "prices_for" (aB (top 25)) (aA (top 25)) (ah (top 25)) .none .none .none (HD.st "dialvault.vault" 405) none (.ref 263) .none
theorem UY:(κ w).lookup 264=some ⟨.type "function", none,.func gg,⟨[]⟩⟩:=by kernel_rfl
theorem Vs:codeIn (κ w) (.ref 263) "prices_for" = true:=by kernel_rfl
theorem UC:keepIn (κ w) (.ref 264)=true:=by kernel_rfl
theorem sN:aF (κ w) "prices_for" "prices_for" (top 25) .none 264 gg:=⟨⟨_,_,_,_,_,_,_,_,_,rfl,(UY w),(Vs w)⟩,(UC w)⟩
theorem uu:Binds (κ w) gg ["levers", "prices"] []:=Binds.all fun us hl=>by obtain ⟨a,b,rfl⟩:=ln2 hl;rfl
def lO:FuncData:=fnOf "rests" "rests" (aB (top 26)) (aA (top 26)) (ah (top 26)) .none .none .none (HD.st "dialvault.vault" 405) none (.ref 268) .none
theorem Wt:(κ w).lookup 269=some ⟨.type "function", none,.func lO,⟨[]⟩⟩:=by kernel_rfl
theorem Xx:codeIn (κ w) (.ref 268) "rests" = true:=by kernel_rfl
theorem Uw:keepIn (κ w) (.ref 269)=true:=by kernel_rfl
theorem DJ:aF (κ w) "rests" "rests" (top 26) .none 269 lO:=⟨⟨_,_,_,_,_,_,_,_,_,rfl,(Wt w),(Xx w)⟩,(Uw w)⟩
theorem DZ:Binds (κ w) lO ["numbers", "sizes"] []:=Binds.all fun us hl=>by obtain ⟨a,b,rfl⟩:=ln2 hl;rfl
def lB:FuncData:=fnOf "mixed" "mixed" (aB (top 31)) (aA (top 31)) (ah (top 31)) .none .none .none (HD.st "dialvault.rungs" 541) none (.ref 292) .none
theorem Vu:(κ w).lookup 293=some ⟨.type "function", none,.func lB,⟨[]⟩⟩:=by kernel_rfl
theorem Vl:codeIn (κ w) (.ref 292) "mixed" = true:=by kernel_rfl
theorem Uu:keepIn (κ w) (.ref 293)=true:=by kernel_rfl
theorem Ew:aF (κ w) "mixed" "mixed" (top 31) .none 293 lB:=⟨⟨_,_,_,_,_,_,_,_,_,rfl,(Vu w),(Vl w)⟩,(Uu w)⟩
theorem DX:Binds (κ w) lB ["row", "times", "other", "others"] []:=Binds.all fun us hl=>by obtain ⟨a,b,c,d,rfl⟩:=ET hl;rfl
def fV:FuncData:=fnOf "mixed_made" "mixed_made" (aB (top 32)) (aA (top 32)) (ah (top 32)) .none .none .none (HD.st "dialvault.rungs" 541) none (.ref 299) .none
theorem WQ:(κ w).lookup 300=some ⟨.type "function", none,.func fV,⟨[]⟩⟩:=by kernel_rfl
theorem Xl:codeIn (κ w) (.ref 299) "mixed_made" = true:=by kernel_rfl
theorem T7:keepIn (κ w) (.ref 300)=true:=by kernel_rfl
theorem uc:aF (κ w) "mixed_made" "mixed_made" (top 32) .none 300 fV:=⟨⟨_,_,_,_,_,_,_,_,_,rfl,(WQ w),(Xl w)⟩,(T7 w)⟩
theorem t_:Binds (κ w) fV ["sizes", "made", "times", "other", "others"] []:=Binds.all fun us hl=>by obtain ⟨a,b,c,d,e,rfl⟩:=UL hl;rfl
def gH:FuncData:=fnOf "step_size" "step_size" (aB (top 35)) (aA (top 35)) (ah (top 35)) .none .none .none (HD.st "dialvault.rungs" 541) none (.ref 320) .none
theorem U4:(κ w).lookup 321=some ⟨.type "function", none,.func gH,⟨[]⟩⟩:=by kernel_rfl
theorem Wh:codeIn (κ w) (.ref 320) "step_size" = true:=by kernel_rfl
theorem T1:keepIn (κ w) (.ref 321)=true:=by kernel_rfl
theorem vh:aF (κ w) "step_size" "step_size" (top 35) .none 321 gH:=⟨⟨_,_,_,_,_,_,_,_,_,rfl,(U4 w),(Wh w)⟩,(T1 w)⟩
theorem vJ:Binds (κ w) gH ["sizes", "made_rows", "dial"] []:=Binds.all fun us hl=>by obtain ⟨a,b,c,rfl⟩:=IK hl;rfl
def iJ:FuncData:=fnOf "taken_in" "taken_in" (aB (top 36)) (aA (top 36)) (ah (top 36)) .none .none .none (HD.st "dialvault.rungs" 541) none (.ref 327) .none
theorem WS:(κ w).lookup 328=some ⟨.type "function", none,.func iJ,⟨[]⟩⟩:=by kernel_rfl
theorem WV:codeIn (κ w) (.ref 327) "taken_in" = true:=by kernel_rfl
theorem UB:keepIn (κ w) (.ref 328)=true:=by kernel_rfl
theorem wA:aF (κ w) "taken_in" "taken_in" (top 36) .none 328 iJ:=⟨⟨_,_,_,_,_,_,_,_,_,rfl,(WS w),(WV w)⟩,(UB w)⟩
theorem xk:Binds (κ w) iJ ["sizes", "made_rows", "left"] []:=Binds.all fun us hl=>by obtain ⟨a,b,c,rfl⟩:=IK hl;rfl
def jx:FuncData:=fnOf "lowered" "lowered" (aB (top 37)) (aA (top 37)) (ah (top 37)) .none .none .none (HD.st "dialvault.rungs" 541) none (.ref 334) .none
theorem VC:(κ w).lookup 335=some ⟨.type "function", none,.func jx,⟨[]⟩⟩:=by kernel_rfl
theorem WE:codeIn (κ w) (.ref 334) "lowered" = true:=by kernel_rfl
theorem T6:keepIn (κ w) (.ref 335)=true:=by kernel_rfl
theorem zy:aF (κ w) "lowered" "lowered" (top 37) .none 335 jx:=⟨⟨_,_,_,_,_,_,_,_,_,rfl,(VC w),(WE w)⟩,(T6 w)⟩
theorem yK:Binds (κ w) jx ["sizes", "made_rows", "made", "first"] []:=Binds.all fun us hl=>by obtain ⟨a,b,c,d,rfl⟩:=ET hl;rfl
def iC:FuncData:=fnOf "in_spans" "in_spans" (aB (top 38)) (aA (top 38)) (ah (top 38)) .none .none .none (HD.st "dialvault.rungs" 541) none (.ref 341) .none
theorem We:(κ w).lookup 342=some ⟨.type "function", none,.func iC,⟨[]⟩⟩:=by kernel_rfl
theorem Vo:codeIn (κ w) (.ref 341) "in_spans" = true:=by kernel_rfl
theorem Um:keepIn (κ w) (.ref 342)=true:=by kernel_rfl
theorem wO:aF (κ w) "in_spans" "in_spans" (top 38) .none 342 iC:=⟨⟨_,_,_,_,_,_,_,_,_,rfl,(We w),(Vo w)⟩,(Um w)⟩
theorem wV:Binds (κ w) iC ["pulls", "idle_rows"] []:=Binds.all fun us hl=>by obtain ⟨a,b,rfl⟩:=ln2 hl;rfl
def gF:FuncData:=fnOf "_law_cell" "_law_cell" (aB (top 41)) (aA (top 41)) (ah (top 41)) .none .none .none (HD.st "law_dialvault_k23_steps_walked" 709) none (.ref 415) .none
theorem WR:(κ w).lookup 416=some ⟨.type "function", none,.func gF,⟨[]⟩⟩:=by kernel_rfl
theorem Wa:codeIn (κ w) (.ref 415) "_law_cell" = true:=by kernel_rfl
theorem Ux:keepIn (κ w) (.ref 416)=true:=by kernel_rfl
theorem wb:aF (κ w) "_law_cell" "_law_cell" (top 41) .none 416 gF:=⟨⟨_,_,_,_,_,_,_,_,_,rfl,(WR w),(Wa w)⟩,(Ux w)⟩
theorem vL:Binds (κ w) gF ["_law_script", "_law_k"] []:=Binds.all fun us hl=>by obtain ⟨a,b,rfl⟩:=ln2 hl;rfl
def fj:FuncData:=fnOf "_law_stream" "_law_stream" (aB (top 42)) (aA (top 42)) (ah (top 42)) .none .none .none (HD.st "law_dialvault_k23_steps_walked" 709) none (.ref 422) .none
theorem XB:(κ w).lookup 423=some ⟨.type "function", none,.func fj,⟨[]⟩⟩:=by kernel_rfl
theorem Vc:codeIn (κ w) (.ref 422) "_law_stream" = true:=by kernel_rfl
theorem T4:keepIn (κ w) (.ref 423)=true:=by kernel_rfl
theorem rG:aF (κ w) "_law_stream" "_law_stream" (top 42) .none 423 fj:=⟨⟨_,_,_,_,_,_,_,_,_,rfl,(XB w),(Vc w)⟩,(T4 w)⟩
theorem qH:Binds (κ w) fj ["_law_cell_here", "_law_many"] []:=Binds.all fun us hl=>by obtain ⟨a,b,rfl⟩:=ln2 hl;rfl
def eY:FuncData:=fnOf "_law_digits" "_law_digits" (aB (top 43)) (aA (top 43)) (ah (top 43)) .none .none .none (HD.st "law_dialvault_k23_steps_walked" 709) none (.ref 429) .none
theorem V8:(κ w).lookup 430=some ⟨.type "function", none,.func eY,⟨[]⟩⟩:=by kernel_rfl
theorem Xj:codeIn (κ w) (.ref 429) "_law_digits" = true:=by kernel_rfl
theorem UD:keepIn (κ w) (.ref 430)=true:=by kernel_rfl
theorem rM:aF (κ w) "_law_digits" "_law_digits" (top 43) .none 430 eY:=⟨⟨_,_,_,_,_,_,_,_,_,rfl,(V8 w),(Xj w)⟩,(UD w)⟩
theorem qx:Binds (κ w) eY ["_law_cell_here", "_law_bases"] []:=Binds.all fun us hl=>by obtain ⟨a,b,rfl⟩:=ln2 hl;rfl
def f_:FuncData:=fnOf "_law_sizes" "_law_sizes" (aB (top 44)) (aA (top 44)) (ah (top 44)) .none .none .none (HD.st "law_dialvault_k23_steps_walked" 709) none (.ref 434) .none
theorem Wk:(κ w).lookup 435=some ⟨.type "function", none,.func f_,⟨[]⟩⟩:=by kernel_rfl
theorem U5:codeIn (κ w) (.ref 434) "_law_sizes" = true:=by kernel_rfl
theorem UG:keepIn (κ w) (.ref 435)=true:=by kernel_rfl
theorem tm:aF (κ w) "_law_sizes" "_law_sizes" (top 44) .none 435 f_:=⟨⟨_,_,_,_,_,_,_,_,_,rfl,(Wk w),(U5 w)⟩,(UG w)⟩
theorem sL:Binds (κ w) f_ ["_law_cell_here"] []:=Binds.all fun us hl=>by obtain ⟨a,rfl⟩:=wx hl;rfl
def gb:FuncData:=fnOf "_law_great" "_law_great" (aB (top 45)) (aA (top 45)) (ah (top 45)) .none .none .none (HD.st "law_dialvault_k23_steps_walked" 709) none (.ref 441) .none
theorem V3:(κ w).lookup 442=some ⟨.type "function", none,.func gb,⟨[]⟩⟩:=by kernel_rfl
theorem Wy:codeIn (κ w) (.ref 441) "_law_great" = true:=by kernel_rfl
theorem T_:keepIn (κ w) (.ref 442)=true:=by kernel_rfl
theorem uf:aF (κ w) "_law_great" "_law_great" (top 45) .none 442 gb:=⟨⟨_,_,_,_,_,_,_,_,_,rfl,(V3 w),(Wy w)⟩,(T_ w)⟩
theorem tw:Binds (κ w) gb ["_law_number"] []:=Binds.all fun us hl=>by obtain ⟨a,rfl⟩:=wx hl;rfl
def fU:FuncData:=fnOf "_law_lever" "_law_lever" (aB (top 46)) (aA (top 46)) (ah (top 46)) .none .none .none (HD.st "law_dialvault_k23_steps_walked" 709) none (.ref 448) .none
theorem WY:(κ w).lookup 449=some ⟨.type "function", none,.func fU,⟨[]⟩⟩:=by kernel_rfl
theorem U1:codeIn (κ w) (.ref 448) "_law_lever" = true:=by kernel_rfl
theorem Ul:keepIn (κ w) (.ref 449)=true:=by kernel_rfl
theorem tN:aF (κ w) "_law_lever" "_law_lever" (top 46) .none 449 fU:=⟨⟨_,_,_,_,_,_,_,_,_,rfl,(WY w),(U1 w)⟩,(Ul w)⟩
theorem uv:Binds (κ w) fU ["_law_cell_here", "_law_sizes_here"] []:=Binds.all fun us hl=>by obtain ⟨a,b,rfl⟩:=ln2 hl;rfl
def fe:FuncData:=fnOf "_law_levers" "_law_levers" (aB (top 47)) (aA (top 47)) (ah (top 47)) .none .none .none (HD.st "law_dialvault_k23_steps_walked" 709) none (.ref 455) .none
theorem Xe:(κ w).lookup 456=some ⟨.type "function", none,.func fe,⟨[]⟩⟩:=by kernel_rfl
theorem VS:codeIn (κ w) (.ref 455) "_law_levers" = true:=by kernel_rfl
theorem Uh:keepIn (κ w) (.ref 456)=true:=by kernel_rfl
theorem qz:aF (κ w) "_law_levers" "_law_levers" (top 47) .none 456 fe:=⟨⟨_,_,_,_,_,_,_,_,_,rfl,(Xe w),(VS w)⟩,(Uh w)⟩
theorem qK:Binds (κ w) fe ["_law_script", "_law_sizes_here"] []:=Binds.all fun us hl=>by obtain ⟨a,b,rfl⟩:=ln2 hl;rfl
def fT:FuncData:=fnOf "_law_added" "_law_added" (aB (top 48)) (aA (top 48)) (ah (top 48)) .none .none .none (HD.st "law_dialvault_k23_steps_walked" 709) none (.ref 460) .none
theorem VO:(κ w).lookup 461=some ⟨.type "function", none,.func fT,⟨[]⟩⟩:=by kernel_rfl
theorem Xk:codeIn (κ w) (.ref 460) "_law_added" = true:=by kernel_rfl
theorem UO:keepIn (κ w) (.ref 461)=true:=by kernel_rfl
theorem t7:aF (κ w) "_law_added" "_law_added" (top 48) .none 461 fT:=⟨⟨_,_,_,_,_,_,_,_,_,rfl,(VO w),(Xk w)⟩,(UO w)⟩
theorem tV:Binds (κ w) fT ["_law_sizes_here", "_law_one", "_law_other", "_law_times"] []:=Binds.all fun us hl=>by obtain ⟨a,b,c,d,rfl⟩:=ET hl;rfl
def e_:FuncData:=fnOf "_law_turned" "_law_turned" (aB (top 49)) (aA (top 49)) (ah (top 49)) .none .none .none (HD.st "law_dialvault_k23_steps_walked" 709) none (.ref 467) .none
theorem W9:(κ w).lookup 468=some ⟨.type "function", none,.func e_,⟨[]⟩⟩:=by kernel_rfl
theorem Xg:codeIn (κ w) (.ref 467) "_law_turned" = true:=by kernel_rfl
theorem Ui:keepIn (κ w) (.ref 468)=true:=by kernel_rfl
theorem qI:aF (κ w) "_law_turned" "_law_turned" (top 49) .none 468 e_:=⟨⟨_,_,_,_,_,_,_,_,_,rfl,(W9 w),(Xg w)⟩,(Ui w)⟩
theorem rJ:Binds (κ w) e_ ["_law_sizes_here", "_law_levers_here", "_law_setting", "_law_pulls"] []:=Binds.all fun us hl=>by obtain ⟨a,b,c,d,rfl⟩:=ET hl;rfl
def cj:FuncData:=fnOf "_law_brought_down" "_law_brought_down" (aB (top 50)) (aA (top 50)) (ah (top 50)) .none .none .none (HD.st "law_dialvault_k23_steps_walked" 709) none (.ref 474) .none
theorem Vk:(κ w).lookup 475=some ⟨.type "function", none,.func cj,⟨[]⟩⟩:=by kernel_rfl
theorem VJ:codeIn (κ w) (.ref 474) "_law_brought_down" = true:=by kernel_rfl
theorem UM:keepIn (κ w) (.ref 475)=true:=by kernel_rfl
theorem kN:aF (κ w) "_law_brought_down" "_law_brought_down" (top 50) .none 475 cj:=⟨⟨_,_,_,_,_,_,_,_,_,rfl,(Vk w),(VJ w)⟩,(UM w)⟩
theorem kM:Binds (κ w) cj ["_law_sizes_here", "_law_steps", "_law_rows", "_law_setting"] []:=Binds.all fun us hl=>by obtain ⟨a,b,c,d,rfl⟩:=ET hl;rfl
def c7:FuncData:=fnOf "_law_is_nought" "_law_is_nought" (aB (top 51)) (aA (top 51)) (ah (top 51)) .none .none .none (HD.st "law_dialvault_k23_steps_walked" 709) none (.ref 481) .none
theorem VT:(κ w).lookup 482=some ⟨.type "function", none,.func c7,⟨[]⟩⟩:=by kernel_rfl
theorem W3:codeIn (κ w) (.ref 481) "_law_is_nought" = true:=by kernel_rfl
theorem Uv:keepIn (κ w) (.ref 482)=true:=by kernel_rfl
theorem ng:aF (κ w) "_law_is_nought" "_law_is_nought" (top 51) .none 482 c7:=⟨⟨_,_,_,_,_,_,_,_,_,rfl,(VT w),(W3 w)⟩,(Uv w)⟩
theorem mY:Binds (κ w) c7 ["_law_row"] []:=Binds.all fun us hl=>by obtain ⟨a,rfl⟩:=wx hl;rfl
def c8:FuncData:=fnOf "_law_step_good" "_law_step_good" (aB (top 52)) (aA (top 52)) (ah (top 52)) .none .none .none (HD.st "law_dialvault_k23_steps_walked" 709) none (.ref 488) .none
theorem Vg:(κ w).lookup 489=some ⟨.type "function", none,.func c8,⟨[]⟩⟩:=by kernel_rfl
theorem WT:codeIn (κ w) (.ref 488) "_law_step_good" = true:=by kernel_rfl
theorem Up:keepIn (κ w) (.ref 489)=true:=by kernel_rfl
theorem ni:aF (κ w) "_law_step_good" "_law_step_good" (top 52) .none 489 c8:=⟨⟨_,_,_,_,_,_,_,_,_,rfl,(Vg w),(WT w)⟩,(Up w)⟩
theorem mx:Binds (κ w) c8 ["_law_sizes_here", "_law_steps", "_law_rows", "_law_dial"] []:=Binds.all fun us hl=>by obtain ⟨a,b,c,d,rfl⟩:=ET hl;rfl
def ee:FuncData:=fnOf "_law_product" "_law_product" (aB (top 53)) (aA (top 53)) (ah (top 53)) .none .none .none (HD.st "law_dialvault_k23_steps_walked" 709) none (.ref 495) .none
theorem VB:(κ w).lookup 496=some ⟨.type "function", none,.func ee,⟨[]⟩⟩:=by kernel_rfl
theorem W6:codeIn (κ w) (.ref 495) "_law_product" = true:=by kernel_rfl
theorem Us:keepIn (κ w) (.ref 496)=true:=by kernel_rfl
theorem qa:aF (κ w) "_law_product" "_law_product" (top 53) .none 496 ee:=⟨⟨_,_,_,_,_,_,_,_,_,rfl,(VB w),(W6 w)⟩,(Us w)⟩
theorem pO:Binds (κ w) ee ["_law_numbers"] []:=Binds.all fun us hl=>by obtain ⟨a,rfl⟩:=wx hl;rfl
def c_:FuncData:=fnOf "_law_idle_good" "_law_idle_good" (aB (top 54)) (aA (top 54)) (ah (top 54)) .none .none .none (HD.st "law_dialvault_k23_steps_walked" 709) none (.ref 500) .none
theorem U7:(κ w).lookup 501=some ⟨.type "function", none,.func c_,⟨[]⟩⟩:=by kernel_rfl
theorem UQ:codeIn (κ w) (.ref 500) "_law_idle_good" = true:=by kernel_rfl
theorem T9:keepIn (κ w) (.ref 501)=true:=by kernel_rfl
theorem mH:aF (κ w) "_law_idle_good" "_law_idle_good" (top 54) .none 501 c_:=⟨⟨_,_,_,_,_,_,_,_,_,rfl,(U7 w),(UQ w)⟩,(T9 w)⟩
theorem mv:Binds (κ w) c_ ["_law_sizes_here", "_law_levers_here", "_law_spans", "_law_row", "_law_lever_here"] []:=Binds.all fun us hl=>by obtain ⟨a,b,c,d,e,rfl⟩:=UL hl;rfl
def fR:FuncData:=fnOf "__init__" "Vault.__init__" (aB (inClass (top 21) 0)) (aA (inClass (top 21) 0)) (ah (inClass (top 21) 0)) (.ref 196) .none .none (HD.st "dialvault.vault" 405) none (.ref 200) .none
theorem Vn:(κ w).lookup 201=some ⟨.type "function", none,.func fR,⟨[]⟩⟩:=by kernel_rfl
theorem Xn:codeIn (κ w) (.ref 200) "Vault.__init__" = true:=by kernel_rfl
theorem US:keepIn (κ w) (.ref 201)=true:=by kernel_rfl
theorem lM:aF (κ w) "__init__" "Vault.__init__" (inClass (top 21) 0) (.ref 196) 201 fR:=⟨⟨_,_,_,_,_,_,_,_,_,rfl,(Vn w),(Xn w)⟩,(US w)⟩
def eW:FuncData:=fnOf "sizes" "Vault.sizes" (aB (inClass (top 21) 1)) (aA (inClass (top 21) 1)) (ah (inClass (top 21) 1)) .none .none .none (HD.st "dialvault.vault" 405) none (.ref 207) .none
theorem Wq:(κ w).lookup 208=some ⟨.type "function", none,.func eW,⟨[]⟩⟩:=by kernel_rfl
theorem Xs:codeIn (κ w) (.ref 207) "Vault.sizes" = true:=by kernel_rfl
theorem Uy:keepIn (κ w) (.ref 208)=true:=by kernel_rfl
theorem qw:aF (κ w) "sizes" "Vault.sizes" (inClass (top 21) 1) .none 208 eW:=⟨⟨_,_,_,_,_,_,_,_,_,rfl,(Wq w),(Xs w)⟩,(Uy w)⟩
theorem rn:Binds (κ w) eW ["self"] []:=Binds.all fun us hl=>by obtain ⟨a,rfl⟩:=wx hl;rfl
def ef:FuncData:=fnOf "levers" "Vault.levers" (aB (inClass (top 21) 2)) (aA (inClass (top 21) 2)) (ah (inClass (top 21) 2)) .none .none .none (HD.st "dialvault.vault" 405) none (.ref 214) .none
theorem VE:(κ w).lookup 215=some ⟨.type "function", none,.func ef,⟨[]⟩⟩:=by kernel_rfl
theorem WG:codeIn (κ w) (.ref 214) "Vault.levers" = true:=by kernel_rfl
theorem UI:keepIn (κ w) (.ref 215)=true:=by kernel_rfl
theorem qk:aF (κ w) "levers" "Vault.levers" (inClass (top 21) 2) .none 215 ef:=⟨⟨_,_,_,_,_,_,_,_,_,rfl,(VE w),(WG w)⟩,(UI w)⟩
theorem p5:Binds (κ w) ef ["self"] []:=Binds.all fun us hl=>by obtain ⟨a,rfl⟩:=wx hl;rfl
def eh:FuncData:=fnOf "prices" "Vault.prices" (aB (inClass (top 21) 3)) (aA (inClass (top 21) 3)) (ah (inClass (top 21) 3)) .none .none .none (HD.st "dialvault.vault" 405) none (.ref 221) .none
theorem MG:(κ w).lookup 222=some ⟨.type "function", none,.func eh,⟨[]⟩⟩:=by kernel_rfl
theorem Sw:codeIn (κ w) (.ref 221) "Vault.prices" = true:=by kernel_rfl
theorem Io:keepIn (κ w) (.ref 222)=true:=by kernel_rfl
theorem pB:aF (κ w) "prices" "Vault.prices" (inClass (top 21) 3) .none 222 eh:=⟨⟨_,_,_,_,_,_,_,_,_,rfl,(MG w),(Sw w)⟩,(Io w)⟩
theorem pF:Binds (κ w) eh ["self"] []:=Binds.all fun us hl=>by obtain ⟨a,rfl⟩:=wx hl;rfl
def fb:FuncData:=fnOf "steps" "Rungs.steps" (aB (inClass (top 39) 1)) (aA (inClass (top 39) 1)) (ah (inClass (top 39) 1)) .none .none .none (HD.st "dialvault.rungs" 541) none (.ref 358) .none
theorem RF:(κ w).lookup 359=some ⟨.type "function", none,.func fb,⟨[]⟩⟩:=by kernel_rfl
theorem MD:codeIn (κ w) (.ref 358) "Rungs.steps" = true:=by kernel_rfl
theorem IA:keepIn (κ w) (.ref 359)=true:=by kernel_rfl
theorem qO:aF (κ w) "steps" "Rungs.steps" (inClass (top 39) 1) .none 359 fb:=⟨⟨_,_,_,_,_,_,_,_,_,rfl,(RF w),(MD w)⟩,(IA w)⟩
theorem qF:Binds (κ w) fb ["self"] []:=Binds.all fun us hl=>by obtain ⟨a,rfl⟩:=wx hl;rfl
def dQ:FuncData:=fnOf "rows" "Rungs.rows" (aB (inClass (top 39) 2)) (aA (inClass (top 39) 2)) (ah (inClass (top 39) 2)) .none .none .none (HD.st "dialvault.rungs" 541) none (.ref 363) .none
theorem K0:(κ w).lookup 364=some ⟨.type "function", none,.func dQ,⟨[]⟩⟩:=by kernel_rfl
theorem Sh:codeIn (κ w) (.ref 363) "Rungs.rows" = true:=by kernel_rfl
theorem Ha:keepIn (κ w) (.ref 364)=true:=by kernel_rfl
theorem lW:aF (κ w) "rows" "Rungs.rows" (inClass (top 39) 2) .none 364 dQ:=⟨⟨_,_,_,_,_,_,_,_,_,rfl,(K0 w),(Sh w)⟩,(Ha w)⟩
theorem me:Binds (κ w) dQ ["self"] []:=Binds.all fun us hl=>by obtain ⟨a,rfl⟩:=wx hl;rfl
def e9:FuncData:=fnOf "spans" "Rungs.spans" (aB (inClass (top 39) 3)) (aA (inClass (top 39) 3)) (ah (inClass (top 39) 3)) .none .none .none (HD.st "dialvault.rungs" 541) none (.ref 368) .none
theorem Kx:(κ w).lookup 369=some ⟨.type "function", none,.func e9,⟨[]⟩⟩:=by kernel_rfl
theorem R1:codeIn (κ w) (.ref 368) "Rungs.spans" = true:=by kernel_rfl
theorem I_:keepIn (κ w) (.ref 369)=true:=by kernel_rfl
theorem rC:aF (κ w) "spans" "Rungs.spans" (inClass (top 39) 3) .none 369 e9:=⟨⟨_,_,_,_,_,_,_,_,_,rfl,(Kx w),(R1 w)⟩,(I_ w)⟩
theorem q_:Binds (κ w) e9 ["self"] []:=Binds.all fun us hl=>by obtain ⟨a,rfl⟩:=wx hl;rfl
def fY:FuncData:=fnOf "idle" "Rungs.idle" (aB (inClass (top 39) 4)) (aA (inClass (top 39) 4)) (ah (inClass (top 39) 4)) .none .none .none (HD.st "dialvault.rungs" 541) none (.ref 375) .none
theorem OW:(κ w).lookup 376=some ⟨.type "function", none,.func fY,⟨[]⟩⟩:=by kernel_rfl
theorem ME:codeIn (κ w) (.ref 375) "Rungs.idle" = true:=by kernel_rfl
theorem JF:keepIn (κ w) (.ref 376)=true:=by kernel_rfl
theorem uE:aF (κ w) "idle" "Rungs.idle" (inClass (top 39) 4) .none 376 fY:=⟨⟨_,_,_,_,_,_,_,_,_,rfl,(OW w),(ME w)⟩,(JF w)⟩
theorem tW:Binds (κ w) fY ["self"] []:=Binds.all fun us hl=>by obtain ⟨a,rfl⟩:=wx hl;rfl
def kr:FuncData:=fnOf "nought" "nought" (aB (top 27)) (aA (top 27)) (ah (top 27)) .none .none .none (HD.st "dialvault.vault" 405) none (.ref 275) .none
theorem R6:(κ w).lookup 276=some ⟨.type "function", none,.func kr,⟨[]⟩⟩:=by kernel_rfl
theorem Pj:codeIn (κ w) (.ref 275) "nought" = true:=by kernel_rfl
theorem Jr:keepIn (κ w) (.ref 276)=true:=by kernel_rfl
theorem BI:aF (κ w) "nought" "nought" (top 27) .none 276 kr:=⟨⟨_,_,_,_,_,_,_,_,_,rfl,(R6 w),(Pj w)⟩,(Jr w)⟩
theorem Am:Binds (κ w) kr ["vault"] []:=Binds.all fun us hl=>by obtain ⟨a,rfl⟩:=wx hl;rfl
def fQ:FuncData:=fnOf "is_setting" "is_setting" (aB (top 28)) (aA (top 28)) (ah (top 28)) .none .none .none (HD.st "dialvault.vault" 405) none (.ref 280) .none
theorem Pq:(κ w).lookup 281=some ⟨.type "function", none,.func fQ,⟨[]⟩⟩:=by kernel_rfl
theorem OE:codeIn (κ w) (.ref 280) "is_setting" = true:=by kernel_rfl
theorem Iv:keepIn (κ w) (.ref 281)=true:=by kernel_rfl
theorem uC:aF (κ w) "is_setting" "is_setting" (top 28) .none 281 fQ:=⟨⟨_,_,_,_,_,_,_,_,_,rfl,(Pq w),(OE w)⟩,(Iv w)⟩
theorem uh:Binds (κ w) fQ ["vault", "thing"] []:=Binds.all fun us hl=>by obtain ⟨a,b,rfl⟩:=ln2 hl;rfl
def eo:FuncData:=fnOf "need_setting" "need_setting" (aB (top 29)) (aA (top 29)) (ah (top 29)) .none .none .none (HD.st "dialvault.vault" 405) none (.ref 287) .none
theorem TX:(κ w).lookup 288=some ⟨.type "function", none,.func eo,⟨[]⟩⟩:=by kernel_rfl
theorem OK:codeIn (κ w) (.ref 287) "need_setting" = true:=by kernel_rfl
theorem IL:keepIn (κ w) (.ref 288)=true:=by kernel_rfl
theorem pU:aF (κ w) "need_setting" "need_setting" (top 29) .none 288 eo:=⟨⟨_,_,_,_,_,_,_,_,_,rfl,(TX w),(OK w)⟩,(IL w)⟩
theorem pT:Binds (κ w) eo ["vault", "thing"] []:=Binds.all fun us hl=>by obtain ⟨a,b,rfl⟩:=ln2 hl;rfl
def iB:FuncData:=fnOf "unpulled" "unpulled" (aB (top 33)) (aA (top 33)) (ah (top 33)) .none .none .none (HD.st "dialvault.rungs" 541) none (.ref 306) .none
theorem L_:(κ w).lookup 307=some ⟨.type "function", none,.func iB,⟨[]⟩⟩:=by kernel_rfl
theorem Nn:codeIn (κ w) (.ref 306) "unpulled" = true:=by kernel_rfl
theorem IU:keepIn (κ w) (.ref 307)=true:=by kernel_rfl
theorem xD:aF (κ w) "unpulled" "unpulled" (top 33) .none 307 iB:=⟨⟨_,_,_,_,_,_,_,_,_,rfl,(L_ w),(Nn w)⟩,(IU w)⟩
theorem wK:Binds (κ w) iB ["vault", "setting"] []:=Binds.all fun us hl=>by obtain ⟨a,b,rfl⟩:=ln2 hl;rfl
def eN:FuncData:=fnOf "pulled_once" "pulled_once" (aB (top 34)) (aA (top 34)) (ah (top 34)) .none .none .none (HD.st "dialvault.rungs" 541) none (.ref 313) .none
theorem QI:(κ w).lookup 314=some ⟨.type "function", none,.func eN,⟨[]⟩⟩:=by kernel_rfl
theorem Qs:codeIn (κ w) (.ref 313) "pulled_once" = true:=by kernel_rfl
theorem Ju:keepIn (κ w) (.ref 314)=true:=by kernel_rfl
theorem rm:aF (κ w) "pulled_once" "pulled_once" (top 34) .none 314 eN:=⟨⟨_,_,_,_,_,_,_,_,_,rfl,(QI w),(Qs w)⟩,(Ju w)⟩
theorem qG:Binds (κ w) eN ["vault", "lever"] []:=Binds.all fun us hl=>by obtain ⟨a,b,rfl⟩:=ln2 hl;rfl
def cK:FuncData:=fnOf "_law_spans_good" "_law_spans_good" (aB (top 55)) (aA (top 55)) (ah (top 55)) .none .none .none (HD.st "law_dialvault_k23_steps_walked" 709) none (.ref 507) .none
theorem K2:(κ w).lookup 508=some ⟨.type "function", none,.func cK,⟨[]⟩⟩:=by kernel_rfl
theorem RO:codeIn (κ w) (.ref 507) "_law_spans_good" = true:=by kernel_rfl
theorem JE:keepIn (κ w) (.ref 508)=true:=by kernel_rfl
theorem mn:aF (κ w) "_law_spans_good" "_law_spans_good" (top 55) .none 508 cK:=⟨⟨_,_,_,_,_,_,_,_,_,rfl,(K2 w),(RO w)⟩,(JE w)⟩
theorem lD:Binds (κ w) cK ["_law_rungs", "_law_sizes_here", "_law_levers_here", "_law_steps"] []:=Binds.all fun us hl=>by obtain ⟨a,b,c,d,rfl⟩:=ET hl;rfl
def fO:FuncData:=fnOf "__init__" "Rungs.__init__" (aB (inClass (top 39) 0)) (aA (inClass (top 39) 0)) (ah (inClass (top 39) 0)) .none .none .none (HD.st "dialvault.rungs" 541) none (.ref 353) .none
theorem QP:(κ w).lookup 354=some ⟨.type "function", none,.func fO,⟨[]⟩⟩:=by kernel_rfl
theorem N6:codeIn (κ w) (.ref 353) "Rungs.__init__" = true:=by kernel_rfl
theorem R0:keepIn (κ w) (.ref 354)=true:=by kernel_rfl
theorem sY:aF (κ w) "__init__" "Rungs.__init__" (inClass (top 39) 0) .none 354 fO:=⟨⟨_,_,_,_,_,_,_,_,_,rfl,(QP w),(N6 w)⟩,(R0 w)⟩
theorem ur:Binds (κ w) fO ["self", "vault"] []:=Binds.all fun us hl=>by obtain ⟨a,b,rfl⟩:=ln2 hl;rfl
def bS:FuncData:=fnOf "brought_down" "Rungs.brought_down" (aB (inClass (top 39) 5)) (aA (inClass (top 39) 5)) (ah (inClass (top 39) 5)) .none .none .none (HD.st "dialvault.rungs" 541) none (.ref 382) .none
theorem MP:(κ w).lookup 383=some ⟨.type "function", none,.func bS,⟨[]⟩⟩:=by kernel_rfl
theorem Qb:codeIn (κ w) (.ref 382) "Rungs.brought_down" = true:=by kernel_rfl
theorem JD:keepIn (κ w) (.ref 383)=true:=by kernel_rfl
theorem j3:aF (κ w) "brought_down" "Rungs.brought_down" (inClass (top 39) 5) .none 383 bS:=⟨⟨_,_,_,_,_,_,_,_,_,rfl,(MP w),(Qb w)⟩,(JD w)⟩
theorem kd:Binds (κ w) bS ["self", "setting"] []:=Binds.all fun us hl=>by obtain ⟨a,b,rfl⟩:=ln2 hl;rfl
def e8:FuncData:=fnOf "least" "Rungs.least" (aB (inClass (top 39) 6)) (aA (inClass (top 39) 6)) (ah (inClass (top 39) 6)) .none .none .none (HD.st "dialvault.rungs" 541) none (.ref 389) .none
theorem Lh:(κ w).lookup 390=some ⟨.type "function", none,.func e8,⟨[]⟩⟩:=by kernel_rfl
theorem OX:codeIn (κ w) (.ref 389) "Rungs.least" = true:=by kernel_rfl
theorem IP:keepIn (κ w) (.ref 390)=true:=by kernel_rfl
theorem qy:aF (κ w) "least" "Rungs.least" (inClass (top 39) 6) .none 390 e8:=⟨⟨_,_,_,_,_,_,_,_,_,rfl,(Lh w),(OX w)⟩,(IP w)⟩
theorem qY:Binds (κ w) e8 ["self", "setting"] []:=Binds.all fun us hl=>by obtain ⟨a,b,rfl⟩:=ln2 hl;rfl
def cZ:FuncData:=fnOf "pulls_to" "Rungs.pulls_to" (aB (inClass (top 39) 7)) (aA (inClass (top 39) 7)) (ah (inClass (top 39) 7)) .none .none .none (HD.st "dialvault.rungs" 541) none (.ref 394) .none
theorem O3:(κ w).lookup 395=some ⟨.type "function", none,.func cZ,⟨[]⟩⟩:=by kernel_rfl
theorem RE:codeIn (κ w) (.ref 394) "Rungs.pulls_to" = true:=by kernel_rfl
theorem JR:keepIn (κ w) (.ref 395)=true:=by kernel_rfl
theorem mE:aF (κ w) "pulls_to" "Rungs.pulls_to" (inClass (top 39) 7) .none 395 cZ:=⟨⟨_,_,_,_,_,_,_,_,_,rfl,(O3 w),(RE w)⟩,(JR w)⟩
theorem mL:Binds (κ w) cZ ["self", "setting"] []:=Binds.all fun us hl=>by obtain ⟨a,b,rfl⟩:=ln2 hl;rfl
def sS:FuncData:=fnOf "law" "law" (aB (top 56)) (aA (top 56)) (ah (top 56)) .none .none .none (HD.st "law_dialvault_k23_steps_walked" 709) none (.ref 514) .none
theorem Su:(κ w).lookup 515=some ⟨.type "function", none,.func sS,⟨[]⟩⟩:=by kernel_rfl
theorem Qk:codeIn (κ w) (.ref 514) "law" = true:=by kernel_rfl
theorem Nh:keepIn (κ w) (.ref 515)=true:=by kernel_rfl
theorem JB:aF (κ w) "law" "law" (top 56) .none 515 sS:=⟨⟨_,_,_,_,_,_,_,_,_,rfl,(Su w),(Qk w)⟩,(Nh w)⟩
theorem R3:findIn (κ w) (.ref 136) "__getattribute__" = some (some (.builtin "BaseException.__getattribute__")):=by kernel_rfl
theorem QR:findIn (κ w) (.ref 136) "__getattr__" = some none:=by kernel_rfl
theorem OG:hasDictIn (κ w) 136=true:=by kernel_rfl
theorem Ox:findIn (κ w) (.ref 136) "__setattr__" = some (some (.builtin "object.__setattr__")):=by kernel_rfl
theorem PC:mroIn (κ w) 136 (.type "BaseException")=some true:=by kernel_rfl
theorem QC:mroIn (κ w) 136 (.type "object")=some true:=by kernel_rfl
theorem Qj:findIn (κ w) (.ref 136) "__class__" = some (some (.builtin "object.__class__")):=by kernel_rfl
theorem OU:specialIn (κ w) (.builtin "object.__class__") "__get__" = some (some (.builtin "getset_descriptor.__get__")):=by kernel_rfl
theorem Nc:takesIn (κ w) (.builtin "object.__class__")=some true:=by kernel_rfl
theorem sX:ji (κ w) dm:=⟨(R3 w),(QR w),(OG w),(Ox w),(PC w),(QC w),(Qj w),(OU w),(Nc w)⟩
theorem S0:typeIn (κ w) (.ref 136)=some (.type "type"):=by kernel_rfl
theorem OL:keepIn (κ w) (.ref 136)=true:=by kernel_rfl
theorem Ni:nsIn (κ w) mainGlobals "NoSetting" = some (some (.ref 136)):=by kernel_rfl
theorem OQ:excIn (κ w) 136 eE "ValueError.__new__" = true:=by kernel_rfl
theorem OA:findIn (κ w) (.ref 155) "__getattribute__" = some (some (.builtin "BaseException.__getattribute__")):=by kernel_rfl
theorem TM:findIn (κ w) (.ref 155) "__getattr__" = some none:=by kernel_rfl
theorem SX:hasDictIn (κ w) 155=true:=by kernel_rfl
theorem Rw:findIn (κ w) (.ref 155) "__setattr__" = some (some (.builtin "object.__setattr__")):=by kernel_rfl
theorem LH:mroIn (κ w) 155 (.type "BaseException")=some true:=by kernel_rfl
theorem Kw:mroIn (κ w) 155 (.type "object")=some true:=by kernel_rfl
theorem Ov:findIn (κ w) (.ref 155) "__class__" = some (some (.builtin "object.__class__")):=by kernel_rfl
theorem Qm:specialIn (κ w) (.builtin "object.__class__") "__get__" = some (some (.builtin "getset_descriptor.__get__")):=by kernel_rfl
theorem Ky:takesIn (κ w) (.builtin "object.__class__")=some true:=by kernel_rfl
theorem wH:ji (κ w) kH:=⟨(OA w),(TM w),(SX w),(Rw w),(LH w),(Kw w),(Ov w),(Qm w),(Ky w)⟩
theorem P8:typeIn (κ w) (.ref 155)=some (.type "type"):=by kernel_rfl
theorem Pk:keepIn (κ w) (.ref 155)=true:=by kernel_rfl
theorem KR:nsIn (κ w) mainGlobals "TooMany" = some (some (.ref 155)):=by kernel_rfl
theorem Qi:excIn (κ w) 155 eE "ValueError.__new__" = true:=by kernel_rfl
theorem PH:findIn (κ w) (.ref 65) "__getattribute__" = some (some (.builtin "BaseException.__getattribute__")):=by kernel_rfl
theorem Qc:findIn (κ w) (.ref 65) "__getattr__" = some none:=by kernel_rfl
theorem RH:hasDictIn (κ w) 65=true:=by kernel_rfl
theorem Ri:findIn (κ w) (.ref 65) "__setattr__" = some (some (.builtin "object.__setattr__")):=by kernel_rfl
theorem Of:mroIn (κ w) 65 (.type "BaseException")=some true:=by kernel_rfl
theorem Pw:mroIn (κ w) 65 (.type "object")=some true:=by kernel_rfl
theorem N3:findIn (κ w) (.ref 65) "__class__" = some (some (.builtin "object.__class__")):=by kernel_rfl
theorem PY:specialIn (κ w) (.builtin "object.__class__") "__get__" = some (some (.builtin "getset_descriptor.__get__")):=by kernel_rfl
theorem Tw:takesIn (κ w) (.builtin "object.__class__")=some true:=by kernel_rfl
theorem sE:ji (κ w) jc:=⟨(PH w),(Qc w),(RH w),(Ri w),(Of w),(Pw w),(N3 w),(PY w),(Tw w)⟩
theorem SK:typeIn (κ w) (.ref 65)=some (.type "type"):=by kernel_rfl
theorem O9:keepIn (κ w) (.ref 65)=true:=by kernel_rfl
theorem Oc:nsIn (κ w) mainGlobals "NoDial" = some (some (.ref 65)):=by kernel_rfl
def iN:FuncData:=fnOf "__init__" "NoDial.__init__" (aB (inClass (top 3) 0)) (aA (inClass (top 3) 0)) (ah (inClass (top 3) 0)) .none .none .none (HD.st "dialvault.errors" 194) none (.ref 54) .none
theorem Q3:(κ w).lookup 55=some ⟨.type "function", none,.func iN,⟨[]⟩⟩:=by kernel_rfl
theorem RU:codeIn (κ w) (.ref 54) "NoDial.__init__" = true:=by kernel_rfl
theorem wI:Binds (κ w) iN ["self", "dial"] []:=Binds.all fun us hl=>by obtain ⟨a,b,rfl⟩:=ln2 hl;rfl
theorem xE:ax ["self", "dial"] ["self", "dial"] (ah (inClass (top 3) 0)):=⟨rfl,rfl,rfl,by decide +kernel,rfl,by decide +kernel,by decide +kernel⟩
theorem Ou:((clsIn (κ w) 65).any fun cd=>gG cd.mro)=true:=by kernel_rfl
theorem NT:findIn (κ w) (.ref 65) "dial" = some none:=by kernel_rfl
theorem TK:kh (κ w) 65 "ValueError.__new__" 55=true:=by kernel_rfl
theorem MW:isFn (κ w) (.ref 55)=true:=by kernel_rfl
theorem wN {P:Program} {w:World} {mg:Str->Option Value} {base:Heap}:aN P w (κ w) mg base (bM P w) 1 55 iN ["self", "dial"] (zC (κ w) jc "dial") :=
 pA (n0 := "self") (n1 := "dial") (fl := "dial") (Q3 w) (RU w) xE (sE w) (Ou w) (NT w) (by first | exact .inl rfl | exact .inr (.inl rfl)) (by first | exact .inl rfl | exact .inr (.inl rfl)) (by decide) (by decide) (by decide) (by decide) (fun _=>rfl)
theorem SU:findIn (κ w) (.ref 91) "__getattribute__" = some (some (.builtin "BaseException.__getattribute__")):=by kernel_rfl
theorem Q7:findIn (κ w) (.ref 91) "__getattr__" = some none:=by kernel_rfl
theorem Nr:hasDictIn (κ w) 91=true:=by kernel_rfl
theorem O7:findIn (κ w) (.ref 91) "__setattr__" = some (some (.builtin "object.__setattr__")):=by kernel_rfl
theorem Nw:mroIn (κ w) 91 (.type "BaseException")=some true:=by kernel_rfl
theorem Ld:mroIn (κ w) 91 (.type "object")=some true:=by kernel_rfl
theorem KY:findIn (κ w) (.ref 91) "__class__" = some (some (.builtin "object.__class__")):=by kernel_rfl
theorem Oa:specialIn (κ w) (.builtin "object.__class__") "__get__" = some (some (.builtin "getset_descriptor.__get__")):=by kernel_rfl
theorem RD:takesIn (κ w) (.builtin "object.__class__")=some true:=by kernel_rfl
theorem qh:ji (κ w) i9:=⟨(SU w),(Q7 w),(Nr w),(O7 w),(Nw w),(Ld w),(KY w),(Oa w),(RD w)⟩
theorem SE:typeIn (κ w) (.ref 91)=some (.type "type"):=by kernel_rfl
theorem RQ:keepIn (κ w) (.ref 91)=true:=by kernel_rfl
theorem S5:nsIn (κ w) mainGlobals "NoLever" = some (some (.ref 91)):=by kernel_rfl
def gM:FuncData:=fnOf "__init__" "NoLever.__init__" (aB (inClass (top 4) 0)) (aA (inClass (top 4) 0)) (ah (inClass (top 4) 0)) .none .none .none (HD.st "dialvault.errors" 194) none (.ref 80) .none
theorem Sj:(κ w).lookup 81=some ⟨.type "function", none,.func gM,⟨[]⟩⟩:=by kernel_rfl
theorem MZ:codeIn (κ w) (.ref 80) "NoLever.__init__" = true:=by kernel_rfl
theorem wj:Binds (κ w) gM ["self", "lever"] []:=Binds.all fun us hl=>by obtain ⟨a,b,rfl⟩:=ln2 hl;rfl
theorem wg:ax ["self", "lever"] ["self", "lever"] (ah (inClass (top 4) 0)):=⟨rfl,rfl,rfl,by decide +kernel,rfl,by decide +kernel,by decide +kernel⟩
theorem K1:((clsIn (κ w) 91).any fun cd=>gG cd.mro)=true:=by kernel_rfl
theorem Li:findIn (κ w) (.ref 91) "lever" = some none:=by kernel_rfl
theorem Ol:kh (κ w) 91 "ValueError.__new__" 81=true:=by kernel_rfl
theorem Qf:isFn (κ w) (.ref 81)=true:=by kernel_rfl
theorem vm {P:Program} {w:World} {mg:Str->Option Value} {base:Heap}:aN P w (κ w) mg base (bM P w) 1 81 gM ["self", "lever"] (zC (κ w) i9 "lever") :=
 pA (n0 := "self") (n1 := "lever") (fl := "lever") (Sj w) (MZ w) wg (qh w) (K1 w) (Li w) (by first | exact .inl rfl | exact .inr (.inl rfl)) (by first | exact .inl rfl | exact .inr (.inl rfl)) (by decide) (by decide) (by decide) (by decide) (fun _=>rfl)
theorem Rr:findIn (κ w) (.ref 117) "__getattribute__" = some (some (.builtin "BaseException.__getattribute__")):=by kernel_rfl
theorem S7:findIn (κ w) (.ref 117) "__getattr__" = some none:=by kernel_rfl
theorem K4:hasDictIn (κ w) 117=true:=by kernel_rfl
theorem Qp:findIn (κ w) (.ref 117) "__setattr__" = some (some (.builtin "object.__setattr__")):=by kernel_rfl
theorem OV:mroIn (κ w) 117 (.type "BaseException")=some true:=by kernel_rfl
theorem OC:mroIn (κ w) 117 (.type "object")=some true:=by kernel_rfl
theorem QQ:findIn (κ w) (.ref 117) "__class__" = some (some (.builtin "object.__class__")):=by kernel_rfl
theorem MV:specialIn (κ w) (.builtin "object.__class__") "__get__" = some (some (.builtin "getset_descriptor.__get__")):=by kernel_rfl
theorem M7:takesIn (κ w) (.builtin "object.__class__")=some true:=by kernel_rfl
theorem pe:ji (κ w) gX:=⟨(Rr w),(S7 w),(K4 w),(Qp w),(OV w),(OC w),(QQ w),(MV w),(M7 w)⟩
theorem MU:typeIn (κ w) (.ref 117)=some (.type "type"):=by kernel_rfl
theorem OJ:keepIn (κ w) (.ref 117)=true:=by kernel_rfl
theorem Lq:nsIn (κ w) mainGlobals "NoPrice" = some (some (.ref 117)):=by kernel_rfl
def gD:FuncData:=fnOf "__init__" "NoPrice.__init__" (aB (inClass (top 5) 0)) (aA (inClass (top 5) 0)) (ah (inClass (top 5) 0)) .none .none .none (HD.st "dialvault.errors" 194) none (.ref 106) .none
theorem Tj:(κ w).lookup 107=some ⟨.type "function", none,.func gD,⟨[]⟩⟩:=by kernel_rfl
theorem Ro:codeIn (κ w) (.ref 106) "NoPrice.__init__" = true:=by kernel_rfl
theorem va:Binds (κ w) gD ["self", "lever"] []:=Binds.all fun us hl=>by obtain ⟨a,b,rfl⟩:=ln2 hl;rfl
theorem vT:ax ["self", "lever"] ["self", "lever"] (ah (inClass (top 5) 0)):=⟨rfl,rfl,rfl,by decide +kernel,rfl,by decide +kernel,by decide +kernel⟩
theorem Pc:((clsIn (κ w) 117).any fun cd=>gG cd.mro)=true:=by kernel_rfl
theorem PZ:findIn (κ w) (.ref 117) "lever" = some none:=by kernel_rfl
theorem Ny:kh (κ w) 117 "ValueError.__new__" 107=true:=by kernel_rfl
theorem Lx:isFn (κ w) (.ref 107)=true:=by kernel_rfl
theorem wo {P:Program} {w:World} {mg:Str->Option Value} {base:Heap}:aN P w (κ w) mg base (bM P w) 1 107 gD ["self", "lever"] (zC (κ w) gX "lever") :=
 pA (n0 := "self") (n1 := "lever") (fl := "lever") (Tj w) (Ro w) vT (pe w) (Pc w) (PZ w) (by first | exact .inl rfl | exact .inr (.inl rfl)) (by first | exact .inl rfl | exact .inr (.inl rfl)) (by decide) (by decide) (by decide) (by decide) (fun _=>rfl)
theorem Tp:plainGet (κ w) 405 Str.empty=true:=by kernel_rfl
theorem NS:hasDictIn (κ w) 405=true:=by kernel_rfl
theorem Qy:plainOver (κ w) 405=true:=by kernel_rfl
theorem LM:findIn (κ w) (.ref 405) "__setattr__" = some (some (.builtin "object.__setattr__")):=by kernel_rfl
theorem cP:mj (κ w) av:=⟨(Tp w),(NS w),(Qy w),(LM w)⟩
theorem R9:plainGet (κ w) 232 Str.empty=true:=by kernel_rfl
theorem NG:hasDictIn (κ w) 232=true:=by kernel_rfl
theorem O8:plainOver (κ w) 232=true:=by kernel_rfl
theorem NQ:findIn (κ w) (.ref 232) "__setattr__" = some (some (.builtin "object.__setattr__")):=by kernel_rfl
theorem gi:mj (κ w) aE:=⟨(R9 w),(NG w),(O8 w),(NQ w)⟩
theorem Jk:findIn (κ w) (.ref 405) "idle_rows" = some none:=by kernel_rfl
theorem Ip:findIn (κ w) (.ref 405) "made_rows" = some none:=by kernel_rfl
theorem Je:findIn (κ w) (.ref 405) "vault" = some none:=by kernel_rfl
theorem IE:findIn (κ w) (.ref 232) "dial_sizes" = some none:=by kernel_rfl
theorem H_:findIn (κ w) (.ref 232) "least_round" = some none:=by kernel_rfl
theorem IC:findIn (κ w) (.ref 232) "lever_prices" = some none:=by kernel_rfl
theorem Jw:findIn (κ w) (.ref 232) "lever_settings" = some none:=by kernel_rfl
theorem RV:nsIn (κ w) mainGlobals "all" = some none:=by kernel_rfl
theorem MT:nsIn (κ w) mainGlobals "bool" = some none:=by kernel_rfl
theorem KD:nsIn (κ w) mainGlobals "enumerate" = some none:=by kernel_rfl
theorem Mi:nsIn (κ w) mainGlobals "int" = some none:=by kernel_rfl
theorem N2:nsIn (κ w) mainGlobals "isinstance" = some none:=by kernel_rfl
theorem M1:nsIn (κ w) mainGlobals "len" = some none:=by kernel_rfl
theorem Ln:nsIn (κ w) mainGlobals "list" = some none:=by kernel_rfl
theorem Kt:nsIn (κ w) mainGlobals "max" = some none:=by kernel_rfl
theorem SD:nsIn (κ w) mainGlobals "min" = some none:=by kernel_rfl
theorem Nm:nsIn (κ w) mainGlobals "range" = some none:=by kernel_rfl
theorem Ra:nsIn (κ w) mainGlobals "tuple" = some none:=by kernel_rfl
theorem Pe:nsIn (κ w) mainGlobals "zip" = some none:=by kernel_rfl
theorem QG:nsIn (κ w) mainGlobals "LEAST_PRICE" = some (some (.int 1 415)):=by kernel_rfl
theorem TY:nsIn (κ w) mainGlobals "LEAST_SIZE" = some (some (.int 2 409)):=by kernel_rfl
theorem KC:nsIn (κ w) mainGlobals "MOST_DIALS" = some (some (.int 6 407)):=by kernel_rfl
theorem Mz:nsIn (κ w) mainGlobals "MOST_LEVERS" = some (some (.int 8 413)):=by kernel_rfl
theorem NP:nsIn (κ w) mainGlobals "MOST_PRICE" = some (some (.int 1000 417)):=by kernel_rfl
theorem Pg:nsIn (κ w) mainGlobals "MOST_SIZE" = some (some (.int 360 411)):=by kernel_rfl
theorem S2:nsIn (κ w) mainGlobals "is_whole" = some (some (.ref 164)):=by kernel_rfl
theorem TQ:nsIn (κ w) mainGlobals "is_row" = some (some (.ref 169)):=by kernel_rfl
theorem NL:nsIn (κ w) mainGlobals "common" = some (some (.ref 176)):=by kernel_rfl
theorem Nj:nsIn (κ w) mainGlobals "multiple_of" = some (some (.ref 183)):=by kernel_rfl
theorem P1:nsIn (κ w) mainGlobals "unit_row" = some (some (.ref 188)):=by kernel_rfl
theorem Lk:nsIn (κ w) mainGlobals "is_within" = some (some (.ref 243)):=by kernel_rfl
theorem Rn:nsIn (κ w) mainGlobals "need_sizes" = some (some (.ref 250)):=by kernel_rfl
theorem Lw:nsIn (κ w) mainGlobals "need_levers" = some (some (.ref 257)):=by kernel_rfl
theorem Ru:nsIn (κ w) mainGlobals "prices_for" = some (some (.ref 264)):=by kernel_rfl
theorem QE:nsIn (κ w) mainGlobals "rests" = some (some (.ref 269)):=by kernel_rfl
theorem OM:nsIn (κ w) mainGlobals "mixed" = some (some (.ref 293)):=by kernel_rfl
theorem Qv:nsIn (κ w) mainGlobals "mixed_made" = some (some (.ref 300)):=by kernel_rfl
theorem ML:nsIn (κ w) mainGlobals "step_size" = some (some (.ref 321)):=by kernel_rfl
theorem Sl:nsIn (κ w) mainGlobals "taken_in" = some (some (.ref 328)):=by kernel_rfl
theorem Nf:nsIn (κ w) mainGlobals "lowered" = some (some (.ref 335)):=by kernel_rfl
theorem QN:nsIn (κ w) mainGlobals "in_spans" = some (some (.ref 342)):=by kernel_rfl
theorem Rv:nsIn (κ w) mainGlobals "_law_cell" = some (some (.ref 416)):=by kernel_rfl
theorem Rm:nsIn (κ w) mainGlobals "_law_stream" = some (some (.ref 423)):=by kernel_rfl
theorem SS:nsIn (κ w) mainGlobals "_law_digits" = some (some (.ref 430)):=by kernel_rfl
theorem SY:nsIn (κ w) mainGlobals "_law_sizes" = some (some (.ref 435)):=by kernel_rfl
theorem QL:nsIn (κ w) mainGlobals "_law_great" = some (some (.ref 442)):=by kernel_rfl
theorem K9:nsIn (κ w) mainGlobals "_law_lever" = some (some (.ref 449)):=by kernel_rfl
theorem OB:nsIn (κ w) mainGlobals "_law_levers" = some (some (.ref 456)):=by kernel_rfl
theorem LG:nsIn (κ w) mainGlobals "_law_added" = some (some (.ref 461)):=by kernel_rfl
theorem Mq:nsIn (κ w) mainGlobals "_law_turned" = some (some (.ref 468)):=by kernel_rfl
theorem ON:nsIn (κ w) mainGlobals "_law_brought_down" = some (some (.ref 475)):=by kernel_rfl
theorem Qa:nsIn (κ w) mainGlobals "_law_is_nought" = some (some (.ref 482)):=by kernel_rfl
theorem Ma:nsIn (κ w) mainGlobals "_law_step_good" = some (some (.ref 489)):=by kernel_rfl
theorem TB:nsIn (κ w) mainGlobals "_law_product" = some (some (.ref 496)):=by kernel_rfl
theorem Sb:nsIn (κ w) mainGlobals "_law_idle_good" = some (some (.ref 501)):=by kernel_rfl
theorem Sg:nsIn (κ w) mainGlobals "nought" = some (some (.ref 276)):=by kernel_rfl
theorem M0:nsIn (κ w) mainGlobals "is_setting" = some (some (.ref 281)):=by kernel_rfl
theorem KH:nsIn (κ w) mainGlobals "need_setting" = some (some (.ref 288)):=by kernel_rfl
theorem NU:nsIn (κ w) mainGlobals "unpulled" = some (some (.ref 307)):=by kernel_rfl
theorem Ng:nsIn (κ w) mainGlobals "pulled_once" = some (some (.ref 314)):=by kernel_rfl
theorem Ti:nsIn (κ w) mainGlobals "_law_spans_good" = some (some (.ref 508)):=by kernel_rfl
theorem Ow:findIn (κ w) (.ref 232) "__init__" = some (some (.ref 201)):=by kernel_rfl
theorem N1:isFn (κ w) (.ref 201)=true:=by kernel_rfl
theorem Py:makesIn (κ w) 232=true:=by kernel_rfl
theorem R_:keepIn (κ w) (.ref 232)=true:=by kernel_rfl
theorem Lu:nsIn (κ w) mainGlobals "Vault" = some (some (.ref 232)):=by kernel_rfl
theorem Ob:(κ w).lookup 196=some (HD.tu [.none]):=by kernel_rfl
theorem tq:Binds (κ w) fR ["self", "sizes", "levers", "prices"] [.none]:=(lM w).binds (Ob w) rfl fun _ _ _ _ _ _ us hl=>by obtain ⟨a,b,c,rfl⟩:=IK (show _=3 from (by simpa using hl));exact ⟨_,rfl,rfl⟩
theorem Mc:findIn (κ w) (.ref 232) "sizes" = some (some (.ref 208)):=by kernel_rfl
theorem S8:isFn (κ w) (.ref 208)=true:=by kernel_rfl
theorem O6:findIn (κ w) (.ref 232) "levers" = some (some (.ref 215)):=by kernel_rfl
theorem MB:isFn (κ w) (.ref 215)=true:=by kernel_rfl
theorem Mp:findIn (κ w) (.ref 232) "prices" = some (some (.ref 222)):=by kernel_rfl
theorem QK:isFn (κ w) (.ref 222)=true:=by kernel_rfl
theorem R7:findIn (κ w) (.ref 405) "steps" = some (some (.ref 359)):=by kernel_rfl
theorem NV:isFn (κ w) (.ref 359)=true:=by kernel_rfl
theorem Ib:findIn (κ w) (.ref 405) "rows" = some (some (.ref 364)):=by kernel_rfl
theorem JM:isFn (κ w) (.ref 364)=true:=by kernel_rfl
theorem Sr:findIn (κ w) (.ref 405) "spans" = some (some (.ref 369)):=by kernel_rfl
theorem PN:isFn (κ w) (.ref 369)=true:=by kernel_rfl
theorem Q1:findIn (κ w) (.ref 405) "idle" = some (some (.ref 376)):=by kernel_rfl
theorem Se:isFn (κ w) (.ref 376)=true:=by kernel_rfl
theorem Tb:findIn (κ w) (.ref 405) "__init__" = some (some (.ref 354)):=by kernel_rfl
theorem SA:isFn (κ w) (.ref 354)=true:=by kernel_rfl
theorem MQ:makesIn (κ w) 405=true:=by kernel_rfl
theorem RT:keepIn (κ w) (.ref 405)=true:=by kernel_rfl
theorem Qg:nsIn (κ w) mainGlobals "Rungs" = some (some (.ref 405)):=by kernel_rfl
theorem Q_:findIn (κ w) (.ref 405) "brought_down" = some (some (.ref 383)):=by kernel_rfl
theorem My:isFn (κ w) (.ref 383)=true:=by kernel_rfl
theorem OH:findIn (κ w) (.ref 405) "least" = some (some (.ref 390)):=by kernel_rfl
theorem Rp:isFn (κ w) (.ref 390)=true:=by kernel_rfl
theorem TN:findIn (κ w) (.ref 405) "pulls_to" = some (some (.ref 395)):=by kernel_rfl
theorem Oj:isFn (κ w) (.ref 395)=true:=by kernel_rfl
theorem txt {w:World} {h:Heap} {mg:Str->Option Value} (X:PySem.W.Frag.In (κ w) h) (G:h.Ns mainGlobals mg):Txt (κ w) mg where
 Jo:=mg_none_of X G (RV w)
 tM:=mg_none_of X G (MT w)
 bZ:=mg_none_of X G (KD w)
 xW:=mg_none_of X G (Mi w)
 aR:=mg_none_of X G (N2 w)
 Iq:=mg_none_of X G (M1 w)
 uO:=mg_none_of X G (Ln w)
 Ag:=mg_none_of X G (Kt w)
 EJ:=mg_none_of X G (SD w)
 gc:=mg_none_of X G (Nm w)
 jj:=mg_none_of X G (Ra w)
 nQ:=mg_none_of X G (Pe w)
 rj:=⟨_,mg_of X G (QG w),⟨_,rfl⟩⟩
 tH:=⟨_,mg_of X G (TY w),⟨_,rfl⟩⟩
 ug:=⟨_,mg_of X G (KC w),⟨_,rfl⟩⟩
 qL:=⟨_,mg_of X G (Mz w),⟨_,rfl⟩⟩
 sQ:=⟨_,mg_of X G (NP w),⟨_,rfl⟩⟩
 vn:=⟨_,mg_of X G (Pg w),⟨_,rfl⟩⟩
 oJ:=cP w
 lP:=gi w
 vP:=⟨(OQ w),sX w,(S0 w),(OL w),mg_of X G (Ni w)⟩
 yw:=⟨(Qi w),wH w,(P8 w),(Pk w),mg_of X G (KR w)⟩
 iD:=(Jk w)
 iz:=(Ip w)
 kS:=(Je w)
 ie:=(IE w)
 gB:=(H_ w)
 gk:=(IC w)
 fc:=(Jw w)
 uo:=fun C h=>by
  obtain rfl:=eq_of_beq h
  ·exact ⟨gi w,(IE w)⟩
 wa:=fun C h=>by
  obtain rfl:=eq_of_beq h
  ·exact ⟨cP w,(Jk w)⟩
 qT:=fun C h=>by
  obtain rfl:=eq_of_beq h
  ·exact ⟨gi w,(H_ w)⟩
 p8:=fun C h=>by
  obtain rfl:=eq_of_beq h
  ·exact ⟨gi w,(IC w)⟩
 mX:=fun C h=>by
  obtain rfl:=eq_of_beq h
  ·exact ⟨gi w,(Jw w)⟩
 vD:=fun C h=>by
  obtain rfl:=eq_of_beq h
  ·exact ⟨cP w,(Ip w)⟩
 D5:=fun C h=>by
  obtain rfl:=eq_of_beq h
  ·exact ⟨cP w,(Je w)⟩
theorem Fs {w:World} {h:Heap} {mg:Str->Option Value} (X:PySem.W.Frag.In (κ w) h) (G:h.Ns mainGlobals mg) (base:Heap):aN PySem.Challenge.pw_dialvault_k23_steps_walked w (κ w) mg base (bM PySem.Challenge.pw_dialvault_k23_steps_walked w) 7 515 sS ["_law_script"] (fm 1 sq):=by
 have T:=txt X G
 have x_NoDial:tZ PySem.Challenge.pw_dialvault_k23_steps_walked w (κ w) mg base jc "NoDial" "dial" := ⟨⟨55,iN,["self", "dial"],(TK w),(MW w),wN,wI w⟩,sE w,(SK w),(O9 w),mg_of X G (Oc w)⟩
 have x_NoLever:tZ PySem.Challenge.pw_dialvault_k23_steps_walked w (κ w) mg base i9 "NoLever" "lever" := ⟨⟨81,gM,["self", "lever"],(Ol w),(Qf w),vm,wj w⟩,qh w,(SE w),(RQ w),mg_of X G (S5 w)⟩
 have x_NoPrice:tZ PySem.Challenge.pw_dialvault_k23_steps_walked w (κ w) mg base gX "NoPrice" "lever" := ⟨⟨107,gD,["self", "lever"],(Ny w),(Lx w),wo,va w⟩,pe w,(MU w),(OJ w),mg_of X G (Lq w)⟩
 have o_is_whole:bL PySem.Challenge.pw_dialvault_k23_steps_walked w (κ w) mg base 1 "is_whole" 1 (aw 1 ic):=⟨⟨164,iG,["thing"],mg_of X G (S2 w),(u3 w),rfl,xB w,wm (w8 w) T ⟩⟩
 have o_is_row:bL PySem.Challenge.pw_dialvault_k23_steps_walked w (κ w) mg base 2 "is_row" 2 (aw 2 iW):=⟨⟨169,ko,["thing", "length"],mg_of X G (TQ w),(u6 w),rfl,A1 w,yr (Ai w) T o_is_whole⟩⟩
 have o_common:bL PySem.Challenge.pw_dialvault_k23_steps_walked w (κ w) mg base 1 "common" 2 (aw 6 jf):=⟨⟨176,kD,["one", "other"],mg_of X G (NL w),(u9 w),rfl,BL w,y4 (AS w) T ⟩⟩
 have o_multiple_of:bL PySem.Challenge.pw_dialvault_k23_steps_walked w (κ w) mg base 2 "multiple_of" 1 (aw 3 cU):=⟨⟨183,eV,["numbers"],mg_of X G (Nj w),(UA w),rfl,qX w,pZ (qS w) T o_common⟩⟩
 have o_unit_row:bL PySem.Challenge.pw_dialvault_k23_steps_walked w (κ w) mg base 1 "unit_row" 2 (aw 2 g8):=⟨⟨188,iO,["length", "place"],mg_of X G (P1 w),(Uq w),rfl,w4 w,vj (wY w) T ⟩⟩
 have o_is_within:bL PySem.Challenge.pw_dialvault_k23_steps_walked w (κ w) mg base 2 "is_within" 3 (aw 3 eI):=⟨⟨243,gO,["thing", "least", "most"],mg_of X G (Lk w),(T8 w),rfl,u_ w,uJ (vq w) T o_is_whole⟩⟩
 have o_need_sizes:bL PySem.Challenge.pw_dialvault_k23_steps_walked w (κ w) mg base 3 "need_sizes" 1 (aw 3 dF):=⟨⟨250,fX,["sizes"],mg_of X G (Rn w),(UE w),rfl,uz w,rH (sW w) T x_NoDial o_is_within⟩⟩
 have o_need_levers:bL PySem.Challenge.pw_dialvault_k23_steps_walked w (κ w) mg base 3 "need_levers" 2 (aw 4 dZ):=⟨⟨257,eU,["levers", "dials"],mg_of X G (Lw w),(Uj w),rfl,rL w,oY (rg w) T o_is_row x_NoLever⟩⟩
 have o_prices_for:bL PySem.Challenge.pw_dialvault_k23_steps_walked w (κ w) mg base 3 "prices_for" 2 (aw 3 e7):=⟨⟨264,gg,["levers", "prices"],mg_of X G (Ru w),(UC w),rfl,uu w,qJ (sN w) T x_NoPrice o_is_within⟩⟩
 have o_rests:bL PySem.Challenge.pw_dialvault_k23_steps_walked w (κ w) mg base 1 "rests" 2 (aw 2 kj):=⟨⟨269,lO,["numbers", "sizes"],mg_of X G (QE w),(Uw w),rfl,DZ w,z_ (DJ w) T ⟩⟩
 have o_mixed:bL PySem.Challenge.pw_dialvault_k23_steps_walked w (κ w) mg base 1 "mixed" 4 (aw 4 kG):=⟨⟨293,lB,["row", "times", "other", "others"],mg_of X G (OM w),(Uu w),rfl,DX w,Bs (Ew w) T ⟩⟩
 have o_mixed_made:bL PySem.Challenge.pw_dialvault_k23_steps_walked w (κ w) mg base 2 "mixed_made" 5 (aw 6 dE):=⟨⟨300,fV,["sizes", "made", "times", "other", "others"],mg_of X G (Qv w),(T7 w),rfl,t_ w,qB (uc w) T o_mixed o_rests⟩⟩
 have o_step_size:bL PySem.Challenge.pw_dialvault_k23_steps_walked w (κ w) mg base 1 "step_size" 3 (aw 4 de):=⟨⟨321,gH,["sizes", "made_rows", "dial"],mg_of X G (ML w),(T1 w),rfl,vJ w,tJ (vh w) T ⟩⟩
 have o_taken_in:bL PySem.Challenge.pw_dialvault_k23_steps_walked w (κ w) mg base 3 "taken_in" 3 (aw 9 ig):=⟨⟨328,iJ,["sizes", "made_rows", "left"],mg_of X G (Sl w),(UB w),rfl,xk w,vY (wA w) T o_step_size o_common o_mixed_made⟩⟩
 have o_lowered:bL PySem.Challenge.pw_dialvault_k23_steps_walked w (κ w) mg base 3 "lowered" 4 (aw 6 gY):=⟨⟨335,jx,["sizes", "made_rows", "made", "first"],mg_of X G (Nf w),(T6 w),rfl,yK w,xt (zy w) T o_step_size o_mixed_made⟩⟩
 have o_in_spans:bL PySem.Challenge.pw_dialvault_k23_steps_walked w (κ w) mg base 2 "in_spans" 2 (aw 4 fF):=⟨⟨342,iC,["pulls", "idle_rows"],mg_of X G (QN w),(Um w),rfl,wV w,vi (wO w) T o_mixed⟩⟩
 have o__law_cell:bL PySem.Challenge.pw_dialvault_k23_steps_walked w (κ w) mg base 1 "_law_cell" 2 (aw 2 eH):=⟨⟨416,gF,["_law_script", "_law_k"],mg_of X G (Rv w),(Ux w),rfl,vL w,uF (wb w) T ⟩⟩
 have o__law_stream:bL PySem.Challenge.pw_dialvault_k23_steps_walked w (κ w) mg base 1 "_law_stream" 2 (aw 5 cT):=⟨⟨423,fj,["_law_cell_here", "_law_many"],mg_of X G (Rm w),(T4 w),rfl,qH w,pS (rG w) T ⟩⟩
 have o__law_digits:bL PySem.Challenge.pw_dialvault_k23_steps_walked w (κ w) mg base 1 "_law_digits" 2 (aw 5 cV):=⟨⟨430,eY,["_law_cell_here", "_law_bases"],mg_of X G (SS w),(UD w),rfl,qx w,oW (rM w) T ⟩⟩
 have o__law_sizes:bL PySem.Challenge.pw_dialvault_k23_steps_walked w (κ w) mg base 2 "_law_sizes" 1 (aw 4 eP):=⟨⟨435,f_,["_law_cell_here"],mg_of X G (SY w),(UG w),rfl,sL w,qZ (tm w) T o__law_digits o__law_stream⟩⟩
 have o__law_great:bL PySem.Challenge.pw_dialvault_k23_steps_walked w (κ w) mg base 1 "_law_great" 1 (aw 1 eR):=⟨⟨442,gb,["_law_number"],mg_of X G (QL w),(T_ w),rfl,tw w,qP (uf w) T ⟩⟩
 have o__law_lever:bL PySem.Challenge.pw_dialvault_k23_steps_walked w (κ w) mg base 2 "_law_lever" 2 (aw 6 ff):=⟨⟨449,fU,["_law_cell_here", "_law_sizes_here"],mg_of X G (K9 w),(Ul w),rfl,uv w,rB (tN w) T o__law_stream o__law_great⟩⟩
 have o__law_levers:bL PySem.Challenge.pw_dialvault_k23_steps_walked w (κ w) mg base 3 "_law_levers" 2 (aw 5 dO):=⟨⟨456,fe,["_law_script", "_law_sizes_here"],mg_of X G (OB w),(Uh w),rfl,qK w,oR (qz w) T o__law_cell o__law_digits o__law_lever⟩⟩
 have o__law_added:bL PySem.Challenge.pw_dialvault_k23_steps_walked w (κ w) mg base 1 "_law_added" 4 (aw 4 bJ):=⟨⟨461,fT,["_law_sizes_here", "_law_one", "_law_other", "_law_times"],mg_of X G (LG w),(UO w),rfl,tV w,qN (t7 w) T ⟩⟩
 have o__law_turned:bL PySem.Challenge.pw_dialvault_k23_steps_walked w (κ w) mg base 2 "_law_turned" 4 (aw 7 cR):=⟨⟨468,e_,["_law_sizes_here", "_law_levers_here", "_law_setting", "_law_pulls"],mg_of X G (Mq w),(Ui w),rfl,rJ w,oN (qI w) T o__law_added⟩⟩
 have o__law_brought_down:bL PySem.Challenge.pw_dialvault_k23_steps_walked w (κ w) mg base 2 "_law_brought_down" 4 (aw 7 bh):=⟨⟨475,cj,["_law_sizes_here", "_law_steps", "_law_rows", "_law_setting"],mg_of X G (ON w),(UM w),rfl,kM w,jZ (kN w) T o__law_added⟩⟩
 have o__law_is_nought:bL PySem.Challenge.pw_dialvault_k23_steps_walked w (κ w) mg base 1 "_law_is_nought" 1 (aw 1 bq):=⟨⟨482,c7,["_law_row"],mg_of X G (Qa w),(Uv w),rfl,mY w,lE (ng w) T ⟩⟩
 have o__law_step_good:bL PySem.Challenge.pw_dialvault_k23_steps_walked w (κ w) mg base 3 "_law_step_good" 4 (aw 9 cD):=⟨⟨489,c8,["_law_sizes_here", "_law_steps", "_law_rows", "_law_dial"],mg_of X G (Ma w),(Up w),rfl,mx w,l8 (ni w) T o__law_is_nought o__law_added o__law_brought_down⟩⟩
 have o__law_product:bL PySem.Challenge.pw_dialvault_k23_steps_walked w (κ w) mg base 1 "_law_product" 1 (aw 3 dw):=⟨⟨496,ee,["_law_numbers"],mg_of X G (TB w),(Us w),rfl,pO w,oy (qa w) T ⟩⟩
 have o__law_idle_good:bL PySem.Challenge.pw_dialvault_k23_steps_walked w (κ w) mg base 3 "_law_idle_good" 5 (aw 7 cF):=⟨⟨501,c_,["_law_sizes_here", "_law_levers_here", "_law_spans", "_law_row", "_law_lever_here"],mg_of X G (Sb w),(T9 w),rfl,mv w,l4 (mH w) T o__law_turned o__law_is_nought⟩⟩
 have o_Vault_init:Gi PySem.Challenge.pw_dialvault_k23_steps_walked w (κ w) mg base aE 4 "Vault" 4 [.cI] eX:=⟨⟨201,fR,["self", "sizes", "levers", "prices"],[.none],[.cI],mg_of X G (Lu w),⟨(Py w),(Ow w),(N1 w),(R_ w)⟩,tq w,(.cons rfl .nil),fun _=>(.cons .cI .nil),qv (lM w) T o_need_sizes o_need_levers o_rests o_prices_for o_multiple_of⟩⟩
 have o_Vault_sizes:lh PySem.Challenge.pw_dialvault_k23_steps_walked w (κ w) mg base aE 1 "sizes" 1 (aw 1 bA):=⟨⟨208,eW,["self"],gi w,⟨(Mc w),(S8 w),(Uy w)⟩,rn w,pR (qw w) T ⟩⟩
 have o_Vault_levers:lh PySem.Challenge.pw_dialvault_k23_steps_walked w (κ w) mg base aE 1 "levers" 1 (aw 1 bQ):=⟨⟨215,ef,["self"],gi w,⟨(O6 w),(MB w),(UI w)⟩,p5 w,oz (qk w) T ⟩⟩
 have o_Vault_prices:lh PySem.Challenge.pw_dialvault_k23_steps_walked w (κ w) mg base aE 1 "prices" 1 (aw 1 h9):=⟨⟨222,eh,["self"],gi w,⟨(Mp w),(QK w),(Io w)⟩,pF w,oB (pB w) T ⟩⟩
 have o_Rungs_steps:lh PySem.Challenge.pw_dialvault_k23_steps_walked w (κ w) mg base av 2 "steps" 1 (aw 2 dY):=⟨⟨359,fb,["self"],cP w,⟨(R7 w),(NV w),(IA w)⟩,qF w,pM (qO w) T o_Vault_sizes o_step_size⟩⟩
 have o_Rungs_rows:lh PySem.Challenge.pw_dialvault_k23_steps_walked w (κ w) mg base av 1 "rows" 1 (aw 1 fg):=⟨⟨364,dQ,["self"],cP w,⟨(Ib w),(JM w),(Ha w)⟩,me w,qA (lW w) T ⟩⟩
 have q_Rungs_rows:Eg PySem.Challenge.pw_dialvault_k23_steps_walked w (κ w) mg base av 1 "rows" dH:=⟨⟨364,dQ,["self"],cP w,⟨(Ib w),(JM w),(Ha w)⟩,me w,qi (lW w) T ⟩⟩
 have o_Rungs_spans:lh PySem.Challenge.pw_dialvault_k23_steps_walked w (κ w) mg base av 1 "spans" 1 (aw 1 dU):=⟨⟨369,e9,["self"],cP w,⟨(Sr w),(PN w),(I_ w)⟩,q_ w,oO (rC w) T ⟩⟩
 have o_Rungs_idle:lh PySem.Challenge.pw_dialvault_k23_steps_walked w (κ w) mg base av 1 "idle" 1 (aw 1 eO):=⟨⟨376,fY,["self"],cP w,⟨(Q1 w),(Se w),(JF w)⟩,tW w,qM (uE w) T ⟩⟩
 have o_nought:bL PySem.Challenge.pw_dialvault_k23_steps_walked w (κ w) mg base 2 "nought" 1 (aw 1 iY):=⟨⟨276,kr,["vault"],mg_of X G (Sg w),(Jr w),rfl,Am w,yx (BI w) T o_Vault_sizes⟩⟩
 have o_is_setting:bL PySem.Challenge.pw_dialvault_k23_steps_walked w (κ w) mg base 3 "is_setting" 2 (aw 3 ck):=⟨⟨281,fQ,["vault", "thing"],mg_of X G (M0 w),(Iv w),rfl,uh w,qC (uC w) T o_Vault_sizes o_is_row⟩⟩
 have o_need_setting:bL PySem.Challenge.pw_dialvault_k23_steps_walked w (κ w) mg base 4 "need_setting" 2 (aw 2 cz):=⟨⟨288,eo,["vault", "thing"],mg_of X G (KH w),(IL w),rfl,pT w,oo (pU w) T o_is_setting⟩⟩
 have o_unpulled:bL PySem.Challenge.pw_dialvault_k23_steps_walked w (κ w) mg base 2 "unpulled" 2 (aw 2 fz):=⟨⟨307,iB,["vault", "setting"],mg_of X G (NU w),(IU w),rfl,wK w,vv (xD w) T o_Vault_levers⟩⟩
 have o_pulled_once:bL PySem.Challenge.pw_dialvault_k23_steps_walked w (κ w) mg base 2 "pulled_once" 2 (aw 3 dS):=⟨⟨314,eN,["vault", "lever"],mg_of X G (Ng w),(Ju w),rfl,qG w,pH (rm w) T o_Vault_levers o_unit_row⟩⟩
 have o__law_spans_good:bL PySem.Challenge.pw_dialvault_k23_steps_walked w (κ w) mg base 4 "_law_spans_good" 4 (aw 9 cq):=⟨⟨508,cK,["_law_rungs", "_law_sizes_here", "_law_levers_here", "_law_steps"],mg_of X G (Ti w),(JE w),rfl,lD w,k6 (mn w) T o_Rungs_spans o_Rungs_idle o__law_product o__law_idle_good⟩⟩
 have o_Rungs_init:Gi PySem.Challenge.pw_dialvault_k23_steps_walked w (κ w) mg base av 4 "Rungs" 2 [] iK:=⟨⟨354,fO,["self", "vault"],[],[],mg_of X G (Qg w),⟨(MQ w),(Tb w),(SA w),(RT w)⟩,ur w,.nil,fun _=>.nil,qV (sY w) T o_Vault_sizes o_nought o_unpulled o_Vault_levers o_pulled_once o_taken_in o_in_spans o_lowered⟩⟩
 have o_Rungs_brought_down:lh PySem.Challenge.pw_dialvault_k23_steps_walked w (κ w) mg base av 5 "brought_down" 2 (aw 2 aU):=⟨⟨383,bS,["self", "setting"],cP w,⟨(Q_ w),(My w),(JD w)⟩,kd w,jO (j3 w) T o_need_setting o_unpulled o_Vault_sizes o_lowered⟩⟩
 have o_Rungs_least:lh PySem.Challenge.pw_dialvault_k23_steps_walked w (κ w) mg base av 6 "least" 2 (aw 2 dX):=⟨⟨390,e8,["self", "setting"],cP w,⟨(OH w),(Rp w),(IP w)⟩,qY w,qf (qy w) T o_Rungs_brought_down⟩⟩
 have o_Rungs_pulls_to:lh PySem.Challenge.pw_dialvault_k23_steps_walked w (κ w) mg base av 6 "pulls_to" 2 (aw 3 bw):=⟨⟨395,cZ,["self", "setting"],cP w,⟨(TN w),(Oj w),(JR w)⟩,mL w,lX (mE w) T o_Rungs_brought_down o_nought o_in_spans⟩⟩
 exact G4 (JB w) T o__law_cell o__law_sizes o__law_levers o_Vault_init o_Rungs_init o_Rungs_steps o_Rungs_rows o__law_step_good o_Rungs_pulls_to o__law_turned o__law_added o__law_brought_down o__law_is_nought o__law_spans_good q_Rungs_rows
theorem Q2:xI (κ w)=true:=by kernel_rfl
theorem M9:nsIn (κ w) mainGlobals "law" = some (some (.ref 515)):=by kernel_rfl
end wz
open PySem PySem.W
theorem wz.hold (said:PySem.Challenge.rw_dialvault_k23_steps_walked.wellSaid=true) (hsem:∀ ns:List Int,ns.length<=63->(∀ i∈ns,Builtin.Int.intBits i<=1048576)->wz.sq [.jR (ns.map L2.PV.int)]=L2.M.ok (.bl true)):PySem.Challenge.rw_dialvault_k23_steps_walked.Holds:=by
 refine holds_law said fun said=>?_
 refine holds_open (q:=HD.vw) (loose:=HD.loose) (Xt:=HD.Xt) (XP:=XL HD.vw []) (Yf:=Hook.obs HD.hook) (Ya:=Hook.val HD.hook) (YP:=Hook.says HD.hook) HD.Ja (Hook.of HD.hook) (Hook.keeps HD.hook) (fun s e=>xl_of s (Bool.and_eq_true_iff.mp e).1) XL.keeps (by rfl) (by rfl) (by rfl) (fun s e=>recFacts_of (Bool.and_eq_true_iff.mp e).2) (by rfl) said (by decide +kernel) ⟨rfl,rfl,rfl,rfl,rfl,by decide +kernel⟩ ?hw ?hc
 case hw=>w_witness2
 refine L2.w_ (l:=PySem.Challenge.rw_dialvault_k23_steps_walked) (n:=63) (k:=7) (x := "_law_script") (K:=HD.K) (sem:=wz.sq) rfl (by decide) rfl ⟨rfl,by decide,by decide⟩ (fun w h Y=>PySem.W.kIn_of Y) (fun w=>wz.Q2 w) (fun w mg fa h X G hmg=>?_) hsem
 have e:=hmg.symm.trans (PySem.W.mg_of X G (wz.M9 w))
 cases e
 exact ⟨wz.sS,fun s v=>.of_eq rfl,fun base X' G'=>wz.Fs X' G' base⟩
namespace Eu
theorem r6 (a b:Int) (hb:b≠0):(a-a.fdiv b*b).natAbs<b.natAbs/\0<=(a-a.fdiv b*b)*b/\(0<=a*b->a.natAbs=(a.fdiv b).natAbs*b.natAbs+(a-a.fdiv b*b).natAbs):=by
 have pos:∀ (a b:Int),0<b->(a-a/b*b).natAbs<b.natAbs/\0<=(a-a/b*b)*b/\(0<=a*b->a.natAbs=(a/b).natAbs*b.natAbs+(a-a/b*b).natAbs):=by
  intro a b hb
  have e:a-a/b*b=a%b:=by
   have h:=Int.mul_ediv_add_emod a b
   rw [Int.mul_comm] at h
   omega
  have h0:=Int.emod_nonneg a (by omega:b≠0)
  have h1:=Int.emod_lt_of_pos a hb
  rw [e]
  refine ⟨by omega,Int.mul_nonneg h0 (by omega),fun hab=>?_⟩
  have ha:0<=a:=by
   rcases Int.lt_or_le a 0 with h | h
   ·have:=Int.mul_neg_of_neg_of_pos h hb
    omega
   ·exact h
  have hq:0<=a/b:=Int.ediv_nonneg ha (by omega)
  have h2:=Int.mul_ediv_add_emod a b
  have h3:((a/b).natAbs*b.natAbs:Nat)=(b*(a/b)).natAbs:=by
   rw [Int.natAbs_mul,Nat.mul_comm]
  rw [h3]
  have h4:0<=b*(a/b):=Int.mul_nonneg (by omega) hq
  omega
 rcases Int.lt_or_le 0 b with h | h
 ·rw [Int.fdiv_eq_ediv_of_nonneg a (by omega)]
  exact pos a b h
 ·have h':0 < -b:=by omega
  have e:a.fdiv b=(-a)/(-b):=by
   rw [← Int.fdiv_eq_ediv_of_nonneg (-a) (by omega:0<=-b),Int.neg_fdiv_neg]
  obtain ⟨p1,p2,p3⟩:=pos (-a) (-b) h'
  have e2:-a-(-a)/(-b)*(-b)=-(a-a.fdiv b*b):=by
   rw [← e,Int.mul_neg]
   omega
  rw [e2] at p1 p2 p3
  rw [← e] at p3
  simp only [Int.natAbs_neg,Int.neg_mul_neg] at p1 p2 p3
  exact ⟨p1,p2,p3⟩
structure St (a b:Int) (r s t r' s' t':Int):Prop where
 c0:r=s*a+t*b
 c1:r'=s'*a+t'*b
 dv:∀ d:Int,d∣r->d∣r'->d∣a/\d∣b
 bd:s'.natAbs*r.natAbs+s.natAbs*r'.natAbs<=b.natAbs
 sg:s'=0\/0<=r*r'
 b0:s.natAbs<=b.natAbs+1
 b1:s'.natAbs<=b.natAbs+1
 d0:t.natAbs<=a.natAbs+(b.natAbs+1)*a.natAbs+b.natAbs+1
 d1:t'.natAbs<=a.natAbs+(b.natAbs+1)*a.natAbs+b.natAbs+1
 m0:r.natAbs<=a.natAbs+b.natAbs
 m1:r'.natAbs<=b.natAbs
theorem start (a b:Int):St a b a 1 0 b 0 1 where
 c0:=by omega
 c1:=by omega
 dv:=fun d h1 h2=>⟨h1,h2⟩
 bd:=by simp
 sg:=.inl rfl
 b0:=by omega
 b1:=by omega
 d0:=by simp
 d1:=by omega
 m0:=by omega
 m1:=by omega
theorem turn {a b r s t r' s' t':Int} (h:St a b r s t r' s' t') (h0:r'≠0) :
  St a b r' s' t' (r-r.fdiv r'*r') (s-r.fdiv r'*s') (t-r.fdiv r'*t')/\(r-r.fdiv r'*r').natAbs<r'.natAbs:=by
 obtain ⟨f1,f2,f3⟩:=r6 r r' h0
 generalize hq:r.fdiv r'=q at *
 have hb:b≠0:=by
  intro z
  have:=h.m1
  omega
 have hr':1<=r'.natAbs:=by omega
 have c1':r-q*r'=(s-q*s')*a+(t-q*t')*b:=by
  rw [h.c0,h.c1,Int.sub_mul,Int.sub_mul,Int.mul_add,Int.mul_assoc,Int.mul_assoc]
  omega
 have bd':(s-q*s').natAbs*r'.natAbs+s'.natAbs*(r-q*r').natAbs<=b.natAbs:=by
  have wW:(s-q*s').natAbs<=s.natAbs+q.natAbs*s'.natAbs:=by
   rw [← Int.natAbs_mul]
   omega
  have hbd:=h.bd
  rcases h.sg with z | z
  ·subst z
   simp only [Int.mul_zero,Int.sub_zero,Int.natAbs_zero,Nat.zero_mul,Nat.zero_add,Nat.add_zero] at hbd ⊢
   exact hbd
  ·have e:=f3 z
   have k1:(s-q*s').natAbs*r'.natAbs<=(s.natAbs+q.natAbs*s'.natAbs)*r'.natAbs:=Nat.mul_le_mul_right _ wW
   have k2:(s.natAbs+q.natAbs*s'.natAbs)*r'.natAbs+s'.natAbs*(r-q*r').natAbs=s'.natAbs*r.natAbs+s.natAbs*r'.natAbs:=by
    rw [e,Nat.add_mul,Nat.mul_add,Nat.mul_comm q.natAbs s'.natAbs,Nat.mul_assoc]
    omega
   omega
 have b1':(s-q*s').natAbs<=b.natAbs:=by
  have:(s-q*s').natAbs*1<=(s-q*s').natAbs*r'.natAbs:=Nat.mul_le_mul_left _ hr'
  omega
 have mm:(r-q*r').natAbs<=b.natAbs:=by
  have:=h.m1
  omega
 have d1':(t-q*t').natAbs<=a.natAbs+(b.natAbs+1)*a.natAbs+b.natAbs+1:=by
  have e:(t-q*t')*b=(r-q*r')-(s-q*s')*a:=by omega
  have e1:((t-q*t')*b).natAbs<=(r-q*r').natAbs+((s-q*s')*a).natAbs:=by omega
  rw [Int.natAbs_mul,Int.natAbs_mul] at e1
  have k1:(t-q*t').natAbs*1<=(t-q*t').natAbs*b.natAbs:=Nat.mul_le_mul_left _ (by omega)
  have k2:(s-q*s').natAbs*a.natAbs<=(b.natAbs+1)*a.natAbs:=Nat.mul_le_mul_right _ (by omega)
  omega
 refine ⟨⟨h.c1,c1',fun d e1 e2=>?_,bd',?_,h.b1,by omega,h.d1,d1',?_,mm⟩,f1⟩
 ·refine h.dv d ?_ e1
  have e3:d∣q*r':=Int.dvd_trans e1 (Int.dvd_mul_left _ _)
  have e4:=Int.dvd_add e2 e3
  rwa [Int.sub_add_cancel] at e4
 ·exact .inr (by rw [Int.mul_comm];exact f2)
 ·have:=h.m1
  omega
theorem done {a b r s t s' t':Int} (h:St a b r s t 0 s' t'):r∣a/\r∣b:=h.dv r (Int.dvd_refl r) (Int.dvd_zero r)
end Eu
namespace Lc
def Cn (ns:List Nat):Nat:=ns.foldl Nat.lcm 1
theorem ya:∀ (ns:List Nat) (m:Nat),m∣ns.foldl Nat.lcm m/\(∀ n∈ns,n∣ns.foldl Nat.lcm m)/\(∀ k,m∣k->(∀ n∈ns,n∣k)->ns.foldl Nat.lcm m∣k)
 | [],m=>⟨Nat.dvd_refl m,(fun _ h=>nomatch h),fun k h _=>h⟩
 | n::ns,m=>by
  obtain ⟨h1,h2,h3⟩:=ya ns (Nat.lcm m n)
  refine ⟨Nat.dvd_trans (Nat.dvd_lcm_left m n) h1,fun x hx=>?_,fun k hm hk=>?_⟩
  ·rcases List.mem_cons.mp hx with e | hx
   ·rw [e];exact Nat.dvd_trans (Nat.dvd_lcm_right m n) h1
   ·exact h2 x hx
  ·exact h3 k (Nat.lcm_dvd hm (hk n List.mem_cons_self)) fun x hx=>hk x (List.mem_cons_of_mem _ hx)
theorem lcm_dvd {ns:List Nat} {n:Nat} (h:n∈ns):n∣Cn ns:=(ya ns 1).2.1 n h
theorem nG:∀ (ns:List Nat) (m:Nat),0<m->(∀ n∈ns,0<n)->0<ns.foldl Nat.lcm m
 | [],m,h,_=>h
 | n::ns,m,h,hp=>nG ns (Nat.lcm m n) (Nat.lcm_pos h (hp n List.mem_cons_self)) fun x hx=>hp x (List.mem_cons_of_mem _ hx)
theorem lcm_pos {ns:List Nat} (h:∀ n∈ns,0<n):0<Cn ns:=nG ns 1 (by decide) h
theorem p7 (B:Nat):∀ (ns:List Nat) (m k:Nat),0<m->m<=2^k->(∀ n∈ns,0<n/\n<=2^B)->ns.foldl Nat.lcm m<=2^(k+B*ns.length)
 | [],m,k,_,h,_=>by simpa using h
 | n::ns,m,k,h0,h,hp=>by
  have hn:=hp n List.mem_cons_self
  have h1:Nat.lcm m n<=2^(k+B):=by
   have:Nat.lcm m n<=m*n:=Nat.le_of_dvd (Nat.mul_pos h0 hn.1) (Nat.lcm_dvd (Nat.dvd_mul_right m n) (Nat.dvd_mul_left n m))
   rw [Nat.pow_add]
   exact Nat.le_trans this (Nat.mul_le_mul h hn.2)
  have h2:=p7 B ns (Nat.lcm m n) (k+B) (Nat.lcm_pos h0 hn.1) h1 fun x hx=>hp x (List.mem_cons_of_mem _ hx)
  have e:k+B*(n::ns).length=k+B+B*ns.length:=by
   rw [List.length_cons,Nat.mul_succ];omega
  rw [e]
  exact h2
theorem zX (m n:Nat):m/Nat.gcd m n*n=Nat.lcm m n:=by
 unfold Nat.lcm
 rw [Nat.div_mul_right_comm (Nat.gcd_dvd_left m n)]
end Lc
namespace Rg
abbrev dc:=Nat->Int
def aO (s:dc) (D:Nat->dc) (d:Nat):Int:=if D d d=0 then s d else D d d
def G (n:Nat) (s:dc) (D:Nat->dc):Nat->Nat->dc->Prop
 | 0,_,v=>∀ i,i<n->s i∣v i
 | k+1,d,v=>aO s D d∣v d/\G n s D k (d+1) fun i=>v i-v d/aO s D d*D d i
def U (i:Nat) (c:Int):dc:=fun j=>if j=i then c else 0
section
variable {n:Nat} {s:dc} {D:Nat->dc}
theorem G.ext:∀ {k d:Nat} {v w:dc},d+k=n->(∀ i,i<n->v i=w i)->G n s D k d v->G n s D k d w
 | 0,d,v,w,_,e,h=>fun i hi=>by rw [← e i hi];exact h i hi
 | k+1,d,v,w,hn,e,h=>by
  have ed:=e d (by omega)
  refine ⟨by rw [← ed];exact h.1,G.ext (by omega) (fun i hi=>?_) h.2⟩
  rw [e i hi,ed]
theorem G.add:∀ {k d:Nat} {v w:dc},d+k=n->G n s D k d v->G n s D k d w->G n s D k d fun i=>v i+w i
 | 0,d,v,w,_,h,h'=>fun i hi=>Int.dvd_add (h i hi) (h' i hi)
 | k+1,d,v,w,hn,h,h'=>by
  refine ⟨Int.dvd_add h.1 h'.1,G.ext (by omega) (fun i hi=>?_) (G.add (by omega) h.2 h'.2)⟩
  show _=v i+w i-(v d+w d)/aO s D d*D d i
  rw [Int.add_ediv_of_dvd_left h.1,Int.add_mul]
  omega
theorem G.mul (c:Int):∀ {k d:Nat} {v:dc},d+k=n->G n s D k d v->G n s D k d fun i=>c*v i
 | 0,d,v,_,h=>fun i hi=>Int.dvd_trans (h i hi) (Int.dvd_mul_left _ _)
 | k+1,d,v,hn,h=>by
  refine ⟨Int.dvd_trans h.1 (Int.dvd_mul_left _ _),G.ext (by omega) (fun i hi=>?_) (G.mul c (by omega) h.2)⟩
  show _=c*v i-c*v d/aO s D d*D d i
  rw [Int.mul_ediv_assoc c h.1,Int.mul_sub,Int.mul_assoc]
theorem G.zero:∀ {k d:Nat},d+k=n->G n s D k d fun _=>0
 | 0,d,_=>fun i _=>Int.dvd_zero _
 | k+1,d,hn=>⟨Int.dvd_zero _,G.ext (by omega) (fun i hi=>by simp) (G.zero (k:=k) (d:=d+1) (by omega))⟩
theorem G.skip {v:dc}:∀ {j k d:Nat},d+(j+k)=n->(∀ i,d<=i->i<d+j->v i=0)->G n s D k (d+j) v->G n s D (j+k) d v
 | 0,k,d,_,_,h=>by rw [Nat.zero_add];exact h
 | j+1,k,d,hn,hz,h=>by
  rw [show j+1+k=(j+k)+1 by omega]
  have z:=hz d (Nat.le_refl _) (by omega)
  refine ⟨by rw [z];exact Int.dvd_zero _,G.ext (v:=v) (by omega) (fun i hi=>by rw [z];simp) (G.skip (by omega) (fun i h1 h2=>hz i (by omega) (by omega)) (by rw [show d+1+j=d+(j+1) by omega];exact h))⟩
end
structure Good (n:Nat) (s:dc) (D:Nat->dc):Prop where
 sp:∀ i,i<n->0<s i
 jS:∀ d,d<n->∀ i,i<n->0<=D d i/\D d i<s i
 wW:∀ d,d<n->∀ i,i<d->D d i=0
 dv:∀ d,d<n->aO s D d∣s d
 Ko:∀ d k,d+(k+1)=n->G n s D k (d+1) fun i=>s d/aO s D d*D d i
section
variable {n:Nat} {s:dc} {D:Nat->dc}
theorem Good.pos (g:Good n s D) {d:Nat} (h:d<n):0<aO s D d/\aO s D d<=s d:=by
 have h1:=g.jS d h d h
 have h2:=g.sp d h
 unfold aO
 split <;> omega
theorem Good.diag (g:Good n s D) {d:Nat} (h:d<n):s d∣D d d-aO s D d:=by
 unfold aO
 split
 ·rename_i z;rw [z];exact ⟨-1,by omega⟩
 ·rw [Int.sub_self];exact Int.dvd_zero _
theorem Good.turn (g:Good n s D):∀ {k d i:Nat} (c:Int),d+k=n->i<n->G n s D k d (U i (c*s i))
 | 0,d,i,c,_,hi=>fun j hj=>by
  unfold U
  split
  ·rename_i z;rw [z];exact Int.dvd_mul_left _ _
  ·exact Int.dvd_zero _
 | k+1,d,i,c,hn,hi=>by
  have hd:d<n:=by omega
  by_cases z:i=d
  ·subst z
   have dv:=g.dv i hi
   refine ⟨by show _∣U i _ i;rw [U,if_pos rfl];exact Int.dvd_trans dv (Int.dvd_mul_left _ _),?_⟩
   refine G.ext (by omega) (fun j hj=>?_) (G.add (by omega) (g.turn (k:=k) (d:=i+1) (i:=i) c (by omega) hi) (G.mul (-c) (by omega) (g.Ko i k hn)))
   show U i (c*s i) j+-c*(s i/aO s D i*D i j)=U i (c*s i) j-U i (c*s i) i/aO s D i*D i j
   rw [show U i (c*s i) i=c*s i by rw [U,if_pos rfl],Int.mul_ediv_assoc c dv,Int.neg_mul,Int.mul_assoc]
   omega
  ·have u0:U i (c*s i) d=0:=by rw [U,if_neg (Ne.symm z)]
   refine ⟨by rw [u0];exact Int.dvd_zero _,G.ext (by omega) (fun j hj=>?_) (g.turn (k:=k) (d:=d+1) (i:=i) c (by omega) hi)⟩
   rw [u0];simp
theorem G.oS {k d:Nat} {v w:dc} (ht:∀ i c,i<n->G n s D k d (U i (c*s i))) (hn:d+k=n) (h:∀ i,i<n->s i∣w i-v i) (hv:G n s D k d v):G n s D k d w:=by
 have key:∀ m,m<=n->G n s D k d fun i=>if i<m then w i else v i:=by
  intro m
  induction m with
  | zero=>intro _;exact G.ext hn (fun i _=>by simp) hv
  | succ m ih =>
   intro hm
   obtain ⟨c,hc⟩:=h m (by omega)
   refine G.ext hn (fun i hi=>?_) (G.add hn (ih (by omega)) (ht m c (by omega)))
   show (if i<m then w i else v i)+U m (c*s m) i=if i<m+1 then w i else v i
   unfold U
   by_cases z:i=m
   ·subst z
    rw [if_neg (by omega),if_pos rfl,if_pos (by omega),Int.mul_comm c]
    omega
   ·rw [if_neg z]
    by_cases q:i<m
    ·rw [if_pos q,if_pos (by omega)];omega
    ·rw [if_neg q,if_neg (by omega)];omega
 exact G.ext hn (fun i hi=>by simp [hi]) (key n (Nat.le_refl _))
theorem Good.oS (g:Good n s D) {k d:Nat} {v w:dc} (hn:d+k=n) (h:∀ i,i<n->s i∣w i-v i) (hv:G n s D k d v):G n s D k d w :=
 G.oS (fun i c hi=>g.turn c hn hi) hn h hv
theorem Good.sub (g:Good n s D) {k d:Nat} {v w:dc} (hn:d+k=n) (hv:G n s D k d v) (hw:G n s D k d w):G n s D k d fun i=>v i-w i :=
 G.ext hn (fun i _=>by omega) (G.add hn hv (G.mul (-1) hn hw))
theorem Good.own (g:Good n s D) {d k:Nat} (hn:d+(k+1)=n):G n s D (k+1) d (D d):=by
 have hd:d<n:=by omega
 by_cases z:D d d=0
 ·have e:aO s D d=s d:=by unfold aO;rw [if_pos z]
  have c:=g.Ko d k hn
  rw [e] at c
  refine ⟨by rw [z];exact Int.dvd_zero _,G.ext (by omega) (fun i hi=>?_) c⟩
  rw [z,Int.ediv_self (by have:=g.sp d hd;omega)]
  simp
 ·have e:aO s D d=D d d:=by unfold aO;rw [if_neg z]
  refine ⟨by rw [e];exact Int.dvd_refl _,G.ext (by omega) (fun i hi=>?_) (G.zero (k:=k) (d:=d+1) (by omega))⟩
  rw [e,Int.ediv_self z];omega
theorem Good.row (g:Good n s D) {d:Nat} (hd:d<n):∀ {k e:Nat},e+k=n->e<=d->G n s D k e (D d):=by
 intro k e hn he
 have h:=g.own (d:=d) (k:=n-d-1) (by omega)
 have:=G.skip (n:=n) (s:=s) (D:=D) (v:=D d) (j:=d-e) (k:=n-d-1+1) (d:=e) (by omega) (fun i h1 h2=>g.wW d hd i (by omega)) (by rw [show e+(d-e)=d by omega];exact h)
 rw [show d-e+(n-d-1+1)=k by omega] at this
 exact this
end
structure Tk (n:Nat) (s:dc) (D D' L:Nat->dc) (u v g:Nat->Int):Prop where
 gp:∀ d,d<n->0<g d
 bz:∀ d,d<n->u d*aO s D d+v d*L d d=g d
 g1:∀ d,d<n->g d∣aO s D d
 g2:∀ d,d<n->g d∣L d d
 Ih:∀ d,d<n->∀ i,i<n->D' d i=(u d*D d i+v d*L d i)%s i
 IT:∀ d,d<n->∀ i,i<n->L (d+1) i=(aO s D d/g d*L d i+-(L d d/g d)*D d i)%s i
 l0:∀ i,i<n->0<=L 0 i/\L 0 i<s i
section
variable {n:Nat} {s:dc} {D D' L:Nat->dc} {u v g:Nat->Int}
theorem dW (a b:Int):b∣a%b-a:=⟨-(a/b),by have:=Int.emod_def a b;rw [Int.mul_neg];omega⟩
theorem r0 (a b:Int):b∣a-a%b:=⟨a/b,by have:=Int.emod_def a b;omega⟩
theorem Tk.kept (t:Tk n s D D' L u v g) (G:Good n s D):∀ d,d<=n->∀ i,i<n->0<=L d i/\L d i<s i:=by
 intro d hd i hi
 cases d with
 | zero=>exact t.l0 i hi
 | succ d =>
  rw [t.IT d (by omega) i hi]
  have:=G.sp i hi
  exact ⟨Int.emod_nonneg _ (by omega),Int.emod_lt_of_pos _ this⟩
theorem kn {a b:Int} (h0:0<=a) (h1:a<b) (h:b∣a):a=0:=by
 obtain ⟨c,rfl⟩:=h
 rcases Int.lt_or_le 0 c with hc | hc
 ·have:b*1<=b*c:=Int.mul_le_mul_of_nonneg_left hc (by omega)
  omega
 ·have:b*c<=0:=Int.mul_nonpos_of_nonneg_of_nonpos (by omega) hc
  omega
theorem Tk.zero (t:Tk n s D D' L u v g) (G:Good n s D):∀ d,d<=n->∀ i,i<d->L d i=0:=by
 intro d
 induction d with
 | zero=>intro _ i hi;omega
 | succ d ih =>
  intro hd i hi
  have hdn:d<n:=by omega
  have k:=t.kept G (d+1) hd i (by omega)
  refine kn k.1 k.2 ?_
  rw [t.IT d hdn i (by omega)]
  rcases Nat.lt_or_ge i d with h | h
  ·rw [ih (by omega) i h,G.wW d hdn i h]
   simp
  ·obtain rfl:i=d:=by omega
   refine Int.dvd_trans ?_ (Int.dvd_refl _)
   obtain ⟨c,hc⟩:=G.diag hdn
   obtain ⟨a,ha⟩:=t.g1 i hdn
   obtain ⟨b,hb⟩:=t.g2 i hdn
   have gp:=t.gp i hdn
   have e1:aO s D i/g i=a:=by rw [ha];exact Int.mul_ediv_cancel_left a (by omega)
   have e2:L i i/g i=b:=by rw [hb];exact Int.mul_ediv_cancel_left b (by omega)
   rw [e1,e2]
   have e3:a*L i i+-b*D i i=s i*(-b*c):=by
    have:D i i=aO s D i+s i*c:=by omega
    rw [this,ha,hb];grind
   rw [e3,Int.mul_emod_right]
   exact Int.dvd_zero _
theorem Tk.step (t:Tk n s D D' L u v g) (G:Good n s D) {d:Nat} (hd:d<n):aO s D' d=g d:=by
 obtain ⟨c,hc⟩:=G.diag hd
 have gp:=t.gp d hd
 have sp:=G.sp d hd
 have st:=G.pos hd
 have le:g d<=aO s D d:=Int.le_of_dvd st.1 (t.g1 d hd)
 have e:D' d d=g d%s d:=by
  rw [t.Ih d hd d hd,← t.bz d hd]
  have:D d d=aO s D d+s d*c:=by omega
  rw [this,show u d*(aO s D d+s d*c)+v d*L d d=(u d*aO s D d+v d*L d d)+s d*(u d*c) by grind,Int.add_mul_emod_self_left]
 unfold aO
 rw [e]
 by_cases z:g d=s d
 ·rw [z,Int.emod_self,if_pos rfl]
 ·rw [Int.emod_eq_of_lt (by omega) (by omega),if_neg (by omega)]
theorem Tk.main (t:Tk n s D D' L u v g) (Gd:Good n s D):∀ k d,d+k=n->(∀ w,G n s D k d w->G n s D' k d w)/\G n s D' k d (L d)
 | 0,d,hn=>by
  refine ⟨fun w h=>h,fun i hi=>?_⟩
  rw [t.zero Gd d (by omega) i (by omega)];exact Int.dvd_zero _
 | k+1,d,hn=>by
  obtain ⟨i1,i2⟩:=t.main Gd k (d+1) (by omega)
  have hd:d<n:=by omega
  have turn:∀ i c,i<n->G n s D' k (d+1) (U i (c*s i)):=fun i c hi=>i1 _ (Gd.turn c (by omega) hi)
  have st:=t.step Gd hd
  have gp:=t.gp d hd
  obtain ⟨a,ha⟩:=t.g1 d hd
  obtain ⟨b,hb⟩:=t.g2 d hd
  have e1:aO s D d/g d=a:=by rw [ha];exact Int.mul_ediv_cancel_left a (by omega)
  have e2:L d d/g d=b:=by rw [hb];exact Int.mul_ediv_cancel_left b (by omega)
  have bz:u d*a+v d*b=1:=by
   have:=t.bz d hd
   rw [ha,hb,show u d*(g d*a)+v d*(g d*b)=g d*(u d*a+v d*b) by grind] at this
   have h2:g d*(u d*a+v d*b)=g d*1:=by omega
   exact Int.eq_of_mul_eq_mul_left (by omega) h2
  have w1:∀ i,i<n->∃ c,D' d i=u d*D d i+v d*L d i+s i*c:=fun i hi=>by
   obtain ⟨c,hc⟩:=dW (u d*D d i+v d*L d i) (s i)
   exact ⟨c,by rw [t.Ih d hd i hi];omega⟩
  have w2:∀ i,i<n->∃ c,L (d+1) i=a*L d i+-b*D d i+s i*c:=fun i hi=>by
   obtain ⟨c,hc⟩:=dW (a*L d i+-b*D d i) (s i)
   exact ⟨c,by rw [t.IT d hd i hi,e1,e2];omega⟩
  constructor
  ·intro w h
   obtain ⟨h1,h2⟩:=h
   refine ⟨by rw [st];exact Int.dvd_trans (t.g1 d hd) h1,?_⟩
   obtain ⟨q,hq⟩:=h1
   have sp:=(Gd.pos hd).1
   have q1:w d/aO s D d=q:=by rw [hq];exact Int.mul_ediv_cancel_left q (by omega)
   have q2:w d/aO s D' d=q*a:=by
    rw [st,hq,ha,show g d*a*q=g d*(q*a) by grind];exact Int.mul_ediv_cancel_left _ (by omega)
   rw [q2]
   rw [q1] at h2
   refine G.oS turn (by omega) (fun i hi=>?_) (G.add (by omega) (i1 _ h2) (G.mul (q*-(v d)) (by omega) i2))
   obtain ⟨c1,hc1⟩:=w1 i hi
   obtain ⟨c2,hc2⟩:=w2 i hi
   refine ⟨q*(v d*c2-a*c1),?_⟩
   rw [hc1,hc2];grind
  ·refine ⟨by rw [st];exact t.g2 d hd,?_⟩
   rw [st,e2]
   refine G.oS turn (by omega) (fun i hi=>?_) (G.mul (u d) (by omega) i2)
   obtain ⟨c1,hc1⟩:=w1 i hi
   obtain ⟨c2,hc2⟩:=w2 i hi
   refine ⟨-(b*c1)-u d*c2,?_⟩
   rw [hc1,hc2];grind
theorem Tk.good (t:Tk n s D D' L u v g) (Gd:Good n s D):Good n s D' where
 sp:=Gd.sp
 jS:=fun d hd i hi=>by
  rw [t.Ih d hd i hi]
  have:=Gd.sp i hi
  exact ⟨Int.emod_nonneg _ (by omega),Int.emod_lt_of_pos _ this⟩
 wW:=fun d hd i hi=>by
  rw [t.Ih d hd i (by omega),Gd.wW d hd i hi,t.zero Gd d (by omega) i hi];simp
 dv:=fun d hd=>by
  rw [t.step Gd hd];exact Int.dvd_trans (t.g1 d hd) (Gd.dv d hd)
 Ko:=fun d k hn=>by
  have hd:d<n:=by omega
  have h1:=(t.main Gd (k+1) d hn).1 _ (Gd.turn (i:=d) 1 hn hd)
  have h2:=(t.main Gd k (d+1) (by omega)).1 _ (Gd.turn (i:=d) 1 (by omega) hd)
  have h3:=h1.2
  have ud:U d (1*s d) d=s d:=by rw [U,if_pos rfl,Int.one_mul]
  rw [ud] at h3
  refine G.ext (by omega) (fun i hi=>?_) (G.add (by omega) h2 (G.mul (-1) (by omega) h3))
  show U d (1*s d) i+-1*(U d (1*s d) i-s d/aO s D' d*D' d i)=_
  omega
end
end Rg
namespace Rg
section
variable {n:Nat} {s:dc} {D D':Nat->dc}
theorem Good.Ei (Gd:Good n s D) (jS:∀ d,d<n->∀ i,i<n->0<=D' d i/\D' d i<s i) (wW:∀ d,d<n->∀ i,i<d->D' d i=0) (dv:∀ d,d<n->aO s D' d∣s d)
  (h:∀ k d,d+k=n->∀ w,G n s D k d w->G n s D' k d w):Good n s D' where
 sp:=Gd.sp
 jS:=jS
 wW:=wW
 dv:=dv
 Ko:=fun d k hn=>by
  have hd:d<n:=by omega
  have h1:=h (k+1) d hn _ (Gd.turn (i:=d) 1 hn hd)
  have h2:=h k (d+1) (by omega) _ (Gd.turn (i:=d) 1 (by omega) hd)
  have h3:=h1.2
  have ud:U d (1*s d) d=s d:=by rw [U,if_pos rfl,Int.one_mul]
  rw [ud] at h3
  refine G.ext (by omega) (fun i hi=>?_) (G.add (by omega) h2 (G.mul (-1) (by omega) h3))
  show U d (1*s d) i+-1*(U d (1*s d) i-s d/aO s D' d*D' d i)=_
  omega
structure Dn (n:Nat) (s:dc) (D:Nat->dc) (f:Nat) (W:Nat->dc):Prop where
 w0:∀ i,i<n->0<=W f i/\W f i<s i
 ws:∀ d,f<=d->d<n->∀ i,i<n->W (d+1) i=(1*W d i+-(W d d/aO s D d)*D d i)%s i
variable {f:Nat} {W:Nat->dc}
theorem Dn.kept (h:Dn n s D f W) (Gd:Good n s D):∀ d,f<=d->d<=n->∀ i,i<n->0<=W d i/\W d i<s i:=by
 intro d hf hd i hi
 rcases Nat.lt_or_ge f d with q | q
 ·obtain ⟨e,rfl⟩:∃ e,d=e+1:=⟨d-1,by omega⟩
  rw [h.ws e (by omega) (by omega) i hi]
  have:=Gd.sp i hi
  exact ⟨Int.emod_nonneg _ (by omega),Int.emod_lt_of_pos _ this⟩
 ·obtain rfl:d=f:=by omega
  exact h.w0 i hi
theorem Dn.ahead (h:Dn n s D f W) (Gd:Good n s D) {d i:Nat} (hf:f<=d) (hd:d<n) (hi:i<d):W (d+1) i=W d i:=by
 have k:=h.kept Gd d hf (by omega) i (by omega)
 rw [h.ws d hf hd i (by omega),Gd.wW d hd i hi,Int.mul_zero,Int.add_zero,Int.one_mul,Int.emod_eq_of_lt k.1 k.2]
theorem Dn.at_ (h:Dn n s D f W) (Gd:Good n s D) {d:Nat} (hf:f<=d) (hd:d<n):W (d+1) d=W d d%aO s D d:=by
 have k:=h.kept Gd d hf (by omega) d hd
 have p:=Gd.pos hd
 rw [h.ws d hf hd d hd]
 have e:=Int.emod_def (W d d) (aO s D d)
 have q0:=Int.emod_nonneg (W d d) (show aO s D d≠0 by omega)
 have q1:=Int.emod_lt_of_pos (W d d) p.1
 by_cases z:D d d=0
 ·have st:aO s D d=s d:=by unfold aO;rw [if_pos z]
  rw [z,st,Int.emod_eq_of_lt k.1 k.2,Int.mul_zero,Int.add_zero,Int.one_mul,Int.emod_eq_of_lt k.1 k.2]
 ·have st:aO s D d=D d d:=by unfold aO;rw [if_neg z]
  rw [← st,show 1*W d d+-(W d d/aO s D d)*aO s D d=W d d%aO s D d by rw [e];grind]
  exact Int.emod_eq_of_lt q0 (by omega)
theorem Dn.low (h:Dn n s D f W) (Gd:Good n s D):∀ d,f<=d->d<=n->∀ e,f<=e->e<d->0<=W d e/\W d e<aO s D e:=by
 intro d
 induction d with
 | zero=>intro _ _ e _ he;omega
 | succ d ih =>
  intro hf hd e he hed
  rcases Nat.lt_or_ge e d with q | q
  ·rw [h.ahead Gd (by omega) (by omega) q];exact ih (by omega) (by omega) e he q
  ·obtain rfl:e=d:=by omega
   have p:=Gd.pos (show e<n by omega)
   rw [h.at_ Gd he (by omega)]
   exact ⟨Int.emod_nonneg _ (by omega),Int.emod_lt_of_pos _ p.1⟩
theorem Dn.front (h:Dn n s D f W) (Gd:Good n s D):∀ d,f<=d->d<=n->∀ i,i<f->W d i=W f i:=by
 intro d
 induction d with
 | zero=>intro h1 _ i hi;omega
 | succ d ih =>
  intro hf hd i hi
  rcases Nat.lt_or_ge d f with q | q
  ·rw [show d+1=f by omega]
  ·rw [h.ahead Gd q (by omega) (by omega)];exact ih q (by omega) i hi
theorem Dn.run (h:Dn n s D f W) (Gd:Good n s D):∀ k d,f<=d->d+k=n->G n s D k d (W d)->∀ i,i<n->W n i=0
 | 0,d,hf,hn,g,i,hi=>by
  rw [Nat.add_zero] at hn
  subst hn
  have k:=h.kept Gd d hf (Nat.le_refl _) i hi
  exact kn k.1 k.2 (g i hi)
 | k+1,d,hf,hn,g,i,hi=>by
  refine h.run Gd k (d+1) (by omega) (by omega) (Gd.oS (by omega) (fun j hj=>?_) g.2) i hi
  rw [h.ws d hf (by omega) j hj]
  have:=dW (1*W d j+-(W d d/aO s D d)*D d j) (s j)
  rw [show 1*W d j+-(W d d/aO s D d)*D d j=W d j-W d d/aO s D d*D d j by grind] at this
  rw [show 1*W d j+-(W d d/aO s D d)*D d j=W d j-W d d/aO s D d*D d j by grind]
  exact this
theorem Dn.away (h:Dn n s D f W) (Gd:Good n s D):∀ d,f<=d->d<=n->∀ k,f+k=n->G n s D k f fun i=>W f i-W d i:=by
 intro d
 induction d with
 | zero =>
  intro hf _ k hn
  obtain rfl:f=0:=by omega
  exact G.ext hn (fun i _=>by omega) (G.zero hn)
 | succ d ih =>
  intro hf hd k hn
  rcases Nat.lt_or_ge d f with q | q
  ·rw [show d+1=f by omega]
   exact G.ext hn (fun i _=>by omega) (G.zero hn)
  ·refine Gd.oS hn (fun i hi=>?_) (G.add hn (ih q (by omega) k hn) (G.mul (W d d/aO s D d) hn (Gd.row (show d<n by omega) hn q)))
   rw [h.ws d q (by omega) i hi]
   have:=r0 (1*W d i+-(W d d/aO s D d)*D d i) (s i)
   obtain ⟨c,hc⟩:=this
   exact ⟨c,by rw [← hc];grind⟩
theorem G.small (Gd:Good n s D):∀ k d (v:dc),d+k=n->(∀ i,i<n->0<=v i/\v i<s i)->(∀ i,d<=i->i<n->v i<aO s D i)->G n s D k d v->∀ i,i<n->v i=0
 | 0,d,v,hn,h0,_,g,i,hi=>kn (h0 i hi).1 (h0 i hi).2 (g i hi)
 | k+1,d,v,hn,h0,h1,g,i,hi=>by
  have z:v d=0:=kn (h0 d (by omega)).1 (h1 d (Nat.le_refl _) (by omega)) g.1
  refine G.small Gd k (d+1) v (by omega) h0 (fun j hj=>h1 j (by omega)) (G.ext (by omega) (fun j hj=>?_) g.2) i hi
  rw [z];simp
theorem wq (Gd:Good n s D) (W:Nat->Nat->dc) (hW:∀ d,d<n->Dn n s D (d+1) (W d)) (h0:∀ d,d<n->∀ i,i<n->W d (d+1) i=D d i) (hD:∀ d,d<n->∀ i,i<n->D' d i=W d n i) :
  Good n s D'/\(∀ d,d<n->aO s D' d=aO s D d)/\(∀ d,d<n->∀ e,d<e->e<n->D' d e<aO s D e)/\(∀ d,d<n->D' d d=0->∀ i,i<n->D' d i=0)/\(∀ k d,d+k=n->∀ w,G n s D k d w->G n s D' k d w):=by
 have dg:∀ d,d<n->∀ i,i<=d->D' d i=D d i:=fun d hd i hi=>by
  rw [hD d hd i (by omega),(hW d hd).front Gd n (by omega) (Nat.le_refl _) i (by omega),h0 d hd i (by omega)]
 have st:∀ d,d<n->aO s D' d=aO s D d:=fun d hd=>by
  unfold aO;rw [dg d hd d (Nat.le_refl _)]
 have incl:∀ k d,d+k=n->∀ w,G n s D k d w->G n s D' k d w:=by
  intro k
  induction k with
  | zero=>intro d _ w h;exact h
  | succ k ih =>
   intro d hn w h
   have hd:d<n:=by omega
   refine ⟨by rw [st d hd];exact h.1,ih (d+1) (by omega) _ ?_⟩
   rw [st d hd]
   refine G.ext (by omega) (fun i hi=>?_) (G.add (by omega) h.2 (G.mul (w d/aO s D d) (by omega) ((hW d hd).away Gd n (by omega) (Nat.le_refl _) k (by omega))))
   show w i-w d/aO s D d*D d i+w d/aO s D d*(W d (d+1) i-W d n i)=_
   rw [h0 d hd i hi,hD d hd i hi];grind
 have good:Good n s D':=Gd.Ei (fun d hd i hi=>by rw [hD d hd i hi];exact (hW d hd).kept Gd n (by omega) (Nat.le_refl _) i hi) (fun d hd i hi=>by rw [dg d hd i (by omega)];exact Gd.wW d hd i hi) (fun d hd=>by rw [st d hd];exact Gd.dv d hd) incl
 have lt:∀ d,d<n->∀ e,d<e->e<n->D' d e<aO s D e:=fun d hd e he hen=>by
  rw [hD d hd e hen];exact ((hW d hd).low Gd n (by omega) (Nat.le_refl _) e (by omega) hen).2
 refine ⟨good,st,lt,fun d hd z=>?_,incl⟩
 have h1:=good.own (d:=d) (k:=n-d-1) (by omega)
 have h2:=h1.2
 refine G.small good (n-d-1) (d+1) (D' d) (by omega) (good.jS d hd) (fun i h1 h2=>by rw [st i h2];exact lt d hd i (by omega) h2) (G.ext (by omega) (fun i hi=>?_) h2)
 rw [z];simp
end
def dC:Nat->(Nat->Int)->Int
 | 0,_=>0
 | m+1,f=>dC m f+f m
theorem vV (a b:Int) (f g h:Nat->Int):∀ m,(∀ l,l<m->h l=a*f l+b*g l)->dC m h=a*dC m f+b*dC m g
 | 0,_=>by simp [dC]
 | m+1,e=>by
  rw [dC,dC,dC,vV a b f g h m fun l hl=>e l (by omega),e m (by omega)];grind
theorem lL {f g:Nat->Int}:∀ {m:Nat},(∀ l,l<m->f l=g l)->dC m f=dC m g
 | 0,_=>rfl
 | m+1,e=>by rw [dC,dC,lL fun l hl=>e l (by omega),e m (by omega)]
theorem kC:∀ m,dC m (fun _=>0)=0
 | 0=>rfl
 | m+1=>by rw [dC,kC m];rfl
theorem sA (k:Nat) (a:Int):∀ m,k<m->∀ f:Nat->Int,(∀ l,l<m->f l=if l=k then a else 0)->dC m f=a
 | 0,h,_,_=>by omega
 | m+1,h,f,e=>by
  rw [dC]
  by_cases z:k=m
  ·subst z
   rw [lL (g:=fun _=>0) fun l hl=>by rw [e l (by omega),if_neg (by omega)],kC,e k (by omega),if_pos rfl];omega
  ·rw [sA k a m (by omega) f fun l hl=>e l (by omega),e m (by omega),if_neg (by omega)];omega
def Led (n:Nat) (s:dc) (m:Nat) (A:Nat->dc) (v P:dc):Prop:=∀ i,i<n->s i∣v i-dC m fun l=>P l*A l i
theorem Led.mix {n m:Nat} {s:dc} {A:Nat->dc} {v w x P Q R:dc} {a b:Int} (h1:Led n s m A v P) (h2:Led n s m A w Q) (hx:∀ i,i<n->s i∣x i-(a*v i+b*w i)) (hR:∀ l,l<m->R l=a*P l+b*Q l):Led n s m A x R:=fun i hi=>by
 obtain ⟨c1,e1⟩:=h1 i hi
 obtain ⟨c2,e2⟩:=h2 i hi
 obtain ⟨c3,e3⟩:=hx i hi
 rw [vV a b (fun l=>P l*A l i) (fun l=>Q l*A l i) (fun l=>R l*A l i) m fun l hl=>by rw [hR l hl];grind]
 exact ⟨a*c1+b*c2+c3,by grind⟩
def aT:Nat->(Nat->Int)->Int
 | 0,_=>1
 | m+1,f=>aT m f*f m
theorem r_ {f g h:Nat->Int}:∀ {m:Nat},(∀ l,l<m->f l=g l*h l)->aT m f=aT m g*aT m h
 | 0,_=>rfl
 | m+1,e=>by rw [aT,aT,aT,r_ fun l hl=>e l (by omega),e m (by omega)];grind
theorem fM {f g:Nat->Int}:∀ {m:Nat},(∀ l,l<m->f l=g l)->aT m f=aT m g
 | 0,_=>rfl
 | m+1,e=>by rw [aT,aT,fM fun l hl=>e l (by omega),e m (by omega)]
theorem kF {f:Nat->Int}:∀ {m:Nat},(∀ l,l<m->0<f l)->0<aT m f
 | 0,_=>(by decide:(0:Int)<1)
 | m+1,e=>Int.mul_pos (kF fun l hl=>e l (by omega)) (e m (by omega))
end Rg
namespace Rg
def vf (xs:List Int):dc:=fun i=>xs.getD i 0
theorem aV {xs:List Int} {i:Nat} (h:i<xs.length):vf xs i=xs[i]:=by
 unfold vf;rw [List.getD_eq_getElem?_getD,List.getElem?_eq_getElem h];rfl
theorem p9 {xs:List Int} {i:Nat} (h:xs.length<=i):vf xs i=0:=by
 unfold vf;rw [List.getD_eq_getElem?_getD,List.getElem?_eq_none h];rfl
def oq (xs:List Int) (a:Int) (ys:List Int) (b:Int):List Int:=(xs.zip ys).map fun z=>a*z.1+b*z.2
def zG (xs sizes:List Int):List Int:=(xs.zip sizes).map fun z=>z.1%z.2
theorem bH {xs ys:List Int} {a b:Int}:(oq xs a ys b).length=min xs.length ys.length:=by simp [oq]
theorem j4 {xs ys:List Int}:(zG xs ys).length=min xs.length ys.length:=by simp [zG]
theorem fH {xs ys:List Int} {a b:Int} {i:Nat} (h1:i<xs.length) (h2:i<ys.length):vf (oq xs a ys b) i=a*vf xs i+b*vf ys i:=by
 rw [aV (by rw [bH];omega),aV h1,aV h2]
 simp [oq]
theorem j5 {xs ys:List Int} {i:Nat} (h1:i<xs.length) (h2:i<ys.length):vf (zG xs ys) i=vf xs i%vf ys i:=by
 rw [aV (by rw [j4];omega),aV h1,aV h2]
 simp [zG]
theorem nu {xs ys:List Int} (hl:xs.length=ys.length) (h:∀ i,i<xs.length->vf xs i=vf ys i):xs=ys:=by
 refine List.ext_getElem hl fun i h1 h2=>?_
 have:=h i h1
 rwa [aV h1,aV h2] at this
theorem jm (n:Nat) (i:Nat):vf (List.replicate n 0) i=0:=by
 rcases Nat.lt_or_ge i n with h | h
 ·rw [aV (by simpa using h)];simp
 ·rw [p9 (by simpa using h)]
def Bd (B:Nat) (xs:List Int):Prop:=∀ x∈xs,x.natAbs<2^B
theorem Bd.mono {B C:Nat} {xs:List Int} (h:Bd B xs) (hc:B<=C):Bd C xs:=fun x hx=>Nat.lt_of_lt_of_le (h x hx) (Nat.pow_le_pow_right (by decide) hc)
theorem Bd.vf {B:Nat} {xs:List Int} (h:Bd B xs) (i:Nat):(vf xs i).natAbs<2^B:=by
 rcases Nat.lt_or_ge i xs.length with q | q
 ·rw [aV q];exact h _ (List.getElem_mem q)
 ·rw [p9 q];exact Nat.two_pow_pos B
theorem uG {a b:Int} {A B:Nat} (ha:a.natAbs<2^A) (hb:b.natAbs<2^B):(a*b).natAbs<2^(A+B):=by
 rw [Int.natAbs_mul,Nat.pow_add]
 have h0:0<2^A:=Nat.two_pow_pos A
 have h1:0<2^B:=Nat.two_pow_pos B
 exact Nat.mul_lt_mul_of_lt_of_le ha (Nat.le_of_lt hb) h1
theorem FQ {a b:Int} {A:Nat} (ha:a.natAbs<2^A) (hb:b.natAbs<2^A):(a+b).natAbs<2^(A+1):=by
 rw [Nat.pow_succ];omega
theorem Bd.mix {A B:Nat} {xs ys:List Int} {a b:Int} (hx:Bd B xs) (hy:Bd B ys) (ha:a.natAbs<2^A) (hb:b.natAbs<2^A):Bd (A+B+1) (oq xs a ys b):=by
 intro z hz
 obtain ⟨w,hw,rfl⟩:=List.mem_map.mp hz
 have:=List.of_mem_zip (a:=w.1) (b:=w.2) hw
 exact FQ (uG ha (hx _ this.1)) (uG hb (hy _ this.2))
abbrev Row:=List Int×List Int
def row (rows:List Row) (d:Nat):Row:=rows.getD d ([],[])
def DD (rows:List Row):Nat->dc:=fun d=>vf (row rows d).1
def PP (rows:List Row):Nat->dc:=fun d=>vf (row rows d).2
structure Wf (n m:Nat) (rows:List Row):Prop where
 len:rows.length=n
 l1:∀ r∈rows,r.1.length=n
 l2:∀ r∈rows,r.2.length=m
theorem iT {rows:List Row} {d:Nat} (h:d<rows.length):row rows d=rows[d]:=by
 unfold row;rw [List.getD_eq_getElem?_getD,List.getElem?_eq_getElem h];rfl
theorem Wf.nW {n m:Nat} {rows:List Row} (w:Wf n m rows) {d:Nat} (h:d<n):(row rows d).1.length=n:=by
 rw [iT (by rw [w.len];exact h)];exact w.l1 _ (List.getElem_mem _)
theorem Wf.at2 {n m:Nat} {rows:List Row} (w:Wf n m rows) {d:Nat} (h:d<n):(row rows d).2.length=m:=by
 rw [iT (by rw [w.len];exact h)];exact w.l2 _ (List.getElem_mem _)
def qu (sizes:List Int) (r:Row) (a:Int) (q:Row) (b:Int):Row:=(zG (oq r.1 a q.1 b) sizes,oq r.2 a q.2 b)
def ay (c:Int->Int->Int×Int) (sizes:List Int) (rows:List Row) (left:Row):Nat->Row
 | 0=>left
 | d+1 =>
  let l:=ay c sizes rows left d
  let st:=aO (vf sizes) (DD rows) d
  let nt:=vf l.1 d
  qu sizes l (st/(Int.gcd st nt:Nat)) (row rows d) (-(nt/(Int.gcd st nt:Nat)))
def er (c:Int->Int->Int×Int) (sizes:List Int) (rows:List Row) (left:Row) (d:Nat):Row :=
 let l:=ay c sizes rows left d
 let st:=aO (vf sizes) (DD rows) d
 let nt:=vf l.1 d
 qu sizes (row rows d) (c st nt).1 l (c st nt).2
def cw (c:Int->Int->Int×Int) (sizes:List Int) (rows:List Row) (left:Row) (n:Nat):List Row:=(List.range n).map (er c sizes rows left)
section
variable {c:Int->Int->Int×Int} {sizes:List Int} {rows:List Row} {left:Row} {n m:Nat}
theorem cO (w:Wf n m rows) (hs:sizes.length=n) (h1:left.1.length=n) (h2:left.2.length=m):∀ d,d<=n->(ay c sizes rows left d).1.length=n/\(ay c sizes rows left d).2.length=m
 | 0,_=>⟨h1,h2⟩
 | d+1,hd=>by
  obtain ⟨i1,i2⟩:=cO w hs h1 h2 d (by omega)
  have e1:=w.nW (d:=d) (by omega);have e2:=w.at2 (d:=d) (by omega)
  simp only [ay,qu]
  rw [j4,bH,bH]
  exact ⟨by omega,by omega⟩
theorem ku {d:Nat} (h:d<n):row (cw c sizes rows left n) d=er c sizes rows left d:=by
 rw [iT (by simp [cw,h])];simp [cw]
theorem BW (w:Wf n m rows) (hs:sizes.length=n) (h1:left.1.length=n) (h2:left.2.length=m):Wf n m (cw c sizes rows left n):=by
 have key:∀ d,d<n->(er c sizes rows left d).1.length=n/\(er c sizes rows left d).2.length=m:=fun d hd=>by
  obtain ⟨i1,i2⟩:=cO (c:=c) w hs h1 h2 d (by omega)
  have e1:=w.nW (d:=d) hd;have e2:=w.at2 (d:=d) hd
  simp only [er,qu]
  rw [j4,bH,bH]
  exact ⟨by omega,by omega⟩
 refine ⟨by simp [cw],fun r hr=>?_,fun r hr=>?_⟩
 ·obtain ⟨d,hd,rfl⟩:=List.mem_map.mp hr
  exact (key d (List.mem_range.mp hd)).1
 ·obtain ⟨d,hd,rfl⟩:=List.mem_map.mp hr
  exact (key d (List.mem_range.mp hd)).2
theorem gC {a b:Int} (h:0<a):0<(Int.gcd a b:Int):=by
 have:=Int.gcd_pos_of_ne_zero_left b (show a≠0 by omega);omega
theorem IQ (w:Wf n m rows) (hs:sizes.length=n) (h1:left.1.length=n) (h2:left.2.length=m) (Gd:Good n (vf sizes) (DD rows)) (h0:∀ i,i<n->0<=vf left.1 i/\vf left.1 i<vf sizes i)
  (hc:∀ d,d<n->(c (aO (vf sizes) (DD rows) d) (vf (ay c sizes rows left d).1 d)).1*aO (vf sizes) (DD rows) d+(c (aO (vf sizes) (DD rows) d) (vf (ay c sizes rows left d).1 d)).2*vf (ay c sizes rows left d).1 d=(Int.gcd (aO (vf sizes) (DD rows) d) (vf (ay c sizes rows left d).1 d):Nat)) :
  Tk n (vf sizes) (DD rows) (DD (cw c sizes rows left n)) (fun d=>vf (ay c sizes rows left d).1) (fun d=>(c (aO (vf sizes) (DD rows) d) (vf (ay c sizes rows left d).1 d)).1) (fun d=>(c (aO (vf sizes) (DD rows) d) (vf (ay c sizes rows left d).1 d)).2) (fun d=>(Int.gcd (aO (vf sizes) (DD rows) d) (vf (ay c sizes rows left d).1 d):Nat)) where
 gp:=fun d hd=>gC (Gd.pos hd).1
 bz:=hc
 g1:=fun d hd=>Int.gcd_dvd_left ..
 g2:=fun d hd=>Int.gcd_dvd_right ..
 Ih:=fun d hd i hi=>by
  obtain ⟨i1,i2⟩:=cO (c:=c) w hs h1 h2 d (by omega)
  have e1:=w.nW (d:=d) hd
  show vf (row (cw c sizes rows left n) d).1 i=_
  rw [ku hd]
  simp only [er,qu]
  rw [j5 (by rw [bH];omega) (by omega),fH (by omega) (by omega)]
  rfl
 IT:=fun d hd i hi=>by
  obtain ⟨i1,i2⟩:=cO (c:=c) w hs h1 h2 d (by omega)
  have e1:=w.nW (d:=d) hd
  simp only [ay,qu]
  rw [j5 (by rw [bH];omega) (by omega),fH (by omega) (by omega)]
  rfl
 l0:=h0
end
end Rg
namespace Rg
section
variable {c:Int->Int->Int×Int} {sizes:List Int} {rows:List Row} {left:Row} {n m k:Nat} {A:Nat->dc}
def CB (c:Int->Int->Int×Int):Prop:=∀ a b:Int,0<a->a<=360->0<=b->b<=360->(c a b).1*a+(c a b).2*b=(Int.gcd a b:Nat)/\(c a b).1.natAbs<2^20/\(c a b).2.natAbs<2^20
theorem jU {a b:Int} (h:0<a) (h2:a<=360):0<a/(Int.gcd a b:Nat)/\a/(Int.gcd a b:Nat)<=360:=by
 have g:=gC (b:=b) h
 obtain ⟨q,hq⟩:((Int.gcd a b:Nat):Int)∣a:=Int.gcd_dvd_left ..
 have e:a/(Int.gcd a b:Nat)=q:=by
  have:((Int.gcd a b:Nat):Int)≠0:=by omega
  exact Int.ediv_eq_of_eq_mul_right this hq
 rw [e]
 have q0:0<q:=by
  rcases Int.lt_or_le 0 q with z | z
  ·exact z
  ·have:=Int.mul_nonpos_of_nonneg_of_nonpos (Int.le_of_lt g) z;omega
 refine ⟨q0,?_⟩
 have:1*q<=(Int.gcd a b:Nat)*q:=Int.mul_le_mul_of_nonneg_right (by omega) (by omega)
 omega
theorem lQ {a b:Int} (h:0<a) (h1:0<=b) (h2:b<=360):0<=b/(Int.gcd a b:Nat)/\b/(Int.gcd a b:Nat)<=360:=by
 have g:=gC (b:=b) h
 exact ⟨Int.ediv_nonneg h1 (by omega),Int.le_trans (Int.ediv_le_self _ h1) h2⟩
def Zf (k m:Nat) (P:dc):Prop:=∀ l,k<=l->l<m->P l=0
structure St (n m:Nat) (sizes:List Int) (A:Nat->dc) (k:Nat) (rows:List Row):Prop where
 wf:Wf n m rows
 hs:sizes.length=n
 sm:∀ i,i<n->vf sizes i<=360
 gd:Good n (vf sizes) (DD rows)
 led:∀ d,d<n->Led n (vf sizes) m A (DD rows d) (PP rows d)
 zf:∀ d,d<n->Zf k m (PP rows d)
 bd:∀ d,d<n->Bd (150*k+1) (row rows d).2
 cl:∀ l,l<k->G n (vf sizes) (DD rows) n 0 (A l)
structure Lv (n m:Nat) (sizes:List Int) (A:Nat->dc) (k:Nat) (left:Row):Prop where
 l1:left.1.length=n
 l2:left.2.length=m
 km:k<m
 at_:∀ i,i<n->vf left.1 i=A k i
 jS:∀ i,i<n->0<=A k i/\A k i<vf sizes i
 un:∀ l,l<m->vf left.2 l=if l=k then 1 else 0
theorem kv (h:St n m sizes A k rows) (L:Lv n m sizes A k left):∀ d,d<=n->∀ i,i<n->0<=vf (ay c sizes rows left d).1 i/\vf (ay c sizes rows left d).1 i<vf sizes i
 | 0,_,i,hi=>by show 0<=vf left.1 i/\vf left.1 i<vf sizes i;rw [L.at_ i hi];exact L.jS i hi
 | d+1,hd,i,hi=>by
  obtain ⟨i1,i2⟩:=cO (c:=c) h.wf h.hs L.l1 L.l2 d (by omega)
  have e1:=h.wf.nW (d:=d) (by omega)
  have hs:=h.hs
  simp only [ay,qu]
  rw [j5 (by rw [bH];omega) (by omega)]
  have:=h.gd.sp i hi
  exact ⟨Int.emod_nonneg _ (by omega),Int.emod_lt_of_pos _ this⟩
theorem St.tk (h:St n m sizes A k rows) (L:Lv n m sizes A k left) (cb:CB c):Tk n (vf sizes) (DD rows) (DD (cw c sizes rows left n)) (fun d=>vf (ay c sizes rows left d).1) (fun d=>(c (aO (vf sizes) (DD rows) d) (vf (ay c sizes rows left d).1 d)).1) (fun d=>(c (aO (vf sizes) (DD rows) d) (vf (ay c sizes rows left d).1 d)).2) (fun d=>(Int.gcd (aO (vf sizes) (DD rows) d) (vf (ay c sizes rows left d).1 d):Nat)) :=
 IQ h.wf h.hs L.l1 L.l2 h.gd (fun i hi=>by rw [L.at_ i hi];exact L.jS i hi) fun d hd=>by
  have p:=h.gd.pos hd
  have q:=kv (c:=c) h L d (by omega) d hd
  have s:=h.sm d hd
  exact (cb _ _ p.1 (by omega) q.1 (by omega)).1
theorem qp (h:St n m sizes A k rows) (L:Lv n m sizes A k left):∀ d,d<=n->Led n (vf sizes) m A (vf (ay c sizes rows left d).1) (vf (ay c sizes rows left d).2)
 | 0,_=>fun i hi=>by
  show vf sizes i∣vf left.1 i-dC m fun l=>vf left.2 l*A l i
  rw [L.at_ i hi,sA k (A k i) m L.km (fun l=>vf left.2 l*A l i) fun l hl=>by
   rw [L.un l hl]
   by_cases z:l=k
   ·subst z;rw [if_pos rfl,if_pos rfl,Int.one_mul]
   ·rw [if_neg z,if_neg z,Int.zero_mul]]
  rw [Int.sub_self];exact Int.dvd_zero _
 | d+1,hd=>by
  obtain ⟨i1,i2⟩:=cO (c:=c) h.wf h.hs L.l1 L.l2 d (by omega)
  have e1:=h.wf.nW (d:=d) (by omega);have e2:=h.wf.at2 (d:=d) (by omega)
  have hs:=h.hs
  refine Led.mix (a:=aO (vf sizes) (DD rows) d/(Int.gcd (aO (vf sizes) (DD rows) d) (vf (ay c sizes rows left d).1 d):Nat)) (b:=-(vf (ay c sizes rows left d).1 d/(Int.gcd (aO (vf sizes) (DD rows) d) (vf (ay c sizes rows left d).1 d):Nat))) (qp h L d (by omega)) (h.led d (by omega)) (fun i hi=>?_) fun l hl=>?_
  ·simp only [ay,qu]
   rw [j5 (by rw [bH];omega) (by omega),fH (by omega) (by omega)]
   exact dW _ _
  ·simp only [ay,qu]
   rw [fH (by omega) (by omega)];rfl
theorem tD (h:St n m sizes A k rows) (L:Lv n m sizes A k left):∀ d,d<=n->Zf (k+1) m (vf (ay c sizes rows left d).2)/\vf (ay c sizes rows left d).2 k=aT d fun e=>aO (vf sizes) (DD rows) e/(Int.gcd (aO (vf sizes) (DD rows) e) (vf (ay c sizes rows left e).1 e):Nat)
 | 0,_=>⟨fun l h1 h2=>by show vf left.2 l=0;rw [L.un l h2,if_neg (by omega)],by show vf left.2 k=1;rw [L.un k L.km,if_pos rfl]⟩
 | d+1,hd=>by
  obtain ⟨i1,i2⟩:=cO (c:=c) h.wf h.hs L.l1 L.l2 d (by omega)
  have e2:=h.wf.at2 (d:=d) (by omega)
  obtain ⟨j1,j2⟩:=tD h L d (by omega)
  have z:=h.zf d (by omega)
  have km:=L.km
  constructor
  ·intro l h1 h2
   simp only [ay,qu]
   rw [fH (by omega) (by omega),j1 l h1 h2,show vf (row rows d).2 l=0 from z l (by omega) h2];simp
  ·rw [aT,← j2]
   simp only [ay,qu]
   rw [fH (by omega) (by omega),show vf (row rows d).2 k=0 from z k (Nat.le_refl _) km]
   grind
theorem oK (h:St n m sizes A k rows) (L:Lv n m sizes A k left) (hn:n<=6):∀ d,d<=n->Bd (150*k+1+11*d) (ay c sizes rows left d).2
 | 0,_=>fun x hx=>by
  have hx:x∈left.2:=hx
  obtain ⟨i,hi,rfl⟩:=List.mem_iff_getElem.mp hx
  have hm:i<m:=by rw [← L.l2];exact hi
  have e:=L.un i hm
  rw [aV hi] at e
  show (left.2[i]).natAbs<_
  rw [e]
  have:2^1<=2^(150*k+1+11*0):=Nat.pow_le_pow_right (by decide) (by omega)
  refine Nat.lt_of_lt_of_le ?_ this
  split
  ·decide
  ·decide
 | d+1,hd=>by
  have p:=h.gd.pos (show d<n by omega)
  have s:=h.sm d (by omega)
  have q:=kv (c:=c) h L d (by omega) d (by omega)
  have a1:=jU (b:=vf (ay c sizes rows left d).1 d) p.1 (by omega)
  have a2:=lQ (b:=vf (ay c sizes rows left d).1 d) p.1 q.1 (by omega)
  have:=Bd.mix (A:=9+1) (oK h L hn d (by omega)) ((h.bd d (by omega)).mono (show 150*k+1<=150*k+1+11*d by omega)) (a:=aO (vf sizes) (DD rows) d/(Int.gcd (aO (vf sizes) (DD rows) d) (vf (ay c sizes rows left d).1 d):Nat)) (b:=-(vf (ay c sizes rows left d).1 d/(Int.gcd (aO (vf sizes) (DD rows) d) (vf (ay c sizes rows left d).1 d):Nat))) (by omega) (by omega)
  exact this.mono (by omega)
theorem St.next (h:St n m sizes A k rows) (L:Lv n m sizes A k left) (cb:CB c) (hn:n<=6):St n m sizes A (k+1) (cw c sizes rows left n):=by
 have T:=h.tk L cb
 have hs:=h.hs
 refine ⟨BW h.wf h.hs L.l1 L.l2,h.hs,h.sm,T.good h.gd,fun d hd=>?_,fun d hd=>?_,fun d hd=>?_,fun l hl=>?_⟩
 ·obtain ⟨i1,i2⟩:=cO (c:=c) h.wf h.hs L.l1 L.l2 d (by omega)
  have e1:=h.wf.nW (d:=d) hd;have e2:=h.wf.at2 (d:=d) hd
  unfold DD PP
  rw [ku hd]
  refine Led.mix (a:=(c (aO (vf sizes) (DD rows) d) (vf (ay c sizes rows left d).1 d)).1) (b:=(c (aO (vf sizes) (DD rows) d) (vf (ay c sizes rows left d).1 d)).2) (h.led d hd) (qp (c:=c) h L d (by omega)) (fun i hi=>?_) fun l hl=>?_
  ·simp only [er,qu]
   rw [j5 (by rw [bH];omega) (by omega),fH (by omega) (by omega)]
   exact dW _ _
  ·simp only [er,qu]
   rw [fH (by omega) (by omega)];rfl
 ·obtain ⟨i1,i2⟩:=cO (c:=c) h.wf h.hs L.l1 L.l2 d (by omega)
  have e2:=h.wf.at2 (d:=d) hd
  intro l h1 h2
  unfold PP
  rw [ku hd]
  simp only [er,qu]
  rw [fH (by omega) (by omega),(tD (c:=c) h L d (by omega)).1 l h1 h2,show vf (row rows d).2 l=0 from h.zf d hd l (by omega) h2];simp
 ·rw [ku hd]
  have p:=h.gd.pos hd
  have s:=h.sm d hd
  have q:=kv (c:=c) h L d (by omega) d hd
  have b:=cb (aO (vf sizes) (DD rows) d) (vf (ay c sizes rows left d).1 d) p.1 (by omega) q.1 (by omega)
  have:=Bd.mix (A:=20) ((h.bd d hd).mono (show 150*k+1<=150*k+1+11*d by omega)) (oK (c:=c) h L hn d (by omega)) b.2.1 b.2.2
  exact this.mono (by omega)
 ·rcases Nat.lt_or_ge l k with q | q
  ·exact (T.main h.gd n 0 (by omega)).1 _ (h.cl l q)
  ·obtain rfl:l=k:=by omega
   exact G.ext (by omega) (fun i hi=>L.at_ i hi) (T.main h.gd n 0 (by omega)).2
end
end Rg
namespace Rg
def aL (idle:List (List Int)) (k:Nat) (P:List Int):Nat->List Int
 | 0=>P
 | c+1 =>
  let z:=aL idle k P c
  let r:=idle.getD (k-1-c) []
  oq z 1 r (-(vf z (k-1-c)/vf r (k-1-c)))
def II (idle:List (List Int)):Nat->dc:=fun j=>vf (idle.getD j [])
structure yp (n m:Nat) (s:dc) (A:Nat->dc) (k:Nat) (idle:List (List Int)):Prop where
 len:idle.length=k
 l2:∀ j,j<k->(idle.getD j []).length=m
 pos:∀ j,j<k->0<II idle j j
 le:∀ j,j<k->II idle j j<2^60
 zero:∀ j,j<k->∀ l,j<l->l<m->II idle j l=0
 nf:∀ j,j<k->∀ l,l<j->0<=II idle j l/\II idle j l<II idle l l
 sJ:∀ j,j<k->Led n s m A (fun _=>0) (II idle j)
section
variable {n m k:Nat} {s:dc} {A:Nat->dc} {idle:List (List Int)} {P:List Int}
theorem yp.bd (h:yp n m s A k idle) {j:Nat} (hj:j<k) (hm:k<=m):Bd 60 (idle.getD j []):=fun x hx=>by
 obtain ⟨l,hl,rfl⟩:=List.mem_iff_getElem.mp hx
 rw [h.l2 j hj] at hl
 have e:II idle j l=(idle.getD j [])[l]'(by rw [h.l2 j hj];exact hl):=aV _
 rw [← e]
 rcases Nat.lt_or_ge l j with q | q
 ·have h1:=h.nf j hj l q
  have h2:=h.le l (by omega)
  omega
 ·rcases Nat.lt_or_ge j l with q2 | q2
  ·rw [h.zero j hj l q2 hl];exact Nat.two_pow_pos _
  ·obtain rfl:l=j:=by omega
   have h1:=h.pos l hj;have h2:=h.le l hj
   omega
theorem span_len (h:yp n m s A k idle) (hP:P.length=m):∀ c,c<=k->(aL idle k P c).length=m
 | 0,_=>hP
 | c+1,hc=>by
  simp only [aL]
  rw [bH,span_len h hP c (by omega),h.l2 _ (by omega)];omega
theorem oF (h:yp n m s A k idle) (hP:P.length=m) {c l:Nat} (hc:c<k) (hl:l<m):vf (aL idle k P (c+1)) l=vf (aL idle k P c) l-vf (aL idle k P c) (k-1-c)/II idle (k-1-c) (k-1-c)*II idle (k-1-c) l:=by
 simp only [aL]
 rw [fH (by rw [span_len h hP c (by omega)];exact hl) (by rw [h.l2 _ (by omega)];exact hl)]
 unfold II
 grind
theorem wk (h:yp n m s A k idle) (hP:P.length=m):∀ c,c<=k->∀ l,k<=l->l<m->vf (aL idle k P c) l=vf P l
 | 0,_,_,_,_=>rfl
 | c+1,hc,l,h1,h2=>by
  rw [oF h hP (by omega) h2,h.zero _ (by omega) l (by omega) h2,wk h hP c (by omega) l h1 h2];simp
theorem uA (h:yp n m s A k idle) (hP:P.length=m) (hm:k<=m):∀ c,c<=k->∀ l,k-c<=l->l<k->0<=vf (aL idle k P c) l/\vf (aL idle k P c) l<II idle l l
 | 0,_,l,h1,h2=>by omega
 | c+1,hc,l,h1,h2=>by
  rw [oF h hP (by omega) (by omega)]
  rcases Nat.lt_or_ge (k-1-c) l with q | q
  ·rw [h.zero _ (by omega) l q (by omega),Int.mul_zero,Int.sub_zero]
   exact uA h hP hm c (by omega) l (by omega) h2
  ·obtain rfl:l=k-1-c:=by omega
   have p:=h.pos (k-1-c) (by omega)
   have e:=Int.emod_def (vf (aL idle k P c) (k-1-c)) (II idle (k-1-c) (k-1-c))
   rw [Int.mul_comm (vf (aL idle k P c) (k-1-c)/_),← e]
   exact ⟨Int.emod_nonneg _ (by omega),Int.emod_lt_of_pos _ p⟩
theorem oX (h:yp n m s A k idle) (hP:P.length=m) {v:dc} (hv:Led n s m A v (vf P)):∀ c,c<=k->Led n s m A v (vf (aL idle k P c))
 | 0,_=>hv
 | c+1,hc=>by
  refine Led.mix (a:=1) (b:=-(vf (aL idle k P c) (k-1-c)/II idle (k-1-c) (k-1-c))) (oX h hP hv c (by omega)) (h.sJ (k-1-c) (by omega)) (fun i hi=>?_) fun l hl=>?_
  ·rw [Int.mul_zero,Int.add_zero,Int.one_mul,Int.sub_self];exact Int.dvd_zero _
  ·rw [oF h hP (by omega) hl];grind
theorem yh (h:yp n m s A k idle) (hP:P.length=m) (hm:k<=m) {B:Nat} (hB:60<=B) (hb:Bd B P):∀ c,c<=k->Bd (B+62*c) (aL idle k P c)
 | 0,_=>hb
 | c+1,hc=>by
  have ih:=yh h hP hm hB hb c (by omega)
  intro x hx
  obtain ⟨l,hl,rfl⟩:=List.mem_iff_getElem.mp hx
  rw [span_len h hP (c+1) hc] at hl
  rw [← aV,oF h hP (by omega) hl]
  have p:=h.pos (k-1-c) (by omega)
  have q1:(vf (aL idle k P c) (k-1-c)/II idle (k-1-c) (k-1-c)).natAbs<2^(B+62*c+1):=by
   have h1:=ih.vf (k-1-c)
   have h2:=Int.natAbs_ediv_le_natAbs (vf (aL idle k P c) (k-1-c)) (II idle (k-1-c) (k-1-c))
   rw [Nat.pow_succ];omega
  have q2:(II idle (k-1-c) l).natAbs<2^60:=(h.bd (j:=k-1-c) (by omega) hm).vf l
  have q3:=uG q1 q2
  have q4:=ih.vf l
  have q5:2^(B+62*c)<=2^(B+62*c+1+60):=Nat.pow_le_pow_right (by decide) (by omega)
  have q6:(2:Nat)^(B+62*(c+1))=2^(B+62*c+1+60)*2:=by rw [← Nat.pow_succ];congr 1
  rw [q6];omega
end
section
variable {c:Int->Int->Int×Int} {sizes:List Int} {rows:List Row} {left:Row} {n m k:Nat} {A:Nat->dc}
theorem Tk.order {s:dc} {D D' L:Nat->dc} {u v g:Nat->Int} (t:Tk n s D D' L u v g) (Gd:Good n s D):∀ (k d:Nat) (x:Int),d+k=n->G n s D k d (fun i=>x*L d i)->aT n (fun e=>aO s D e/g e)∣x*aT d (fun e=>aO s D e/g e)
 | 0,d,x,hn,h=>by
  obtain rfl:d=n:=by omega
  exact Int.dvd_mul_left _ _
 | k+1,d,x,hn,h=>by
  have hd:d<n:=by omega
  obtain ⟨a,ha⟩:=t.g1 d hd
  obtain ⟨b,hb⟩:=t.g2 d hd
  have gp:=t.gp d hd
  have sp:=(Gd.pos hd).1
  have e1:aO s D d/g d=a:=by rw [ha];exact Int.mul_ediv_cancel_left a (by omega)
  have e2:L d d/g d=b:=by rw [hb];exact Int.mul_ediv_cancel_left b (by omega)
  have bz:u d*a+v d*b=1:=by
   have:=t.bz d hd
   rw [ha,hb,show u d*(g d*a)+v d*(g d*b)=g d*(u d*a+v d*b) by grind] at this
   have h2:g d*(u d*a+v d*b)=g d*1:=by omega
   exact Int.eq_of_mul_eq_mul_left (by omega) h2
  obtain ⟨q,hq⟩:=h.1
  have hax:a∣x:=by
   have h3:g d*(x*b)=g d*(a*q):=by
    have:x*L d d=aO s D d*q:=hq
    rw [hb,ha] at this;grind
   have h4:x*b=a*q:=Int.eq_of_mul_eq_mul_left (by omega) h3
   exact ⟨u d*x+v d*q,by
    have:x=x*(u d*a+v d*b):=by rw [bz,Int.mul_one]
    rw [this]
    have:x*(u d*a+v d*b)=a*(u d*x)+v d*(x*b):=by grind
    rw [this,h4];grind⟩
  obtain ⟨y,hy⟩:=hax
  have hq2:q=b*y:=by
   have h3:g d*(a*q)=g d*(a*(b*y)):=by
    have:x*L d d=aO s D d*q:=hq
    rw [hb,ha,hy] at this;grind
   have ap:a≠0:=by intro z;rw [z,Int.mul_zero] at ha;omega
   exact Int.eq_of_mul_eq_mul_left ap (Int.eq_of_mul_eq_mul_left (by omega) h3)
  have h2:=h.2
  have q1:x*L d d/aO s D d=q:=by
   show x*L d d/aO s D d=q
   rw [show x*L d d=aO s D d*q from hq];exact Int.mul_ediv_cancel_left q (by omega)
  have:=t.order Gd k (d+1) y (by omega) (Gd.oS (by omega) (fun i hi=>?_) h2)
  ·rw [aT,e1] at this
   rw [hy,show a*y*aT d (fun e=>aO s D e/g e)=y*(aT d (fun e=>aO s D e/g e)*a) by grind]
   exact this
  ·show s i∣y*L (d+1) i-(x*L d i-x*L d d/aO s D d*D d i)
   rw [q1,t.IT d hd i hi,e1,e2]
   obtain ⟨z,hz⟩:=dW (a*L d i+-b*D d i) (s i)
   refine ⟨y*z,?_⟩
   have:(a*L d i+-b*D d i)%s i=a*L d i+-b*D d i+s i*z:=by omega
   rw [this,hy,hq2];grind
theorem G.sum (Gd:Good n (vf sizes) (DD rows)) {P:dc}:∀ k',(∀ l,l<k'->G n (vf sizes) (DD rows) n 0 (A l))->G n (vf sizes) (DD rows) n 0 (fun i=>dC k' fun l=>P l*A l i)
 | 0,_=>G.zero (by omega)
 | k'+1,h=>G.ext (by omega) (fun i _=>rfl) (G.add (by omega) (G.sum Gd k' fun l hl=>h l (by omega)) (G.mul (P k') (by omega) (h k' (by omega))))
end
end Rg
namespace Rg
def nX (m k:Nat):List Int:=(List.range m).map fun l=>if l=k then 1 else 0
theorem vI {m k l:Nat} (h:l<m):vf (nX m k) l=if l=k then 1 else 0:=by
 rw [aV (by simp [nX,h])];simp [nX]
def AA (Ls:List (List Int)):Nat->dc:=fun l=>vf (Ls.getD l [])
def bD (Ls:List (List Int)) (m k:Nat):Row:=(Ls.getD k [],nX m k)
def RK (c:Int->Int->Int×Int) (sizes:List Int) (Ls:List (List Int)) (n m:Nat):Nat->List Row×List (List Int)
 | 0=>(List.replicate n (List.replicate n 0,List.replicate m 0),[])
 | k+1 =>
  (cw c sizes (RK c sizes Ls n m k).1 (bD Ls m k) n,(RK c sizes Ls n m k).2++[aL (RK c sizes Ls n m k).2 k (ay c sizes (RK c sizes Ls n m k).1 (bD Ls m k) n).2 k])
structure IH (n m:Nat) (sizes:List Int) (Ls:List (List Int)):Prop where
 len:Ls.length=m
 at_:∀ l,l<m->(Ls.getD l []).length=n
 jS:∀ l,l<m->∀ i,i<n->0<=AA Ls l i/\AA Ls l i<vf sizes i
structure AJ (n m:Nat) (sizes:List Int) (Ls:List (List Int)) (k:Nat) (r:List Row×List (List Int)):Prop where
 st:St n m sizes (AA Ls) k r.1
 sJ:yp n m (vf sizes) (AA Ls) k r.2
 pr:aT k (fun j=>II r.2 j j)*aT n (aO (vf sizes) (DD r.1))=aT n (vf sizes)
 ord:∀ j,j<k->∀ P:dc,Zf (j+1) m P->Led n (vf sizes) m (AA Ls) (fun _=>0) P->II r.2 j j∣P j
section
variable {c:Int->Int->Int×Int} {sizes:List Int} {Ls:List (List Int)} {n m k:Nat}
theorem iU {idle:List (List Int)} {x:List Int} {j:Nat} (h:j<idle.length):II (idle++[x]) j=II idle j:=by
 unfold II
 rw [List.getD_eq_getElem?_getD,List.getElem?_append_left h,← List.getD_eq_getElem?_getD]
theorem jV {idle:List (List Int)} {x:List Int}:II (idle++[x]) idle.length=vf x:=by
 unfold II
 rw [List.getD_eq_getElem?_getD,List.getElem?_append_right (Nat.le_refl _)];simp
theorem Cf {idle:List (List Int)} {x:List Int} {j:Nat} (h:j<idle.length):(idle++[x]).getD j []=idle.getD j []:=by
 rw [List.getD_eq_getElem?_getD,List.getElem?_append_left h,← List.getD_eq_getElem?_getD]
theorem Bm {idle:List (List Int)} {x:List Int}:(idle++[x]).getD idle.length []=x:=by
 rw [List.getD_eq_getElem?_getD,List.getElem?_append_right (Nat.le_refl _)];simp
theorem oU {f:Nat->Int} {k:Nat}:∀ {m:Nat},k<m->(∀ l,k<l->l<m->f l=0)->dC m f=dC k f+f k
 | 0,h,_=>by omega
 | m+1,h,e=>by
  rw [dC]
  by_cases z:k=m
  ·subst z;rfl
  ·rw [oU (m:=m) (by omega) fun l h1 h2=>e l h1 (by omega),e m (by omega) (by omega)];omega
theorem we:∀ {n:Nat} {f:Nat->Int},(∀ i,i<n->0<f i/\f i<=360)->aT n f<=360^n
 | 0,f,_=>by simp [aT]
 | n+1,f,h=>by
  rw [aT,Int.pow_succ]
  exact Int.mul_le_mul (we fun i hi=>h i (by omega)) (h n (by omega)).2 (by have:=(h n (by omega)).1;omega) (Int.pow_nonneg (by decide))
theorem Nv {n:Nat} (h:n<=6):(360:Int)^n<=360^6:=by
 have:n=0\/n=1\/n=2\/n=3\/n=4\/n=5\/n=6:=by omega
 rcases this with rfl | rfl | rfl | rfl | rfl | rfl | rfl <;> decide
theorem AJ.next {r:List Row×List (List Int)} (h:AJ n m sizes Ls k r) (LL:IH n m sizes Ls) (cb:CB c) (hn:n<=6) (hk:k<m) :
  AJ n m sizes Ls (k+1) (cw c sizes r.1 (bD Ls m k) n,r.2++[aL r.2 k (ay c sizes r.1 (bD Ls m k) n).2 k]):=by
 have L:Lv n m sizes (AA Ls) k (bD Ls m k):=⟨LL.at_ k hk,by simp [bD,nX],hk,fun i hi=>rfl,LL.jS k hk,fun l hl=>vI hl⟩
 have T:=h.st.tk L cb
 have ll:=cO (c:=c) h.st.wf h.st.hs L.l1 L.l2 n (Nat.le_refl _)
 have zf:=tD (c:=c) h.st L n (Nat.le_refl _)
 have led:=qp (c:=c) h.st L n (Nat.le_refl _)
 have l0:=T.zero h.st.gd n (Nat.le_refl _)
 have il:r.2.length=k:=h.sJ.len
 have out:=wk h.sJ ll.2 k (Nat.le_refl _)
 have jk:vf (aL r.2 k (ay c sizes r.1 (bD Ls m k) n).2 k) k=aT n fun e=>aO (vf sizes) (DD r.1) e/(Int.gcd (aO (vf sizes) (DD r.1) e) (vf (ay c sizes r.1 (bD Ls m k) e).1 e):Nat):=by
  rw [out k (Nat.le_refl _) hk];exact zf.2
 have pos:∀ e,e<n->0<aO (vf sizes) (DD r.1) e/(Int.gcd (aO (vf sizes) (DD r.1) e) (vf (ay c sizes r.1 (bD Ls m k) e).1 e):Nat):=fun e he=>by
  have p:=h.st.gd.pos he
  have s:=h.st.sm e he
  exact (jU p.1 (by omega)).1
 have pr:aT (k+1) (fun j=>II (r.2++[aL r.2 k (ay c sizes r.1 (bD Ls m k) n).2 k]) j j)*aT n (aO (vf sizes) (DD (cw c sizes r.1 (bD Ls m k) n)))=aT n (vf sizes):=by
  rw [aT,show II (r.2++[aL r.2 k (ay c sizes r.1 (bD Ls m k) n).2 k]) k=vf (aL r.2 k (ay c sizes r.1 (bD Ls m k) n).2 k) by rw [← il];exact jV]
  rw [fM (g:=fun j=>II r.2 j j) fun j hj=>by rw [iU (by omega)],← h.pr,jk]
  rw [fM (g:=fun d=>((Int.gcd (aO (vf sizes) (DD r.1) d) (vf (ay c sizes r.1 (bD Ls m k) d).1 d):Nat):Int)) fun d hd=>T.step h.st.gd hd]
  rw [r_ (f:=aO (vf sizes) (DD r.1)) (g:=fun d=>((Int.gcd (aO (vf sizes) (DD r.1) d) (vf (ay c sizes r.1 (bD Ls m k) d).1 d):Nat):Int)) (h:=fun e=>aO (vf sizes) (DD r.1) e/(Int.gcd (aO (vf sizes) (DD r.1) e) (vf (ay c sizes r.1 (bD Ls m k) e).1 e):Nat)) fun d hd=>(Int.mul_ediv_cancel' (Int.gcd_dvd_left ..)).symm]
  grind
 have jpos:0<vf (aL r.2 k (ay c sizes r.1 (bD Ls m k) n).2 k) k:=by rw [jk];exact kF pos
 have St':=h.st.next L cb hn
 have jle:vf (aL r.2 k (ay c sizes r.1 (bD Ls m k) n).2 k) k<2^60:=by
  have b:aT n (vf sizes)<=360^n:=we fun i hi=>⟨h.st.gd.sp i hi,h.st.sm i hi⟩
  have b2:(360:Int)^n<=360^6:=Nv hn
  have b3:(360:Int)^6<2^60:=by decide
  rw [aT,show II (r.2++[aL r.2 k (ay c sizes r.1 (bD Ls m k) n).2 k]) k=vf (aL r.2 k (ay c sizes r.1 (bD Ls m k) n).2 k) by rw [← il];exact jV] at pr
  have p1:0<aT k (fun j=>II (r.2++[aL r.2 k (ay c sizes r.1 (bD Ls m k) n).2 k]) j j):=kF fun j hj=>by rw [iU (by omega)];exact h.sJ.pos j hj
  have p2:0<aT n (aO (vf sizes) (DD (cw c sizes r.1 (bD Ls m k) n))):=kF fun d hd=>(St'.gd.pos hd).1
  generalize aT k (fun j=>II (r.2++[aL r.2 k (ay c sizes r.1 (bD Ls m k) n).2 k]) j j)=a at *
  generalize aT n (aO (vf sizes) (DD (cw c sizes r.1 (bD Ls m k) n)))=b' at *
  generalize vf (aL r.2 k (ay c sizes r.1 (bD Ls m k) n).2 k) k=x at *
  have e1:1*x<=a*x:=Int.mul_le_mul_of_nonneg_right (by omega) (by omega)
  have e2:a*x*1<=a*x*b':=Int.mul_le_mul_of_nonneg_left (by omega) (by omega)
  omega
 refine ⟨St',⟨by simp [il],fun j hj=>?_,fun j hj=>?_,fun j hj=>?_,fun j hj l h1 h2=>?_,fun j hj l hl=>?_,fun j hj=>?_⟩,pr,fun j hj P hz hP=>?_⟩
 all_goals
  rcases Nat.lt_or_ge j k with q | q
 ·rw [Cf (by omega)];exact h.sJ.l2 j q
 ·obtain rfl:j=r.2.length:=by omega
  rw [Bm];exact span_len h.sJ ll.2 k (Nat.le_refl _)
 ·rw [iU (by omega)];exact h.sJ.pos j q
 ·obtain rfl:j=r.2.length:=by omega
  rw [jV,il];exact jpos
 ·rw [iU (by omega)];exact h.sJ.le j q
 ·obtain rfl:j=r.2.length:=by omega
  rw [jV,il];exact jle
 ·rw [iU (by omega)];exact h.sJ.zero j q l h1 h2
 ·obtain rfl:j=r.2.length:=by omega
  rw [jV,out l (by omega) h2];exact zf.1 l (by omega) h2
 ·rw [iU (by omega),iU (by omega)];exact h.sJ.nf j q l hl
 ·obtain rfl:j=r.2.length:=by omega
  rw [jV,iU (by omega)];exact uA h.sJ ll.2 (by omega) k (Nat.le_refl _) l (by omega) (by omega)
 ·rw [iU (by omega)];exact h.sJ.sJ j q
 ·obtain rfl:j=r.2.length:=by omega
  rw [jV]
  refine oX h.sJ ll.2 (fun i hi=>?_) k (Nat.le_refl _)
  have:=led i hi
  rw [show vf (ay c sizes r.1 (bD Ls m k) n).1 i=0 from l0 i hi] at this
  exact this
 ·rw [iU (by omega)];exact h.ord j q P hz hP
 ·obtain rfl:j=k:=by omega
  rw [show II (r.2++[aL r.2 j (ay c sizes r.1 (bD Ls m j) n).2 j]) j=vf (aL r.2 j (ay c sizes r.1 (bD Ls m j) n).2 j) by rw [← il];exact jV,jk]
  have:=T.order h.st.gd n 0 (P j) (by omega) ?_
  ·rwa [aT,Int.mul_one] at this
  ·refine h.st.gd.oS (by omega) (fun i hi=>?_) (G.mul (-1) (by omega) (G.sum (A:=AA Ls) (P:=P) h.st.gd j h.st.cl))
   have e:=hP i hi
   rw [oU hk fun l h1 h2=>by rw [hz l (by omega) h2,Int.zero_mul]] at e
   obtain ⟨x,hx⟩:=e
   have hx:(0:Int)-(dC j (fun l=>P l*AA Ls l i)+P j*AA Ls j i)=vf sizes i*x:=hx
   show vf sizes i∣P j*AA Ls j i - -1*dC j fun l=>P l*AA Ls l i
   exact ⟨-x,by rw [Int.mul_neg];omega⟩
theorem AJ.start (hs:sizes.length=n) (hp:∀ i,i<n->0<vf sizes i/\vf sizes i<=360):AJ n m sizes Ls 0 (List.replicate n (List.replicate n 0,List.replicate m 0),[]):=by
 have rw0:∀ d,d<n->row (List.replicate n (List.replicate n 0,List.replicate m 0)) d=(List.replicate n 0,List.replicate m 0):=fun d hd=>by
  rw [iT (by simpa using hd)];simp
 have D0:∀ d,d<n->∀ i,DD (List.replicate n (List.replicate n 0,List.replicate m 0)) d i=0:=fun d hd i=>by
  unfold DD;rw [rw0 d hd];exact jm n i
 have P0:∀ d,d<n->∀ i,PP (List.replicate n (List.replicate n 0,List.replicate m 0)) d i=0:=fun d hd i=>by
  unfold PP;rw [rw0 d hd];exact jm m i
 have st:∀ d,d<n->aO (vf sizes) (DD (List.replicate n (List.replicate n 0,List.replicate m 0))) d=vf sizes d:=fun d hd=>by
  unfold aO;rw [if_pos (D0 d hd d)]
 refine ⟨⟨⟨by simp,fun r hr=>by rw [List.eq_of_mem_replicate hr];simp,fun r hr=>by rw [List.eq_of_mem_replicate hr];simp⟩,hs,fun i hi=>(hp i hi).2,⟨fun i hi=>(hp i hi).1,fun d hd i hi=>?_,fun d hd i hi=>D0 d hd i,fun d hd=>by rw [st d hd];exact Int.dvd_refl _,fun d k hn=>?_⟩,fun d hd i hi=>?_,fun d hd l _ _=>P0 d hd l,fun d hd=>?_,fun l hl=>by omega⟩,⟨rfl,fun j hj=>by omega,fun j hj=>by omega,fun j hj=>by omega,fun j hj=>by omega,fun j hj=>by omega,fun j hj=>by omega⟩,?_,fun j hj=>by omega⟩
 ·rw [D0 d hd i];have:=(hp i hi).1;omega
 ·exact G.ext (by omega) (fun i hi=>by rw [D0 d (by omega) i,Int.mul_zero]) (G.zero (by omega))
 ·rw [D0 d hd i,lL (g:=fun _=>0) fun l hl=>by rw [P0 d hd l,Int.zero_mul],kC];exact Int.dvd_zero _
 ·rw [rw0 d hd]
  intro x hx
  rw [List.eq_of_mem_replicate hx];exact Nat.two_pow_pos _
 ·rw [aT,Int.one_mul];exact fM fun d hd=>st d hd
theorem AJ.all (hs:sizes.length=n) (hp:∀ i,i<n->0<vf sizes i/\vf sizes i<=360) (LL:IH n m sizes Ls) (cb:CB c) (hn:n<=6):∀ k,k<=m->AJ n m sizes Ls k (RK c sizes Ls n m k)
 | 0,_=>AJ.start hs hp
 | k+1,hk=>(AJ.all hs hp LL cb hn k (by omega)).next LL cb hn (by omega)
end
end Rg
namespace Rg
section
variable {n:Nat} {s:dc} {D:Nat->dc}
theorem m9 {a b:Int} (h:b∣a) (h1:-b<a) (h2:a<b):a=0:=by
 obtain ⟨c,rfl⟩:=h
 rcases Int.lt_trichotomy c 0 with q | q | q
 ·have:b*c<=b*(-1):=Int.mul_le_mul_of_nonneg_left (by omega) (by omega)
  omega
 ·rw [q,Int.mul_zero]
 ·have:b*1<=b*c:=Int.mul_le_mul_of_nonneg_left (by omega) (by omega)
  omega
theorem G.diff (Gd:Good n s D):∀ k d (v:dc),d+k=n->(∀ i,i<n->-(s i)<v i/\v i<s i)->(∀ i,d<=i->i<n->-(aO s D i)<v i/\v i<aO s D i)->G n s D k d v->∀ i,i<n->v i=0
 | 0,d,v,hn,h0,_,g,i,hi=>m9 (g i hi) (h0 i hi).1 (h0 i hi).2
 | k+1,d,v,hn,h0,h1,g,i,hi=>by
  have z:=m9 g.1 (h1 d (Nat.le_refl _) (by omega)).1 (h1 d (Nat.le_refl _) (by omega)).2
  refine G.diff Gd k (d+1) v (by omega) h0 (fun i hi=>h1 i (by omega)) (G.ext (by omega) (fun i _=>?_) g.2) i hi
  show v i-v d/aO s D d*D d i=v i
  rw [z];simp
end
end Rg
namespace wz
open PySem L2 PyProof.Rows Rg
local macro_rules | `(tactic| dsimp? [$ts,*])=>`(tactic| simp only [bb,aw,jo,ao,vB,v9,retS,bg,qQ,pV,i6,ak,M.aJ,M.bind_some,M.bind_none,M.AD,M.bind_assoc,aa,aj,ai,ae,aq,C9,CI,Gn,G9,Fx,Fp,F1,Hh,E_,Fy,FX,Gz,F_,GF,Fj,Hw,cL,gN,Ey,uK,Ga,BN,UZ,zD,mU,JX,hZ,Ep,itemsOf,k9,DC,En,zM,DO,DA,Bc,vX,BE,yd,DW,Cs,BX,BR,cX,dN,sH,Gg,List.length_cons,List.length_nil,List.map_cons,List.map_nil,List.cons_append,List.nil_append,List.replicate,List.getElem?_cons_zero,List.getElem?_cons_succ,List.getElem?_nil,List.set_cons_zero,List.set_cons_succ,List.set_nil,Nat.reduceAdd,Nat.reduceSub,if_true,if_false,Bool.not_true,Bool.not_false,Bool.false_eq_true,ite_true,ite_false,reduceIte,reduceCtorEq,Nat.sub_self,lp,gu,fy,Option.map_some,Option.map_none,uU,FI,Fv,CY,DH,D8,Fo,Ej,CP,El,ja,List.any_cons,List.any_nil,String.reduceBEq,Bool.or_false,Bool.or_true,Bool.true_or,Bool.false_or,Bool.and_true,Bool.and_false,Bool.true_and,Bool.false_and,Eb,Ef,GB,F6,CS,DQ,DM,DN,BP,Av,gK,rK,List.foldl_cons,List.foldl_nil,vK,ar trivial,$(⟨ts.elemsAndSeps⟩),*])
theorem m7 (i:Int):dq [.int i]=M.ok (.bl true):=by rfl
theorem B6 (b:Bool):dq [.bl b]=M.ok (.bl false):=by rfl
theorem HQ:dq [.cI]=M.ok (.bl false):=by rfl
theorem um {α:Type} {inj:α->PV} {h:α->Bool} {p:PV} (xs:List α) (n:Int) (hp:p=.tup (xs.map inj)\/p=.lst (xs.map inj)) (H:∀ a∈xs,dq [inj a]=M.ok (.bl (h a))) (hz:xs.length<=sizeLine):iv [p,.int n]=M.ok (.bl (decide ((xs.length:Int)=n)&&xs.all h)):=by
 have key:bX (cn 0) none (ai dq (ae (aa 0) aq)) (xs.map inj) [none]=M.ok (xs.map fun a=>.bl (h a)):=g9 xs fun a ha=>by dsimp? [H a ha]
 have key2:wc [.lst (xs.map fun a=>.bl (h a))]=M.ok (.bl (xs.all h)):=by
  have:=vS (xs.map h)
  rw [List.map_map] at this
  rw [show (fun a=>PV.bl (h a))=PV.bl∘h from rfl,this]
  simp [List.all_map]
 unfold iv iW
 rcases hp with rfl | rfl
 all_goals
  dsimp? [List.length_map]
  by_cases e:(xs.length:Int)=n
  ·simp only [e,decide_true,Bool.not_true,M.aJ,Bool.false_eq_true,if_false,vB,Bool.true_and]
   dsimp? [List.length_map,ar hz,key,key2]
  ·simp only [e,decide_false,Bool.not_false,M.aJ,if_true,v9,Bool.false_and]
   dsimp? []
theorem GL (xs:List Int) (n:Int) (hz:xs.length<=sizeLine):iv [tI xs,.int n]=M.ok (.bl (decide ((xs.length:Int)=n))):=by
 exact (um (p:=tI xs) (h:=fun _=>true) xs n (.inl rfl) (fun a _=>m7 a) hz).trans (by rw [List.all_eq_true.mpr fun _ _=>rfl,Bool.and_true])
theorem Hz (xs:List Int) (n:Int) (hz:xs.length<=sizeLine):iv [lI xs,.int n]=M.ok (.bl (decide ((xs.length:Int)=n))):=by
 exact (um (p:=lI xs) (h:=fun _=>true) xs n (.inr rfl) (fun a _=>m7 a) hz).trans (by rw [List.all_eq_true.mpr fun _ _=>rfl,Bool.and_true])
theorem within_int (x a b:Int):gq [.int x,.int a,.int b]=M.ok (.bl (decide (a<=x/\x<=b))):=by
 unfold gq eI
 dsimp? [m7]
 by_cases h:a<=x
 ·simp only [h,decide_true,if_true,true_and];dsimp? []
 ·simp only [h,decide_false,false_and];dsimp? []
theorem rA (xs:List Int) (h1:1<=xs.length) (h6:xs.length<=6) (hx:∀ x∈xs,2<=x/\x<=360):dB [lI xs]=M.ok .cI:=by
 unfold dB dF
 have a1:¬ (6:Int)<xs.length:=by omega
 have a2:¬ (xs.length:Int)=0:=by omega
 dsimp? [a1,a2,decide_false,GR]
 refine dI xs.zipIdx (fun zs env=>(∃ b c,env=[some (.sh (lI xs)),b,c])/\∀ z∈zs,2<=z.1/\z.1<=360) ⟨⟨_,_,rfl⟩,fun z hz=>hx z.1 (List.fst_mem_of_mem_zipIdx hz)⟩ ?_ ?_
 ·rintro ⟨a,i⟩ r env ⟨⟨b,c,rfl⟩,hz⟩
  have ha:=hz (a,i) List.mem_cons_self
  refine ⟨_,[some (.sh (lI xs)),some (.sh (.int i)),some (.sh (.int a))],rfl,?_,⟨_,_,rfl⟩,fun z hz'=>hz z (List.mem_cons_of_mem _ hz')⟩
  dsimp? [within_int,ha,and_self,decide_true]
 ·rintro env' ⟨⟨b,c,rfl⟩,_⟩;rfl
theorem j9 (n:Nat) (xs:List (List Int)) (h8:xs.length<=8) (hx:∀ x∈xs,x.length=n) (hn:n<=100):fP [.lst (xs.map lI),.int n]=M.ok .cI:=by
 unfold fP dZ
 have a1:¬ (8:Int)<xs.length:=by omega
 dsimp? [a1,decide_false,List.length_map,lS]
 refine dI xs.zipIdx (fun zs env=>(∃ b c,env=[some (.sh (.lst (xs.map lI))),some (.sh (.int n)),b,c])/\∀ z∈zs,z.1.length=n) ⟨⟨_,_,rfl⟩,fun z hz=>hx z.1 (List.fst_mem_of_mem_zipIdx hz)⟩ ?_ ?_
 ·rintro ⟨a,i⟩ r env ⟨⟨b,c,rfl⟩,hz⟩
  have ha:a.length=n:=hz (a,i) List.mem_cons_self
  refine ⟨_,[some (.sh (.lst (xs.map lI))),some (.sh (.int n)),some (.sh (.int i)),some (.sh (lI a))],rfl,?_,⟨_,_,rfl⟩,fun z hz'=>hz z (List.mem_cons_of_mem _ hz')⟩
  dsimp? [Hz a n (aM (by omega)),ha,decide_true]
 ·rintro env' ⟨⟨b,c,rfl⟩,_⟩;rfl
theorem vz (n:Nat) (p:PV):(List.replicate n [p]).flatten=List.replicate n p:=by
 induction n with
 | zero=>rfl
 | succ n ih=>rw [List.replicate_succ,List.flatten_cons,ih];rfl
theorem mul_one (p:PV) (n:Nat) (h8:n<=1000):cW (.tup [p]) (.int (n:Int))=M.ok (.tup (List.replicate n p)):=by
 have h2:[p].length*(n:Int).toNat<=sizeLine:=by
  rw [Int.toNat_natCast]
  exact aM (by show 1*n<=1000;omega)
 have h3:(n:Int)<2^63:=Int.lt_of_le_of_lt (Int.ofNat_le.mpr h8) (by decide)
 have h4:-(2^63)<=(n:Int):=Int.le_trans (by decide) (Int.natCast_nonneg n)
 rw [cW,ar ⟨rfl,h4,h3,h2⟩,Int.toNat_natCast,vz]
theorem eG (xs:List PV) (h8:xs.length<=8):gJ [.lst xs,.cI]=M.ok (tI (List.replicate xs.length 1)):=by
 unfold gJ e7
 dsimp? [xC,yl,mul_one (.int 1) xs.length (by omega)]
 rw [tI,List.map_replicate]
def vo (xs sizes:List Int):List Int:=(xs.zip sizes).map fun z=>z.1%z.2
theorem qe (p q:PV) (xs sizes:List Int) (hp:bC p=some (xs.map PV.int)) (hq:bC q=some (sizes.map PV.int)) (hs:∀ s∈sizes,0<s) (hz:xs.length<=1000):jy [p,q]=M.ok (tI (vo xs sizes)):=by
 have key:bX (bY 0 1) none (aj fG (aa 0) (aa 1)) ((xs.zip sizes).map fun z=>.tup [.int z.1,.int z.2]) [none,none]=M.ok ((xs.zip sizes).map fun z=>.int (z.1%z.2)):=by
  refine pz (p:=fun z:Int×Int=>PV.int z.1) (q:=fun z:Int×Int=>PV.int z.2) (xs.zip sizes) fun z hz=>?_
  have:=hs z.2 (List.of_mem_zip (a:=z.1) (b:=z.2) hz).2
  dsimp? [aZ this]
 unfold jy kj
 have hl:(xs.zip sizes).length<=sizeLine:=by rw [List.length_zip];exact aM (Nat.le_trans (Nat.min_le_left _ _) hz)
 dsimp? [i5 xs sizes hp hq,List.length_map,ar hl,key]
 rw [tI,vo,List.map_map];rfl
theorem XF {i:Int} {n:Nat} (h:i.natAbs<=n) (hn:n<2^200):i.natAbs<2^200:=by omega
theorem vd (a b c:PV):aG (.tup [a,b,c]) (.int 0)=M.ok a:=bN (j:=0) rfl rfl
theorem GA (a b c:PV):aG (.tup [a,b,c]) (.int 1)=M.ok b:=bN (j:=1) rfl rfl
theorem FJ (a b c:PV):aG (.tup [a,b,c]) (.int 2)=M.ok c:=bN (j:=2) rfl rfl
theorem mB (a b:Int) (ha:a.natAbs<2^60) (hb:b.natAbs<2^60):∃ s t,gv [.int a,.int b]=M.ok (.tup [.int (Int.gcd a b),.int s,.int t])/\s*a+t*b=Int.gcd a b/\s.natAbs<=b.natAbs+1/\t.natAbs<=a.natAbs+(b.natAbs+1)*a.natAbs+b.natAbs+1:=by
 let J:af->Prop:=fun env=>∃ r s t r' s' t' x y,env=[some (.sh (.int a)),some (.sh (.int b)),some (.sh ((PV.tup [PV.int r,PV.int s,PV.int t]))),some (.sh ((PV.tup [PV.int r',PV.int s',PV.int t']))),x,y]/\Eu.St a b r s t r' s' t'
 let m:af->Nat:=fun env=>match env with
  | [_,_,_,some (.sh (.tup [.int r,_,_])),_,_]=>r.natAbs
  | _=>0
 have hk:(b.natAbs+1)*a.natAbs<=2^60*2^60:=Nat.mul_le_mul (by omega) (by omega)
 have hk2:(2:Nat)^60*2^60=2^120:=by decide
 have start:J [some (.sh (.int a)),some (.sh (.int b)),some (.sh ((PV.tup [PV.int a,PV.int 1,PV.int 0]))),some (.sh ((PV.tup [PV.int b,PV.int 0,PV.int 1]))),none,none]:=⟨_,_,_,_,_,_,_,_,rfl,Eu.start a b⟩
 have loop:=sk (u:=cL (aj mQ (aj aG (aa 3) (fun _=>M.ok (.int 0))) (fun _=>M.ok (.int 0)))) (b:=(ao (bg 4 (aj cQ (aj aG (aa 2) (fun _=>M.ok (.int 0))) (aj aG (aa 3) (fun _=>M.ok (.int 0)))))
  (ao (bg 5 (jK (ae (aj k4 (aj aG (aa 2) (fun _=>M.ok (.int 0))) (aj cW (aa 4) (aj aG (aa 3) (fun _=>M.ok (.int 0))))) (ae (aj k4 (aj aG (aa 2) (fun _=>M.ok (.int 1))) (aj cW (aa 4) (aj aG (aa 3) (fun _=>M.ok (.int 1))))) (ae (aj k4 (aj aG (aa 2) (fun _=>M.ok (.int 2))) (aj cW (aa 4) (aj aG (aa 3) (fun _=>M.ok (.int 2))))) aq)))))
  (ao (bg 2 (aa 3))
  (ao (bg 3 (aa 5))
  ak))))) J m ?_ _ start
 ·obtain ⟨env',e1,⟨r,s,t,r',s',t',x,y,rfl,st⟩,e2⟩:=loop
  have hr':r'=0:=by
   revert e2
   dsimp? [vd]
   intro e2
   have:(!decide (r'=0))=false:=by injection e2 with e2;injection e2
   simpa using this
  subst hr'
  obtain ⟨d1,d2⟩:=Eu.done st
  have hg:(r.natAbs:Int)=Int.gcd a b:=by
   have h1:r.natAbs∣Int.gcd a b:=Int.dvd_gcd (Int.natAbs_dvd.mpr d1) (Int.natAbs_dvd.mpr d2)
   have h2:((Int.gcd a b:Nat):Int)∣r:=by
    rw [st.c0]
    exact Int.dvd_add (Int.dvd_trans (Int.gcd_dvd_left ..) (Int.dvd_mul_left _ _)) (Int.dvd_trans (Int.gcd_dvd_right ..) (Int.dvd_mul_left _ _))
   have h3:Int.gcd a b∣r.natAbs:=Int.ofNat_dvd_left.mp h2
   rw [Nat.dvd_antisymm h1 h3]
  unfold gv jf
  dsimp? []
  rw [e1]
  dsimp? [vd,GA,FJ]
  by_cases hneg:r<0
  ·refine ⟨-s,-t,?_,?_,by rw [Int.natAbs_neg];exact st.b0,by rw [Int.natAbs_neg];exact st.d0⟩
   ·simp only [hneg,decide_true,if_true];dsimp? []
    rw [show -r=(Int.gcd a b:Int) by omega]
   ·have:=st.c0
    rw [Int.neg_mul,Int.neg_mul];omega
  ·refine ⟨s,t,?_,?_,st.b0,st.d0⟩
   ·simp only [hneg,decide_false,Bool.false_eq_true,if_false];dsimp? []
    rw [show r=(Int.gcd a b:Int) by omega]
   ·have:=st.c0;omega
 ·rintro env ⟨r,s,t,r',s',t',x,y,rfl,st⟩
  by_cases h0:r'=0
  ·refine .inl ?_
   dsimp? [vd]
   simp [h0]
  ·refine .inr ⟨?_,?_⟩
   ·dsimp? [vd]
    simp [h0]
   ·obtain ⟨st2,lt⟩:=Eu.turn st h0
    have b1:=st.m1;have b0:=st.m0;have c1:=st.b1;have c2:=st.d1;have c3:=st2.m1
    have q1:(r.fdiv r').natAbs<=r.natAbs+1:=by
     obtain ⟨f1,f2,f3⟩:=Eu.r6 r r' h0
     generalize r.fdiv r'=q at *
     have e:q*r'=r-(r-q*r'):=by omega
     have e2:(q*r').natAbs<=r.natAbs+(r-q*r').natAbs:=by omega
     rw [Int.natAbs_mul] at e2
     have:q.natAbs*1<=q.natAbs*r'.natAbs:=Nat.mul_le_mul_left _ (by omega)
     rcases Nat.lt_or_ge (r.natAbs+1) q.natAbs with h | h
     ·have h5:(r.natAbs+2)*r'.natAbs<=q.natAbs*r'.natAbs:=Nat.mul_le_mul_right _ (by omega)
      have h6:r.natAbs*1<=r.natAbs*r'.natAbs:=Nat.mul_le_mul_left _ (by omega)
      rw [Nat.add_mul] at h5
      omega
     ·exact h
    have q2:(r.fdiv r').natAbs<2^200:=by omega
    refine ⟨[some (.sh (.int a)),some (.sh (.int b)),some (.sh ((PV.tup [PV.int r',PV.int s',PV.int t']))),some (.sh ((PV.tup [PV.int (r-r.fdiv r'*r'),PV.int (s-r.fdiv r'*s'),PV.int (t-r.fdiv r'*t')]))),some (.sh (.int (r.fdiv r'))),some (.sh ((PV.tup [PV.int (r-r.fdiv r'*r'),PV.int (s-r.fdiv r'*s'),PV.int (t-r.fdiv r'*t')])))],?_,⟨_,_,_,_,_,_,_,_,rfl,st2⟩,lt⟩
    dsimp? [vd,GA,FJ,mI h0 (Nat.lt_of_lt_of_le (show r'.natAbs<2^200 by omega) (Nat.pow_le_pow_right (by decide) (by decide))),bo (k:=200) (l:=200) q2 (show r'.natAbs<2^200 by omega),bo (k:=200) (l:=200) q2 (show s'.natAbs<2^200 by omega),bo (k:=200) (l:=200) q2 (show t'.natAbs<2^200 by omega)]
def R (sizes:List Int):Int:=(Lc.Cn (sizes.map Int.toNat):Nat)
structure Sz (sizes:List Int):Prop where
 h1:1<=sizes.length
 h6:sizes.length<=6
 hx:∀ x∈sizes,2<=x/\x<=360
theorem Ub {sizes:List Int} (h:Sz sizes):0<R sizes:=by
 refine Int.ofNat_lt.mpr (Lc.lcm_pos fun n hn=>?_)
 obtain ⟨x,hx,rfl⟩:=List.mem_map.mp hn
 have:=h.hx x hx;omega
theorem WZ {sizes:List Int} (h:Sz sizes):R sizes<2^60:=by
 have h1:=Lc.p7 9 (sizes.map Int.toNat) 1 0 (by decide) (by decide) fun n hn=>by
  obtain ⟨x,hx,rfl⟩:=List.mem_map.mp hn
  have:=h.hx x hx;omega
 have h2:(2:Nat)^(0+9*(sizes.map Int.toNat).length)<=2^54:=Nat.pow_le_pow_right (by decide) (by rw [List.length_map];have:=h.h6;omega)
 have h3:Lc.Cn (sizes.map Int.toNat)<=2^54:=Nat.le_trans h1 h2
 unfold R;omega
theorem Ug {sizes:List Int} (h:Sz sizes) {x:Int} (hx:x∈sizes):x∣R sizes:=by
 have h1:=Lc.lcm_dvd (ns:=sizes.map Int.toNat) (List.mem_map.mpr ⟨x,hx,rfl⟩)
 have h2:=Int.ofNat_dvd.mpr h1
 rw [Int.toNat_of_nonneg (by have:=h.hx x hx;omega)] at h2
 exact h2
structure Acc (sizes r:List Int) (acc:Nat):Prop where
 pos:0<acc
 le:acc<=2^(9*(6-r.length))
 len:r.length<=6
 val:(r.map Int.toNat).foldl Nat.lcm acc=Lc.Cn (sizes.map Int.toNat)
 jS:∀ x∈r,2<=x/\x<=360
theorem Acc.start {sizes:List Int} (h:Sz sizes):Acc sizes sizes 1:=⟨by decide,Nat.one_le_two_pow,h.h6,rfl,h.hx⟩
theorem Acc.lt {sizes r:List Int} {acc:Nat} (h:Acc sizes r acc):acc<2^60:=by
 have h2:(2:Nat)^(9*(6-r.length))<=2^54:=Nat.pow_le_pow_right (by decide) (by omega)
 have:=h.le;omega
theorem Acc.turn {sizes r:List Int} {x:Int} {acc:Nat} (h:Acc sizes (x::r) acc):Acc sizes r (Nat.lcm acc x.toNat)/\(acc:Int)/(Int.gcd acc x:Nat)*x=(Nat.lcm acc x.toNat:Nat)/\(acc:Int)/(Int.gcd acc x:Nat)<=acc/\0<Int.gcd acc x:=by
 have hx:=h.jS x List.mem_cons_self
 have hp:=h.pos
 obtain ⟨n,rfl⟩:=Int.eq_ofNat_of_zero_le (show 0<=x by omega)
 have hg:Int.gcd (acc:Int) (n:Int)=Nat.gcd acc n:=rfl
 refine ⟨⟨Nat.lcm_pos hp (by omega),?_,?_,h.val,fun y hy=>h.jS y (List.mem_cons_of_mem _ hy)⟩,?_,?_,?_⟩
 ·have h1:Nat.lcm acc n<=acc*n:=Nat.le_of_dvd (Nat.mul_pos hp (by omega)) (Nat.lcm_dvd (Nat.dvd_mul_right ..) (Nat.dvd_mul_left ..))
  have h2:acc*n<=2^(9*(6-(r.length+1)))*2^9:=Nat.mul_le_mul h.le (by omega)
  have hl:r.length+1<=6:=h.len
  rw [← Nat.pow_add,show 9*(6-(r.length+1))+9=9*(6-r.length) by omega] at h2
  exact Nat.le_trans h1 h2
 ·have hl:r.length+1<=6:=h.len
  omega
 ·rw [hg,Int.toNat_natCast,← Lc.zX];norm_cast
 ·rw [hg]
  exact Int.ofNat_le.mpr (Nat.div_le_self acc (Nat.gcd acc n))
 ·rw [hg];exact Nat.gcd_pos_of_pos_left _ hp
theorem iL (sizes:List Int) (h:Sz sizes):cS [lI sizes]=M.ok (.int (R sizes)):=by
 unfold cS cU
 dsimp? []
 refine dI sizes (fun r env=>∃ acc x,env=[some (.sh (lI sizes)),some (.sh (.int (acc:Nat))),x]/\Acc sizes r acc) ⟨1,_,rfl,.start h⟩ ?_ ?_
 ·rintro a r env ⟨acc,x,rfl,A⟩
  obtain ⟨A2,e1,e2,e3⟩:=A.turn
  have l1:=A.lt
  have ha:=A.jS a List.mem_cons_self
  obtain ⟨s,t,ec,_,_,_⟩:=mB (acc:Int) a (by omega) (by omega)
  have g1:Int.gcd acc a<=acc:=Nat.le_of_dvd A.pos (Int.ofNat_dvd.mp (Int.gcd_dvd_left ..))
  have d0:0<=(acc:Int)/(Int.gcd acc a:Nat):=Int.ediv_nonneg (by omega) (by omega)
  refine ⟨_,[some (.sh (lI sizes)),some (.sh (.int (Nat.lcm acc a.toNat:Nat))),some (.sh (.int a))],rfl,?_,_,_,rfl,A2⟩
  dsimp? [ec,vd,aW (i:=(acc:Int)) (show (0:Int)<(Int.gcd acc a:Nat) by omega) (show ((Int.gcd acc a:Nat):Int)<2^64 by omega),bo (k:=64) (l:=64) (show ((acc:Int)/(Int.gcd acc a:Nat)).natAbs<2^64 by omega) (show a.natAbs<2^64 by omega),e1]
 ·rintro env' ⟨acc,x,rfl,A⟩
  dsimp? []
  have:=A.val
  rw [R,← this];rfl
def pj (sizes:List Int) (levers:List (List Int)):List (Str×PV):=[("dial_sizes", tI sizes),("lever_settings", .tup (levers.map tI)),("lever_prices", tI (List.replicate levers.length 1)),("least_round", .int (R sizes))]
def gI (sizes:List Int) (levers:List (List Int)):PV:=.obj aE (pj sizes levers)
structure G2 (sizes xs:List Int):Prop where
 len:xs.length=sizes.length
 jS:∀ z∈xs.zip sizes,0<=z.1/\z.1<z.2
theorem Ie {sizes xs:List Int} (h:G2 sizes xs):vo xs sizes=xs:=by
 obtain ⟨hl,hr⟩:=h
 unfold vo
 induction xs generalizing sizes with
 | nil=>rfl
 | cons x r ih =>
  cases sizes with
  | nil=>cases hl
  | cons s t =>
   have h1:=hr (x,s) (by simp)
   rw [List.zip_cons_cons,List.map_cons,ih (Nat.succ.inj hl) fun z hz=>hr z (by rw [List.zip_cons_cons];exact List.mem_cons_of_mem _ hz)]
   rw [show ((x,s):Int×Int).1%((x,s):Int×Int).2=x from Int.emod_eq_of_lt h1.1 h1.2]
theorem vA (f:Str) (p:PV):∀ fs:List (Str×PV),(uw f p fs).length<=fs.length+1
 | []=>by simp [uw]
 | (g,q)::r=>by
  have:=vA f p r
  unfold uw
  split
  ·simp
  ·simp;omega
theorem eB {f:Str} {p:PV} {fs:List (Str×PV)} {n:Nat} (h:fs.length<=n):(uw f p fs).length<=n+1:=Nat.le_trans (vA f p fs) (by omega)
theorem eS (a C:Addr) (f:Str) (p:PV) (fs:List (Str×PV)) (r:af) (h:fs.length<1000):Bz 0 C f p (some (.bd a C fs)::r)=M.ok (.nx (some (.bd a C (uw f p fs))::r)):=by
 show cy _ _=_
 rw [ar ⟨rfl,h⟩];rfl
theorem CN (sizes:List Int) (levers:List (List Int)) (h:Sz sizes) (h8:levers.length<=8) (hl:∀ l∈levers,l.length=sizes.length):i7 aE eX [.cI] [lI sizes,.lst (levers.map lI)]=M.ok (gI sizes (levers.map fun l=>vo l sizes)):=by
 have key:∀ a,eX a ([lI sizes,.lst (levers.map lI)]++[.cI])=M.ok (pj sizes (levers.map fun l=>vo l sizes)):=by
  intro a
  have e1:bX (cn 0) none (ai jy (ae (aa 0) (ae (aa 1) aq))) (levers.map lI) [none,some (.sh (lI sizes))]=M.ok (levers.map fun l=>tI (vo l sizes)):=by
   refine g9 levers fun l hm=>?_
   have hs:=hl l hm
   have:=qe (lI l) (lI sizes) l sizes rfl rfl (fun s hs=>by have:=h.hx s hs;omega) (by rw [hs];have:=h.h6;omega)
   dsimp? [this]
  unfold eX gQ
  simp only [rE]
  rw [ar (show ([lI sizes,PV.lst (levers.map lI)]++[PV.cI]).length+1=4 from rfl)]
  simp only [wQ,xo]
  dsimp? [rA sizes h.h1 h.h6 h.hx,j9 sizes.length levers h8 hl (by have:=h.h6;omega),jC,List.length_map,ar (aM (show levers.length<=1000 by omega)),e1,eG _ (show (levers.map lI).length<=8 by rw [List.length_map];exact h8),iL sizes h]
  rw [eS _ _ _ _ _ _ (by simp)]
  dsimp? [jC,List.length_map,ar (aM (show levers.length<=1000 by omega)),e1,eG _ (show (levers.map lI).length<=8 by rw [List.length_map];exact h8),iL sizes h]
  rw [eS _ _ _ _ _ _ (Nat.lt_of_le_of_lt (eB (Nat.zero_le 0)) (by decide))]
  dsimp? [jC,List.length_map,ar (aM (show levers.length<=1000 by omega)),e1,eG _ (show (levers.map lI).length<=8 by rw [List.length_map];exact h8),iL sizes h]
  rw [eS _ _ _ _ _ _ (Nat.lt_of_le_of_lt (eB (eB (Nat.zero_le 0))) (by decide))]
  dsimp? [jC,List.length_map,ar (aM (show levers.length<=1000 by omega)),e1,eG _ (show (levers.map lI).length<=8 by rw [List.length_map];exact h8),iL sizes h]
  rw [eS _ _ _ _ _ _ (Nat.lt_of_le_of_lt (eB (eB (eB (Nat.zero_le 0)))) (by decide))]
  dsimp? []
  show cy _ _=_
  rw [ar ⟨rfl,rfl⟩]
  rw [pj,List.map_map,List.length_map]
  rfl
 unfold i7
 rw [wM key];rfl
theorem A3 (sizes:List Int) (levers:List (List Int)):(pj sizes levers).lookup (Str.ofString "dial_sizes")=some (tI sizes):=rfl
theorem zP (sizes:List Int) (levers:List (List Int)):(pj sizes levers).lookup (Str.ofString "lever_settings")=some (.tup (levers.map tI)):=rfl
theorem J4 (sizes:List Int) (levers:List (List Int)):(pj sizes levers).lookup (Str.ofString "least_round")=some (.int (R sizes)):=rfl
theorem IW (sizes:List Int) (levers:List (List Int)):(pj sizes levers).lookup (Str.ofString "sizes")=none:=rfl
theorem I0 (sizes:List Int) (levers:List (List Int)):(pj sizes levers).lookup (Str.ofString "levers")=none:=rfl
theorem vE (sizes:List Int) (levers:List (List Int)):a_ [gI sizes levers]=M.ok (tI sizes):=by
 unfold a_ bA
 dsimp? [fv,gI,beq_self_eq_true,A3]
theorem zh (sizes:List Int) (levers:List (List Int)):bO [gI sizes levers]=M.ok (.tup (levers.map tI)):=by
 unfold bO bQ
 dsimp? [fv,gI,beq_self_eq_true,zP]
theorem oI {g:af->M PV} {env:af} {sizes:List Int} {levers:List (List Int)} (h:g env=M.ok (gI sizes levers)):b_ aE "sizes" a_ g aq env=M.ok (tI sizes):=by
 have:=vE sizes levers
 rw [b_,h,M.aJ]
 show cy _ (M.bind (aq env) _)=_
 rw [ar ⟨rfl,IW sizes levers⟩]
 exact this
theorem qm {g:af->M PV} {env:af} {sizes:List Int} {levers:List (List Int)} (h:g env=M.ok (gI sizes levers)):b_ aE "levers" bO g aq env=M.ok (.tup (levers.map tI)):=by
 have:=zh sizes levers
 rw [b_,h,M.aJ]
 show cy _ (M.bind (aq env) _)=_
 rw [ar ⟨rfl,I0 sizes levers⟩]
 exact this
def z0 (sizes xs:List Int):Bool:=decide ((xs.length:Int)=sizes.length)&&(xs.zip sizes).all fun z=>decide (0<=z.1/\z.1<z.2)
theorem CK {sizes xs:List Int}:z0 sizes xs=true ↔ G2 sizes xs:=by
 unfold z0
 constructor
 ·intro h
  simp only [Bool.and_eq_true,decide_eq_true_eq,List.all_eq_true] at h
  exact ⟨by omega,h.2⟩
 ·intro h
  simp only [Bool.and_eq_true,decide_eq_true_eq,List.all_eq_true]
  exact ⟨by rw [h.len],h.jS⟩
theorem Bn (x s:Int):∀ env:af,env=[some (.sh (.int x)),some (.sh (.int s))]->hZ zS wu (fun _=>M.ok (.int 0)) (aa 0) (aa 1) env=M.ok (.bl (decide (0<=x/\x<s))):=by
 rintro env rfl
 dsimp? []
 by_cases h:0<=x
 ·simp only [h,decide_true,if_true,true_and]
  try dsimp? []
 ·simp only [h,decide_false,false_and]
  try dsimp? []
theorem G_ {α:Type} (h:α->Bool) (xs:List α):wc [.lst (xs.map fun a=>.bl (h a))]=M.ok (.bl (xs.all h)):=by
 have:=vS (xs.map h)
 rw [List.map_map] at this
 rw [show (fun a=>PV.bl (h a))=PV.bl∘h from rfl,this]
 simp [List.all_map]
section
variable {sizes:List Int} {levers:List (List Int)}
theorem qt (h:Sz sizes) (xs:List Int) (hz:xs.length<=1000):aQ [gI sizes levers,tI xs]=M.ok (.bl (z0 sizes xs)):=by
 have key:bX (bY 0 1) none (hZ zS wu (fun _=>M.ok (.int 0)) (aa 0) (aa 1)) ((xs.zip sizes).map fun z=>.tup [.int z.1,.int z.2]) [none,none]=M.ok ((xs.zip sizes).map fun z=>.bl (decide (0<=z.1/\z.1<z.2))) :=
  pz (p:=fun z:Int×Int=>PV.int z.1) (q:=fun z:Int×Int=>PV.int z.2) (xs.zip sizes) fun z hz=>Bn z.1 z.2 _ rfl
 have hl:(xs.zip sizes).length<=sizeLine:=by rw [List.length_zip];exact aM (Nat.le_trans (Nat.min_le_left _ _) hz)
 unfold aQ ck
 dsimp? [oI (sizes:=sizes) (levers:=levers) (g:=aa 0) (env:=[some (.sh (gI sizes levers)),some (.sh (tI xs)),none]) rfl,GL xs sizes.length (aM hz)]
 unfold z0
 by_cases e:(xs.length:Int)=sizes.length
 ·simp only [e,decide_true,Bool.not_true,Bool.false_eq_true,if_false,Bool.true_and]
  dsimp? [i5 (p:=tI xs) (q:=tI sizes) xs sizes rfl rfl,List.length_map,ar hl,key,G_]
 ·simp only [e,decide_false,Bool.not_false,if_true,Bool.false_and]
  dsimp? []
theorem Dv (h:Sz sizes) {xs:List Int} (hs:G2 sizes xs):cA [gI sizes levers,tI xs]=M.ok .cI:=by
 unfold cA cz
 dsimp? [qt (levers:=levers) h xs (by rw [hs.len];have:=h.h6;omega),CK.mpr hs]
end
theorem DS {xs ys:List Int} {z:Int×Int} (h:z∈xs.zip ys):z.1∈xs/\z.2∈ys:=List.of_mem_zip (a:=z.1) (b:=z.2) h
theorem Kd {sizes xs:List Int} (h:Sz sizes) (hs:G2 sizes xs) {x:Int} (hx:x∈xs):0<=x/\x<360:=by
 obtain ⟨i,hi,rfl⟩:=List.mem_iff_getElem.mp hx
 have hj:i<sizes.length:=by rw [← hs.len];exact hi
 have:=hs.jS (xs[i],sizes[i]) (by
  rw [List.mem_iff_getElem]
  exact ⟨i,by rw [List.length_zip];omega,by rw [List.getElem_zip]⟩)
 have h2:=h.hx sizes[i] (List.getElem_mem hj)
 exact ⟨this.1,by have:=this.2;simp only at this;omega⟩
theorem As (xs sizes:List Int):vo xs sizes=zG xs sizes:=rfl
noncomputable def cf (a b:Int):Int×Int:=open Classical in if h:∃ p:Int×Int,gv [.int a,.int b]=M.ok (.tup [.int (Int.gcd a b),.int p.1,.int p.2])/\p.1*a+p.2*b=Int.gcd a b/\p.1.natAbs<=b.natAbs+1/\p.2.natAbs<=a.natAbs+(b.natAbs+1)*a.natAbs+b.natAbs+1 then h.choose else (0,0)
theorem E1 (a b:Int) (ha:a.natAbs<2^60) (hb:b.natAbs<2^60):gv [.int a,.int b]=M.ok (.tup [.int (Int.gcd a b),.int (cf a b).1,.int (cf a b).2])/\(cf a b).1*a+(cf a b).2*b=Int.gcd a b/\(cf a b).1.natAbs<=b.natAbs+1/\(cf a b).2.natAbs<=a.natAbs+(b.natAbs+1)*a.natAbs+b.natAbs+1:=by
 have h:∃ p:Int×Int,gv [.int a,.int b]=M.ok (.tup [.int (Int.gcd a b),.int p.1,.int p.2])/\p.1*a+p.2*b=Int.gcd a b/\p.1.natAbs<=b.natAbs+1/\p.2.natAbs<=a.natAbs+(b.natAbs+1)*a.natAbs+b.natAbs+1:=by
  obtain ⟨s,t,h⟩:=mB a b ha hb
  exact ⟨(s,t),h⟩
 unfold cf
 rw [dif_pos h]
 exact h.choose_spec
theorem Aq:CB cf:=fun a b h1 h2 h3 h4=>by
 obtain ⟨_,e,b1,b2⟩:=E1 a b (by omega) (by omega)
 refine ⟨e,by omega,?_⟩
 have:(b.natAbs+1)*a.natAbs<=361*360:=Nat.mul_le_mul (by omega) (by omega)
 omega
def mk (r:Row):PV:=.tup [tI r.1,tI r.2]
theorem lH (r:Row):aG (mk r) (.int 0)=M.ok (tI r.1):=bN (p:=mk r) (j:=0) rfl rfl
theorem Bx (r:Row):aG (mk r) (.int 1)=M.ok (tI r.2):=bN (p:=mk r) (j:=1) rfl rfl
theorem gz {xs:List Int} {i:Nat} (h:i<xs.length):aG (tI xs) (.int (i:Int))=M.ok (.int (vf xs i)) :=
 bN (p:=tI xs) rfl (by rw [List.getElem?_map,List.getElem?_eq_getElem h,aV h];rfl)
theorem vZ {rows:List Row} {d:Nat} (h:d<rows.length):aG (.lst (rows.map mk)) (.int (d:Int))=M.ok (mk (row rows d)) :=
 bN (p:=.lst (rows.map mk)) rfl (by rw [List.getElem?_map,List.getElem?_eq_getElem h,iT h];rfl)
theorem pK {A B:Nat} (p q:PV) (xs ys:List Int) (a b:Int) (hp:bC p=some (xs.map PV.int)) (hq:bC q=some (ys.map PV.int)) (hx:Bd B xs) (hy:Bd B ys) (ha:a.natAbs<2^A) (hb:b.natAbs<2^A) (hB:B<=9000) (hA:A<=9000) (hz:xs.length<=1000):ky [p,.int a,q,.int b]=M.ok (tI (oq xs a ys b)):=by
 have key:bX (bY 0 1) none (aj fN (aj cW (aa 2) (aa 0)) (aj cW (aa 3) (aa 1))) ((xs.zip ys).map fun z=>.tup [.int z.1,.int z.2]) [none,none,some (.sh (.int a)),some (.sh (.int b))]=M.ok ((xs.zip ys).map fun z=>.int (a*z.1+b*z.2)):=by
  refine pz (p:=fun z:Int×Int=>PV.int z.1) (q:=fun z:Int×Int=>PV.int z.2) (xs.zip ys) fun z hz=>?_
  have m:=List.of_mem_zip (a:=z.1) (b:=z.2) hz
  dsimp? [bo (k:=A) (l:=B) ha (hx _ m.1) hA hB,bo (k:=A) (l:=B) hb (hy _ m.2) hA hB]
 have hl:(xs.zip ys).length<=sizeLine:=by rw [List.length_zip];exact aM (Nat.le_trans (Nat.min_le_left _ _) hz)
 unfold ky kG
 dsimp? [i5 xs ys hp hq,List.length_map,ar hl,key]
 rw [tI,oq,List.map_map];rfl
theorem wC {A B:Nat} {sizes:List Int} {r q:Row} {a b:Int} (hs:∀ s∈sizes,0<s) (h1:Bd B r.1) (h2:Bd B r.2) (h3:Bd B q.1) (h4:Bd B q.2) (ha:a.natAbs<2^A) (hb:b.natAbs<2^A) (hB:B<=9000) (hA:A<=9000) (z1:r.1.length<=100) (z2:r.2.length<=100):dG [tI sizes,mk r,.int a,mk q,.int b]=M.ok (mk (qu sizes r a q b)):=by
 unfold dG dE
 dsimp? [lH,Bx,pK (tI r.1) (tI q.1) r.1 q.1 a b rfl rfl h1 h3 ha hb hB hA (by omega),pK (tI r.2) (tI q.2) r.2 q.2 a b rfl rfl h2 h4 ha hb hB hA (by omega),qe (tI (oq r.1 a q.1 b)) (tI sizes) (oq r.1 a q.1 b) sizes rfl rfl hs (by rw [bH];omega)]
 rfl
theorem uq {sizes:List Int} {rows:List Row} {n m d:Nat} (w:Wf n m rows) (hs:sizes.length=n) (hd:d<n):du [tI sizes,.lst (rows.map mk),.int (d:Int)]=M.ok (.int (aO (vf sizes) (DD rows) d)):=by
 unfold du de
 have e1:=w.nW hd
 dsimp? [vZ (rows:=rows) (d:=d) (by rw [w.len];exact hd),lH,gz (xs:=(row rows d).1) (i:=d) (by omega)]
 unfold aO
 by_cases z:DD rows d d=0
 ·have z':vf (row rows d).1 d=0:=z
  simp only [z',z,decide_true,if_true]
  dsimp? [gz (xs:=sizes) (i:=d) (by omega)]
 ·have z':¬ vf (row rows d).1 d=0:=z
  simp only [z',z,decide_false,Bool.false_eq_true,if_false]
  dsimp? []
  rfl
theorem drop_cons {α:Type} {xs:List α} {d:Nat} {a:α} {r:List α} (h:xs.drop d=a::r):d<xs.length/\xs[d]?=some a/\xs.drop (d+1)=r:=by
 have hd:d<xs.length:=by
  rcases Nat.lt_or_ge d xs.length with q | q
  ·exact q
  ·rw [List.drop_eq_nil_of_le q] at h;cases h
 rw [List.drop_eq_getElem_cons hd] at h
 injection h with h1 h2
 exact ⟨hd,by rw [List.getElem?_eq_getElem hd,h1],h2⟩
theorem fJ (env:af):kf aq env=M.ok []:=by
 simp only [kf,aq,M.aJ]
 exact if_pos (Nat.zero_le _)
theorem sO {i:Nat} {f:af->M PV} {env:af} {xs:List PV} {p:PV} (h:env[i]?=some (some (.ow xs))) (hf:f env=M.ok p) (hz:xs.length<1000):jq i f env=M.ok (.nx (env.set i (some (.ow (xs++[p]))))):=by
 unfold jq
 rw [h]
 show M.bind (f env) _=_
 rw [hf,M.aJ,if_pos (mC (Nat.le_of_lt hz))]
theorem sZ {n:Nat} {sizes xs:List Int} (hl:xs.length=n) (h:∀ i,i<n->0<=vf xs i/\vf xs i<vf sizes i) (hs:∀ i,i<n->vf sizes i<=360):Bd 9 xs:=fun x hx=>by
 obtain ⟨i,hi,rfl⟩:=List.mem_iff_getElem.mp hx
 have h1:=h i (by omega);have h2:=hs i (by omega)
 rw [aV hi] at h1
 omega
theorem AM {a b:Int} (h1:-1000<=a) (h2:a<=1000) (h3:-1000<=b) (h4:b<=1000):yR [.int a,.int b]=M.ok ((List.range (b-a).toNat).map fun (i:Nat)=>.int (a+(i:Int))):=by
 have h:-(2^62)<=a/\a<2^62/\-(2^62)<=b/\b<2^62:=by omega
 show cy (-(2^62)<=a/\a<2^62/\-(2^62)<=b/\b<2^62) _=_
 rw [ar h]
section
variable {n m k:Nat} {sizes:List Int} {A:Nat->dc} {rows:List Row} {left:Row}
theorem St.Bj (h:St n m sizes A k rows) {d:Nat} (hd:d<n):Bd 9 (row rows d).1:=sZ (h.wf.nW hd) (fun i hi=>h.gd.jS d hd i hi) h.sm
theorem Ak (h:St n m sizes A k rows):∀ s∈sizes,0<s:=fun s hs=>by
 obtain ⟨i,hi,rfl⟩:=List.mem_iff_getElem.mp hs
 have:=h.gd.sp i (by rw [← h.hs];exact hi)
 rwa [aV hi] at this
theorem A7 (h:St n m sizes A k rows) (L:Lv n m sizes A k left) (hn:n<=6) (hm:m<=8):jA [tI sizes,.lst (rows.map mk),mk left]=M.ok (.tup [.lst ((cw cf sizes rows left n).map mk),tI (ay cf sizes rows left n).2]):=by
 have rl:=h.wf.len
 have hkm:=L.km
 unfold jA ig
 dsimp? [fJ,lS]
 refine dI rows.zipIdx (fun zs env=>∃ d x4 x5 x6 x7 x8,d<=n/\rows.zipIdx.drop d=zs/\env=[some (.sh (tI sizes)),some (.sh (.lst (rows.map mk))),some (.sh (mk (ay cf sizes rows left d))),some (.ow ((cw cf sizes rows left d).map mk)),x4,x5,x6,x7,x8]) ⟨0,none,none,none,none,none,Nat.zero_le _,rfl,rfl⟩ ?_ ?_
 ·rintro ⟨a,i⟩ zs env ⟨d,x4,x5,x6,x7,x8,hd,hdr,rfl⟩
  obtain ⟨h1,h2,h3⟩:=drop_cons hdr
  rw [List.length_zipIdx,rl] at h1
  have h4:a=row rows d/\i=d:=by
   rw [List.getElem?_zipIdx] at h2
   rw [iT (by rw [rl];exact h1)]
   rw [List.getElem?_eq_getElem (by rw [rl];exact h1)] at h2
   simp at h2
   exact ⟨h2.1.symm,h2.2.symm⟩
  obtain ⟨rfl,rfl⟩:=h4
  have ll:=cO (c:=cf) h.wf h.hs L.l1 L.l2 i (by omega)
  have lk:=kv (c:=cf) h L i (by omega)
  have lb:=oK (c:=cf) h L hn i (by omega)
  have st:=h.gd.pos h1
  have sm:=h.sm i h1
  have nt:=lk i h1
  have e1:=h.wf.nW h1;have e2:=h.wf.at2 h1
  generalize hst:aO (vf sizes) (DD rows) i=st' at *
  generalize hnt:vf (ay cf sizes rows left i).1 i=nt' at *
  obtain ⟨c1,c2,c3,c4⟩:=E1 st' nt' (by omega) (by omega)
  have cb:=Aq st' nt' st.1 (by omega) nt.1 (by omega)
  have gp:=gC (b:=nt') st.1
  have gl:(Int.gcd st' nt':Int)<=st':=Int.le_of_dvd st.1 (Int.gcd_dvd_left ..)
  have a1:=jU (b:=nt') st.1 (by omega)
  have a2:=lQ (b:=nt') st.1 nt.1 (by omega)
  have B1:Bd 1300 (row rows i).1:=(St.Bj h h1).mono (by omega)
  have B2:Bd 1300 (row rows i).2:=(h.bd i h1).mono (by omega)
  have B3:Bd 1300 (ay cf sizes rows left i).1:=(sZ ll.1 lk h.sm).mono (by omega)
  have B4:Bd 1300 (ay cf sizes rows left i).2:=lb.mono (by omega)
  have w1:=wC (A:=20) (sizes:=sizes) (Ak h) B1 B2 B3 B4 cb.2.1 cb.2.2 (by decide) (by decide) (by omega) (by omega)
  have w2:=wC (A:=20) (sizes:=sizes) (a:=st'/(Int.gcd st' nt':Nat)) (b:=-(nt'/(Int.gcd st' nt':Nat))) (Ak h) B3 B4 B1 B2 (by omega) (by omega) (by decide) (by decide) (by omega) (by omega)
  have ew:er cf sizes rows left i=qu sizes (row rows i) (cf st' nt').1 (ay cf sizes rows left i) (cf st' nt').2:=by
   simp only [er,hst,hnt]
  have el:ay cf sizes rows left (i+1)=qu sizes (ay cf sizes rows left i) (st'/(Int.gcd st' nt':Nat)) (row rows i) (-(nt'/(Int.gcd st' nt':Nat))):=by
   simp only [ay,hst,hnt]
  refine ⟨_,[some (.sh (tI sizes)),some (.sh (.lst (rows.map mk))),some (.sh (mk (ay cf sizes rows left (i+1)))),some (.ow ((cw cf sizes rows left (i+1)).map mk)),some (.sh (.int i)),some (.sh (mk (row rows i))),some (.sh (.int st')),some (.sh (.int nt')),some (.sh (.tup [.int (Int.gcd st' nt'),.int (cf st' nt').1,.int (cf st' nt').2]))],rfl,?_,i+1,_,_,_,_,_,by omega,h3,rfl⟩
  have sok:=uq h.wf h.hs h1
  rw [hst] at sok
  have nok:=gz (xs:=(ay cf sizes rows left i).1) (i:=i) (by omega)
  rw [hnt] at nok
  dsimp? [sok,lH,nok,c1]
  rw [sO (i:=3) rfl (p:=mk (er cf sizes rows left i)) (by dsimp? [GA,FJ,w1,ew]) (by simp [cw];omega)]
  dsimp? [vd,aW (i:=st') gp (by omega),aW (i:=nt') gp (by omega),w2,el]
  rw [cw,cw,List.range_succ,List.map_append,List.map_append]
  rfl
 ·rintro env ⟨d,x4,x5,x6,x7,x8,hd,hdr,rfl⟩
  have hdn:d=n:=by
   have:=congrArg List.length hdr
   rw [List.length_drop,List.length_zipIdx,rl] at this
   simp at this
   omega
  subst hdn
  dsimp? [Bx]
def aS (sizes:List Int) (rows:List Row) (r:Row) (f:Nat):Nat->Row
 | 0=>r
 | c+1 =>
  let l:=aS sizes rows r f c
  qu sizes l 1 (row rows (f+c)) (-(vf l.1 (f+c)/aO (vf sizes) (DD rows) (f+c)))
theorem iA (h:St n m sizes A k rows) {r:Row} {f:Nat} (h1:r.1.length=n) (h2:r.2.length=m):∀ c,f+c<=n->(aS sizes rows r f c).1.length=n/\(aS sizes rows r f c).2.length=m
 | 0,_=>⟨h1,h2⟩
 | c+1,hc=>by
  obtain ⟨i1,i2⟩:=iA h (f:=f) h1 h2 c (by omega)
  have e1:=h.wf.nW (d:=f+c) (by omega);have e2:=h.wf.at2 (d:=f+c) (by omega)
  have hs:=h.hs
  simp only [aS,qu]
  rw [j4,bH,bH]
  exact ⟨by omega,by omega⟩
theorem mJ (h:St n m sizes A k rows) {r:Row} {f:Nat} (h1:r.1.length=n) (h2:r.2.length=m) (h0:∀ i,i<n->0<=vf r.1 i/\vf r.1 i<vf sizes i):Dn n (vf sizes) (DD rows) f (fun d=>vf (aS sizes rows r f (d-f)).1) where
 w0:=fun i hi=>by rw [Nat.sub_self];exact h0 i hi
 ws:=fun d hf hd i hi=>by
  obtain ⟨c,rfl⟩:∃ c,d=f+c:=⟨d-f,by omega⟩
  obtain ⟨i1,i2⟩:=iA h (f:=f) h1 h2 c (by omega)
  have e1:=h.wf.nW (d:=f+c) (by omega)
  have hs:=h.hs
  show vf (aS sizes rows r f (f+c+1-f)).1 i=_
  rw [show f+c+1-f=c+1 by omega,show f+c-f=c by omega]
  simp only [aS,qu]
  rw [j5 (by rw [bH];omega) (by omega),fH (by omega) (by omega)]
  rfl
theorem tQ (h:St n m sizes A k rows) {r:Row} {f:Nat} (h1:r.1.length=n) (h2:r.2.length=m) {P₀:dc} {B:dc} (hl:Led n (vf sizes) m A (fun i=>vf r.1 i-B i) (fun l=>vf r.2 l-P₀ l)):∀ c,f+c<=n->Led n (vf sizes) m A (fun i=>vf (aS sizes rows r f c).1 i-B i) (fun l=>vf (aS sizes rows r f c).2 l-P₀ l)
 | 0,_=>hl
 | c+1,hc=>by
  obtain ⟨i1,i2⟩:=iA h (f:=f) h1 h2 c (by omega)
  have e1:=h.wf.nW (d:=f+c) (by omega);have e2:=h.wf.at2 (d:=f+c) (by omega)
  have hs:=h.hs
  refine Led.mix (a:=1) (b:=-(vf (aS sizes rows r f c).1 (f+c)/aO (vf sizes) (DD rows) (f+c))) (tQ h (f:=f) h1 h2 hl c (by omega)) (h.led (f+c) (by omega)) (fun i hi=>?_) fun l hl=>?_
  ·simp only [aS,qu]
   rw [j5 (by rw [bH];omega) (by omega),fH (by omega) (by omega)]
   obtain ⟨z,hz⟩:=dW (1*vf (aS sizes rows r f c).1 i+-(vf (aS sizes rows r f c).1 (f+c)/aO (vf sizes) (DD rows) (f+c))*vf (row rows (f+c)).1 i) (vf sizes i)
   refine ⟨z,?_⟩
   rw [← hz]
   unfold DD
   grind
  ·simp only [aS,qu]
   rw [fH (by omega) (by omega)]
   unfold PP
   grind
theorem ti (h:St n m sizes A k rows) {r:Row} {f B:Nat} (h1:r.1.length=n) (h2:r.2.length=m) (h0:∀ i,i<n->0<=vf r.1 i/\vf r.1 i<vf sizes i) (hB:150*k+1<=B) (hb:Bd B r.2):∀ c,f+c<=n->Bd (B+11*c) (aS sizes rows r f c).2
 | 0,_=>hb
 | c+1,hc=>by
  have k0:=(mJ h (f:=f) h1 h2 h0).kept h.gd (f+c) (by omega) (by omega) (f+c) (by omega)
  rw [show f+c-f=c by omega] at k0
  have sm:=h.sm (f+c) (by omega)
  have p:=h.gd.pos (d:=f+c) (by omega)
  have q:=Int.ediv_le_self (aO (vf sizes) (DD rows) (f+c)) k0.1
  have q0:=Int.ediv_nonneg k0.1 (Int.le_of_lt p.1)
  have:=Bd.mix (A:=10) (ti h (f:=f) h1 h2 h0 hB hb c (by omega)) ((h.bd (f+c) (by omega)).mono (show 150*k+1<=B+11*c by omega)) (a:=1) (b:=-(vf (aS sizes rows r f c).1 (f+c)/aO (vf sizes) (DD rows) (f+c))) (by decide) (by omega)
  exact this.mono (by omega)
theorem pL (h:St n m sizes A k rows) {r:Row} {f B:Nat} (hn:n<=6) (hm:m<=8) (h1:r.1.length=n) (h2:r.2.length=m) (h0:∀ i,i<n->0<=vf r.1 i/\vf r.1 i<vf sizes i) (hB:150*k+1<=B) (hB2:B<=8000) (hb:Bd B r.2) (hf:f<=n):fL [tI sizes,.lst (rows.map mk),mk r,.int (f:Int)]=M.ok (mk (aS sizes rows r f (n-f))):=by
 have hs:=h.hs
 have rl:=h.wf.len
 unfold fL gY
 have jS:yR [.int (f:Int),.int (sizes.length:Int)]=M.ok ((List.range (n-f)).map fun (i:Nat)=>.int ((f+i:Nat):Int)):=by
  rw [AM (by omega) (by omega) (by omega) (by omega),hs,show ((n:Int)-(f:Int)).toNat=n-f by omega]
  simp
 dsimp? [jS]
 refine dI (List.range (n-f)) (fun zs env=>∃ c x4 x5,c<=n-f/\(List.range (n-f)).drop c=zs/\env=[some (.sh (tI sizes)),some (.sh (.lst (rows.map mk))),some (.sh (mk (aS sizes rows r f c))),some (.sh (.int (f:Int))),x4,x5]) ⟨0,none,none,Nat.zero_le _,rfl,rfl⟩ ?_ ?_
 ·rintro i zs env ⟨c,x4,x5,hc,hdr,rfl⟩
  obtain ⟨c1,c2,c3⟩:=drop_cons hdr
  rw [List.length_range] at c1
  obtain rfl:i=c:=by
   rw [List.getElem?_range c1] at c2;exact (Option.some.inj c2).symm
  have hfc:f+i<n:=by omega
  have ll:=iA h (f:=f) h1 h2 i (by omega)
  have lk:=(mJ h (f:=f) h1 h2 h0).kept h.gd (f+i) (by omega) (by omega)
  rw [show f+i-f=i by omega] at lk
  have k0:=lk (f+i) hfc
  have sm:=h.sm (f+i) hfc
  have p:=h.gd.pos hfc
  have e1:=h.wf.nW hfc;have e2:=h.wf.at2 hfc
  have B1:Bd 8200 (row rows (f+i)).1:=(St.Bj h hfc).mono (by omega)
  have B2:Bd 8200 (row rows (f+i)).2:=(h.bd _ hfc).mono (by omega)
  have B3:Bd 8200 (aS sizes rows r f i).1:=(sZ ll.1 lk h.sm).mono (by omega)
  have B4:Bd 8200 (aS sizes rows r f i).2:=(ti h (f:=f) h1 h2 h0 hB hb i (by omega)).mono (by omega)
  have q:=Int.ediv_le_self (aO (vf sizes) (DD rows) (f+i)) k0.1
  have q0:=Int.ediv_nonneg k0.1 (Int.le_of_lt p.1)
  have w:=wC (A:=20) (sizes:=sizes) (a:=1) (b:=-(vf (aS sizes rows r f i).1 (f+i)/aO (vf sizes) (DD rows) (f+i))) (Ak h) B3 B4 B1 B2 (by decide) (by omega) (by decide) (by decide) (by omega) (by omega)
  refine ⟨_,[some (.sh (tI sizes)),some (.sh (.lst (rows.map mk))),some (.sh (mk (aS sizes rows r f (i+1)))),some (.sh (.int (f:Int))),some (.sh (.int ((f+i:Nat):Int))),some (.sh (.int (vf (aS sizes rows r f i).1 (f+i)/aO (vf sizes) (DD rows) (f+i))))],rfl,?_,i+1,_,_,by omega,c3,rfl⟩
  dsimp? [lH,gz (xs:=(aS sizes rows r f i).1) (i:=f+i) (by omega),uq h.wf h.hs hfc,aW (i:=vf (aS sizes rows r f i).1 (f+i)) p.1 (by omega),vZ (rows:=rows) (d:=f+i) (by omega),w]
  rfl
 ·rintro env ⟨c,x4,x5,hc,hdr,rfl⟩
  have:c=n-f:=by
   have:=congrArg List.length hdr
   rw [List.length_drop,List.length_range] at this
   simp at this
   omega
  subst this
  dsimp? []
end
theorem DR (m k:Nat) (hm:m<=1000):jD [.int (m:Int),.int (k:Int)]=M.ok (tI (nX m k)):=by
 have key:bX (cn 0) none (zD (cL (aj lJ (aa 0) (aa 1))) (fun _=>M.ok (.int 1)) (fun _=>M.ok (.int 0))) ((List.range m).map fun (i:Nat)=>.int (i:Int)) [none,some (.sh (.int (k:Int)))]=M.ok ((List.range m).map fun (i:Nat)=>.int (if i=k then 1 else 0)):=by
  refine g9 (inj:=fun (i:Nat)=>PV.int (i:Int)) (List.range m) fun i hi=>?_
  dsimp? []
  by_cases z:i=k
  ·subst z;simp only [decide_true,if_true]
  ·have z':¬ (i:Int)=(k:Int):=by omega
   simp only [z,z',decide_false,Bool.false_eq_true,if_false]
 unfold jD g8
 dsimp? [i0 (n:=(m:Int)) (by omega) (by omega),Int.toNat_natCast,List.length_map,List.length_range,ar (aM hm),key]
 rw [tI,nX,List.map_map];rfl
theorem rZ {n:Int} (h:0<=n):Builtin.Range.rangeSize (n-1) (-1) (-1)=n:=by
 unfold Builtin.Range.rangeSize
 rw [if_neg (by decide)]
 split
 ·rw [show -(-1:Int)=1 from rfl,Int.ediv_one];omega
 ·omega
theorem Dh {n:Int} (h:0<=n) (h2:n<=1000):C3 (n-1) (-1) (-1)=true:=by
 unfold C3 Builtin.Range.small
 have f:∀ x:Int,-(2^40)<x->x<2^40->Builtin.Range.rangeFitsLong x=true:=fun x h1 h2=>by
  unfold Builtin.Range.rangeFitsLong
  simp only [Bool.and_eq_true,decide_eq_true_eq]
  omega
 simp only [rZ h,f (n-1) (by omega) (by omega),f (-1) (by decide) (by decide),f n (by omega) (by omega),f (n-1+n*-1) (by omega) (by omega),Bool.and_true,Bool.true_and,Bool.and_self,Bool.and_eq_true,decide_eq_true_eq]
 refine ⟨by decide,?_⟩
 rw [if_neg (by decide),f (-1+(-1+1)) (by decide) (by decide),Bool.or_true]
theorem Cc (k:Nat) (hk:k<=1000):BC [.int ((k:Int)-1),.int (-1),.int (-1)]=M.ok ((List.range k).map fun (i:Nat)=>.int ((k:Int)-1+(i:Int)*-1)):=by
 show cy (C3 ((k:Int)-1) (-1) (-1)=true) _=_
 rw [ar (Dh (by omega) (by omega)),rZ (by omega),Int.toNat_natCast]
theorem CL {idle:List (List Int)} {j:Nat} (h:j<idle.length):aG (.lst (idle.map tI)) (.int (j:Int))=M.ok (tI (idle.getD j [])) :=
 bN (p:=.lst (idle.map tI)) rfl (by rw [List.getElem?_map,List.getElem?_eq_getElem h,List.getD_eq_getElem?_getD,List.getElem?_eq_getElem h];rfl)
theorem vF {n m k B:Nat} {s:dc} {A:Nat->dc} {idle:List (List Int)} {P:List Int} (h:yp n m s A k idle) (hP:P.length=m) (hm:m<=8) (hk:k<=m) (hB:60<=B) (hB2:B<=8000) (hb:Bd B P):ia [tI P,.lst (idle.map tI)]=M.ok (tI (aL idle k P k)):=by
 have il:=h.len
 unfold ia fF
 dsimp? [List.length_map,il,Cc k (by omega)]
 refine dI (List.range k) (fun zs env=>∃ c x2 x3,c<=k/\(List.range k).drop c=zs/\env=[some (.sh (tI (aL idle k P c))),some (.sh (.lst (idle.map tI))),x2,x3]) ⟨0,none,none,Nat.zero_le _,rfl,rfl⟩ ?_ ?_
 ·rintro i zs env ⟨c,x2,x3,hc,hdr,rfl⟩
  obtain ⟨c1,c2,c3⟩:=drop_cons hdr
  rw [List.length_range] at c1
  obtain rfl:i=c:=by
   rw [List.getElem?_range c1] at c2;exact (Option.some.inj c2).symm
  have hj:k-1-i<k:=by omega
  have ej:(k:Int)-1+(i:Int)*-1=((k-1-i:Nat):Int):=by omega
  have sl:=span_len h hP i (by omega)
  have rl:=h.l2 (k-1-i) hj
  have p:=h.pos (k-1-i) hj
  have pl60:=h.le (k-1-i) hj
  have zb:=yh h hP hk hB hb i (by omega)
  have B1:Bd 8600 (aL idle k P i):=zb.mono (by omega)
  have B2:Bd 8600 (idle.getD (k-1-i) []):=(h.bd hj hk).mono (by omega)
  have q:(-(vf (aL idle k P i) (k-1-i)/vf (idle.getD (k-1-i) []) (k-1-i))).natAbs<2^8600:=by
   rw [Int.natAbs_neg]
   exact Nat.lt_of_le_of_lt (Int.natAbs_ediv_le_natAbs ..) (B1.vf _)
  have w:=pK (A:=8600) (tI (aL idle k P i)) (tI (idle.getD (k-1-i) [])) (aL idle k P i) (idle.getD (k-1-i) []) 1 (-(vf (aL idle k P i) (k-1-i)/vf (idle.getD (k-1-i) []) (k-1-i))) rfl rfl B1 B2 (Nat.one_lt_two_pow (by decide)) q (by decide) (by decide) (by omega)
  refine ⟨_,[some (.sh (tI (aL idle k P (i+1)))),some (.sh (.lst (idle.map tI))),some (.sh (.int ((k-1-i:Nat):Int))),some (.sh (tI (idle.getD (k-1-i) [])))],rfl,?_,i+1,_,_,by omega,c3,rfl⟩
  rw [ej]
  dsimp? [CL (idle:=idle) (j:=k-1-i) (by omega),gz (xs:=aL idle k P i) (i:=k-1-i) (by omega),gz (xs:=idle.getD (k-1-i) []) (i:=k-1-i) (by omega),aW (i:=vf (aL idle k P i) (k-1-i)) (j:=vf (idle.getD (k-1-i) []) (k-1-i)) p (by show II idle (k-1-i) (k-1-i)<2^64;omega),w]
  rfl
 ·rintro env ⟨c,x2,x3,hc,hdr,rfl⟩
  have:c=k:=by
   have:=congrArg List.length hdr
   rw [List.length_drop,List.length_range] at this
   simp at this
   omega
  subst this
  dsimp? []
section
variable {sizes:List Int} {Ls:List (List Int)}
theorem nq (h:sizes.length<=6):iZ [gI sizes Ls]=M.ok (tI (List.replicate sizes.length 0)):=by
 unfold iZ iY
 dsimp? [oI (sizes:=sizes) (levers:=Ls) (g:=aa 0) (env:=[some (.sh (gI sizes Ls))]) rfl,mul_one (.int 0) sizes.length (by omega)]
 rw [tI,List.map_replicate]
theorem nM (hm:Ls.length<=8) (xs:List Int):fK [gI sizes Ls,tI xs]=M.ok (mk (xs,List.replicate Ls.length 0)):=by
 unfold fK fz
 dsimp? [qm (sizes:=sizes) (levers:=Ls) (g:=aa 0) (env:=[some (.sh (gI sizes Ls)),some (.sh (tI xs))]) rfl,List.length_map,mul_one (.int 0) Ls.length (by omega)]
 rw [mk,tI,tI,List.map_replicate]
theorem DK (hm:Ls.length<=8) {k:Nat} (hk:k<Ls.length):fZ [gI sizes Ls,.int (k:Int)]=M.ok (mk (bD Ls Ls.length k)):=by
 have e:aG (.tup (Ls.map tI)) (.int (k:Int))=M.ok (tI (Ls.getD k [])):=bN (p:=.tup (Ls.map tI)) rfl (by rw [List.getElem?_map,List.getElem?_eq_getElem hk,List.getD_eq_getElem?_getD,List.getElem?_eq_getElem hk];rfl)
 unfold fZ dS
 dsimp? [qm (sizes:=sizes) (levers:=Ls) (g:=aa 0) (env:=[some (.sh (gI sizes Ls)),some (.sh (.int (k:Int))),none]) rfl,List.length_map,e,DR Ls.length k (by omega)]
 rfl
end
theorem AQ:∀ xs:List Int,pJ (tI xs)=true:=by
 intro xs
 have:∀ ys:List Int,my (ys.map PV.int)=true:=by
  intro ys
  induction ys with
  | nil=>rfl
  | cons a r ih=>simp [my,pJ,ih]
 exact this xs
theorem Jl (x y:PV):aG (.tup [x,y]) (.int 0)=M.ok x:=bN (j:=0) rfl rfl
theorem Ij (x y:PV):aG (.tup [x,y]) (.int 1)=M.ok y:=bN (j:=1) rfl rfl
def ny (sizes:List Int) (rows:List Row) (n:Nat):List Row:=(List.range n).map fun d=>aS sizes rows (row rows d) (d+1) (n-(d+1))
def uM (V:PV) (rows:List Row) (idle:List (List Int)):List (Str×PV):=[("vault", V),("made_rows", .lst (rows.map mk)),("idle_rows", .lst (idle.map tI))]
section
variable {sizes:List Int} {Ls:List (List Int)}
theorem Ax (hn1:1<=sizes.length) (hn:sizes.length<=6) (hm:Ls.length<=8) (hp:∀ i,i<sizes.length->0<vf sizes i/\vf sizes i<=360) (LL:IH sizes.length Ls.length sizes Ls) :
  i7 av iK [] [gI sizes Ls]=M.ok (.obj av (uM (gI sizes Ls) (ny sizes (RK cf sizes Ls sizes.length Ls.length Ls.length).1 sizes.length) (RK cf sizes Ls sizes.length Ls.length Ls.length).2)):=by
 have all:=fun k hk=>AJ.all (c:=cf) rfl hp LL Aq hn k hk
 have key:∀ a,iK a ([gI sizes Ls]++[])=M.ok (uM (gI sizes Ls) (ny sizes (RK cf sizes Ls sizes.length Ls.length Ls.length).1 sizes.length) (RK cf sizes Ls sizes.length Ls.length Ls.length).2):=by
  intro a
  have e1:bX (cn 0) none (ai fK (ae (aa 1) (ae (ai iZ (ae (aa 1) aq)) aq))) (sizes.map PV.int) [none,some (.sh (gI sizes Ls))]=M.ok ((List.replicate sizes.length ((List.replicate sizes.length (0:Int)),(List.replicate Ls.length (0:Int)))).map mk):=by
   rw [g9 (h:=fun _=>mk (List.replicate sizes.length 0,List.replicate Ls.length 0)) sizes fun x _=>by dsimp? [nq (Ls:=Ls) hn,nM (sizes:=sizes) hm (List.replicate sizes.length 0)]]
   congr 1
   rw [List.map_const',List.map_replicate]
  have e2:bX (bY 0 1) none (ai fL (ae (aa 2) (ae (aa 3) (ae (aa 1) (ae (aj fN (aa 0) (fun _=>M.ok (.int 1))) aq))))) ((RK cf sizes Ls sizes.length Ls.length Ls.length).1.zipIdx.map fun z=>.tup [.int (z.2:Int),mk z.1]) [none,none,some (.sh (tI sizes)),some (.sh (.lst ((RK cf sizes Ls sizes.length Ls.length Ls.length).1.map mk)))]=M.ok ((ny sizes (RK cf sizes Ls sizes.length Ls.length Ls.length).1 sizes.length).map mk):=by
   have I:=all Ls.length (Nat.le_refl _)
   generalize RK cf sizes Ls sizes.length Ls.length Ls.length=rk at *
   have rl:=I.st.wf.len
   rw [pz (p:=fun z:Row×Nat=>PV.int (z.2:Int)) (q:=fun z:Row×Nat=>mk z.1) (h:=fun z:Row×Nat=>mk (aS sizes rk.1 z.1 (z.2+1) (sizes.length-(z.2+1)))) rk.1.zipIdx fun z hz=>?_]
   ·congr 1
    rw [ny,List.map_map]
    refine List.ext_getElem (by simp [rl]) fun i h1 h2=>?_
    have hi:i<rk.1.length:=by simpa using h1
    simp [iT hi]
   ·obtain ⟨i,hi,e⟩:=List.mem_iff_getElem.mp hz
    rw [List.length_zipIdx] at hi
    rw [List.getElem_zipIdx] at e
    have ez:z=(row rk.1 i,i):=by rw [← e,iT hi];simp
    subst ez
    have hin:i<sizes.length:=by omega
    have:=pL (f:=i+1) (B:=150*Ls.length+1) I.st hn hm (I.st.wf.nW hin) (I.st.wf.at2 hin) (fun j hj=>I.st.gd.jS i hin j hj) (Nat.le_refl _) (by omega) (I.st.bd i hin) (by omega)
    rw [show ((i+1:Nat):Int)=(i:Int)+1 by omega] at this
    dsimp? [this]
  have zl:sizes.length<=sizeLine:=aM (by omega)
  have I:=all Ls.length (Nat.le_refl _)
  have rl:=I.st.wf.len
  unfold iK jv
  simp only [rE]
  rw [ar (show ([gI sizes Ls]++([]:List PV)).length+1=2 from rfl)]
  simp only [wQ,xo]
  dsimp? [oI (sizes:=sizes) (levers:=Ls) (g:=aa 1) (env:=[some (.bd a av []),some (.sh (gI sizes Ls)),none,none,none,none,none]) rfl,List.length_map,ar zl,e1,fJ,qm (sizes:=sizes) (levers:=Ls) (g:=aa 1) (env:=[some (.bd a av []),some (.sh (gI sizes Ls)),some (.sh (tI sizes)),some (.sh (.lst ((List.replicate sizes.length ((List.replicate sizes.length (0:Int)),(List.replicate Ls.length (0:Int)))).map mk))),some (.ow []),none,none]) rfl,i0 (n:=(Ls.length:Int)) (by omega) (by omega),Int.toNat_natCast]
  refine dI (List.range Ls.length) (fun zs env=>∃ k x5 x6,k<=Ls.length/\(List.range Ls.length).drop k=zs/\env=[some (.bd a av []),some (.sh (gI sizes Ls)),some (.sh (tI sizes)),some (.sh (.lst ((RK cf sizes Ls sizes.length Ls.length k).1.map mk))),some (.ow ((RK cf sizes Ls sizes.length Ls.length k).2.map tI)),x5,x6]) ⟨0,none,none,Nat.zero_le _,rfl,rfl⟩ ?_ ?_
  ·rintro i zs env ⟨k,x5,x6,hk,hdr,rfl⟩
   obtain ⟨c1,c2,c3⟩:=drop_cons hdr
   rw [List.length_range] at c1
   obtain rfl:i=k:=by
    rw [List.getElem?_range c1] at c2;exact (Option.some.inj c2).symm
   have J:=all i hk
   have L:Lv sizes.length Ls.length sizes (AA Ls) i (bD Ls Ls.length i):=⟨LL.at_ i c1,by simp [bD,nX],c1,fun j hj=>rfl,LL.jS i c1,fun l hl=>vI hl⟩
   have tk:=A7 J.st L hn hm
   have ll:=cO (c:=cf) J.st.wf J.st.hs L.l1 L.l2 sizes.length (Nat.le_refl _)
   have lb:=oK (c:=cf) J.st L hn sizes.length (Nat.le_refl _)
   have sp:=vF (B:=1400) J.sJ ll.2 hm (by omega) (by decide) (by decide) (lb.mono (by omega))
   have il:=J.sJ.len
   refine ⟨_,[some (.bd a av []),some (.sh (gI sizes Ls)),some (.sh (tI sizes)),some (.sh (.lst ((RK cf sizes Ls sizes.length Ls.length (i+1)).1.map mk))),some (.ow ((RK cf sizes Ls sizes.length Ls.length (i+1)).2.map tI)),some (.sh (.int (i:Int))),some (.sh (.tup [.lst ((cw cf sizes (RK cf sizes Ls sizes.length Ls.length i).1 (bD Ls Ls.length i) sizes.length).map mk),tI (ay cf sizes (RK cf sizes Ls sizes.length Ls.length i).1 (bD Ls Ls.length i) sizes.length).2]))],rfl,?_,i+1,_,_,by omega,c3,rfl⟩
   dsimp? [DK (sizes:=sizes) hm c1,tk,Jl]
   rw [sO (i:=4) rfl (p:=tI (aL (RK cf sizes Ls sizes.length Ls.length i).2 i (ay cf sizes (RK cf sizes Ls sizes.length Ls.length i).1 (bD Ls Ls.length i) sizes.length).2 i)) (by
    dsimp? [Ac,ownAt,Ij,sp]
    exact ar (AQ _)) (by simp [il];omega)]
   dsimp? [RK,List.map_append]
  ·rintro env ⟨k,x5,x6,hk,hdr,rfl⟩
   have:k=Ls.length:=by
    have:=congrArg List.length hdr
    rw [List.length_drop,List.length_range] at this
    simp at this
    omega
   subst this
   dsimp? [jC]
   rw [eS _ _ _ _ _ _ (by simp)]
   dsimp? [jC,lS,List.length_map,List.length_zipIdx,rl,ar zl,e2]
   rw [eS _ _ _ _ _ _ (Nat.lt_of_le_of_lt (eB (Nat.zero_le 0)) (by decide))]
   dsimp? [jC]
   rw [eS _ _ _ _ _ _ (Nat.lt_of_le_of_lt (eB (eB (Nat.zero_le 0))) (by decide))]
   dsimp? []
   show cy _ _=_
   rw [ar ⟨rfl,rfl⟩]
   rfl
 unfold i7
 rw [wM key];rfl
end
section
variable {n m:Nat} {sizes:List Int} {A:Nat->dc} {rows:List Row}
theorem lT {d:Nat} (h:d<n):row (ny sizes rows n) d=aS sizes rows (row rows d) (d+1) (n-(d+1)):=by
 rw [iT (by simp [ny,h])];simp [ny]
theorem Ge (h:St n m sizes A m rows) (hn:n<=6) (hA:∀ i,A m i=0):St n m sizes A (m+1) (ny sizes rows n):=by
 have hl:∀ d,d<n->(aS sizes rows (row rows d) (d+1) (n-(d+1))).1.length=n/\(aS sizes rows (row rows d) (d+1) (n-(d+1))).2.length=m:=fun d hd=>iA h (h.wf.nW hd) (h.wf.at2 hd) _ (by omega)
 have lg:=wq (D':=DD (ny sizes rows n)) h.gd (fun d e=>vf (aS sizes rows (row rows d) (d+1) (e-(d+1))).1) (fun d hd=>mJ h (h.wf.nW hd) (h.wf.at2 hd) fun i hi=>h.gd.jS d hd i hi) (fun d hd i hi=>by
  show vf (aS sizes rows (row rows d) (d+1) (d+1-(d+1))).1 i=_
  rw [Nat.sub_self];rfl) fun d hd i hi=>by
  unfold DD;rw [lT hd]
 refine ⟨⟨by simp [ny],fun r hr=>?_,fun r hr=>?_⟩,h.hs,h.sm,lg.1,fun d hd=>?_,fun d hd l h1 h2=>by omega,fun d hd=>?_,fun l hl=>?_⟩
 ·obtain ⟨d,hd,rfl⟩:=List.mem_map.mp hr
  exact (hl d (List.mem_range.mp hd)).1
 ·obtain ⟨d,hd,rfl⟩:=List.mem_map.mp hr
  exact (hl d (List.mem_range.mp hd)).2
 ·unfold DD PP
  rw [lT hd]
  have:=tQ h (f:=d+1) (h.wf.nW hd) (h.wf.at2 hd) (P₀:=fun _=>0) (B:=fun _=>0) (by
   have q:=h.led d hd
   intro i hi
   have:=q i hi
   simp only [Int.sub_zero];exact this) (n-(d+1)) (by omega)
  intro i hi
  have:=this i hi
  simp only [Int.sub_zero] at this
  exact this
 ·rw [lT hd]
  exact (ti h (f:=d+1) (h.wf.nW hd) (h.wf.at2 hd) (fun i hi=>h.gd.jS d hd i hi) (Nat.le_refl _) (h.bd d hd) (n-(d+1)) (by omega)).mono (by omega)
 ·rcases Nat.lt_or_ge l m with q | q
  ·exact lg.2.2.2.2 n 0 (by omega) _ (h.cl l q)
  ·obtain rfl:l=m:=by omega
   exact G.ext (by omega) (fun i _=>(hA i).symm) (G.zero (by omega))
end
def jL (sizes:List Int) (Ls:List (List Int)) (R:List Row) (idle:List (List Int)):PV:=.obj av (uM (gI sizes Ls) R idle)
section
variable {sizes:List Int} {Ls:List (List Int)} {R:List Row} {idle:List (List Int)}
theorem Jg:(uM (gI sizes Ls) R idle).lookup (Str.ofString "vault")=some (gI sizes Ls):=rfl
theorem IV:(uM (gI sizes Ls) R idle).lookup (Str.ofString "made_rows")=some (.lst (R.map mk)):=rfl
theorem Iy:(uM (gI sizes Ls) R idle).lookup (Str.ofString "idle_rows")=some (.lst (idle.map tI)):=rfl
theorem LO:(uM (gI sizes Ls) R idle).lookup (Str.ofString "brought_down")=none:=rfl
theorem Lg {g:af->M PV} {env:af} (h:g env=M.ok (jL sizes Ls R idle)):fv (fun c=>c==av) "vault" g env=M.ok (gI sizes Ls):=by
 rw [fv,h,M.aJ]
 show cy _ (fu (List.lookup _ _))=_
 rw [ar (beq_self_eq_true _),Jg];rfl
theorem XE {g:af->M PV} {env:af} (h:g env=M.ok (jL sizes Ls R idle)):fv (fun c=>c==av) "made_rows" g env=M.ok (.lst (R.map mk)):=by
 rw [fv,h,M.aJ]
 show cy _ (fu (List.lookup _ _))=_
 rw [ar (beq_self_eq_true _),IV];rfl
theorem T5 {g:af->M PV} {env:af} (h:g env=M.ok (jL sizes Ls R idle)):fv (fun c=>c==av) "idle_rows" g env=M.ok (.lst (idle.map tI)):=by
 rw [fv,h,M.aJ]
 show cy _ (fu (List.lookup _ _))=_
 rw [ar (beq_self_eq_true _),Iy];rfl
theorem Dz:gL [jL sizes Ls R idle]=M.ok (.lst (idle.map tI)):=by
 unfold gL eO
 dsimp? [T5 (sizes:=sizes) (Ls:=Ls) (R:=R) (idle:=idle) (g:=aa 0) (env:=[some (.sh (jL sizes Ls R idle))]) rfl]
theorem ub {A:Nat->dc} {k:Nat} (S:Sz sizes) (hm:Ls.length<=8) (h:St sizes.length Ls.length sizes A k R) (hk:k<=9) {xs:List Int} (hx:G2 sizes xs) (h0:∀ i,i<sizes.length->0<=vf xs i/\vf xs i<vf sizes i) :
  aP [jL sizes Ls R idle,tI xs]=M.ok (mk (aS sizes R (xs,List.replicate Ls.length 0) 0 sizes.length)):=by
 have lo:=pL (f:=0) (B:=150*k+1) (r:=(xs,List.replicate Ls.length 0)) h S.h6 hm hx.len (by simp) h0 (Nat.le_refl _) (by omega) (fun x hx=>by rw [List.eq_of_mem_replicate hx];exact Nat.two_pow_pos _) (Nat.zero_le _)
 rw [Nat.sub_zero] at lo
 unfold aP aU
 dsimp? [Lg (sizes:=sizes) (Ls:=Ls) (R:=R) (idle:=idle) (g:=aa 0) (env:=[some (.sh (jL sizes Ls R idle)),some (.sh (tI xs))]) rfl,XE (sizes:=sizes) (Ls:=Ls) (R:=R) (idle:=idle) (g:=aa 0) (env:=[some (.sh (jL sizes Ls R idle)),some (.sh (tI xs))]) rfl,Dv (levers:=Ls) S hx,nM (sizes:=sizes) hm xs,oI (sizes:=sizes) (levers:=Ls) (g:=fv (fun c=>c==av) "vault" (aa 0)) (env:=[some (.sh (jL sizes Ls R idle)),some (.sh (tI xs))]) (Lg (R:=R) (idle:=idle) rfl),show fL [tI sizes,.lst (R.map mk),mk (xs,List.replicate Ls.length 0),.int 0]=_ from lo]
end
def oV (xs:List Int):List Int:=xs.map fun x=>-x
theorem GU (xs:List Int) (i:Nat):vf (oV xs) i=-vf xs i:=by
 rcases Nat.lt_or_ge i xs.length with h | h
 ·rw [aV (by simpa [oV] using h),aV h];simp [oV]
 ·rw [p9 (by simpa [oV] using h),p9 h];rfl
theorem F2 {B:Nat} {xs:List Int} (h:Bd B xs):Bd B (oV xs):=fun x hx=>by
 obtain ⟨y,hy,rfl⟩:=List.mem_map.mp hx
 rw [Int.natAbs_neg];exact h y hy
section
variable {sizes:List Int} {Ls:List (List Int)} {R:List Row} {idle:List (List Int)}
def told (sizes:List Int) (Ls:List (List Int)) (R:List Row) (idle:List (List Int)) (xs:List Int):List Int:=aL idle Ls.length (oV (aS sizes R (xs,List.replicate Ls.length 0) 0 sizes.length).2) Ls.length
theorem Ao {A:Nat->dc} {k:Nat} (S:Sz sizes) (hm:Ls.length<=8) (h:St sizes.length Ls.length sizes A k R) (hk:k<=9) (I:yp sizes.length Ls.length (vf sizes) A Ls.length idle) {xs:List Int} (hx:G2 sizes xs) (h0:∀ i,i<sizes.length->0<=vf xs i/\vf xs i<vf sizes i) (hg:G sizes.length (vf sizes) (DD R) sizes.length 0 (vf xs)) :
  aY [jL sizes Ls R idle,tI xs]=M.ok (tI (told sizes Ls R idle xs))/\(told sizes Ls R idle xs).length=Ls.length/\Led sizes.length (vf sizes) Ls.length A (vf xs) (vf (told sizes Ls R idle xs))/\∀ l,l<Ls.length->0<=vf (told sizes Ls R idle xs) l/\vf (told sizes Ls R idle xs) l<II idle l l:=by
 have l6:=S.h6
 have r2:(List.replicate Ls.length (0:Int)).length=Ls.length:=by simp
 have ll:=iA h (f:=0) (r:=(xs,List.replicate Ls.length 0)) hx.len r2 sizes.length (by omega)
 have dn:=mJ h (f:=0) (r:=(xs,List.replicate Ls.length 0)) hx.len r2 h0
 have z:=dn.run h.gd sizes.length 0 (Nat.le_refl _) (by omega) (by rw [Nat.sub_self];exact hg)
 rw [Nat.sub_zero] at z
 have nz:(aS sizes R (xs,List.replicate Ls.length 0) 0 sizes.length).1=List.replicate sizes.length 0:=nu (by rw [ll.1];simp) fun i hi=>by rw [z i (by omega),jm]
 have b:=ti h (f:=0) (B:=150*k+1) (r:=(xs,List.replicate Ls.length 0)) hx.len r2 h0 (Nat.le_refl _) (fun x hx=>by rw [List.eq_of_mem_replicate hx];exact Nat.two_pow_pos _) sizes.length (by omega)
 have nl:(oV (aS sizes R (xs,List.replicate Ls.length 0) 0 sizes.length).2).length=Ls.length:=by rw [oV,List.length_map];exact ll.2
 have sp:=vF (B:=1500) I nl hm (Nat.le_refl _) (by decide) (by decide) (F2 (b.mono (by omega)))
 have led:=tQ h (f:=0) (r:=(xs,List.replicate Ls.length 0)) hx.len r2 (P₀:=fun _=>0) (B:=vf xs) (by
  intro i hi
  rw [lL (g:=fun _=>0) fun l hl=>by
   show (vf (List.replicate Ls.length 0) l-0)*A l i=0
   rw [jm];simp,kC]
  show vf sizes i∣vf xs i-vf xs i-0
  rw [Int.sub_self];exact Int.dvd_zero _) sizes.length (by omega)
 have led2:Led sizes.length (vf sizes) Ls.length A (vf xs) (vf (oV (aS sizes R (xs,List.replicate Ls.length 0) 0 sizes.length).2)):=by
  refine Led.mix (a:=-1) (b:=0) led led (fun i hi=>?_) fun l hl=>?_
  ·rw [z i hi]
   exact ⟨0,by omega⟩
  ·rw [GU];omega
 refine ⟨?_,span_len I nl _ (Nat.le_refl _),oX I nl led2 _ (Nat.le_refl _),fun l hl=>uA I nl (Nat.le_refl _) _ (Nat.le_refl _) l (by omega) hl⟩
 have dk:=ub (idle:=idle) S hm h hk hx h0
 have md:∀ y,b_ av "brought_down" aP (aa 0) (ae (aa 1) aq) [some (.sh (jL sizes Ls R idle)),some (.sh (tI xs)),y]=M.ok (mk (aS sizes R (xs,List.replicate Ls.length 0) 0 sizes.length)):=fun y=>by
  show M.bind (M.ok (jL sizes Ls R idle)) _=_
  rw [M.aJ]
  show cy _ (M.bind (M.ok [tI xs]) _)=_
  rw [ar ⟨rfl,LO⟩,M.aJ]
  exact dk
 have cm:bX (cn 0) none (mU (aa 0)) ((aS sizes R (xs,List.replicate Ls.length 0) 0 sizes.length).2.map PV.int) [none]=M.ok ((aS sizes R (xs,List.replicate Ls.length 0) 0 sizes.length).2.map fun x=>.int (-x)):=g9 _ fun x _=>by dsimp? []
 have lz:(aS sizes R (xs,List.replicate Ls.length 0) 0 sizes.length).2.length<=sizeLine:=by rw [ll.2];exact aM (by omega)
 have en:PV.tup ((aS sizes R (xs,List.replicate Ls.length 0) 0 sizes.length).2.map fun x=>PV.int (-x))=tI (oV (aS sizes R (xs,List.replicate Ls.length 0) 0 sizes.length).2):=by rw [tI,oV,List.map_map];rfl
 unfold aY bw
 dsimp? [md,lH,Bx,Lg (sizes:=sizes) (Ls:=Ls) (R:=R) (idle:=idle) (g:=aa 0) (env:=[some (.sh (jL sizes Ls R idle)),some (.sh (tI xs)),some (.sh (mk (aS sizes R (xs,List.replicate Ls.length 0) 0 sizes.length)))]) rfl,nq (Ls:=Ls) l6,nz,t4,decide_true,T5 (sizes:=sizes) (Ls:=Ls) (R:=R) (idle:=idle) (g:=aa 0) (env:=[some (.sh (jL sizes Ls R idle)),some (.sh (tI xs)),some (.sh (mk (aS sizes R (xs,List.replicate Ls.length 0) 0 sizes.length)))]) rfl,List.length_map,ar lz,cm,en,sp]
 rfl
end
theorem zw {i j:Int} (h0:0<j) (h:j<2^200):cQ (.int i) (.int j)=M.ok (.int (i/j)):=by
 rw [mI (by omega) (Nat.lt_of_lt_of_le (show j.natAbs<2^200 by omega) (Nat.pow_le_pow_right (by decide) (by decide))),Int.fdiv_eq_ediv_of_nonneg _ (by omega)]
theorem sV (ns:List Int) (k:Nat):∃ c,dr [.jR (ns.map PV.int),.int (k:Int)]=M.ok (.int c):=by
 unfold dr eH
 by_cases h:k<ns.length
 ·refine ⟨ns[k],?_⟩
  have h':(k:Int)<((ns.length:Nat):Int):=by omega
  have e:=bN (p:=.jR (ns.map PV.int)) (xs:=ns.map PV.int) (j:=k) (x:=.int ns[k]) rfl (by rw [List.getElem?_map,List.getElem?_eq_getElem h];rfl)
  dsimp? [List.length_map,h',decide_true,e]
 ·refine ⟨0,?_⟩
  have h':¬ (k:Int)<((ns.length:Nat):Int):=by omega
  dsimp? [List.length_map,h',decide_false]
theorem sC (c:Int) (p:PV) (bases:List Int) (hp:bC p=some (bases.map PV.int)) (hb:∀ b∈bases,0<b/\b<2^200) (hl:bases.length<=100):∃ xs:List Int,dR [.int c,p]=M.ok (lI xs)/\xs.length=bases.length/\∀ z∈xs.zip bases,0<=z.1/\z.1<z.2:=by
 suffices h:∃ env':af,iX (cn 4) (ao (jq 2 (aj fG (aa 3) (aa 4))) (ao (bg 3 (aj cQ (aa 3) (aa 4))) ak)) (bases.map PV.int) [some (.sh (.int c)),some (.sh p),some (.ow []),some (.sh (.int c)),none]=M.ok (.nx env')/\∃ (d xs:List Int) (left:Int) (y:Option SV),env'=[some (.sh (.int c)),some (.sh p),some (.ow (xs.map PV.int)),some (.sh (.int left)),y]/\bases=d++[]/\xs.length=d.length/\∀ z∈xs.zip d,0<=z.1/\z.1<z.2 by
  obtain ⟨env',e,d,xs,left,y,rfl,hd,hx,hz⟩:=h
  rw [List.append_nil] at hd
  subst hd
  refine ⟨xs,?_,hx,hz⟩
  unfold dR cV
  dsimp? [fJ,hp,e]
  rfl
 refine lY (fun r env=>∃ (d xs:List Int) (left:Int) (y:Option SV),env=[some (.sh (.int c)),some (.sh p),some (.ow (xs.map PV.int)),some (.sh (.int left)),y]/\bases=d++r/\xs.length=d.length/\∀ z∈xs.zip d,0<=z.1/\z.1<z.2) ?_ bases _ ⟨[],[],c,none,rfl,rfl,rfl,fun _ h=>nomatch h⟩
 rintro b r env ⟨d,xs,left,y,rfl,hd,hx,hz⟩
 have hbb:=hb b (by rw [hd];simp)
 have dl:d.length<=100:=by
  have:=congrArg List.length hd
  rw [List.length_append] at this;omega
 refine ⟨_,[some (.sh (.int c)),some (.sh p),some (.ow ((xs++[left%b]).map PV.int)),some (.sh (.int (left/b))),some (.sh (.int b))],rfl,?_,d++[b],xs++[left%b],left/b,_,rfl,by rw [hd];simp,by simp [hx],fun z hz'=>?_⟩
 ·dsimp? []
  rw [sO (i:=2) rfl (p:=.int (left%b)) (by dsimp? [aZ (i:=left) hbb.1]) (by simp;omega)]
  dsimp? [zw (i:=left) hbb.1 hbb.2,List.map_append]
 ·rw [List.zip_append hx] at hz'
  rcases List.mem_append.mp hz' with q | q
  ·exact hz z q
  ·rw [List.zip_cons_cons,List.zip_nil_left] at q
   rw [List.mem_singleton.mp q]
   exact ⟨Int.emod_nonneg _ (by omega),Int.emod_lt_of_pos _ hbb.1⟩
def jQ (sizes xs ys:List Int) (t:Int):List Int:=(xs.zip (ys.zip sizes)).map fun z=>(z.1+t*z.2.1)%z.2.2
theorem pP {sizes xs ys:List Int} {t:Int} (h1:xs.length=sizes.length) (h2:ys.length=sizes.length):(jQ sizes xs ys t).length=sizes.length:=by
 simp [jQ];omega
theorem p4 {sizes xs ys:List Int} {t:Int} {i:Nat} (h1:xs.length=sizes.length) (h2:ys.length=sizes.length) (hi:i<sizes.length):vf (jQ sizes xs ys t) i=(vf xs i+t*vf ys i)%vf sizes i:=by
 rw [aV (by rw [pP h1 h2];exact hi),aV (by omega),aV (by omega),aV hi]
 simp [jQ]
theorem oQ {sizes xs ys:List Int} {t:Int} {q:PV} (hs:∀ s∈sizes,0<s) (hl:sizes.length<=6) (h1:xs.length=sizes.length) (hq:bC q=some (ys.map PV.int)) (hy:Bd 200 ys) (ht:t.natAbs<2^200):bf [lI sizes,tI xs,q,.int t]=M.ok (tI (jQ sizes xs ys t)):=by
 have k1:bX (qj 0 1 2) none (aj fG (aj fN (aa 0) (aj cW (aa 3) (aa 1))) (aa 2)) ((xs.zip (ys.zip sizes)).map fun z=>.tup [.int z.1,.int z.2.1,.int z.2.2]) [none,none,none,some (.sh (.int t))]=M.ok ((xs.zip (ys.zip sizes)).map fun z=>.int ((z.1+t*z.2.1)%z.2.2)):=by
  refine Bu (p:=fun z:Int×Int×Int=>PV.int z.1) (q:=fun z:Int×Int×Int=>PV.int z.2.1) (s:=fun z:Int×Int×Int=>PV.int z.2.2) (xs.zip (ys.zip sizes)) fun z hz=>?_
  obtain ⟨m1,m2⟩:=List.of_mem_zip (a:=z.1) (b:=z.2) hz
  obtain ⟨m3,m4⟩:=List.of_mem_zip (a:=z.2.1) (b:=z.2.2) m2
  dsimp? [bo (k:=200) (l:=200) ht (hy _ m3),aZ (i:=z.1+t*z.2.1) (hs _ m4)]
 have z1:(xs.zip (ys.zip sizes)).length<=sizeLine:=by rw [List.length_zip];exact aM (Nat.le_trans (Nat.min_le_left _ _) (by omega))
 unfold bf bJ
 dsimp? [vM (p:=tI xs) (q:=q) (r:=lI sizes) xs ys sizes rfl hq rfl,List.length_map,ar z1,k1]
 rw [tI,jQ,List.map_map];rfl
theorem zF {sizes xs P:List Int} {raw:List (List Int)} {q:PV} (hs:∀ s∈sizes,0<s) (hl:sizes.length<=6) (h1:xs.length=sizes.length) (hq:bC q=some (xs.map PV.int)) (hk:∀ i,i<sizes.length->0<=vf xs i/\vf xs i<vf sizes i)
  (hr:∀ l∈raw,l.length=sizes.length/\Bd 200 l) (hP:Bd 200 P) (hm:P.length=raw.length) {p2:PV} (CF:bC p2=some (P.map PV.int)):∃ F:List Int,cu [lI sizes,.lst (raw.map lI),q,p2]=M.ok (tI F)/\F.length=sizes.length/\(∀ i,i<sizes.length->0<=vf F i/\vf F i<vf sizes i)/\∀ i,i<sizes.length->vf sizes i∣vf F i-(vf xs i+dC raw.length fun l=>vf P l*vf (raw.getD l []) i):=by
 have sp:∀ i,i<sizes.length->0<vf sizes i:=fun i hi=>by rw [aV hi];exact hs _ (List.getElem_mem hi)
 suffices h:∃ env':af,iX (bY 5 6) (ao (bg 4 (ai bf (ae (aa 0) (ae (aa 4) (ae (aa 5) (ae (aa 6) aq)))))) ak) ((raw.zip P).map fun z=>.tup [lI z.1,.int z.2]) [some (.sh (lI sizes)),some (.sh (.lst (raw.map lI))),some (.sh q),some (.sh p2),some (.sh (tI xs)),none,none]=M.ok (.nx env')/\∃ (c:Nat) (F:List Int) (y z:Option SV),env'=[some (.sh (lI sizes)),some (.sh (.lst (raw.map lI))),some (.sh q),some (.sh p2),some (.sh (tI F)),y,z]/\c<=raw.length/\(raw.zip P).drop c=[]/\F.length=sizes.length/\(∀ i,i<sizes.length->0<=vf F i/\vf F i<vf sizes i)/\∀ i,i<sizes.length->vf sizes i∣vf F i-(vf xs i+dC c fun l=>vf P l*vf (raw.getD l []) i) by
  obtain ⟨env',e,c,F,y,z,rfl,hc,hd,fl,fk,fd⟩:=h
  have:c=raw.length:=by
   have:=congrArg List.length hd
   rw [List.length_drop,List.length_zip] at this
   simp at this
   omega
  subst this
  refine ⟨F,?_,fl,fk,fd⟩
  have e0:zip2 [.lst (raw.map lI),p2]=M.ok ((raw.zip P).map fun z=>.tup [lI z.1,.int z.2]):=i5 (p:=.lst (raw.map lI)) (q:=p2) raw P rfl CF
  unfold cu cR
  dsimp? [hq,e0]
  rw [show (PV.tup (xs.map PV.int))=tI xs from rfl,e]
  dsimp? []
 refine lY (fun zs env=>∃ (c:Nat) (F:List Int) (y z:Option SV),env=[some (.sh (lI sizes)),some (.sh (.lst (raw.map lI))),some (.sh q),some (.sh p2),some (.sh (tI F)),y,z]/\c<=raw.length/\(raw.zip P).drop c=zs/\F.length=sizes.length/\(∀ i,i<sizes.length->0<=vf F i/\vf F i<vf sizes i)/\∀ i,i<sizes.length->vf sizes i∣vf F i-(vf xs i+dC c fun l=>vf P l*vf (raw.getD l []) i)) ?_ (raw.zip P) _ ⟨0,xs,none,none,rfl,Nat.zero_le _,rfl,h1,hk,fun i hi=>by rw [dC];exact ⟨0,by omega⟩⟩
 rintro ⟨l,t⟩ r env ⟨c,F,y,z,rfl,hc,hd,fl,fk,fd⟩
 obtain ⟨c1,c2,c3⟩:=drop_cons hd
 rw [List.length_zip] at c1
 have hcr:c<raw.length:=by omega
 have hcp:c<P.length:=by omega
 have el:l=raw[c]/\t=P[c]:=by
  rw [List.getElem?_eq_getElem (by rw [List.length_zip];omega),List.getElem_zip] at c2
  have:=Option.some.inj c2
  injection this with a b
  exact ⟨a.symm,b.symm⟩
 have lr:=hr l (by rw [el.1];exact List.getElem_mem _)
 have tb:t.natAbs<2^200:=by rw [el.2];exact hP _ (List.getElem_mem _)
 refine ⟨_,[some (.sh (lI sizes)),some (.sh (.lst (raw.map lI))),some (.sh q),some (.sh p2),some (.sh (tI (jQ sizes F l t))),some (.sh (lI l)),some (.sh (.int t))],rfl,?_,c+1,jQ sizes F l t,_,_,rfl,by omega,c3,pP fl lr.1,fun i hi=>?_,fun i hi=>?_⟩
 ·dsimp? [oQ (q:=lI l) hs hl fl rfl lr.2 tb]
 ·rw [p4 fl lr.1 hi]
  have:=sp i hi
  exact ⟨Int.emod_nonneg _ (by omega),Int.emod_lt_of_pos _ this⟩
 ·rw [p4 fl lr.1 hi,dC]
  obtain ⟨a,ha⟩:=fd i hi
  obtain ⟨b,hb⟩:=dW (vf F i+t*vf l i) (vf sizes i)
  have e1:vf P c=t:=by rw [aV hcp,el.2]
  have e2:raw.getD c []=l:=by rw [List.getD_eq_getElem?_getD,List.getElem?_eq_getElem hcr,el.1];rfl
  rw [e1,e2]
  exact ⟨a+b,by rw [Int.mul_add];omega⟩
theorem rR (c:Int) (m:Nat) (hm:m<=100):fq (d_ [.int c,.int (m:Int)]) fun p=>∃ xs:List Int,p=lI xs/\xs.length=m/\∀ x∈xs,0<=x/\x<2^31:=by
 unfold d_ cT
 dsimp? [fJ,aZ (j:=2147483629) (i:=c) (by decide),i0 (n:=(m:Int)) (by omega) (by omega)]
 refine fq.loop (xs:=List.range (m:Int).toNat) (inj:=fun (i:Nat)=>.int (i:Int)) (fun zs env=>∃ (xs:List Int) (u:Int) (y:Option SV),env=[some (.sh (.int c)),some (.sh (.int (m:Int))),some (.ow (xs.map PV.int)),some (.sh (.int u)),y]/\xs.length+zs.length=m/\(∀ z∈zs,z<m)/\0<=u/\u<2^31/\∀ x∈xs,0<=x/\x<2^31) ⟨[],c%2147483629+17,none,rfl,by simp,fun z hz=>by simpa using hz,by omega,by omega,fun x hx=>nomatch hx⟩ ?_ ?_
 ·rintro a r env ⟨xs,u,y,rfl,hl,hz,u0,u1,hx⟩
  have ha:=hz a List.mem_cons_self
  dsimp? [cn,bo (i:=u) (j:=48271) (k:=31) (l:=31) (by omega) (by decide),bo (i:=7919) (j:=(a:Int)) (k:=31) (l:=31) (by decide) (by omega),aZ (i:=u*48271+7919*(a:Int)+1) (j:=2147483647) (by decide),aW (i:=(u*48271+7919*(a:Int)+1)%2147483647) (j:=5) (by decide) (by decide),iF,ownAt,iw (xs:=xs.map PV.int) (by simp at hl ⊢;omega),gZ]
  exact ⟨_,rfl,_,_,_,rfl,by simp at hl ⊢;omega,fun z h=>hz z (List.mem_cons_of_mem _ h),by omega,by omega,fun x hx'=>by
    rcases List.mem_append.mp hx' with h | h
    ·exact hx x h
    ·rw [List.mem_singleton] at h;omega⟩
 ·rintro env ⟨xs,u,y,rfl,hl,_,_,_,hx⟩
  exact ⟨_,rfl,xs,rfl,by simpa using hl,hx⟩
theorem BU (p:PV) (n:Nat) (h8:n<=1000):cW (.lst [p]) (.int (n:Int))=M.ok (.lst (List.replicate n p)):=by
 have h2:[p].length*(n:Int).toNat<=sizeLine:=by
  rw [Int.toNat_natCast]
  exact aM (by show 1*n<=1000;omega)
 have h3:(n:Int)<2^63:=Int.lt_of_le_of_lt (Int.ofNat_le.mpr h8) (by decide)
 have h4:-(2^63)<=(n:Int):=Int.le_trans (by decide) (Int.natCast_nonneg n)
 rw [cW,ar ⟨h4,h3,h2⟩,Int.toNat_natCast,vz]
theorem CU {n:Nat} {a b:Int} (h:b∈List.replicate n a):b=a:=List.eq_of_mem_replicate h
theorem JY:Cr (.int 10) (.int 30)=M.ok (.int (10^30)):=by
 show cy (decide ((0:Int)<=30/\(30:Int)<=1000000/\(10:Int).natAbs<2^64)=true) _=_
 exact ar (by decide)
theorem BZ (i:Int) (h0:0<=i) (h:i<2^60):fq (gU [.int i]) fun p=>∃ x:Int,p=.int x/\x.natAbs<2^199:=by
 unfold gU eR
 dsimp? [bo (i:=i) (j:=618033988749894848204586834365) (k:=60) (l:=200) (by omega) (by decide),JY,bo (i:=2) (j:=10^30) (k:=60) (l:=200) (by decide) (by decide),aZ (i:=i*618033988749894848204586834365) (j:=2*10^30-1) (by decide)]
 exact ⟨_,rfl,_,rfl,by omega⟩
theorem pick (l:List Int) (c:Int) (n:Nat) (hn:l.length=n) (h0:0<n):∃ x,x∈l/\aG (.lst (l.map PV.int)) (.int (c%(n:Int)))=M.ok (.int x):=by
 have h1:0<=c%(n:Int):=Int.emod_nonneg _ (by omega)
 have h2:c%(n:Int)<n:=Int.emod_lt_of_pos _ (by omega)
 obtain ⟨j,hj⟩:=Int.eq_ofNat_of_zero_le h1
 have hj':j<l.length:=by omega
 refine ⟨l[j],List.getElem_mem _,?_⟩
 rw [hj]
 exact bN (p:=.lst (l.map PV.int)) (j:=j) rfl (by rw [List.getElem?_map,List.getElem?_eq_getElem hj'];rfl)
theorem two {c:Int}:c%2=0\/c%2=1:=by omega
theorem yD (c:Int):fq (gP [.int c]) fun p=>∃ xs:List Int,p=lI xs/\Sz xs:=by
 obtain ⟨m,em,m1,m6⟩:∃ m:Nat,1+c/2%6=(m:Int)/\1<=m/\m<=6:=⟨(1+c/2%6).toNat,by omega,by omega,by omega⟩
 unfold gP eP
 dsimp? [aW (i:=c) (j:=2) (by decide) (by decide),aZ (i:=c/2) (j:=6) (by decide),em,aZ (i:=c) (j:=2) (by decide),aW (i:=c) (j:=12) (by decide) (by decide)]
 rcases two (c:=c) with h | h
 ·simp only [h,show ¬ (0:Int)=1 by decide,decide_false]
  obtain ⟨_,es,xs,rfl,xl,xb⟩:=rR (c/12) m (by omega)
  dsimp? [fJ,es,aW (i:=c) (j:=12) (by decide) (by decide)]
  refine fq.loop (xs:=xs) (inj:=PV.int) (fun zs env=>∃ (ss:List Int) (y:Option SV),env=[some (.sh (.int c)),some (.sh (.int (m:Int))),some (.ow (ss.map PV.int)),y]/\ss.length+zs.length=m/\(∀ s∈ss,2<=s/\s<=360)) ⟨[],none,rfl,by simpa using xl,fun _ h=>nomatch h⟩ ?_ ?_
  ·rintro a r env ⟨ss,y,rfl,hl,hs⟩
   have hl':(ss.map PV.int).length<1000:=by simp at hl ⊢;omega
   have fin:∀ v:Int,2<=v/\v<=360->(ss++[v]).length+r.length=m/\∀ s∈ss++[v],2<=s/\s<=360:=fun v hv=>⟨by simp at hl ⊢;omega,fun s h'=>by
    rcases List.mem_append.mp h' with q | q
    ·exact hs s q
    ·rw [List.mem_singleton.mp q];exact hv⟩
   dsimp? [cn,aW (i:=c) (j:=12) (by decide) (by decide),aZ (i:=c/12) (j:=2) (by decide)]
   rcases two (c:=c/12) with h2 | h2
   ·obtain ⟨v,hv,ev⟩:=pick [2,3,4,6,8,9,12,16,24,27,32,36,64,72,81,128,243,256,360] a 19 rfl (by decide)
    simp only [h2,decide_true]
    dsimp? [aZ (i:=a) (j:=19) (by decide),iF,ownAt]
    rw [show ((19:Nat):Int)=19 from rfl] at ev
    simp only [List.map_cons,List.map_nil] at ev
    rw [ev]
    dsimp? [iw hl',gZ]
    obtain ⟨f1,f2⟩:=fin v (by simp at hv;omega)
    exact ⟨_,rfl,_,_,rfl,f1,f2⟩
   ·simp only [h2,show ¬ (1:Int)=0 by decide,decide_false]
    dsimp? [aZ (i:=a) (j:=30) (by decide),bo (i:=12) (j:=1+a%30) (k:=31) (l:=31) (by decide) (by omega),iF,ownAt,iw hl',gZ]
    obtain ⟨f1,f2⟩:=fin (12*(1+a%30)) (by omega)
    exact ⟨_,rfl,_,_,rfl,f1,f2⟩
  ·rintro env ⟨ss,y,rfl,hl,hs⟩
   refine ⟨_,rfl,ss,rfl,?_,?_,hs⟩
   ·simp at hl;omega
   ·simp at hl;omega
 ·simp only [h,decide_true]
  obtain ⟨xs,ex,xl,xb⟩:=sC (c/12) (.lst (List.replicate m (.int 359))) (List.replicate m 359) (by rw [List.map_replicate];rfl) (fun b hb=>by rw [CU hb];decide) (by simp;omega)
  rw [List.length_replicate] at xl
  dsimp? [aW (i:=c) (j:=12) (by decide) (by decide),BU (.int 359) m (by omega),ex,List.length_map,ar (aM (show xs.length<=1000 by omega)),g9 (f:=aj fN (fun _=>M.ok (.int 2)) (aa 0)) (inj:=PV.int) (h:=fun x=>.int (2+x)) (rest:=[]) (x0:=none) xs fun a _=>by dsimp? []]
  refine ⟨_,rfl,xs.map (2+·),by rw [lI,List.map_map];rfl,by simp;omega,by simp;omega,fun x hx=>?_⟩
  obtain ⟨y,hy,rfl⟩:=List.mem_map.mp hx
  obtain ⟨i,hi,rfl⟩:=List.mem_iff_getElem.mp hy
  have:=xb (xs[i],359) (List.mem_iff_getElem.mpr ⟨i,by simp;omega,by simp⟩)
  simp at this;omega
theorem yu {sizes:List Int} (S:Sz sizes) (c:Int):fq (gR [.int c,lI sizes]) fun p=>∃ xs:List Int,p=lI xs/\xs.length=sizes.length/\Bd 200 xs:=by
 have l6:=S.h6
 obtain ⟨_,es,xs,rfl,xl,xb⟩:=rR c sizes.length (by omega)
 unfold gR ff
 dsimp? [fJ,es,i5 (p:=lI xs) (q:=lI sizes) xs sizes rfl rfl]
 refine fq.loop (xs:=xs.zip sizes) (inj:=fun z=>.tup [.int z.1,.int z.2]) (fun zs env=>∃ (ss:List Int) (y1 y2 y3:Option SV),env=[some (.sh (.int c)),some (.sh (lI sizes)),some (.ow (ss.map PV.int)),y1,y2,y3]/\ss.length+zs.length=sizes.length/\Bd 200 ss/\∀ z∈zs,z.1∈xs/\z.2∈sizes) ⟨[],none,none,none,rfl,by simp;omega,(fun _ h=>nomatch h),fun z hz=>DS hz⟩ ?_ ?_
 ·rintro ⟨a,s⟩ r env ⟨ss,y1,y2,y3,rfl,hl,hs,hm⟩
  obtain ⟨ma,ms⟩:=hm (a,s) List.mem_cons_self
  have ha:=xb a ma
  have hz:=S.hx s ms
  have hm':∀ z∈r,z.1∈xs/\z.2∈sizes:=fun z hz=>hm z (List.mem_cons_of_mem _ hz)
  have hl':(ss.map PV.int).length<1000:=by simp at hl ⊢;omega
  have fin:∀ v:Int,v.natAbs<2^200->(ss++[v]).length+r.length=sizes.length/\Bd 200 (ss++[v]):=fun v hv=>⟨by simp at hl ⊢;omega,fun s h'=>by
   rcases List.mem_append.mp h' with q | q
   ·exact hs s q
   ·rw [List.mem_singleton.mp q];exact hv⟩
  dsimp? [bY,aZ (i:=a) (j:=4) (by decide)]
  by_cases h0:a%4=0
  ·obtain ⟨_,eg,v,rfl,hv⟩:=BZ (a/4) (by omega) (by omega)
   simp only [h0,decide_true]
   dsimp? [aW (i:=a) (j:=4) (by decide) (by decide),eg,iF,ownAt,iw hl',gZ]
   obtain ⟨f1,f2⟩:=fin v (by omega)
   exact ⟨_,rfl,_,_,_,_,rfl,f1,f2,hm'⟩
  ·simp only [h0,decide_false]
   dsimp? [aZ (i:=a) (j:=4) (by decide)]
   by_cases h1:a%4=1
   ·simp only [h1,decide_true]
    dsimp? [iF,ownAt,iw hl',gZ]
    obtain ⟨f1,f2⟩:=fin 0 (by decide)
    exact ⟨_,rfl,_,_,_,_,rfl,f1,f2,hm'⟩
   ·simp only [h1,decide_false]
    obtain ⟨v,hv,ev⟩:=pick [1,1,2,3,4,6,12] (a/4) 7 rfl (by decide)
    rw [show ((7:Nat):Int)=7 from rfl] at ev
    simp only [List.map_cons,List.map_nil] at ev
    have hv':1<=v/\v<=12:=by simp at hv;omega
    dsimp? [aW (i:=a) (j:=4) (by decide) (by decide),aZ (i:=a/4) (j:=7) (by decide)]
    rw [ev]
    have b1:0<=a/28%s:=Int.emod_nonneg _ (by omega)
    have b2:a/28%s<s:=Int.emod_lt_of_pos _ (by omega)
    have b3:0<=a/28%s*v%s:=Int.emod_nonneg _ (by omega)
    have b4:a/28%s*v%s<s:=Int.emod_lt_of_pos _ (by omega)
    dsimp? [aW (i:=a) (j:=28) (by decide) (by decide),aZ (i:=a/28) (j:=s) (by omega),bo (i:=a/28%s) (j:=v) (k:=31) (l:=31) (by omega) (by omega),aZ (i:=a/28%s*v) (j:=s) (by omega),iF,ownAt,iw hl',gZ]
    obtain ⟨f1,f2⟩:=fin (a/28%s*v%s) (by omega)
    exact ⟨_,rfl,_,_,_,_,rfl,f1,f2,hm'⟩
 ·rintro env ⟨ss,y1,y2,y3,rfl,hl,hs,_⟩
  exact ⟨_,rfl,ss,rfl,by simpa using hl,hs⟩
theorem xu (ns:List Int) {sizes:List Int} (S:Sz sizes):fq (gf [.jR (ns.map PV.int),lI sizes]) fun p=>∃ raw:List (List Int),p=.lst (raw.map lI)/\raw.length<=8/\∀ l∈raw,l.length=sizes.length/\Bd 200 l:=by
 have l6:=S.h6
 obtain ⟨c,ec⟩:=sV ns 1
 rw [show ((1:Nat):Int)=1 from rfl] at ec
 have h1:0<=c%9:=by omega
 have h2:c%9<9:=by omega
 unfold gf dO
 dsimp? [fJ,ec,aZ (i:=c) (j:=9) (by decide),i0 h1 (by omega)]
 refine fq.loop (xs:=List.range (c%9).toNat) (inj:=fun (i:Nat)=>.int (i:Int)) (fun zs env=>∃ (raw:List (List Int)) (y1 y2:Option SV),env=[some (.sh (.jR (ns.map PV.int))),some (.sh (lI sizes)),some (.ow (raw.map lI)),y1,y2]/\raw.length+zs.length=(c%9).toNat/\(∀ z∈zs,z<9)/\∀ l∈raw,l.length=sizes.length/\Bd 200 l) ⟨[],none,none,rfl,by simp,(fun z hz=>by rw [List.mem_range] at hz;omega),fun _ h=>nomatch h⟩ ?_ ?_
 ·rintro k r env ⟨raw,y1,y2,rfl,hl,hz,hr⟩
  have hk:=hz k List.mem_cons_self
  have hz':∀ z∈r,z<9:=fun z h=>hz z (List.mem_cons_of_mem _ h)
  obtain ⟨d,ed⟩:=sV ns (2+k)
  rw [show ((2+k:Nat):Int)=2+(k:Int) by omega] at ed
  have hl':(raw.map lI).length<1000:=by simp at hl ⊢;omega
  have fin:∀ v:List Int,v.length=sizes.length->Bd 200 v->(raw++[v]).length+r.length=(c%9).toNat/\∀ l∈raw++[v],l.length=sizes.length/\Bd 200 l:=fun v h1 h2=>⟨by simp at hl ⊢;omega,fun s h'=>by
   rcases List.mem_append.mp h' with q | q
   ·exact hr s q
   ·rw [List.mem_singleton.mp q];exact ⟨h1,h2⟩⟩
  dsimp? [cn,ed,ec,aW (i:=c) (j:=9) (by decide) (by decide),aZ (i:=c/9) (j:=2) (by decide)]
  rcases two (c:=c/9) with h2 | h2
  ·simp only [h2,show ¬ (0:Int)=1 by decide,decide_false]
   obtain ⟨_,el,v,rfl,hv1,hv2⟩:=yu S (d+7919*(k:Int))
   dsimp? [bo (i:=7919) (j:=(k:Int)) (k:=31) (l:=31) (by decide) (by omega),el,iF,ownAt,iw hl']
   obtain ⟨f1,f2⟩:=fin v hv1 hv2
   exact ⟨_,rfl,raw++[v],_,_,by rw [List.map_append];rfl,f1,hz',f2⟩
  ·simp only [h2,decide_true]
   obtain ⟨v,ev,hv1,hv2⟩:=sC d (lI sizes) sizes rfl (fun b hb=>by have:=S.hx b hb;omega) (by omega)
   dsimp? [ev,iF,ownAt,iw hl']
   obtain ⟨f1,f2⟩:=fin v hv1 fun x hx=>by
    obtain ⟨i,hi,rfl⟩:=List.mem_iff_getElem.mp hx
    have h3:i<sizes.length:=by omega
    have:=hv2 (v[i],sizes[i]) (List.mem_iff_getElem.mpr ⟨i,by simp;omega,by simp⟩)
    have h4:=S.hx _ (List.getElem_mem h3)
    simp at this
    omega
   exact ⟨_,rfl,raw++[v],_,_,by rw [List.map_append];rfl,f1,hz',f2⟩
 ·rintro env ⟨raw,y1,y2,rfl,hl,_,hr⟩
  exact ⟨_,rfl,raw,rfl,by simp at hl;omega,hr⟩
theorem NJ (m:Nat) (hm:m<=8):Js [.int (m:Int)]=M.ok ((List.range m).map fun (i:Nat)=>.int ((m:Int)-1-(i:Int))):=by
 rw [Js,Jq,ar (by omega),Int.toNat_natCast]
theorem uH {xs:List Int} {i:Nat} (h:i<xs.length):aG (lI xs) (.int (i:Int))=M.ok (.int (vf xs i)) :=
 bN (p:=lI xs) rfl (by rw [List.getElem?_map,List.getElem?_eq_getElem h,aV h];rfl)
theorem getD_at {α β:Type} (f:α->β) {xs:List α} {a:α} {b:β} {l:Nat} (h:l<xs.length):(xs.map f).getD l b=f (xs.getD l a):=by
 rw [List.getD_eq_getElem?_getD,List.getD_eq_getElem?_getD,List.getElem?_map,List.getElem?_eq_getElem h];rfl
theorem getD_mem {α:Type} {xs:List α} {a:α} {l:Nat} (h:l<xs.length):xs.getD l a∈xs:=by
 rw [List.getD_eq_getElem?_getD,List.getElem?_eq_getElem h];exact List.getElem_mem h
theorem Cb {sizes:List Int} {raw:List (List Int)} (S:Sz sizes) (hr:∀ l∈raw,l.length=sizes.length/\Bd 200 l):IH sizes.length raw.length sizes (raw.map fun l=>vo l sizes)/\∀ l,l<raw.length->∀ i,i<sizes.length->AA (raw.map fun l=>vo l sizes) l i=vf (raw.getD l []) i%vf sizes i:=by
 have e:∀ l,l<raw.length->∀ i,i<sizes.length->AA (raw.map fun l=>vo l sizes) l i=vf (raw.getD l []) i%vf sizes i:=fun l hl i hi=>by
  unfold AA
  rw [getD_at (a:=[]) _ hl,As,j5 (by rw [(hr _ (getD_mem hl)).1];exact hi) hi]
 refine ⟨⟨by simp,fun l hl=>?_,fun l hl i hi=>?_⟩,e⟩
 ·rw [getD_at (a:=[]) _ hl,As,j4,(hr _ (getD_mem hl)).1];omega
 ·rw [e l hl i hi]
  have:=S.hx _ (List.getElem_mem hi)
  rw [← aV hi] at this
  exact ⟨Int.emod_nonneg _ (by omega),Int.emod_lt_of_pos _ (by omega)⟩
theorem l5 {sizes:List Int} (S:Sz sizes):∀ i,i<sizes.length->0<vf sizes i/\vf sizes i<=360:=fun i hi=>by
 have:=S.hx _ (List.getElem_mem hi)
 rw [← aV hi] at this
 omega
theorem xp {sizes xs:List Int} (h:xs.length=sizes.length) (h0:∀ i,i<sizes.length->0<=vf xs i/\vf xs i<vf sizes i):G2 sizes xs:=⟨h,fun z hz=>by
 obtain ⟨i,hi,rfl⟩:=List.mem_iff_getElem.mp hz
 rw [List.length_zip] at hi
 have:=h0 i (by omega)
 rw [aV (by omega),aV (by omega)] at this
 simpa using this⟩
theorem C4 {m:Nat} {P B C:Nat->Int} {s:Int} (h:∀ l,l<m->s∣B l-C l):s∣(dC m fun l=>P l*B l)-dC m fun l=>P l*C l:=by
 induction m with
 | zero=>exact ⟨0,by simp [dC]⟩
 | succ m ih =>
  obtain ⟨a,ha⟩:=ih fun l hl=>h l (by omega)
  obtain ⟨b,hb⟩:=h m (by omega)
  exact ⟨a+P m*b,by rw [dC,dC];grind⟩
def ye (ns:List Int) (a b:Nat):List Int:=(ns.drop (HT.dh ns.length 0 (some (a:Int)))).take (HT.dh ns.length ns.length (some (b:Int))-HT.dh ns.length 0 (some (a:Int)))
theorem Ka (ns:List Int) (a b:Nat):Ik (.jR (ns.map PV.int)) (some (a:Int)) (some (b:Int))=M.ok (.lst ((ye ns a b).map PV.int)):=by
 show M.ok (PV.lst (lC (ns.map PV.int) _ _))=_
 rw [lC,ye,List.map_take,List.map_drop,List.length_map]
theorem HV (ns:List Int) (a b:Nat):(ye ns a b).length<=b-a:=by
 unfold ye
 rw [List.length_take,List.length_drop,HT.oE,HT.oE]
 omega
theorem HU (xs:List Int) (h:xs.length<=100):fN (.lst (xs.map PV.int)) (.lst [.int 0])=M.ok (lI (xs++[0])):=by
 rw [fN,ar (aM (by simp;omega)),lI,List.map_append];rfl
theorem Gk {xs:List Int} {z:Int×Nat} (h:z∈xs.zipIdx):z.2<xs.length:=by
 obtain ⟨i,hi,rfl⟩:=List.mem_iff_getElem.mp h
 simp at hi ⊢;exact hi
theorem xn (xs:List Int):(xs.map fun _=>PV.int 0)=(List.replicate xs.length 0).map PV.int:=by
 rw [List.map_replicate];simp [List.map_const']
theorem GI (xs:List (List Int)):(xs.map fun _=>PV.int 0)=(List.replicate xs.length 0).map PV.int:=by
 rw [List.map_replicate];simp [List.map_const']
theorem GZ (Ls:List (List Int)) (i:Nat):AA Ls Ls.length i=0:=by
 unfold AA
 rw [List.getD_eq_getElem?_getD,List.getElem?_eq_none (Nat.le_refl _)]
 exact p9 (Nat.zero_le _)
section
variable {sizes:List Int} {Ls:List (List Int)} {R:List Row} {idle:List (List Int)} {A:Nat->dc} {k:Nat}
theorem rD {m:Str} {sem:List PV->M PV} {x:M (List PV)} (h:(uM (gI sizes Ls) R idle).lookup m=none):yg av m sem (jL sizes Ls R idle) x=x.bind fun ps=>sem (jL sizes Ls R idle::ps):=rT h
theorem OF:Ap (fun c=>c==av) "vault" (jL sizes Ls R idle)=M.ok (gI sizes Ls):=p6 (beq_self_eq_true _) Jg
theorem Nq:Ap (fun c=>c==av) "made_rows" (jL sizes Ls R idle)=M.ok (.lst (R.map mk)):=p6 (beq_self_eq_true _) IV
theorem Xf:Ap (fun c=>c==av) "idle_rows" (jL sizes Ls R idle)=M.ok (.lst (idle.map tI)):=p6 (beq_self_eq_true _) Iy
theorem Kg:yg aE "sizes" a_ (gI sizes Ls) (M.ok [])=M.ok (tI sizes):=(rT (fl:=pj sizes Ls) rfl).trans (vE sizes Ls)
def lst (sizes:List Int) (Ls:List (List Int)) (R:List Row) (xs:List Int):List Int:=(aS sizes R (xs,List.replicate Ls.length 0) 0 sizes.length).1
theorem sG (h:St sizes.length Ls.length sizes A k R) {xs:List Int} (hl:xs.length=sizes.length) (h0:∀ i,i<sizes.length->0<=vf xs i/\vf xs i<vf sizes i) :
  (lst sizes Ls R xs).length=sizes.length/\(∀ i,i<sizes.length->0<=vf (lst sizes Ls R xs) i/\vf (lst sizes Ls R xs) i<aO (vf sizes) (DD R) i)/\(∀ i,i<sizes.length->0<=vf (lst sizes Ls R xs) i/\vf (lst sizes Ls R xs) i<vf sizes i)/\G sizes.length (vf sizes) (DD R) sizes.length 0 (fun i=>vf xs i-vf (lst sizes Ls R xs) i):=by
 have r2:(List.replicate Ls.length (0:Int)).length=Ls.length:=by simp
 have ll:=iA h (f:=0) (r:=(xs,List.replicate Ls.length 0)) hl r2 sizes.length (by omega)
 have dn:=mJ h (f:=0) (r:=(xs,List.replicate Ls.length 0)) hl r2 h0
 exact ⟨ll.1,fun i hi=>dn.low h.gd sizes.length (Nat.zero_le _) (Nat.le_refl _) i (Nat.zero_le _) hi,fun i hi=>dn.kept h.gd sizes.length (Nat.zero_le _) (Nat.le_refl _) i hi,dn.away h.gd sizes.length (Nat.zero_le _) (Nat.le_refl _) sizes.length (by omega)⟩
theorem Lz (h:St sizes.length Ls.length sizes A k R) {xs ys:List Int} (hl:xs.length=sizes.length) (h0:∀ i,i<sizes.length->0<=vf xs i/\vf xs i<vf sizes i) (hl':ys.length=sizes.length) (h0':∀ i,i<sizes.length->0<=vf ys i/\vf ys i<vf sizes i)
  (hg:G sizes.length (vf sizes) (DD R) sizes.length 0 (fun i=>vf xs i-vf ys i)):lst sizes Ls R xs=lst sizes Ls R ys:=by
 obtain ⟨a1,a2,a3,a4⟩:=sG h hl h0
 obtain ⟨b1,b2,b3,b4⟩:=sG h hl' h0'
 refine nu (a1.trans b1.symm) fun i hi=>?_
 have g:=G.add (by omega) (h.gd.sub (by omega) hg a4) b4
 have:=G.diff h.gd sizes.length 0 (fun i=>vf (lst sizes Ls R xs) i-vf (lst sizes Ls R ys) i) (by omega) (fun i hi=>by have:=a3 i hi;have:=b3 i hi;omega) (fun i _ hi=>by have:=a2 i hi;have:=b2 i hi;omega) (G.ext (by omega) (fun i _=>by omega) g) i (by omega)
 omega
theorem Jm (S:Sz sizes) (hm:Ls.length<=8) (h:St sizes.length Ls.length sizes A k R) (hk:k<=9) {xs:List Int} (hl:xs.length=sizes.length) (h0:∀ i,i<sizes.length->0<=vf xs i/\vf xs i<vf sizes i) :
  dP [jL sizes Ls R idle,tI xs]=M.ok (tI (lst sizes Ls R xs)):=by
 have dk:=ub (idle:=idle) S hm h hk (xp hl h0) h0
 unfold dP dX
 dsimp? [cN,rD (m := "brought_down") rfl,dk,lH]
 rfl
def fD (sizes:List Int) (R:List Row):List Int:=(List.range sizes.length).map fun d=>aO (vf sizes) (DD R) d
theorem dj:(fD sizes R).length=sizes.length:=by simp [fD]
theorem kz {i:Nat} (h:i<sizes.length):vf (fD sizes R) i=aO (vf sizes) (DD R) i:=by
 rw [aV (by rw [dj];exact h)];simp [fD]
def uV (idle:List (List Int)):List Int:=idle.zipIdx.map fun z=>vf z.1 z.2
theorem gE:(uV idle).length=idle.length:=by simp [uV]
theorem mS {i:Nat} (h:i<idle.length):vf (uV idle) i=II idle i i:=by
 rw [aV (by rw [gE];exact h)]
 simp only [uV,List.getElem_map,List.getElem_zipIdx,Nat.zero_add]
 unfold II
 rw [List.getD_eq_getElem?_getD,List.getElem?_eq_getElem h];rfl
theorem AH (S:Sz sizes) (h:St sizes.length Ls.length sizes A k R):fS [jL sizes Ls R idle]=M.ok (tI (fD sizes R)):=by
 have l6:=S.h6
 have key:bX (cn 0) none (ai du (ae (aa 2) (ae (fv (fun c=>c==av) "made_rows" (aa 1)) (ae (aa 0) aq)))) ((List.range sizes.length).map fun (i:Nat)=>.int (i:Int)) [none,some (.sh (jL sizes Ls R idle)),some (.sh (tI sizes))]=M.ok ((List.range sizes.length).map fun d=>.int (aO (vf sizes) (DD R) d)):=by
  refine g9 (inj:=fun (i:Nat)=>PV.int (i:Int)) (List.range sizes.length) fun i hi=>?_
  dsimp? [jn,Nq,uq h.wf h.hs (List.mem_range.mp hi)]
 unfold fS dY
 dsimp? [jn,OF,cN,Kg,i0 (n:=(sizes.length:Int)) (by omega) (by omega),Int.toNat_natCast,List.length_map,List.length_range,ar (aM (show sizes.length<=1000 by omega)),key]
 rw [tI,fD,List.map_map];rfl
theorem yG (hm:Ls.length<=8) (I:yp sizes.length Ls.length (vf sizes) A Ls.length idle):f6 [jL sizes Ls R idle]=M.ok (tI (uV idle)):=by
 have il:=I.len
 have key:bX (bY 0 1) none (aj aG (aa 1) (aa 0)) (idle.zipIdx.map fun z=>.tup [.int (z.2:Int),tI z.1]) [none,none]=M.ok (idle.zipIdx.map fun z=>.int (vf z.1 z.2)):=by
  refine pz (p:=fun z:List Int×Nat=>PV.int (z.2:Int)) (q:=fun z:List Int×Nat=>tI z.1) idle.zipIdx fun z hz=>?_
  obtain ⟨i,hi,rfl⟩:=List.mem_iff_getElem.mp hz
  rw [List.length_zipIdx] at hi
  have:=I.l2 i (by omega)
  rw [List.getD_eq_getElem?_getD,List.getElem?_eq_getElem hi] at this
  simp only [List.getElem_zipIdx,Nat.zero_add]
  dsimp? [gz (xs:=idle[i]) (i:=i) (by rw [show idle[i].length=Ls.length from this];omega)]
 unfold f6 dU
 dsimp? [jn,Xf,lS,List.length_map,List.length_zipIdx,ar (aM (show idle.length<=1000 by omega)),key]
 rw [tI,uV,List.map_map];rfl
theorem Kk (xs:List PV):aQ [gI sizes Ls,.lst xs]=M.ok (.bl false):=by
 unfold aQ ck
 dsimp? [cN,Kg]
theorem J9:aQ [gI sizes Ls,.cI]=M.ok (.bl false):=by
 unfold aQ ck
 dsimp? [cN,Kg]
theorem NY (S:Sz sizes) {xs:List Int} (hz:xs.length<=1000) (h:z0 sizes xs=false):aQ [gI sizes Ls,tI xs]=M.ok (.bl false):=by
 rw [qt S xs hz,h]
theorem J8 (S:Sz sizes) (n:Nat) (hn:n<=1000) (b:Bool) (h:1<=n):aQ [gI sizes Ls,.tup (List.replicate n (.bl b))]=M.ok (.bl false):=by
 have r:=um (p:=.tup (List.replicate n (.bl b))) (inj:=PV.bl) (h:=fun _=>false) (List.replicate n b) sizes.length (.inl (by rw [List.map_replicate])) (fun a _=>B6 a) (by rw [List.length_replicate];exact aM hn)
 have e:((List.replicate n b).all fun _=>false)=false:=by
  cases n with
  | zero=>omega
  | succ n=>rfl
 rw [e,Bool.and_false] at r
 unfold aQ ck
 dsimp? [cN,Kg,r]
theorem Cd {p:PV} (h:aQ [gI sizes Ls,p]=M.ok (.bl false)):cA [gI sizes Ls,p]=some (.error (dm,none)):=by
 unfold cA cz
 dsimp? [h,kZ,ar (aM (show 1<=1000 by decide))]
theorem vc {p:PV} (h:aQ [gI sizes Ls,p]=M.ok (.bl false)):aP [jL sizes Ls R idle,p]=some (.error (dm,none)):=by
 unfold aP aU
 dsimp? [jn,OF,Cd h]
theorem HX {p:PV} (h:aQ [gI sizes Ls,p]=M.ok (.bl false)):dP [jL sizes Ls R idle,p]=some (.error (dm,none)):=by
 unfold dP dX
 dsimp? [cN,rD (m := "brought_down") rfl,vc (R:=R) (idle:=idle) h]
theorem HY {p:PV} (h:aQ [gI sizes Ls,p]=M.ok (.bl false)):aY [jL sizes Ls R idle,p]=some (.error (dm,none)):=by
 unfold aY bw
 dsimp? [cN,rD (m := "brought_down") rfl,vc (R:=R) (idle:=idle) h]
theorem Jz (S:Sz sizes) (hm:Ls.length<=8) (h:St sizes.length Ls.length sizes A k R) (hk:k<=9) {xs:List Int} (hl:xs.length=sizes.length) (h0:∀ i,i<sizes.length->0<=vf xs i/\vf xs i<vf sizes i) (hn:lst sizes Ls R xs≠List.replicate sizes.length 0) :
  aY [jL sizes Ls R idle,tI xs]=M.ok .cI:=by
 have dk:=ub (idle:=idle) S hm h hk (xp hl h0) h0
 unfold aY bw
 dsimp? [cN,rD (m := "brought_down") rfl,dk,lH,jn,OF,nq (Ls:=Ls) S.h6,t4]
 simp only [show ¬ (aS sizes R (xs,List.replicate Ls.length 0) 0 sizes.length).1=List.replicate sizes.length 0 from hn,decide_false]
 dsimp? []
end
section
variable {sizes:List Int} {raw Ls:List (List Int)} {R:List Row} {k:Nat}
theorem ue (S:Sz sizes):∀ s∈sizes,0<s:=fun s hs=>by have:=S.hx s hs;omega
theorem oM (n:Nat):(List.replicate n (0:Int)).length=n:=by simp
theorem vx (S:Sz sizes):∀ i,i<sizes.length->0<=vf (List.replicate sizes.length 0) i/\vf (List.replicate sizes.length 0) i<vf sizes i:=fun i hi=>by rw [jm];have:=l5 S i hi;omega
theorem xv (S:Sz sizes) (hr:∀ l∈raw,l.length=sizes.length/\Bd 200 l) (hm:raw.length=Ls.length) (eA:∀ l,l<raw.length->∀ i,i<sizes.length->AA Ls l i=vf (raw.getD l []) i%vf sizes i) {P:List Int} (hP:P.length=Ls.length) (hb:Bd 200 P) {q p2:PV} (hq:bC q=some ((List.replicate sizes.length 0).map PV.int)) (hp:bC p2=some (P.map PV.int)) :
  ∃ F:List Int,cu [lI sizes,.lst (raw.map lI),q,p2]=M.ok (tI F)/\F.length=sizes.length/\(∀ i,i<sizes.length->0<=vf F i/\vf F i<vf sizes i)/\Led sizes.length (vf sizes) Ls.length (AA Ls) (vf F) (vf P):=by
 obtain ⟨F,eF,Fl,F0,Fd⟩:=zF (q:=q) (p2:=p2) (ue S) S.h6 (oM _) hq (vx S) hr hb (by rw [hP,hm]) hp
 refine ⟨F,eF,Fl,F0,fun i hi=>?_⟩
 obtain ⟨x,hx⟩:=Fd i hi
 obtain ⟨y,hy⟩:=C4 (m:=Ls.length) (P:=vf P) (B:=fun l=>vf (raw.getD l []) i) (C:=fun l=>AA Ls l i) (s:=vf sizes i) fun l hl=>by
  rw [eA l (by omega) i hi];exact r0 _ _
 rw [jm,hm] at hx
 exact ⟨x+y,by grind⟩
theorem DB {F F':List Int} (h:F.length=sizes.length) (h':F'.length=sizes.length) (k:∀ i,i<sizes.length->0<=vf F i/\vf F i<vf sizes i) (k':∀ i,i<sizes.length->0<=vf F' i/\vf F' i<vf sizes i) (d:∀ i,i<sizes.length->vf sizes i∣vf F i-vf F' i):F=F' :=
 nu (h.trans h'.symm) fun i hi=>by
  have:=k i (by omega);have:=k' i (by omega)
  have:=m9 (d i (by omega)) (by omega) (by omega)
  omega
theorem pv (S:Sz sizes) (hr:∀ l∈raw,l.length=sizes.length/\Bd 200 l) (hm:raw.length=Ls.length) (eA:∀ l,l<raw.length->∀ i,i<sizes.length->AA Ls l i=vf (raw.getD l []) i%vf sizes i) {P F:List Int} (hP:P.length=Ls.length) (hb:Bd 200 P) (hF:F.length=sizes.length) (F0:∀ i,i<sizes.length->0<=vf F i/\vf F i<vf sizes i)
  (led:Led sizes.length (vf sizes) Ls.length (AA Ls) (vf F) (vf P)) {q p2:PV} (hq:bC q=some ((List.replicate sizes.length 0).map PV.int)) (hp:bC p2=some (P.map PV.int)):cu [lI sizes,.lst (raw.map lI),q,p2]=M.ok (tI F):=by
 obtain ⟨F',e,l',k',led'⟩:=xv S hr hm eA hP hb hq hp
 rw [e,DB l' hF k' F0 fun i hi=>?_]
 obtain ⟨x,hx⟩:=led i hi
 obtain ⟨y,hy⟩:=led' i hi
 exact ⟨y-x,by grind⟩
theorem Ud {P v:dc} (h:St sizes.length Ls.length sizes (AA Ls) k R) (hk:Ls.length<=k) (led:Led sizes.length (vf sizes) Ls.length (AA Ls) v P):G sizes.length (vf sizes) (DD R) sizes.length 0 v:=by
 have g:=G.sum (A:=AA Ls) (P:=P) h.gd Ls.length fun l hl=>h.cl l (by omega)
 exact h.gd.oS (by omega) (fun i hi=>led i hi) g
theorem Uo {v:dc} (h:St sizes.length Ls.length sizes (AA Ls) k R) (g:G sizes.length (vf sizes) (DD R) sizes.length 0 v):G sizes.length (vf sizes) (DD R) sizes.length 0 (fun i=>-v i) :=
 G.ext (by omega) (fun i _=>by omega) (h.gd.sub (by omega) (G.zero (by omega)) g)
theorem JS {idle:List (List Int)} {A:Nat->dc} (I:yp sizes.length Ls.length (vf sizes) A Ls.length idle) {T:List Int} (hT:T.length=Ls.length) (nf:∀ l,l<Ls.length->0<=vf T l/\vf T l<II idle l l):Bd 200 T:=fun x hx=>by
 obtain ⟨i,hi,rfl⟩:=List.mem_iff_getElem.mp hx
 have h2:=nf i (by omega)
 rw [aV hi] at h2
 have h3:=I.le i (by omega)
 omega
theorem pk (S:Sz sizes) {F:List Int} (h:F.length=sizes.length) (k:∀ i,i<sizes.length->0<=vf F i/\vf F i<vf sizes i):Bd 200 F:=fun x hx=>by
 obtain ⟨i,hi,rfl⟩:=List.mem_iff_getElem.mp hx
 have h2:=k i (by omega)
 rw [aV hi] at h2
 have:=l5 S i (by omega)
 omega
theorem kY (S:Sz sizes) {xs ys:List Int} {t:Int} (h1:xs.length=sizes.length) (h2:ys.length=sizes.length):(jQ sizes xs ys t).length=sizes.length/\(∀ i,i<sizes.length->0<=vf (jQ sizes xs ys t) i/\vf (jQ sizes xs ys t) i<vf sizes i)/\∀ i,i<sizes.length->vf sizes i∣vf (jQ sizes xs ys t) i-(vf xs i+t*vf ys i) :=
 ⟨pP h1 h2,fun i hi=>by
  rw [p4 h1 h2 hi]
  have:=l5 S i hi
  exact ⟨Int.emod_nonneg _ (by omega),Int.emod_lt_of_pos _ (by omega)⟩,fun i hi=>by rw [p4 h1 h2 hi];exact dW _ _⟩
structure BJ (ns:List Int) (sizes:List Int) (raw Ls:List (List Int)) (R:List Row) (idle:List (List Int)):Prop where
 S:Sz sizes
 hr:∀ l∈raw,l.length=sizes.length/\Bd 200 l
 eL:Ls=raw.map fun l=>vo l sizes
 hm:raw.length=Ls.length
 m8:Ls.length<=8
 eA:∀ l,l<raw.length->∀ i,i<sizes.length->AA Ls l i=vf (raw.getD l []) i%vf sizes i
 LL:IH sizes.length Ls.length sizes Ls
 st:St sizes.length Ls.length sizes (AA Ls) (Ls.length+1) R
 I:yp sizes.length Ls.length (vf sizes) (AA Ls) Ls.length idle
 pr:aT Ls.length (fun j=>II idle j j)*aT sizes.length (aO (vf sizes) (DD R))=aT sizes.length (vf sizes)
 ord:∀ j,j<Ls.length->∀ P:dc,Zf (j+1) Ls.length P->Led sizes.length (vf sizes) Ls.length (AA Ls) (fun _=>0) P->II idle j j∣P j
 low:∀ d,d<sizes.length->∀ e,d<e->e<sizes.length->DD R d e<aO (vf sizes) (DD R) e
 nul:∀ d,d<sizes.length->DD R d d=0->∀ i,i<sizes.length->DD R d i=0
 Ue:i7 aE eX [.cI] [lI sizes,.lst (raw.map lI)]=M.ok (gI sizes Ls)
 QY:i7 av iK [] [gI sizes Ls]=M.ok (jL sizes Ls R idle)
theorem BJ.get (ns:List Int) {sizes:List Int} (S:Sz sizes) {raw:List (List Int)} (r8:raw.length<=8) (hr:∀ l∈raw,l.length=sizes.length/\Bd 200 l):∃ Ls R idle,BJ ns sizes raw Ls R idle:=by
 have l6:=S.h6
 have sp:=l5 S
 obtain ⟨LL,eA⟩:=Cb S hr
 have Ue:=CN sizes raw S r8 fun l h=>(hr l h).1
 have hm:raw.length=(raw.map fun l=>vo l sizes).length:=by simp
 generalize hLs:(raw.map fun l=>vo l sizes)=Ls at *
 rw [hm] at LL r8
 have K:=AJ.all (c:=cf) rfl sp LL Aq l6 Ls.length (Nat.le_refl _)
 have QY:=Ax S.h1 l6 r8 sp LL
 generalize RK cf sizes Ls sizes.length Ls.length Ls.length=rk at *
 have h:=K.st
 have hl:∀ d,d<sizes.length->(aS sizes rk.1 (row rk.1 d) (d+1) (sizes.length-(d+1))).1.length=sizes.length:=fun d hd=>(iA h (h.wf.nW hd) (h.wf.at2 hd) _ (by omega)).1
 have lg:=wq (D':=DD (ny sizes rk.1 sizes.length)) h.gd (fun d e=>vf (aS sizes rk.1 (row rk.1 d) (d+1) (e-(d+1))).1) (fun d hd=>mJ h (h.wf.nW hd) (h.wf.at2 hd) fun i hi=>h.gd.jS d hd i hi) (fun d hd i hi=>by
  show vf (aS sizes rk.1 (row rk.1 d) (d+1) (d+1-(d+1))).1 i=_
  rw [Nat.sub_self];rfl) (fun d hd i hi=>by unfold DD;rw [lT hd])
 refine ⟨Ls,ny sizes rk.1 sizes.length,rk.2,S,hr,hLs.symm,hm,r8,eA,LL,Ge K.st l6 (GZ Ls),K.sJ,?_,K.ord,?_,?_,Ue,QY⟩
 ·rw [fM (f:=aO (vf sizes) (DD (ny sizes rk.1 sizes.length))) (g:=aO (vf sizes) (DD rk.1)) lg.2.1]
  exact K.pr
 ·intro d hd e h1 h2
  rw [lg.2.1 e h2]
  exact lg.2.2.1 d hd e h1 h2
 ·exact lg.2.2.2.1
end
theorem pX (xs:List Int) (h1:1<=xs.length) (h6:xs.length<=6) (hx:∀ x∈xs,2<=x/\x<=360):dB [tI xs]=M.ok .cI:=by
 unfold dB dF
 have a1:¬ (6:Int)<xs.length:=by omega
 have a2:¬ (xs.length:Int)=0:=by omega
 dsimp? [a1,a2,decide_false,xA]
 refine dI xs.zipIdx (fun zs env=>(∃ b c,env=[some (.sh (tI xs)),b,c])/\∀ z∈zs,2<=z.1/\z.1<=360) ⟨⟨_,_,rfl⟩,fun z hz=>hx z.1 (List.fst_mem_of_mem_zipIdx hz)⟩ ?_ ?_
 ·rintro ⟨a,i⟩ r env ⟨⟨b,c,rfl⟩,hz⟩
  have ha:=hz (a,i) List.mem_cons_self
  refine ⟨_,[some (.sh (tI xs)),some (.sh (.int i)),some (.sh (.int a))],rfl,?_,⟨_,_,rfl⟩,fun z hz'=>hz z (List.mem_cons_of_mem _ hz')⟩
  dsimp? [within_int,ha,and_self,decide_true]
 ·rintro env' ⟨⟨b,c,rfl⟩,_⟩;rfl
theorem gT (sizes:List Int) (h:Sz sizes):cS [tI sizes]=M.ok (.int (R sizes)):=by
 unfold cS cU
 dsimp? []
 refine dI sizes (fun r env=>∃ acc x,env=[some (.sh (tI sizes)),some (.sh (.int (acc:Nat))),x]/\Acc sizes r acc) ⟨1,_,rfl,.start h⟩ ?_ ?_
 ·rintro a r env ⟨acc,x,rfl,A⟩
  obtain ⟨A2,e1,e2,e3⟩:=A.turn
  have l1:=A.lt
  have ha:=A.jS a List.mem_cons_self
  obtain ⟨s,t,ec,_,_,_⟩:=mB (acc:Int) a (by omega) (by omega)
  have g1:Int.gcd acc a<=acc:=Nat.le_of_dvd A.pos (Int.ofNat_dvd.mp (Int.gcd_dvd_left ..))
  have d0:0<=(acc:Int)/(Int.gcd acc a:Nat):=Int.ediv_nonneg (by omega) (by omega)
  refine ⟨_,[some (.sh (tI sizes)),some (.sh (.int (Nat.lcm acc a.toNat:Nat))),some (.sh (.int a))],rfl,?_,_,_,rfl,A2⟩
  dsimp? [ec,vd,aW (i:=(acc:Int)) (show (0:Int)<(Int.gcd acc a:Nat) by omega) (show ((Int.gcd acc a:Nat):Int)<2^64 by omega),bo (k:=64) (l:=64) (show ((acc:Int)/(Int.gcd acc a:Nat)).natAbs<2^64 by omega) (show a.natAbs<2^64 by omega),e1]
 ·rintro env' ⟨acc,x,rfl,A⟩
  dsimp? []
  have:=A.val
  rw [R,← this];rfl
theorem CC (sizes:List Int) (levers:List (List Int)) (h:Sz sizes) (h8:levers.length<=8) (hl:∀ l∈levers,l.length=sizes.length):i7 aE eX [.cI] [tI sizes,.lst (levers.map lI)]=M.ok (gI sizes (levers.map fun l=>vo l sizes)):=by
 have key:∀ a,eX a ([tI sizes,.lst (levers.map lI)]++[.cI])=M.ok (pj sizes (levers.map fun l=>vo l sizes)):=by
  intro a
  have e1:bX (cn 0) none (ai jy (ae (aa 0) (ae (aa 1) aq))) (levers.map lI) [none,some (.sh (tI sizes))]=M.ok (levers.map fun l=>tI (vo l sizes)):=by
   refine g9 levers fun l hm=>?_
   have hs:=hl l hm
   have:=qe (lI l) (tI sizes) l sizes rfl rfl (fun s hs=>by have:=h.hx s hs;omega) (by rw [hs];have:=h.h6;omega)
   dsimp? [this]
  unfold eX gQ
  simp only [rE]
  rw [ar (show ([tI sizes,PV.lst (levers.map lI)]++[PV.cI]).length+1=4 from rfl)]
  simp only [wQ,xo]
  dsimp? [pX sizes h.h1 h.h6 h.hx,j9 sizes.length levers h8 hl (by have:=h.h6;omega),jC,List.length_map,ar (aM (show levers.length<=1000 by omega)),e1,eG _ (show (levers.map lI).length<=8 by rw [List.length_map];exact h8),gT sizes h]
  rw [eS _ _ _ _ _ _ (by simp)]
  dsimp? [jC,List.length_map,ar (aM (show levers.length<=1000 by omega)),e1,eG _ (show (levers.map lI).length<=8 by rw [List.length_map];exact h8),gT sizes h]
  rw [eS _ _ _ _ _ _ (Nat.lt_of_le_of_lt (eB (Nat.zero_le 0)) (by decide))]
  dsimp? [jC,List.length_map,ar (aM (show levers.length<=1000 by omega)),e1,eG _ (show (levers.map lI).length<=8 by rw [List.length_map];exact h8),gT sizes h]
  rw [eS _ _ _ _ _ _ (Nat.lt_of_le_of_lt (eB (eB (Nat.zero_le 0))) (by decide))]
  dsimp? [jC,List.length_map,ar (aM (show levers.length<=1000 by omega)),e1,eG _ (show (levers.map lI).length<=8 by rw [List.length_map];exact h8),gT sizes h]
  rw [eS _ _ _ _ _ _ (Nat.lt_of_le_of_lt (eB (eB (eB (Nat.zero_le 0)))) (by decide))]
  dsimp? []
  show cy _ _=_
  rw [ar ⟨rfl,rfl⟩]
  rw [pj,List.map_map,List.length_map]
  rfl
 unfold i7
 rw [wM key];rfl
section
variable {ns:List Int} {sizes:List Int} {raw Ls:List (List Int)} {R:List Row} {idle:List (List Int)}
def uQ (R:List Row):PV:=.lst (R.map fun r=>tI r.1)
theorem D_ (h:R.length<=1000):e6 [jL sizes Ls R idle]=M.ok (uQ R):=by
 have key:bX (cn 0) none (aj aG (aa 0) (fun _=>M.ok (.int 0))) (R.map mk) [none]=M.ok (R.map fun r=>tI r.1):=g9 (inj:=mk) R fun r _=>by dsimp? [lH]
 unfold e6 fg
 dsimp? [jn,Nq,List.length_map,ar (aM h),key]
 rfl
theorem Be (h:R.length<=1000):wR av "rows" dH (jL sizes Ls R idle)=M.ok (R.map fun r=>tI r.1):=by
 have key:bX (cn 0) none (aj aG (aa 0) (fun _=>M.ok (.int 0))) (R.map mk) [none]=M.ok (R.map fun r=>tI r.1):=g9 (inj:=mk) R fun r _=>by dsimp? [lH]
 rw [jL,xy rfl]
 unfold dH
 rw [show jo 1 [.obj av (uM (gI sizes Ls) R idle)]=[some (.sh (jL sizes Ls R idle))] from rfl]
 dsimp? [jn,Nq,List.length_map,ar (aM h),key]
theorem wX {d:Nat} (h:d<R.length):aG (uQ R) (.int (d:Int))=M.ok (tI (row R d).1) :=
 bN (p:=uQ R) rfl (by rw [List.getElem?_map,List.getElem?_eq_getElem h,iT h];rfl)
theorem FU:uP (uQ R)=M.ok (.int R.length):=by rw [uQ,vX,List.length_map]
theorem Hy {b:String->Bool} {ob oe:Addr->Option Bool}:zR b ob oe (uQ R)=M.ok (.bl (b "list")):=Eq.trans rfl rfl
theorem C_:bC (uQ R)=some (R.map fun r=>tI r.1):=Eq.trans rfl rfl
theorem Kn {xs:List Int} {i:Nat} (h:i<xs.length):aG (lI xs) (.int (i:Int))=M.ok (.int (vf xs i)):=uH h
def ou (sizes:List Int) (R:List Row) (xs:List Int):Nat->List Int
 | 0=>xs
 | d+1=>if aO (vf sizes) (DD R) d<vf sizes d then jQ sizes (ou sizes R xs d) (row R d).1 (0-vf (ou sizes R xs d) d/aO (vf sizes) (DD R) d) else ou sizes R xs d
theorem i_ (Q:BJ ns sizes raw Ls R idle) {xs:List Int} (hl:xs.length=sizes.length) (h0:∀ i,i<sizes.length->0<=vf xs i/\vf xs i<vf sizes i):∀ d,d<=sizes.length->(ou sizes R xs d).length=sizes.length/\∀ i,i<sizes.length->0<=vf (ou sizes R xs d) i/\vf (ou sizes R xs d) i<vf sizes i
 | 0,_=>⟨hl,h0⟩
 | d+1,hd=>by
  obtain ⟨a,b⟩:=i_ Q hl h0 d (by omega)
  rw [ou]
  split
  ·obtain ⟨c1,c2,_⟩:=kY Q.S (t:=0-vf (ou sizes R xs d) d/aO (vf sizes) (DD R) d) a (Q.st.wf.nW (show d<sizes.length by omega))
   exact ⟨c1,c2⟩
  ·exact ⟨a,b⟩
theorem FG (Q:BJ ns sizes raw Ls R idle) {xs:List Int} (hl:xs.length=sizes.length) (h0:∀ i,i<sizes.length->0<=vf xs i/\vf xs i<vf sizes i):Dn sizes.length (vf sizes) (DD R) 0 (fun d=>vf (ou sizes R xs d)) where
 w0:=h0
 ws:=fun d _ hd i hi=>by
  obtain ⟨a,b⟩:=i_ Q hl h0 d (by omega)
  show vf (ou sizes R xs (d+1)) i=_
  rw [ou]
  split
  ·rw [p4 a (Q.st.wf.nW hd) hi]
   show _=(1*_+_*vf (row R d).1 i)%_
   rw [show (0-vf (ou sizes R xs d) d/aO (vf sizes) (DD R) d)=-(vf (ou sizes R xs d) d/aO (vf sizes) (DD R) d) by omega,Int.one_mul]
  ·rename_i hn
   have p:=Q.st.gd.pos hd
   have z:DD R d d=0:=by
    have:=Q.st.gd.jS d hd d hd
    unfold aO at hn
    split at hn
    ·assumption
    ·omega
   rw [Q.nul d hd z i hi,Int.mul_zero,Int.add_zero,Int.one_mul]
   exact (Int.emod_eq_of_lt (b i hi).1 (b i hi).2).symm
theorem vG (Q:BJ ns sizes raw Ls R idle) {xs:List Int} (hl:xs.length=sizes.length) (h0:∀ i,i<sizes.length->0<=vf xs i/\vf xs i<vf sizes i) (g:G sizes.length (vf sizes) (DD R) sizes.length 0 (vf xs)):ou sizes R xs sizes.length=List.replicate sizes.length 0:=by
 have z:=(FG Q hl h0).run Q.st.gd sizes.length 0 (Nat.le_refl _) (by omega) g
 exact nu ((i_ Q hl h0 _ (Nat.le_refl _)).1.trans (oM _).symm) fun i hi=>by
  rw [jm];exact z i (by rw [(i_ Q hl h0 _ (Nat.le_refl _)).1] at hi;exact hi)
theorem pD (Q:BJ ns sizes raw Ls R idle) {xs:List Int} (hl:xs.length=sizes.length) (h0:∀ i,i<sizes.length->0<=vf xs i/\vf xs i<vf sizes i):bG [lI sizes,tI (fD sizes R),uQ R,tI xs]=M.ok (tI (ou sizes R xs sizes.length)):=by
 have l6:=Q.S.h6
 have rl:=Q.st.wf.len
 refine fq.eq ?_
 unfold bG bh
 dsimp? [xA]
 rw [show PV.tup (xs.map PV.int)=tI xs from rfl]
 refine fq.loop (xs:=(fD sizes R).zipIdx) (inj:=fun z=>.tup [.int (z.2:Int),.int z.1]) (fun zs env=>∃ (d:Nat) (y1 y2:Option SV),env=[some (.sh (lI sizes)),some (.sh (tI (fD sizes R))),some (.sh (uQ R)),some (.sh (tI xs)),some (.sh (tI (ou sizes R xs d))),y1,y2]/\d<=sizes.length/\zs=(fD sizes R).zipIdx.drop d) ⟨0,_,_,rfl,by omega,rfl⟩ ?_ ?_
 ·rintro ⟨a,k⟩ r env ⟨d,y1,y2,rfl,hd,hz⟩
  obtain ⟨c1,c2,c3⟩:=drop_cons hz.symm
  rw [List.length_zipIdx,dj] at c1
  rw [List.getElem?_eq_getElem (by rw [List.length_zipIdx,dj];exact c1)] at c2
  have c2:=Option.some.inj c2
  rw [List.getElem_zipIdx] at c2
  injection c2 with ea ek
  have ek:k=d:=by omega
  subst ek
  have ea:a=aO (vf sizes) (DD R) k:=by rw [← ea,← aV (by rw [dj];exact c1),kz c1]
  subst ea
  obtain ⟨w1,w2⟩:=i_ Q hl h0 k (by omega)
  have p:=Q.st.gd.pos c1
  have sm:=l5 Q.S k c1
  dsimp? [bY,uH c1]
  by_cases h:aO (vf sizes) (DD R) k<vf sizes k
  ·have b1:=w2 k c1
   have q0:0<=vf (ou sizes R xs k) k/aO (vf sizes) (DD R) k:=Int.ediv_nonneg b1.1 (by omega)
   have q1:vf (ou sizes R xs k) k/aO (vf sizes) (DD R) k<=vf (ou sizes R xs k) k:=Int.ediv_le_self _ b1.1
   simp only [h,decide_true]
   dsimp? [gz (xs:=ou sizes R xs k) (i:=k) (by omega),wX (R:=R) (d:=k) (by omega),aW (i:=vf (ou sizes R xs k) k) (j:=aO (vf sizes) (DD R) k) (by omega) (by omega),oQ (sizes:=sizes) (xs:=ou sizes R xs k) (ys:=(row R k).1) (t:=0-vf (ou sizes R xs k) k/aO (vf sizes) (DD R) k) (q:=tI (row R k).1) (ue Q.S) l6 w1 rfl (pk Q.S (Q.st.wf.nW c1) fun i hi=>Q.st.gd.jS k c1 i hi) (by omega)]
   exact ⟨_,rfl,k+1,_,_,by rw [ou,if_pos h],by omega,c3.symm⟩
  ·simp only [h,decide_false]
   dsimp? []
   exact ⟨_,rfl,k+1,_,_,by rw [ou,if_neg h],by omega,c3.symm⟩
 ·rintro env ⟨d,y1,y2,rfl,hd,hz⟩
  have:d=sizes.length:=by
   have:=congrArg List.length hz
   rw [List.length_drop,List.length_zipIdx,dj] at this
   simp at this;omega
  subst this
  exact ⟨_,rfl,rfl⟩
theorem yN (bt:Int->Int->Bool) (n:Nat) (h:1<=n):yb bt [tI (List.replicate n 0)]=M.ok (.int 0):=by
 obtain ⟨m,rfl⟩:∃ m,n=m+1:=⟨n-1,by omega⟩
 have key:∀ m,h_ bt (List.replicate m 0) 0=0:=fun m=>by
  induction m with
  | zero=>rfl
  | succ m ih =>
   rw [List.replicate_succ,h_]
   split
   ·exact ih
   ·exact ih
 show v_ bt _=_
 unfold v_
 rw [yd,Option.bind_some,mP,List.replicate_succ]
 show M.ok (PV.int (h_ bt (List.replicate m 0) 0))=_
 rw [key]
theorem l_ (h:1<=sizes.length):bu [tI (List.replicate sizes.length 0)]=M.ok (.bl true):=by
 unfold bu bq
 dsimp? [yN _ sizes.length h,decide_true]
theorem row_kept (Q:BJ ns sizes raw Ls R idle) {d:Nat} (hd:d<sizes.length):∀ i,i<sizes.length->0<=vf (row R d).1 i/\vf (row R d).1 i<vf sizes i:=fun i hi=>Q.st.gd.jS d hd i hi
theorem J0 (xs:List Int) (k:Nat):Ik (tI xs) none (some ((k:Int)+1))=M.ok (tI (xs.take (k+1))):=by
 show M.ok (PV.tup (lC (xs.map PV.int) none (some ((k:Int)+1))))=_
 rw [show ((k:Int)+1)=((k+1:Nat):Int) by omega,lC,HT.vb,HT.oE,List.drop_zero,Nat.sub_zero,tI,List.length_map,List.map_take,← List.take_take,List.take_of_length_le (l:=xs.map PV.int) (by simp)]
theorem C5 (xs:List Int) (k:Nat):Ik (tI xs) (some ((k:Int)+1)) none=M.ok (tI (xs.drop (k+1))):=by
 show M.ok (PV.tup (lC (xs.map PV.int) (some ((k:Int)+1)) none))=_
 rw [show ((k:Int)+1)=((k+1:Nat):Int) by omega,lC,HT.vb,HT.oE,tI,List.length_map,List.map_drop]
 rcases Nat.le_total (k+1) xs.length with h | h
 ·rw [Nat.min_eq_left h,List.take_of_length_le (by rw [List.length_drop,List.length_map];omega)]
 ·rw [Nat.min_eq_right h,List.drop_of_length_le (by rw [List.length_map];omega),List.drop_of_length_le (by rw [List.length_map];omega)];simp
theorem Dq (i j:Nat) (env:af) (p q:PV):JN i j env [p,q]=M.ok (.nx ((env.set i (some (.sh p))).set j (some (.sh q)))):=rfl
theorem Bf (n:Nat) (h:n<=100) (x:Int):fN (.tup (List.replicate n (.int 0))) (.tup [.int x])=M.ok (tI (List.replicate n 0++[x])):=by
 rw [fN,ar (aM (by simp;omega)),tI,List.map_append,List.map_replicate];rfl
theorem xQ {xs:List Int} {k i:Nat}:vf (xs.drop k) i=vf xs (k+i):=by
 unfold vf;rw [List.getD_eq_getElem?_getD,List.getElem?_drop,← List.getD_eq_getElem?_getD]
theorem Km {x s:Int} (h:0<=x/\x<s):∀ (f g:af->M PV) (env:af),f env=M.ok (.int x)->g env=M.ok (.int s)->hZ zS wu (fun _=>M.ok (.int 0)) f g env=M.ok (.bl true):=by
 intro f g env e1 e2
 dsimp? [e1,e2,h.1,h.2,decide_true]
theorem Gv {T sp:List Int} {m:Nat} (h1:T.length=m) (h2:sp.length=m) (h:∀ l,l<m->0<=vf T l/\vf T l<vf sp l):∀ z∈T.zip sp,0<=z.1/\z.1<z.2:=fun z hz=>by
 obtain ⟨i,hi,rfl⟩:=List.mem_iff_getElem.mp hz
 rw [List.length_zip] at hi
 have:=h i (by omega)
 rw [aV (by omega),aV (by omega)] at this
 simpa using this
theorem t5 (Q:BJ ns sizes raw Ls R idle) {d:Nat} (hd:d<sizes.length):dD [lI sizes,tI (fD sizes R),uQ R,.int (d:Int)]=M.ok (.bl true):=by
 have l6:=Q.S.h6
 have rl:=Q.st.wf.len
 have r1:=Q.st.wf.nW hd
 have p:=Q.st.gd.pos hd
 have sm:=l5 Q.S d hd
 have dv:=Q.st.gd.dv d hd
 have dv0:vf sizes d%aO (vf sizes) (DD R) d=0:=Int.emod_eq_zero_of_dvd dv
 have n1:¬ aO (vf sizes) (DD R) d<1:=by omega
 have k:=row_kept Q hd
 refine fq.eq ?_
 unfold dD cD
 dsimp? [GK,gz (xs:=fD sizes R) (i:=d) (by rw [dj];exact hd),kz hd,wX (R:=R) (d:=d) (by omega),Dq,n1,decide_false,uH hd,aZ (i:=vf sizes d) (j:=aO (vf sizes) (DD R) d) (by omega),dv0,decide_true,r1]
 by_cases h:aO (vf sizes) (DD R) d=vf sizes d
 ·simp only [h,decide_true]
  have z:DD R d d=0:=by
   have:=Q.st.gd.jS d hd d hd
   unfold aO at h
   split at h
   ·assumption
   ·omega
  have e:(row R d).1=List.replicate sizes.length 0:=nu (r1.trans (oM _).symm) fun i hi=>by
   rw [jm];exact Q.nul d hd z i (by omega)
  dsimp? [e,l_ (sizes:=sizes) Q.S.h1]
  exact ⟨_,rfl,rfl⟩
 ·simp only [h,decide_false]
  have nz:aO (vf sizes) (DD R) d=DD R d d:=by
   unfold aO at h ⊢
   split
   ·rename_i z;rw [if_pos z] at h;exact absurd rfl h
   ·rfl
  have et:(row R d).1.take (d+1)=List.replicate d 0++[aO (vf sizes) (DD R) d]:=by
   refine nu (by simp;omega) fun i hi=>?_
   have hi':i<d+1:=by simp at hi;omega
   have e1:vf ((row R d).1.take (d+1)) i=vf (row R d).1 i:=by
    rw [aV hi,aV (by omega)];simp
   rw [e1]
   rcases Nat.lt_or_ge i d with q | q
   ·rw [show vf (row R d).1 i=0 from Q.st.gd.wW d hd i q,aV (by simp;omega),List.getElem_append_left (by simpa using q)];simp
   ·have:i=d:=by omega
    subst this
    have hl2:i<(List.replicate i (0:Int)++[aO (vf sizes) (DD R) i]).length:=by simp
    have hl3:(List.replicate i (0:Int)).length<=i:=by simp
    rw [aV hl2,List.getElem_append_right hl3]
    simp [nz,DD]
  have zl:((row R d).1.drop (d+1)).length=sizes.length-(d+1):=by simp;omega
  have zs:((fD sizes R).drop (d+1)).length=sizes.length-(d+1):=by simp [dj]
  dsimp? [pf,AF,qd,IZ,J0,mul_one (.int 0) d (by omega),Bf d (by omega),et,t4,decide_true,C5,i5 (p:=tI ((row R d).1.drop (d+1))) (q:=tI ((fD sizes R).drop (d+1))) ((row R d).1.drop (d+1)) ((fD sizes R).drop (d+1)) rfl rfl]
  refine fq.loop (xs:=((row R d).1.drop (d+1)).zip ((fD sizes R).drop (d+1))) (inj:=fun z=>.tup [.int z.1,.int z.2]) (fun zs env=>∃ (y1 y2:Option SV),env=[some (.sh (lI sizes)),some (.sh (tI (fD sizes R))),some (.sh (uQ R)),some (.sh (.int (d:Int))),some (.sh (.int (aO (vf sizes) (DD R) d))),some (.sh (tI (row R d).1)),y1,y2,none]/\∀ z∈zs,0<=z.1/\z.1<z.2) ⟨_,_,rfl,Gv zl zs fun l hl=>by
   rw [xQ,xQ,kz (by omega)]
   exact ⟨(k (d+1+l) (by omega)).1,Q.low d hd (d+1+l) (by omega) (by omega)⟩⟩ ?_ ?_
  ·rintro ⟨a,b⟩ r env ⟨y1,y2,rfl,hz⟩
   have h:=hz (a,b) List.mem_cons_self
   dsimp? [bY,h.1,h.2,decide_true]
   exact ⟨_,rfl,_,_,rfl,fun z h=>hz z (List.mem_cons_of_mem _ h)⟩
  ·rintro env ⟨y1,y2,rfl,_⟩
   have q0:0<=vf sizes d/aO (vf sizes) (DD R) d:=Int.ediv_nonneg (by omega) (by omega)
   have q1:vf sizes d/aO (vf sizes) (DD R) d<=vf sizes d:=Int.ediv_le_self _ (by omega)
   obtain ⟨al,a0,ad⟩:=kY Q.S (t:=vf sizes d/aO (vf sizes) (DD R) d-1) r1 r1
   have g:G sizes.length (vf sizes) (DD R) sizes.length 0 (vf (jQ sizes (row R d).1 (row R d).1 (vf sizes d/aO (vf sizes) (DD R) d-1))):=Q.st.gd.oS (by omega) (fun i hi=>by
    obtain ⟨x,hx⟩:=ad i hi
    exact ⟨x,by rw [← hx,show DD R d i=vf (row R d).1 i from rfl];grind⟩) (G.mul (vf sizes d/aO (vf sizes) (DD R) d) (by omega) (Q.st.gd.row hd (by omega) (Nat.zero_le _)))
   dsimp? [uH hd,aW (i:=vf sizes d) (j:=aO (vf sizes) (DD R) d) (by omega) (by omega),oQ (sizes:=sizes) (xs:=(row R d).1) (ys:=(row R d).1) (t:=vf sizes d/aO (vf sizes) (DD R) d-1) (q:=tI (row R d).1) (ue Q.S) l6 r1 rfl (pk Q.S r1 k) (by omega),pD Q al a0,vG Q al a0 g,l_ (sizes:=sizes) Q.S.h1]
   exact ⟨_,rfl,rfl⟩
theorem oG {f:Nat->Int}:∀ {c:Nat},(∀ l,l<c->(f l).natAbs<2^60)->(aT c f).natAbs<2^(60*c+1)
 | 0,_=>by show (1:Int).natAbs<2^(60*0+1);decide
 | c+1,h=>by
  have:=uG (oG (c:=c) fun l hl=>h l (by omega)) (h c (by omega))
  rw [aT]
  exact Nat.lt_of_lt_of_le this (Nat.pow_le_pow_right (by decide) (by omega))
theorem la {p:PV} {xs:List Int} (hp:bC p=some (xs.map PV.int)) (hb:∀ l,l<xs.length->(vf xs l).natAbs<2^60) (hl:xs.length<=8):cC [p]=M.ok (.int (aT xs.length (vf xs))):=by
 refine fq.eq ?_
 unfold cC dw
 dsimp? [hp]
 refine fq.loop (xs:=xs) (inj:=PV.int) (fun zs env=>∃ (c:Nat) (y:Option SV),env=[some (.sh p),some (.sh (.int (aT c (vf xs)))),y]/\c<=xs.length/\zs=xs.drop c) ⟨0,_,rfl,by omega,rfl⟩ ?_ ?_
 ·rintro a r env ⟨c,y,rfl,hc,hz⟩
  obtain ⟨c1,c2,c3⟩:=drop_cons hz.symm
  have ea:a=vf xs c:=by rw [aV c1];rw [List.getElem?_eq_getElem c1] at c2;exact (Option.some.inj c2).symm
  subst ea
  have b1:=oG (f:=vf xs) (c:=c) fun l hl=>hb l (by omega)
  have b2:=hb c c1
  dsimp? [cn,bo (i:=aT c (vf xs)) (j:=vf xs c) (k:=60*c+1) (l:=60) b1 b2 (by omega) (by omega)]
  exact ⟨_,rfl,c+1,_,rfl,by omega,c3.symm⟩
 ·rintro env ⟨c,y,rfl,hc,hz⟩
  have:c=xs.length:=by
   have:=congrArg List.length hz
   rw [List.length_drop] at this
   simp at this;omega
  subst this
  exact ⟨_,rfl,rfl⟩
end
section
variable {ns:List Int} {sizes:List Int} {raw Ls:List (List Int)} {R:List Row} {idle:List (List Int)}
theorem sU (Q:BJ ns sizes raw Ls R idle) {j:Nat} (hj:j<Ls.length):dA [lI sizes,.lst (raw.map lI),tI (uV idle),tI (idle.getD j []),.int (j:Int)]=M.ok (.bl true):=by
 have l6:=Q.S.h6
 have m8:=Q.m8
 have il:=Q.I.len
 have rl:=Q.I.l2 j hj
 have hm:=Q.hm
 refine fq.eq ?_
 unfold dA cF
 dsimp? [rl,List.length_map,hm,decide_true,gz (xs:=idle.getD j []) (i:=j) (by omega),gz (xs:=uV idle) (i:=j) (by rw [gE];omega),mS (idle:=idle) (i:=j) (by omega),show vf (idle.getD j []) j=II idle j j from rfl,xA]
 refine fq.loop (xs:=(idle.getD j []).zipIdx) (inj:=fun z=>.tup [.int (z.2:Int),.int z.1]) (fun zs env=>∃ (y1 y2:Option SV),env=[some (.sh (lI sizes)),some (.sh (.lst (raw.map lI))),some (.sh (tI (uV idle))),some (.sh (tI (idle.getD j []))),some (.sh (.int (j:Int))),y1,y2]/\∀ z∈zs,z.2<Ls.length/\z.1=II idle j z.2) ⟨_,_,rfl,fun z hz=>by
  obtain ⟨i,hi,rfl⟩:=List.mem_iff_getElem.mp hz
  rw [List.length_zipIdx] at hi
  simp only [List.getElem_zipIdx,Nat.zero_add]
  exact ⟨by omega,(aV hi).symm⟩⟩ ?_ ?_
 ·rintro ⟨a,k⟩ r env ⟨y1,y2,rfl,hz⟩
  obtain ⟨h1,h2⟩:=hz (a,k) List.mem_cons_self
  simp only at h1 h2
  have hz':∀ z∈r,z.2<Ls.length/\z.1=II idle j z.2:=fun z h=>hz z (List.mem_cons_of_mem _ h)
  dsimp? [bY]
  rcases Nat.lt_trichotomy j k with q | q | q
  ·have a0:a=0:=by rw [h2];exact Q.I.zero j hj k q h1
   have b1:(j:Int)<(k:Int):=by omega
   have b2:¬ (k:Int)<(j:Int):=by omega
   simp only [b1,b2,a0,decide_true,decide_false]
   dsimp? []
   exact ⟨_,rfl,_,_,rfl,hz'⟩
  ·have b1:¬ (j:Int)<(k:Int):=by omega
   have b2:¬ (k:Int)<(j:Int):=by omega
   simp only [b1,b2,decide_false]
   dsimp? []
   exact ⟨_,rfl,_,_,rfl,hz'⟩
  ·have b1:¬ (j:Int)<(k:Int):=by omega
   have b2:(k:Int)<(j:Int):=by omega
   have nf:=Q.I.nf j hj k q
   rw [← h2] at nf
   simp only [b1,b2,decide_true,decide_false]
   dsimp? [gz (xs:=uV idle) (i:=k) (by rw [gE];omega),mS (idle:=idle) (i:=k) (by omega),nf.1,nf.2,decide_true]
   exact ⟨_,rfl,_,_,rfl,hz'⟩
 ·rintro env ⟨y1,y2,rfl,_⟩
  have k0:∀ (x0:Option SV),bX (cn 0) none (fun _=>M.ok (.int 0)) (sizes.map PV.int) [x0]=M.ok ((List.replicate sizes.length 0).map PV.int):=fun x0=>by
   rw [g9 (h:=fun _=>.int 0) sizes fun a _=>rfl,xn]
  have led:Led sizes.length (vf sizes) Ls.length (AA Ls) (vf (List.replicate sizes.length 0)) (vf (idle.getD j [])):=fun i hi=>by
   rw [jm];exact Q.I.sJ j hj i hi
  dsimp? [List.length_map,ar (aM (show sizes.length<=1000 by omega)),k0,pv Q.S Q.hr hm Q.eA rl ((Q.I.bd hj (Nat.le_refl _)).mono (by omega)) (oM _) (vx Q.S) led (q:=.lst ((List.replicate sizes.length 0).map PV.int)) (p2:=tI (idle.getD j [])) rfl rfl,l_ (sizes:=sizes) Q.S.h1]
  exact ⟨_,rfl,rfl⟩
theorem rh (Q:BJ ns sizes raw Ls R idle):da [jL sizes Ls R idle,lI sizes,.lst (raw.map lI),tI (fD sizes R)]=M.ok (.bl true):=by
 have l6:=Q.S.h6
 have m8:=Q.m8
 have il:=Q.I.len
 have hm:=Q.hm
 have po:=yG (R:=R) m8 Q.I
 have p1:=la (p:=tI (uV idle)) (xs:=uV idle) rfl (fun l hl=>by
  rw [gE] at hl
  rw [mS hl]
  have:=Q.I.pos l (by omega);have:=Q.I.le l (by omega);omega) (by rw [gE];omega)
 have p2:=la (p:=tI (fD sizes R)) (xs:=fD sizes R) rfl (fun l hl=>by
  rw [dj] at hl
  rw [kz hl]
  have:=Q.st.gd.pos hl;have:=l5 Q.S l hl;omega) (by rw [dj];omega)
 have p3:=la (p:=lI sizes) (xs:=sizes) rfl (fun l hl=>by
  have:=l5 Q.S l hl;omega) (by omega)
 have b1:=oG (f:=vf (uV idle)) (c:=Ls.length) fun l hl=>by
  rw [mS (by omega)]
  have:=Q.I.pos l (by omega);have:=Q.I.le l (by omega);omega
 have b2:=oG (f:=vf (fD sizes R)) (c:=sizes.length) fun l hl=>by
  rw [kz hl]
  have:=Q.st.gd.pos hl;have:=l5 Q.S l hl;omega
 rw [gE,il] at p1
 rw [dj] at p2
 have pr:aT Ls.length (vf (uV idle))*aT sizes.length (vf (fD sizes R))=aT sizes.length (vf sizes):=by
  rw [← Q.pr,fM (f:=vf (uV idle)) (g:=fun j=>II idle j j) fun l hl=>mS (by omega),fM (f:=vf (fD sizes R)) (g:=aO (vf sizes) (DD R)) fun l hl=>kz hl]
 refine fq.eq ?_
 unfold da cq
 dsimp? [cN,rD (m := "spans") rfl,rD (m := "idle") rfl,po,Dz,gE,il,List.length_map,hm,decide_true]
 refine fq.loop (xs:=uV idle) (inj:=PV.int) (fun zs env=>∃ (y:Option SV),env=[some (.sh (jL sizes Ls R idle)),some (.sh (lI sizes)),some (.sh (.lst (raw.map lI))),some (.sh (tI (fD sizes R))),some (.sh (tI (uV idle))),some (.sh (.lst (idle.map tI))),y,none,none]/\∀ z∈zs,0<z) ⟨_,rfl,fun z hz=>by
  obtain ⟨i,hi,rfl⟩:=List.mem_iff_getElem.mp hz
  rw [← aV hi,mS (by rw [gE] at hi;exact hi)]
  exact Q.I.pos i (by rw [gE] at hi;omega)⟩ ?_ ?_
 ·rintro a r env ⟨y,rfl,hz⟩
  have h:=hz a List.mem_cons_self
  have n1:¬ a<1:=by omega
  dsimp? [cn,n1,decide_false]
  exact ⟨_,rfl,_,rfl,fun z h=>hz z (List.mem_cons_of_mem _ h)⟩
 ·rintro env ⟨y,rfl,_⟩
  dsimp? [List.length_map,il,hm,decide_true,p1,p2,p3,bo b1 b2 (by omega) (by omega),pr,lS]
  refine fq.loop (xs:=idle.zipIdx) (inj:=fun z=>.tup [.int (z.2:Int),tI z.1]) (fun zs env=>∃ (y1 y2:Option SV),env=[some (.sh (jL sizes Ls R idle)),some (.sh (lI sizes)),some (.sh (.lst (raw.map lI))),some (.sh (tI (fD sizes R))),some (.sh (tI (uV idle))),some (.sh (.lst (idle.map tI))),y,y1,y2]/\∀ z∈zs,z.2<Ls.length/\z.1=idle.getD z.2 []) ⟨_,_,rfl,fun z hz=>by
   obtain ⟨i,hi,rfl⟩:=List.mem_iff_getElem.mp hz
   rw [List.length_zipIdx] at hi
   simp only [List.getElem_zipIdx,Nat.zero_add]
   exact ⟨by omega,by rw [List.getD_eq_getElem?_getD,List.getElem?_eq_getElem hi];rfl⟩⟩ ?_ ?_
  ·rintro ⟨a,k⟩ r env ⟨y1,y2,rfl,hz⟩
   obtain ⟨h1,h2⟩:=hz (a,k) List.mem_cons_self
   simp only at h1 h2
   subst h2
   dsimp? [bY,sU Q h1]
   exact ⟨_,rfl,_,_,rfl,fun z h=>hz z (List.mem_cons_of_mem _ h)⟩
  ·rintro env ⟨y1,y2,rfl,_⟩
   exact ⟨_,rfl,rfl⟩
theorem yW {sizes xs ys:List Int} {t:Int} {q:PV} (hs:∀ s∈sizes,0<s) (hl:sizes.length<=6) (h1:xs.length=sizes.length) (hq:bC q=some (ys.map PV.int)) (hy:Bd 200 ys) (ht:t.natAbs<2^200):bf [lI sizes,lI xs,q,.int t]=M.ok (tI (jQ sizes xs ys t)):=by
 have k1:bX (qj 0 1 2) none (aj fG (aj fN (aa 0) (aj cW (aa 3) (aa 1))) (aa 2)) ((xs.zip (ys.zip sizes)).map fun z=>.tup [.int z.1,.int z.2.1,.int z.2.2]) [none,none,none,some (.sh (.int t))]=M.ok ((xs.zip (ys.zip sizes)).map fun z=>.int ((z.1+t*z.2.1)%z.2.2)):=by
  refine Bu (p:=fun z:Int×Int×Int=>PV.int z.1) (q:=fun z:Int×Int×Int=>PV.int z.2.1) (s:=fun z:Int×Int×Int=>PV.int z.2.2) (xs.zip (ys.zip sizes)) fun z hz=>?_
  obtain ⟨m1,m2⟩:=List.of_mem_zip (a:=z.1) (b:=z.2) hz
  obtain ⟨m3,m4⟩:=List.of_mem_zip (a:=z.2.1) (b:=z.2.2) m2
  dsimp? [bo (k:=200) (l:=200) ht (hy _ m3),aZ (i:=z.1+t*z.2.1) (hs _ m4)]
 have z1:(xs.zip (ys.zip sizes)).length<=sizeLine:=by rw [List.length_zip];exact aM (Nat.le_trans (Nat.min_le_left _ _) (by omega))
 unfold bf bJ
 dsimp? [vM (p:=lI xs) (q:=q) (r:=lI sizes) xs ys sizes rfl hq rfl,List.length_map,ar z1,k1]
 rw [tI,jQ,List.map_map];rfl
theorem Dj (xs:List Int):xC (tI xs) .cI=M.ok (.bl false):=rfl
theorem GY (h:R.length<=1000):lJ (uQ R) (uQ R)=M.ok (.bl true):=by
 have:=zx (R.map fun r=>r.1) (R.map fun r=>r.1)
 rw [List.map_map,decide_eq_true rfl] at this
 exact this
theorem HG (ns:List Int):sq [.jR (ns.map PV.int)]=M.ok (.bl true):=by
 obtain ⟨c0,ec⟩:=sV ns 0
 rw [show ((0:Nat):Int)=0 from rfl] at ec
 obtain ⟨_,es,sizes,rfl,S⟩:=yD c0
 obtain ⟨_,el,raw,rfl,r8,hr⟩:=xu ns S
 obtain ⟨Ls,R,idle,Q⟩:=BJ.get ns S r8 hr
 have mkT:=CC sizes raw S r8 fun l h=>(hr l h).1
 rw [← Q.eL] at mkT
 have l6:=S.h6
 have l1:=S.h1
 have hm:=Q.hm
 have m8:=Q.m8
 have il:=Q.I.len
 have rl:=Q.st.wf.len
 have so:=AH (idle:=idle) S Q.st
 have ro:=D_ (sizes:=sizes) (Ls:=Ls) (idle:=idle) (R:=R) (by omega)
 refine fq.eq ?_
 unfold sq BM
 dsimp? [ec,es,el,show PV.tup (sizes.map PV.int)=tI sizes from rfl,mkT,Q.QY,cN,rD (m := "steps") rfl,rD (m := "rows") rfl,so,ro,Hy,dj,FU,rl,decide_true,i0 (n:=(sizes.length:Int)) (by omega) (by omega),Int.toNat_natCast]
 refine fq.loop (xs:=List.range sizes.length) (inj:=fun (i:Nat)=>.int (i:Int)) (fun zs env=>∃ (y6 y7:Option SV),env=[some (.sh (.jR (ns.map PV.int))),some (.sh (lI sizes)),some (.sh (.lst (raw.map lI))),some (.sh (jL sizes Ls R idle)),some (.sh (tI (fD sizes R))),some (.sh (uQ R)),y6,y7,none,none,none]/\∀ z∈zs,z<sizes.length) ⟨_,_,rfl,fun z hz=>List.mem_range.mp hz⟩ ?_ ?_
 ·rintro d r env ⟨y6,y7,rfl,hz⟩
  have hd:=hz d List.mem_cons_self
  have r1:=Q.st.wf.nW hd
  have k:=row_kept Q hd
  have g:G sizes.length (vf sizes) (DD R) sizes.length 0 (vf (row R d).1):=Q.st.gd.row hd (by omega) (Nat.zero_le _)
  obtain ⟨et,Tl,ledT,Tn⟩:=Ao (k:=Ls.length+1) S m8 Q.st (by omega) Q.I (xp r1 k) k g
  have tl:=pv S hr hm Q.eA Tl (JS Q.I Tl Tn) r1 k ledT (q:=.tup (List.replicate sizes.length (.int 0))) (p2:=tI (told sizes Ls R idle (row R d).1)) (by rw [List.map_replicate];rfl) rfl
  dsimp? [cn,t5 Q hd,wX (R:=R) (d:=d) (by omega),cN,rD (m := "pulls_to") rfl,et,Dj,mul_one (.int 0) sizes.length (by omega),tl,t4,decide_true]
  exact ⟨_,rfl,_,_,rfl,fun z h=>hz z (List.mem_cons_of_mem _ h)⟩
 ·rintro env ⟨y6,y7,rfl,_⟩
  dsimp? []
  refine fq.loop (xs:=raw) (inj:=lI) (fun zs env=>∃ (y8 y9:Option SV),env=[some (.sh (.jR (ns.map PV.int))),some (.sh (lI sizes)),some (.sh (.lst (raw.map lI))),some (.sh (jL sizes Ls R idle)),some (.sh (tI (fD sizes R))),some (.sh (uQ R)),y6,y7,y8,y9,none]/\∃ c,zs=raw.drop c) ⟨_,_,rfl,0,rfl⟩ ?_ ?_
  ·rintro a r env ⟨y8,y9,rfl,c,hc⟩
   obtain ⟨c1,c2,c3⟩:=drop_cons hc.symm
   have ea:raw.getD c []=a:=by rw [List.getD_eq_getElem?_getD,c2];rfl
   obtain ⟨h1,h2⟩:=hr a (by rw [List.getElem?_eq_getElem c1] at c2;rw [← Option.some.inj c2];exact List.getElem_mem _)
   obtain ⟨al,a0,ad⟩:=kY S (t:=0) h1 h1
   have g:G sizes.length (vf sizes) (DD R) sizes.length 0 (vf (jQ sizes a a 0)):=Q.st.gd.oS (by omega) (fun i hi=>by
    obtain ⟨x,hx⟩:=ad i hi
    rw [Q.eA c c1 i hi,ea]
    obtain ⟨y,hy⟩:=dW (vf a i) (vf sizes i)
    exact ⟨x-y,by grind⟩) (Q.st.cl c (by omega))
   have ea':bf [lI sizes,lI a,lI a,.int 0]=M.ok (tI (jQ sizes a a 0)):=yW (ue S) l6 h1 rfl h2 (by decide)
   dsimp? [cn,ea',pD Q al a0,vG Q al a0 g,l_ (sizes:=sizes) l1]
   exact ⟨_,rfl,_,_,rfl,c+1,c3.symm⟩
  ·rintro env ⟨y8,y9,rfl,_⟩
   have lo:sH [uQ R]=M.ok (uQ R):=by
    dsimp? [C_];rfl
   dsimp? [rh Q,w5,zW,Be (sizes:=sizes) (Ls:=Ls) (idle:=idle) (R:=R) (by omega),cN,rD (m := "rows") rfl,ro]
   rw [show fu (Option.map PV.lst (bC (uQ R)))=M.ok (uQ R) from rfl]
   dsimp? [GY (R:=R) (by omega)]
   exact ⟨_,rfl,rfl⟩
end
end wz
theorem PySem.Challenge.cw_dialvault_k23_steps_walked_holds : PySem.Challenge.rw_dialvault_k23_steps_walked.Holds :=
  wz.hold HD.said fun ns _ _ => wz.HG ns
end