import PyProof.Rows.All
import Wide.All
import OpenK.AllK
import Wide.FinOn
import Lean
import PyProof.EqAt
import PyProof.EqKinds
import PyProof.TupleCall
import PySem.Challenge.RW_dialvault_k26_every_idle_way
set_option Elab.async false
set_option linter.all false
set_option maxRecDepth 100000
set_option maxHeartbeats 0
namespace L2
open PySem PySem.Spec PyProof.Rows
abbrev Key:=Sum Int Str
def Ds:Key->Value->Bool
 | .inl k,v=>Value.isInt k v
 | .inr x,v=>Value.isStrOf x v
def JB (w:World):Key->Int
 | .inl k=>hashInt k
 | .inr x=>hashStr w x
theorem cn:∀ {k:Key} {v:Value},Ds k v=true->(∃ i t,k=Sum.inl i/\v=Value.int i t)\/(∃ x t,k=Sum.inr x/\v=Value.str x t)
 | .inl i,v,h=>by
  obtain ⟨t,e⟩:=Value.isInt_shape (k:=i) (v:=v) h
  exact .inl ⟨i,t,rfl,e⟩
 | .inr x,v,h=>by
  obtain ⟨t,e⟩:=Value.isStrOf_shape (x:=x) (v:=v) h
  exact .inr ⟨x,t,rfl,e⟩
theorem FC (a b:Int):decide ((Sum.inl a:Key)=Sum.inl b)=(a==b):=by
 by_cases e:a=b
 ·subst e;simp
 ·have h:¬ (Sum.inl a:Key)=Sum.inl b:=fun q=>e (Sum.inl.inj q)
  rw [decide_eq_false h]
  exact (beq_eq_false_iff_ne.mpr e).symm
theorem FI (a b:Str):decide ((Sum.inr a:Key)=Sum.inr b)=decide (a=b):=by
 by_cases e:a=b
 ·subst e;simp
 ·have h:¬ (Sum.inr a:Key)=Sum.inr b:=fun q=>e (Sum.inr.inj q)
  rw [decide_eq_false h,decide_eq_false e]
theorem EC (a:Int) (b:Str):decide ((Sum.inl a:Key)=Sum.inr b)=false:=decide_eq_false (fun q=>nomatch q)
theorem Ep (a:Str) (b:Int):decide ((Sum.inr a:Key)=Sum.inl b)=false:=decide_eq_false (fun q=>nomatch q)
def xa (prog:Program) (w:World):PySem.KeyKind prog w Key where
 is:=Ds
 hash:=JB w
 inj:=fun v a b ha hb=>by
  rcases cn ha with ⟨i,t,rfl,rfl⟩ | ⟨x,t,rfl,rfl⟩
  ·rcases cn hb with ⟨j,u,rfl,e⟩ | ⟨y,u,rfl,e⟩
   ·injection e with e1 _;rw [e1]
   ·exact nomatch e
  ·rcases cn hb with ⟨j,u,rfl,e⟩ | ⟨y,u,rfl,e⟩
   ·exact nomatch e
   ·injection e with e1 _;rw [e1]
 byValue:=fun k v h=>by
  rcases cn h with ⟨i,t,rfl,rfl⟩ | ⟨x,t,rfl,rfl⟩ <;> rfl
 pyHash:=fun hv h=>by
  rcases cn hv with ⟨i,t,rfl,rfl⟩ | ⟨x,t,rfl,rfl⟩
  ·exact wpAny_pyHash_int h
  ·exact wpAny_pyHash_str h
 eqBool:=fun hu hv h=>by
  rcases cn hu with ⟨i,t,rfl,rfl⟩ | ⟨x,t,rfl,rfl⟩
  ·rcases cn hv with ⟨j,u,rfl,rfl⟩ | ⟨y,u,rfl,rfl⟩
   ·rw [FC] at h;exact wpAny_eqBool_int h
   ·rw [EC] at h;exact SeqAt.EqAt.int_str i t y u _ _ _ _ h
  ·rcases cn hv with ⟨j,u,rfl,rfl⟩ | ⟨y,u,rfl,rfl⟩
   ·rw [Ep] at h;exact SeqAt.EqAt.str_int x t j u _ _ _ _ h
   ·rw [FI] at h;exact wpAny_eqBool_str h
 «strs»:=fun k x t v h=>by
  rcases cn h with ⟨i,u,rfl,e⟩ | ⟨y,u,rfl,e⟩
  ·exact nomatch e
  ·injection e with e1 _
   subst e1
   cases v <;> rfl
end L2
namespace L2
open PySem PySem.Spec PyProof.Rows
inductive V where
 | c8 | bl (b:Bool) | int (i:Int) | str (x:Str) | byt (b:Array UInt8) | Dg (b:UInt64) | ref (a:Addr) | ty (n:String)
 deriving DecidableEq
def RelV:V->Value->Prop
 | .c8,u=>u=Value.none
 | .bl b,u=>u=Value.bool b
 | .int i,u=>∃ t,u=Value.int i t
 | .str x,u=>∃ t,u=Value.str x t
 | .byt b,u=>∃ t,u=Value.bytes b t
 | .Dg b,u=>∃ t,u=Value.float b t
 | .ref a,u=>u=Value.ref a
 | .ty n,u=>u=Value.type n
abbrev Vals:List V->List Value->Prop:=Paired RelV
theorem Vals.length {xs:List V} {us:List Value} (r:Vals xs us):xs.length=us.length:=Paired.length r
theorem Vals.get:∀ {xs:List V} {us:List Value} {i:Nat} {x:V},Vals xs us->xs[i]?=some x->∃ u,us[i]?=some u/\RelV x u
 | _,_,_,_,.nil,e=>by simp at e
 | _,_,0,_,.cons r _,e=>by simp at e;subst e;exact ⟨_,rfl,r⟩
 | _,_,i+1,x,.cons _ t,e=>by
  obtain ⟨u,h1,h2⟩:=Vals.get (i:=i) (x:=x) t (by simpa using e)
  exact ⟨u,by simpa using h1,h2⟩
theorem Vals.append:∀ {xs ys:List V} {us ws:List Value},Vals xs us->Vals ys ws->Vals (xs++ys) (us++ws)
 | _,_,_,_,.nil,s=>s
 | _,_,_,_,.cons r t,s=>.cons r (Vals.append t s)
theorem Vals.take:∀ {xs:List V} {us:List Value} (n:Nat),Vals xs us->Vals (xs.take n) (us.take n)
 | _,_,0,_=>.nil
 | _,_,_+1,.nil=>.nil
 | _,_,n+1,.cons r t=>.cons r (Vals.take n t)
theorem Vals.drop:∀ {xs:List V} {us:List Value} (n:Nat),Vals xs us->Vals (xs.drop n) (us.drop n)
 | _,_,0,r=>r
 | _,_,_+1,.nil=>.nil
 | _,_,n+1,.cons _ t=>Vals.drop n t
def my:Option V->Option Value->Prop
 | some v,some u=>RelV v u
 | none,none=>True
 | _,_=>False
def KV {κ:Type}:List (κ×V)->List (κ×Value)->Prop:=Paired fun (p:κ×V) (q:κ×Value)=>p.1=q.1/\RelV p.2 q.2
def kV:Key->V
 | .inl i=>.int i
 | .inr x=>.str x
inductive HO where
 | lst (xs:List V)
 | tup (xs:List V)
 | dK (kvs:List (Key×V)) | dT (kvs:List (List Key×V))
 | set (S:Int->Bool) (n:Nat)
 | ins (C dx:Addr) (fs:List (Str×V))
 | own (x:Addr)
 | xd (fs:List (Str×V))
 | met (f x:Addr)
 | kb (lo hi:Int)
 | pU (o:Obj) (u:HO)
 | DE (ps:Array Value)
 | ext (φ:Heap->Prop)
abbrev Hp:=Addr->Option HO
def upd (H:Hp) (a:Addr) (o:HO):Hp:=fun b=>if b=a then some o else H b
theorem aE {H:Hp} {a:Addr} {o:HO}:upd H a o a=some o:=by unfold upd;rw [if_pos rfl]
theorem aw {H:Hp} {a b:Addr} {o:HO} (h:b≠a):upd H a o b=H b:=by unfold upd;rw [if_neg h]
theorem r0 {H:Hp} {a:Addr} {o u:HO}:upd (upd H a o) a u=upd H a u:=by
 funext b;unfold upd;split <;> rfl
theorem a_ {H:Hp} {a b:Addr} {o:HO} (h:H a=some o) (h':H b=none):a≠b:=by
 intro e;subst e;rw [h] at h';cases h'
section
variable (P:Program) (w:World)
def bY (H:Hp) (h:Heap) (a:Addr):HO->Prop
 | .lst xs=>xs.length<=sizeLine/\∃ (its:List Value) (n:Nat),Vals xs its/\h.get? a=some { cls:=.type "list", data:=.seq its.toArray n }
 | .tup xs=>xs.length<=sizeLine/\∃ its:List Value,Vals xs its/\IsTup h a its.toArray
 | .dK kvs=>kvs.length<=sizeLine/\(a==sysModules)=false/\∃ vs,KV kvs vs/\h.DictOf (xa P w) a vs
 | .dT kvs=>kvs.length<=sizeLine/\(a==sysModules)=false/\∃ xs:List (List Key×Addr×Value),
   Paired (fun (p:List Key×V) (q:List Key×Addr×Value)=>p.1=q.1/\H q.2.1=some (.tup (p.1.map kV))/\RelV p.2 q.2.2) kvs xs ∧
   ∃ o es ep,h.get? a=some o/\o.ExactDict/\o.data=.dict es ep/\es.toList=xs.map (entryOfKey (tupleKind (xa P w)))/\(xs.map (·.1)).Nodup
 | .set S n=>h.SetOf (intKind P w) a S n
 | .ins C dx fs=>H dx=some (.own a)/\fs.length<=1000/\dx≠a/\h.get? a=some (PySem.W.instObj C dx) ∧
   ∃ mA,h.Ns1 dx mA/\(∀ f,my (fs.lookup f) (mA f))/\PySem.Within mA (fs.map (·.1))
 | .own _=>∃ o,h.get? a=some o
 | .xd fs=>∃ mA,h.Ns1 a mA/\∀ f,my (fs.lookup f) (mA f)
 | .kb lo hi=>∃ t u v,h.get? a=some { cls:=.type "range", data:=.fields #[.int lo t,.int hi u,.int 1 v] }
 | .pU o u=>h.get? a=some o/\bY H h a u
 | .DE ps=>h.get? a=some { cls:=.none,data:=.fields ps }
 | .met f x=>h.get? a=some (PySem.W.methodObj (.ref f) (.ref x))
 | .ext φ=>φ h/\(∃ o,h.get? a=some o)/\∀ h1 h2:Heap,φ h1->(∀ o,h1.get? a=some o->h2.get? a=some o)->φ h2
def m5 (H:Hp) (h:Heap):Prop:=∀ a o,H a=some o->bY P w H h a o
end
section
variable {P:Program} {w:World} {H H':Hp} {h h':Heap} {a:Addr} {o:HO}
theorem bY.lt (x:bY P w H h a o):a<h.objs.size:=by
 cases o with
 | lst xs=>obtain ⟨_,_,_,_,e⟩:=x;exact Heap.lt_size e
 | tup xs=>obtain ⟨_,_,_,p⟩:=x;exact p.lt
 | dK kvs=>obtain ⟨_,_,_,_,o,_,_,e,_⟩:=x;exact Heap.lt_size e
 | dT kvs=>obtain ⟨_,_,_,_,o,_,_,e,_⟩:=x;exact Heap.lt_size e
 | set S n=>obtain ⟨o,_,_,_,e,_⟩:=x;exact Heap.lt_size e
 | ins C dx fs=>obtain ⟨_,_,_,e,_⟩:=x;exact Heap.lt_size e
 | own y=>obtain ⟨_,e⟩:=x;exact Heap.lt_size e
 | xd fs=>obtain ⟨_,⟨_,_,_,e,_⟩,_⟩:=x;exact Heap.lt_size e
 | kb lo hi=>obtain ⟨_,_,_,e⟩:=x;exact Heap.lt_size e
 | pU ob u=>obtain ⟨e,_⟩:=x;exact Heap.lt_size e
 | DE ps=>exact Heap.lt_size (show h.get? a=some _ from x)
 | met f y=>exact Heap.lt_size (show h.get? a=some _ from x)
 | ext φ=>obtain ⟨_,⟨_,e⟩,_⟩:=x;exact Heap.lt_size e
theorem Paired.GR {α β:Type} {F G:α->β->Prop}:∀ {l₁:List α} {l₂:List β},Paired F l₁ l₂->(∀ a b,F a b->G a b)->Paired G l₁ l₂
 | _,_,.nil,_=>.nil
 | _,_,.cons r t,f=>.cons (f _ _ r) (Paired.GR t f)
theorem bY.mG (x:bY P w H h a o) (k:∀ b u,(b=a\/H b=some (.own a))->h.get? b=some u->h'.get? b=some u)
  (ho:∀ b,H b=some (.own a)->H' b=some (.own a)) (ht:∀ b xs,H b=some (.tup xs)->H' b=some (.tup xs)):bY P w H' h' a o:=by
 induction o with
 | lst xs=>obtain ⟨z,its,n,r,e⟩:=x;exact ⟨z,its,n,r,k _ _ (.inl rfl) e⟩
 | tup xs=>obtain ⟨z,its,r,ob,e,c⟩:=x;exact ⟨z,its,r,ob,k _ _ (.inl rfl) e,c⟩
 | dK kvs=>obtain ⟨z,y,vs,r,ob,es,ep,e,c⟩:=x;exact ⟨z,y,vs,r,ob,es,ep,k _ _ (.inl rfl) e,c⟩
 | dT kvs =>
  obtain ⟨z,y,xs,r,ob,es,ep,e,c⟩:=x
  exact ⟨z,y,xs,Paired.GR r fun p q z=>⟨z.1,ht _ _ z.2.1,z.2.2⟩,ob,es,ep,k _ _ (.inl rfl) e,c⟩
 | set S n=>obtain ⟨ob,es,ep,t,e,c⟩:=x;exact ⟨ob,es,ep,t,k _ _ (.inl rfl) e,c⟩
 | ins C dx fs =>
  obtain ⟨d,z,ne,e,mA,⟨od,es,ep,e2,c⟩,r⟩:=x
  exact ⟨ho _ d,z,ne,k _ _ (.inl rfl) e,mA,⟨od,es,ep,k _ _ (.inr d) e2,c⟩,r⟩
 | own y=>obtain ⟨ob,e⟩:=x;exact ⟨ob,k _ _ (.inl rfl) e⟩
 | xd fs=>obtain ⟨mA,⟨od,es,ep,e,c⟩,r⟩:=x;exact ⟨mA,⟨od,es,ep,k _ _ (.inl rfl) e,c⟩,r⟩
 | kb lo hi=>obtain ⟨t,u,v,e⟩:=x;exact ⟨t,u,v,k _ _ (.inl rfl) e⟩
 | pU ob u ih=>obtain ⟨e,q⟩:=x;exact ⟨k _ _ (.inl rfl) e,ih q⟩
 | DE ps =>
  have e:h.get? a=some { cls:=.none,data:=.fields ps }:=x
  show h'.get? a=some { cls:=.none,data:=.fields ps }
  exact k a _ (.inl rfl) e
 | met f y =>
  have e:h.get? a=some (PySem.W.methodObj (.ref f) (.ref y)):=x
  show h'.get? a=some (PySem.W.methodObj (.ref f) (.ref y))
  exact k a _ (.inl rfl) e
 | ext φ=>obtain ⟨p,⟨o,e⟩,st⟩:=x;exact ⟨st _ _ p fun o q=>k _ _ (.inl rfl) q,⟨o,k _ _ (.inl rfl) e⟩,st⟩
theorem m5.lt (x:m5 P w H h) (e:H a=some o):a<h.objs.size:=(x a o e).lt
theorem m5.fresh (x:m5 P w H h) (e:h.objs.size<=a):H a=none:=by
 cases q:H a with
 | none=>rfl
 | some u=>exact absurd (Nat.lt_of_lt_of_le (x.lt q) e) (Nat.lt_irrefl _)
theorem m5.kept (x:m5 P w H h) (k:∀ b u,h.get? b=some u->h'.get? b=some u):m5 P w H h':=fun a o e =>
 (x a o e).mG (fun b u _ q=>k b u q) (fun _ q=>q) fun _ _ q=>q
theorem m5.laid (x:m5 P w H h) (k:∀ b u,h.get? b=some u->h'.get? b=some u) (hp:h.objs.size<=a) (new:bY P w (upd H a o) h' a o):m5 P w (upd H a o) h':=fun b u e=>by
 have hn:=x.fresh hp
 by_cases hb:b=a
 ·subst hb;rw [aE] at e;cases e;exact new
 ·rw [aw hb] at e
  exact (x b u e).mG (fun c v _ q=>k c v q) (fun c q=>by rw [aw (a_ q hn)];exact q) fun c xs q=>by rw [aw (a_ q hn)];exact q
end
def Rd (H:Hp) (a:Addr) (u:HO):Prop:=H a=some u\/∃ o,H a=some (.pU o u)
theorem Rd.ok {P:Program} {w:World} {H:Hp} {h:Heap} {a:Addr} {u:HO} (r:Rd H a u) (x:m5 P w H h):bY P w H h a u:=by
 rcases r with r | ⟨o,r⟩
 ·exact x a u r
 ·obtain ⟨_,q⟩:=x a _ r
  exact q
def Hz:Option HO->Prop
 | some (.lst _)=>True
 | some (.dK _)=>True
 | some (.dT _)=>True
 | some (.set _ _)=>True
 | some (.ins _ _ _)=>True
 | some (.ext _)=>True
 | _=>False
section
variable {P:Program} {w:World} {H:Hp} {h h':Heap} {x e:Addr} {o':HO}
theorem m5.write (ok:m5 P w H h) (mu:Hz (H x)) (he:e=x\/H e=some (.own x)) (k:∀ b u,b≠e->h.get? b=some u->h'.get? b=some u) (heo:∃ u,h'.get? e=some u)
  (new:bY P w (upd H x o') h' x o'):m5 P w (upd H x o') h':=fun b u q=>by
 have nown:∀ c y,H c=some (.own y)->c≠x:=fun c y r z=>by subst z;rw [r] at mu;exact mu
 have ntup:∀ c xs,H c=some (.tup xs)->c≠x:=fun c xs r z=>by subst z;rw [r] at mu;exact mu
 by_cases hb:b=x
 ·subst hb;rw [aE] at q;cases q;exact new
 ·rw [aw hb] at q
  by_cases hbe:b=e
  ·have q':H b=some (.own x):=by
    rcases he with z | z
    ·exact absurd (hbe.trans z) hb
    ·rw [hbe];exact z
   rw [q] at q';cases q'
   obtain ⟨v,hv⟩:=heo
   exact ⟨v,by rw [hbe];exact hv⟩
  ·refine (ok b u q).mG (fun c v hc r=>k c v ?_ r) (fun c r=>by rw [aw (nown c b r)];exact r) fun c xs r=>by rw [aw (ntup c xs r)];exact r
   rcases hc with rfl | hc
   ·exact hbe
   ·rintro rfl
    rcases he with z | z
    ·exact nown c b hc z
    ·rw [hc] at z;cases z;exact hb rfl
end
structure Un (fs ex:List Addr) (H H':Hp) (h h':Heap):Prop where
 keep:∀ b o,h.get? b=some o->H b=none->b ∉ fs->b ∉ ex->h'.get? b=some o
 slot:∀ b o,h.get? b=some o->H b=none->b∈fs->b ∉ ex->∃ sl,h'.get? b=some { o with slots:=sl }
 free:∀ b o,h.get? b=some o->H b=none->b ∉ ex->H' b=none
 there:∀ b o,h.get? b=some o->b ∉ ex->∃ o',h'.get? b=some o'
 qv:∀ b xs,H b=some (.tup xs)->H' b=some (.tup xs)
 lU:∀ b o u,H b=some (.pU o u)->H' b=some (.pU o u)
 qb:∀ b ps,H b=some (.DE ps)->∃ more,H' b=some (.DE (ps++more))
section
variable {fs fs' ex ex':List Addr} {H H1 H2:Hp} {h h1 h2 h':Heap} {a x e:Addr} {o:HO}
theorem Un.any (u:Un fs ex H H1 h h1) {b:Addr} {ob:Obj} (q:h.get? b=some ob) (n:H b=none) (hx:b ∉ ex):∃ sl,h1.get? b=some { ob with slots:=sl }:=by
 by_cases hb:b∈fs
 ·exact u.slot b ob q n hb hx
 ·exact ⟨ob.slots,u.keep b ob q n hb hx⟩
theorem Un.kept (k:∀ b u,h.get? b=some u->h'.get? b=some u):Un fs ex H H h h' :=
 ⟨fun b ob q _ _ _=>k b ob q,fun b ob q _ _ _=>⟨ob.slots,k b ob q⟩,fun _ _ _ n _=>n,fun b ob q _=>⟨ob,k b ob q⟩,fun _ _ q=>q,fun _ _ _ q=>q,fun _ ps q=>⟨#[],by rw [q];simp⟩⟩
theorem Un.refl:Un fs ex H H h h:=Un.kept fun _ _ q=>q
theorem Un.laid (k:∀ b u,h.get? b=some u->h'.get? b=some u) (hp:h.objs.size<=a) (hn:H a=none):Un fs ex H (upd H a o) h h' where
 keep:=fun b u q _ _ _=>k b u q
 slot:=fun b u q _ _ _=>⟨u.slots,k b u q⟩
 free:=fun b u q n _=>by rw [aw (Nat.ne_of_lt (Nat.lt_of_lt_of_le (Heap.lt_size q) hp))];exact n
 there:=fun b u q _=>⟨u,k b u q⟩
 qv:=fun b xs q=>by rw [aw (a_ q hn)];exact q
 lU:=fun b u xs q=>by rw [aw (a_ q hn)];exact q
 qb:=fun b ps q=>⟨#[],by rw [aw (a_ q hn),q];simp⟩
theorem Un.write (mu:Hz (H x)) (he:e=x\/H e=some (.own x)) (k:∀ b u,b≠e->h.get? b=some u->h'.get? b=some u) (heo:∃ u,h'.get? e=some u):Un fs ex H (upd H x o) h h':=by
 have hx:∀ b,H b=none->b≠x:=fun b n z=>by subst z;rw [n] at mu;exact mu
 have hb:∀ b,H b=none->b≠e:=fun b n z=>by
  subst z
  rcases he with r | r
  ·exact hx b n r
  ·rw [n] at r;cases r
 have hm:∀ b u,H b=some u->¬ Hz (some u)->b≠x:=fun b u q nm z=>by subst z;rw [q] at mu;exact nm mu
 refine ⟨fun b u q n _ _=>k b u (hb b n) q,fun b u q n _ _=>⟨u.slots,k b u (hb b n) q⟩,fun b u q n _=>by rw [aw (hx b n)];exact n,fun b u q _=>?_,
  fun b xs q=>by rw [aw (hm b _ q fun z=>z)];exact q,fun b u xs q=>by rw [aw (hm b _ q fun z=>z)];exact q,fun b ps q=>⟨#[],by rw [aw (hm b _ q fun z=>z),q];simp⟩⟩
 by_cases hbe:b=e
 ·subst hbe;exact heo
 ·exact ⟨u,k b u hbe q⟩
end
def HP (h:Heap) (H:Hp):List Addr:=(List.range h.objs.size).filter fun a=>(H a).isSome
def sj (h:Heap) (H:Hp):Heap:=PySem.W.hideAll h (HP h H)
theorem yf (h:Heap) (H:Hp):(sj h H).objs.size=h.objs.size:=PySem.W.hideAll_size _ _
theorem A7 {h:Heap} {H:Hp} {b:Addr} {o:Obj} (e:h.get? b=some o) (n:H b=none):(sj h H).get? b=some o :=
 PySem.W.hideAll_get _ e fun hm=>by
  have q:(H b).isSome=true:=(List.mem_filter.mp hm).2
  rw [n] at q;simp at q
theorem Cj {h:Heap} {H:Hp} {b:Addr} {o:Obj} (e:(sj h H).get? b=some o):h.get? b=some o/\H b=none:=by
 have e':h.get? b=some o:=PySem.W.of_hideAll (HP h H) e
 refine ⟨e',?_⟩
 cases q:H b with
 | none=>rfl
 | some x =>
  have hm:b∈HP h H:=List.mem_filter.mpr ⟨List.mem_range.mpr (Heap.lt_size e'),by simp [q]⟩
  have z:(sj h H).get? b=none:=PySem.W.hideAll_none (HP h H) hm
  rw [z] at e;cases e
def BJ (g h:Heap) (L:Addr):List (Addr×Obj):=(List.range h.objs.size).filterMap fun a=>if a=L\/(g.get? a).isSome=true then none else (h.get? a).map fun o=>(a,o)
def rest (g h:Heap) (L d:Addr):List (Addr×Obj):=(BJ g h L).filter fun p=>decide (p.1≠d)
end L2
namespace L2
open PySem PySem.Spec PyProof.Rows
structure Mod (K:PySem.W.Frag) (mg:Str->Option Value) (base:Heap):Prop where
 Dq:K.In base
 glob:base.Ns mainGlobals mg
 blt:∃ mb,base.Ns builtinsNs mb/\∀ x:Str,x ≠ "__name__" -> mb x=bootBuiltins x
 nolimit:base.NoLimit
structure Cx where
 prog:Program
 w:World
 K:PySem.W.Frag
 mg:Str->Option Value
 base:Heap
 A:Around
 N:List Str
 s₀:Shared
 H₀:Hp
 env:Env
 outer:List Env
 stack:List Env
 ex:List Addr
 fn:Str->Bool
 calm:Bool
 pn:List (Addr×Obj)
 xe:Value->Shared->Prop
def uY (l:List Env):List Addr:=l.filterMap (·.frame)
abbrev Cx.fs (X:Cx):List Addr:=uY X.outer
def Bv (sc:Scope) (x:Str):Prop:=sc.names.lookup x=some .local\/sc.names.lookup x=some .cell\/sc.names.lookup x=some .free
def Loc (sc:Scope) (x:Str):Prop:=sc.names.lookup x=some .local\/sc.names.lookup x=some .cell
def Look (env:Env) (h:Heap) (m:Str->Option Value) (x:Str) (u:Value):Prop :=
 (env.kindOf x=some .local/\m x=some u)\/((env.kindOf x=some .cell\/env.kindOf x=some .free)/\∃ c,env.cells.lookup x=some c/\h.IsCell c (some u))
structure Cx.Ok (X:Cx):Prop where
 mod:Mod X.K X.mg X.base
 kind:X.env.scope.kind=.function
 glob:X.env.globals=mainGlobals
 blt:X.env.builtins=builtinsNs
 above:X.s₀.heap.objs.size<=X.env.locals
 inj:∀ x y c,X.env.cells.lookup x=some c->X.env.cells.lookup y=some c->x=y
 has:∀ x,(X.env.kindOf x=some .cell\/X.env.kindOf x=some .free)->∃ c,X.env.cells.lookup x=some c
 Gx:∀ x c,X.fn x=true->X.env.cells.lookup x=some c->X.s₀.heap.objs.size<=c
 hd:X.calm=true->X.A.handled=none
 frames:X.A.frames=some X.stack
 HI:X.stack=X.outer\/(X.stack=X.env::X.outer/\X.env.frame=some X.env.locals)
 HJ:∀ b∈X.ex,b≠X.env.locals/\∀ x c,X.env.cells.lookup x=some c->c≠b
 bs:∀ b o,X.base.get? b=some o->X.s₀.heap.get? b=some o/\X.H₀ b=none
 B_:X.base.objs.size<=X.s₀.heap.objs.size
 wc:∀ b o,X.base.get? b=some o->b ∉ X.ex
 yr:∀ b∈X.ex,b ∉ X.fs
 nF:X.s₀.heap.FunFrames X.base X.outer
 DT:∀ b∈X.fs,X.H₀ b=none
structure Inv (X:Cx) (pins:List (Addr×Obj)) (σ:List (Option V)) (H:Hp) (s:Shared):Prop where
 ok:X.Ok
 os:s.os=X.s₀.os
 bare:AllBare s.gens
 base:Un X.fs X.ex X.H₀ H X.s₀.heap s.heap
 loc:∃ m,s.heap.Ns X.env.locals m/\∀ (i:Nat) (x:Str) (v:V),X.N[i]?=some x->σ[i]?=some (some v)->Bv X.env.scope x->∃ u,RelV v u/\Look X.env s.heap m x u
 cell:∀ x c,X.env.cells.lookup x=some c->∃ v,s.heap.IsCell c v
 free:H X.env.locals=none
 jI:∀ x c,X.env.cells.lookup x=some c->H c=none
 pin:∀ p∈X.pn++pins,s.heap.get? p.1=some p.2/\H p.1=none/\p.1≠X.env.locals/\p.1 ∉ X.fs/\∀ v,p.2.data≠.cell v
 bu:m5 X.prog X.w H s.heap
 len:σ.length=X.N.length
section
variable {X:Cx} {pins:List (Addr×Obj)} {σ:List (Option V)} {H H':Hp} {s:Shared} {h':Heap}
theorem Cx.Ok.J6 (ok:X.Ok) {b:Addr} {o:Obj} (e:X.base.get? b=some o):b ∉ X.fs:=fun hb=>by
 have:=(ok.nF.mem hb).1
 rw [e] at this;cases this
theorem Inv.bs (I:Inv X pins σ H s):∀ b o,X.base.get? b=some o->s.heap.get? b=some o/\H b=none:=fun b o e =>
 ⟨I.base.keep b o (I.ok.bs b o e).1 (I.ok.bs b o e).2 (I.ok.J6 e) (I.ok.wc b o e),I.base.free b o (I.ok.bs b o e).1 (I.ok.bs b o e).2 (I.ok.wc b o e)⟩
theorem Inv.bk (I:Inv X pins σ H s):∀ b o,X.base.get? b=some o->s.heap.get? b=some o:=fun b o e=>(I.bs b o e).1
theorem Inv.mod (I:Inv X pins σ H s):Mod X.K X.mg X.base:=I.ok.mod
theorem Inv.jO (I:Inv X pins σ H s):X.K.In s.heap:=I.ok.mod.Dq.keeps I.bk
theorem Inv.lt (I:Inv X pins σ H s):X.env.locals<s.heap.objs.size:=let ⟨_,hn,_⟩:=I.loc;hn.lt
theorem Inv.sz (I:Inv X pins σ H s):X.s₀.heap.objs.size<=s.heap.objs.size:=Nat.le_trans I.ok.above (Nat.le_of_lt I.lt)
theorem Inv.KQ (I:Inv X pins σ H s) {a:Addr} (h:s.heap.objs.size<=a):a ∉ X.fs:=fun hb=>by
 obtain ⟨_,o,ho,_⟩:=I.ok.nF.mem hb
 exact absurd (Nat.lt_of_lt_of_le (Heap.lt_size ho) (Nat.le_trans I.sz h)) (Nat.lt_irrefl _)
theorem Inv.Eb (I:Inv X pins σ H s):∀ x c,X.env.cells.lookup x=some c->c≠X.env.locals:=fun x c e z=>by
 obtain ⟨v,o,ho,hd⟩:=I.cell x c e
 obtain ⟨m,⟨o',es,ep,ho',hd',_⟩,_⟩:=I.loc
 rw [z,ho'] at ho;cases ho;rw [hd'] at hd;cases hd
theorem Inv.nF (I:Inv X pins σ H s):s.heap.FunFrames X.base X.outer:=by
 have all:∀ (l:List Env),(∀ b∈uY l,b∈X.fs)->X.s₀.heap.FunFrames X.base l->s.heap.FunFrames X.base l:=by
  intro l
  induction l with
  | nil=>intro _ _;trivial
  | cons env r ih =>
   intro hs hl
   obtain ⟨hk,⟨L,o,hf,hn,ho,hd⟩,hr⟩:=hl
   have hL:L∈X.fs:=hs L (by unfold uY;rw [List.filterMap_cons,hf];exact List.mem_cons_self)
   obtain ⟨sl,e⟩:=I.base.slot L o ho (I.ok.DT L hL) hL fun z=>I.ok.yr L z hL
   exact ⟨hk,⟨L,_,hf,hn,e,hd⟩,ih (fun b hb=>hs b (by unfold uY;rw [List.filterMap_cons,hf];exact List.mem_cons_of_mem _ hb)) hr⟩
 exact all X.outer (fun _ hb=>hb) I.ok.nF
theorem Inv.stack (I:Inv X pins σ H s):s.heap.FunFrames X.base X.stack:=by
 rcases I.ok.HI with e | ⟨e,hf⟩
 ·rw [e];exact I.nF
 ·rw [e]
  obtain ⟨m,hn,_⟩:=I.loc
  refine .cons (by rw [I.ok.kind];decide) hf hn ?_ I.nF
  exact Heap.get?_none_of_le (Nat.le_trans I.ok.B_ I.ok.above)
theorem Inv.mO (I:Inv X pins σ H s):∀ b∈uY X.stack,b∈X.env.locals::X.fs:=fun b hb=>by
 rcases I.ok.HI with e | ⟨e,hf⟩
 ·rw [e] at hb;exact List.mem_cons_of_mem _ hb
 ·rw [e] at hb
  unfold uY at hb
  rw [List.filterMap_cons,hf] at hb
  exact hb
theorem Inv.nR (I:Inv X pins σ H s):∀ b∈uY X.stack,H b=none:=fun b hb=>by
 rcases List.mem_cons.mp (I.mO b hb) with e | hb
 ·rw [e];exact I.free
 ·obtain ⟨_,o,ho,_⟩:=I.ok.nF.mem hb
  exact I.base.free b o ho (I.ok.DT b hb) fun z=>I.ok.yr b z hb
theorem Inv.step {g':Array GenState} {t':Nat} {d':Drawn} {ch:List Addr} (I:Inv X pins σ H s)
  (hch:∀ b∈ch,(b∈X.ex\/X.s₀.heap.objs.size<=b)/\b≠X.env.locals/\(∀ x c,X.env.cells.lookup x=some c->c≠b)/\∀ p∈X.pn++pins,p.1≠b)
  (keep:∀ b o,b≠X.env.locals->b ∉ X.fs->b ∉ ch->s.heap.get? b=some o->H b=none->h'.get? b=some o)
  (slot:∀ b o,b≠X.env.locals->b∈X.fs->b ∉ ch->s.heap.get? b=some o->H b=none->∃ sl,h'.get? b=some { o with slots:=sl }) (free:∀ b o,b ∉ ch->s.heap.get? b=some o->H b=none->H' b=none)
  (there:∀ b o,b ∉ ch->s.heap.get? b=some o->∃ o',h'.get? b=some o')
  (qv:∀ b xs,H b=some (.tup xs)->H' b=some (.tup xs)) (lU:∀ b o u,H b=some (.pU o u)->H' b=some (.pU o u)) (qb:∀ b ps,H b=some (.DE ps)->∃ more,H' b=some (.DE (ps++more)))
  (ns:∀ m,s.heap.Ns X.env.locals m->h'.Ns X.env.locals m) (bu:m5 X.prog X.w H' h') (hg:AllBare g') :
  Inv X pins σ H' { s with heap:=h',gens:=g',drawn:=d',toks:=t' }:=by
 have neL:∀ b o,X.s₀.heap.get? b=some o->b≠X.env.locals:=fun b o e=>Nat.ne_of_lt (Nat.lt_of_lt_of_le (Heap.lt_size e) I.ok.above)
 have neC:∀ b o,X.s₀.heap.get? b=some o->b ∉ X.ex->b ∉ ch:=fun b o e hx hb=>by
  rcases (hch b hb).1 with z | z
  ·exact hx z
  ·exact absurd (Nat.lt_of_lt_of_le (Heap.lt_size e) z) (Nat.lt_irrefl _)
 have cellK:∀ x c,X.env.cells.lookup x=some c->∀ v,s.heap.IsCell c v->h'.IsCell c v:=fun x c e v ⟨o,ho,hd⟩=>by
  have nch:c ∉ ch:=fun z=>(hch c z).2.2.1 x c e rfl
  by_cases hc:c∈X.fs
  ·obtain ⟨sl,q⟩:=slot c o (I.Eb x c e) hc nch ho (I.jI x c e)
   exact ⟨_,q,hd⟩
  ·exact ⟨o,keep c o (I.Eb x c e) hc nch ho (I.jI x c e),hd⟩
 refine ⟨I.ok,I.os,hg,⟨fun b o e n hb hx=>?_,fun b o e n hb hx=>?_,fun b o e n hx=>?_,fun b o e hx=>?_,fun b xs e=>qv b xs (I.base.qv b xs e),fun b o xs e=>lU b o xs (I.base.lU b o xs e),fun b ps e=>?_⟩,?_,fun x c e=>?_,?_,fun x c e=>?_,fun p hp=>?_,bu,I.len⟩
 ·exact keep b o (neL b o e) hb (neC b o e hx) (I.base.keep b o e n hb hx) (I.base.free b o e n hx)
 ·obtain ⟨sl,e1⟩:=I.base.slot b o e n hb hx
  obtain ⟨sl',e2⟩:=slot b _ (neL b o e) hb (neC b o e hx) e1 (I.base.free b o e n hx)
  exact ⟨sl',e2⟩
 ·obtain ⟨o',e1⟩:=I.base.there b o e hx
  exact free b o' (neC b o e hx) e1 (I.base.free b o e n hx)
 ·obtain ⟨o',e1⟩:=I.base.there b o e hx
  exact there b o' (neC b o e hx) e1
 ·obtain ⟨m1,e1⟩:=I.base.qb b ps e
  obtain ⟨m2,e2⟩:=qb b _ e1
  exact ⟨m1++m2,by rw [e2,Array.append_assoc]⟩
 ·obtain ⟨m,hn,hl⟩:=I.loc
  refine ⟨m,ns m hn,fun i x v e1 e2 e3=>?_⟩
  obtain ⟨u,r,l⟩:=hl i x v e1 e2 e3
  refine ⟨u,r,?_⟩
  rcases l with l | ⟨k,c,e,z⟩
  ·exact .inl l
  ·exact .inr ⟨k,c,e,cellK x c e _ z⟩
 ·obtain ⟨v,z⟩:=I.cell x c e
  exact ⟨v,cellK x c e v z⟩
 ·obtain ⟨m,⟨o,_,_,ho,_⟩,_⟩:=I.loc
  exact free _ o (fun z=>(hch _ z).2.1 rfl) ho I.free
 ·obtain ⟨v,o,ho,hd⟩:=I.cell x c e
  exact free c o (fun z=>(hch c z).2.2.1 x c e rfl) ho (I.jI x c e)
 ·obtain ⟨e,n,ne,nf,d⟩:=I.pin p hp
  have nch:p.1 ∉ ch:=fun z=>(hch p.1 z).2.2.2 p hp rfl
  exact ⟨keep p.1 p.2 ne nf nch e n,free p.1 p.2 nch e n,ne,nf,d⟩
theorem Inv.un {t':Nat} (I:Inv X pins σ H s) (u:Un X.fs [] H H' s.heap h') (bu:m5 X.prog X.w H' h'):Inv X pins σ H' { s with heap:=h',toks:=t' }:=by
 obtain ⟨m,⟨o,es,ep,ho,r⟩,_⟩:=id I.loc
 obtain ⟨sl,hL⟩:=u.any ho I.free (by simp)
 exact I.step (g':=s.gens) (d':=s.drawn) (ch:=[]) (fun _ z=>nomatch z) (fun b o _ hb _ e n=>u.keep b o e n hb (by simp)) (fun b o _ hb _ e n=>u.slot b o e n hb (by simp)) (fun b o _ e n=>u.free b o e n (by simp)) (fun b o _ e=>u.there b o e (by simp)) u.qv u.lU u.qb (fun m' hm=>by
  obtain ⟨o',es',ep',ho',r'⟩:=hm
  rw [ho] at ho';cases ho'
  exact ⟨_,es',ep',hL,r'⟩) bu I.bare
theorem Inv.call {g':Array GenState} {t':Nat} {d':Drawn} {ch:List Addr} (I:Inv X pins σ H s) (u:Un (uY X.stack) ch H H' s.heap h') (bu:m5 X.prog X.w H' h') (hg:AllBare g')
  (hch:∀ b∈ch,(b∈X.ex\/X.s₀.heap.objs.size<=b)/\b≠X.env.locals/\(∀ x c,X.env.cells.lookup x=some c->c≠b)/\∀ p∈X.pn++pins,p.1≠b) :
  Inv X pins σ H' { s with heap:=h',gens:=g',drawn:=d',toks:=t' }:=by
 obtain ⟨m,⟨o,es,ep,ho,r⟩,_⟩:=id I.loc
 obtain ⟨sl,hL⟩:=u.any ho I.free fun z=>(hch _ z).2.1 rfl
 exact I.step (ch:=ch) hch (fun b o hL hb hc e n=>u.keep b o e n (fun z=>(List.mem_cons.mp (I.mO b z)).elim hL hb) hc) (fun b o _ _ hc e n=>u.any e n hc) (fun b o hc e n=>u.free b o e n hc) (fun b o hc e=>u.there b o e hc) u.qv u.lU u.qb (fun m' hm=>by
  obtain ⟨o',es',ep',ho',r'⟩:=hm
  rw [ho] at ho';cases ho'
  exact ⟨_,es',ep',hL,r'⟩) bu hg
theorem Inv.turned {t':Nat} {it:Addr} (I:Inv X pins σ H s) (k:∀ b o,b≠it->s.heap.get? b=some o->h'.get? b=some o) (hn:H it=none) (hL:it≠X.env.locals)
  (h1:it∈X.ex\/X.s₀.heap.objs.size<=it) (h2:∀ x c,X.env.cells.lookup x=some c->c≠it) (h3:∀ p∈X.pn++pins,p.1≠it):Inv X pins σ H { s with heap:=h',toks:=t' }:=by
 have nit:∀ b u,H b=some u->b≠it:=fun b u e z=>by rw [z,hn] at e;cases e
 refine I.step (g':=s.gens) (d':=s.drawn) (ch:=[it]) (fun b hb=>?_) (fun b o _ _ hc e _=>k b o (fun z=>hc (by simp [z])) e) (fun b o _ _ hc e _=>⟨o.slots,k b o (fun z=>hc (by simp [z])) e⟩) (fun _ _ _ _ n=>n)
  (fun b o hc e=>⟨o,k b o (fun z=>hc (by simp [z])) e⟩) (fun _ _ e=>e) (fun _ _ _ e=>e) (fun b ps e=>⟨#[],by rw [e];simp⟩) (fun m hm=>?_) (fun b u e=>?_) I.bare
 ·have e:b=it:=by simpa using hb
  subst e
  exact ⟨h1,hL,h2,h3⟩
 ·obtain ⟨o,es,ep,ho,r⟩:=hm
  exact ⟨o,es,ep,k _ o (Ne.symm hL) ho,r⟩
 ·refine (I.bu b u e).mG (fun c v hc q=>k c v ?_ q) (fun _ q=>q) fun _ _ q=>q
  rcases hc with z | z
  ·rw [z];exact nit b u e
  ·exact nit c _ z
theorem Inv.tok (I:Inv X pins σ H s) (t:Nat):Inv X pins σ H { s with toks:=t }:=I.un (h':=s.heap) (t':=t) Un.refl I.bu
theorem Inv.kept {t':Nat} (I:Inv X pins σ H s) (k:∀ b u,s.heap.get? b=some u->h'.get? b=some u):Inv X pins σ H { s with heap:=h',toks:=t' }:=I.un (Un.kept k) (I.bu.kept k)
theorem Inv.laid {a:Addr} {o:HO} {t':Nat} (I:Inv X pins σ H s) (k:∀ b u,s.heap.get? b=some u->h'.get? b=some u) (hp:s.heap.objs.size<=a) (new:bY X.prog X.w (upd H a o) h' a o) :
  Inv X pins σ (upd H a o) { s with heap:=h',toks:=t' }:=I.un (Un.laid k hp (I.bu.fresh hp)) (I.bu.laid k hp new)
theorem Inv.write {x e:Addr} {o:HO} {t':Nat} (I:Inv X pins σ H s) (mu:Hz (H x)) (he:e=x\/H e=some (.own x)) (k:∀ b u,b≠e->s.heap.get? b=some u->h'.get? b=some u) (heo:∃ u,h'.get? e=some u)
  (new:bY X.prog X.w (upd H x o) h' x o):Inv X pins σ (upd H x o) { s with heap:=h',toks:=t' }:=I.un (Un.write mu he k heo) (I.bu.write mu he k heo new)
theorem Inv.wM {pins':List (Addr×Obj)} (I:Inv X pins σ H s) (h:∀ p∈pins',s.heap.get? p.1=some p.2/\H p.1=none/\p.1≠X.env.locals/\p.1 ∉ X.fs/\∀ v,p.2.data≠.cell v):Inv X pins' σ H s :=
 ⟨I.ok,I.os,I.bare,I.base,I.loc,I.cell,I.free,I.jI,fun p hp=>(List.mem_append.mp hp).elim (fun z=>I.pin p (List.mem_append_left _ z)) (h p),I.bu,I.len⟩
theorem uW {N:List Str} (hN:N.Nodup) {i j:Nat} {x:Str} (a:N[i]?=some x) (b:N[j]?=some x):i=j:=by
 obtain ⟨h1,e1⟩:=List.getElem?_eq_some_iff.mp a
 obtain ⟨h2,e2⟩:=List.getElem?_eq_some_iff.mp b
 exact (List.getElem_inj hN).mp (e1.trans e2.symm)
theorem rB {M:Model} {A:Around} {E:Value->Shared->Prop} {i:Nat} {x:Str} {v:V} {u:Value} {Q:Unit->Shared->Prop} (I:Inv X pins σ H s) (hN:X.N.Nodup) (hi:X.N[i]?=some x) (hx:Loc X.env.scope x) (r:RelV v u)
  (h:∀ s',Inv X pins (σ.set i (some v)) H s'->(∃ a,Heap.SameBut a s.heap s'.heap/\(a=X.env.locals\/X.env.cells.lookup x=some a))->Q () s') (hf:X.fn x=true\/X.env.scope.names.lookup x=some .local:=by first | exact .inl rfl | exact .inr rfl | assumption):wpAny M A (storeName X.env x u) Q E s:=by
 obtain ⟨m,hn,hl⟩:=id I.loc
 have hcls:(X.env.scope.kind==.class||(X.env.scope.kind==.module&&X.env.locals != X.env.globals))=false:=by rw [I.ok.kind];rfl
 have hiσ:i<σ.length:=by rw [I.len];exact (List.getElem?_eq_some_iff.mp hi).1
 have Eb:=I.Eb
 have tracked:∀ {a:Addr} {h':Heap},(∃ o,s.heap.get? a=some o/\H a=none)->Heap.SameBut a s.heap h'->m5 X.prog X.w H h':=fun {a h'} ha hs b ob e=>by
  obtain ⟨_,_,hfree⟩:=ha
  refine (I.bu b ob e).mG (fun c w' hc q=>(hs.2 c ?_).trans q) (fun _ q=>q) fun _ _ q=>q
  rintro rfl
  rcases hc with rfl | hc
  ·rw [hfree] at e;cases e
  ·rw [hfree] at hc;cases hc
 rcases hx with hk | hk
 ·refine wpAny_storeName_local hk hn (fun h' hn' hs=>?_) hcls
  obtain ⟨oL,_,_,hoL,_⟩:=id hn
  refine h _ ⟨I.ok,I.os,I.bare,⟨fun b o e n hb hx=>?_,fun b o e n hb hx=>?_,I.base.free,fun b o e hx=>?_,I.base.qv,I.base.lU,I.base.qb⟩,⟨_,hn',fun j y v' e1 e2 e3=>?_⟩,fun y c e=>?_,I.free,I.jI,fun p hp=>?_,tracked ⟨oL,hoL,I.free⟩ hs,by simpa using I.len⟩ ⟨_,hs,.inl rfl⟩
  ·exact (hs.2 b (Nat.ne_of_lt (Nat.lt_of_lt_of_le (Heap.lt_size e) I.ok.above))).trans (I.base.keep b o e n hb hx)
  ·obtain ⟨sl,e1⟩:=I.base.slot b o e n hb hx
   exact ⟨sl,(hs.2 b (Nat.ne_of_lt (Nat.lt_of_lt_of_le (Heap.lt_size e) I.ok.above))).trans e1⟩
  ·obtain ⟨o',e1⟩:=I.base.there b o e hx
   exact ⟨o',(hs.2 b (Nat.ne_of_lt (Nat.lt_of_lt_of_le (Heap.lt_size e) I.ok.above))).trans e1⟩
  ·by_cases hj:j=i
   ·subst hj
    rw [hi] at e1;cases e1
    rw [List.getElem?_set_self hiσ] at e2
    cases e2
    exact ⟨u,r,.inl ⟨hk,by simp⟩⟩
   ·rw [List.getElem?_set_ne (Ne.symm hj)] at e2
    obtain ⟨u',r',q⟩:=hl j y v' e1 e2 e3
    refine ⟨u',r',?_⟩
    rcases q with ⟨k,e⟩ | ⟨k,c,e,z⟩
    ·refine .inl ⟨k,?_⟩
     have:y≠x:=fun e=>hj (uW hN e1 (e▸hi))
     simp [this,e]
    ·exact .inr ⟨k,c,e,z.sameBut hs (Eb y c e)⟩
  ·obtain ⟨w',z⟩:=I.cell y c e
   exact ⟨w',z.sameBut hs (Eb y c e)⟩
  ·obtain ⟨e,n,ne,nf,d⟩:=I.pin p hp
   exact ⟨(hs.2 p.1 ne).trans e,n,ne,nf,d⟩
 ·have hfn:X.fn x=true:=by
   rcases hf with z | z
   ·exact z
   ·rw [z] at hk;cases hk
  obtain ⟨c,hc⟩:=I.ok.has x (.inl hk)
  obtain ⟨w',z⟩:=I.cell x c hc
  refine wpAny_storeName_cell I.ok.kind hk hc z (fun h' hc' hs=>?_)
  obtain ⟨oc,hoc,hocd⟩:=id z
  refine h { s with heap:=h' } ⟨I.ok,I.os,I.bare,⟨fun b o e n hb hx=>?_,fun b o e n hb hx=>?_,I.base.free,fun b o e hx=>?_,I.base.qv,I.base.lU,I.base.qb⟩,⟨m,hn.sameBut hs (Ne.symm (Eb x c hc)),fun j y v' e1 e2 e3=>?_⟩,fun y c' e=>?_,I.free,I.jI,fun p hp=>?_,tracked ⟨oc,hoc,I.jI x c hc⟩ hs,by simpa using I.len⟩ ⟨c,hs,.inr hc⟩
  ·exact (hs.2 b (Nat.ne_of_lt (Nat.lt_of_lt_of_le (Heap.lt_size e) (I.ok.Gx x c hfn hc)))).trans (I.base.keep b o e n hb hx)
  ·obtain ⟨sl,e1⟩:=I.base.slot b o e n hb hx
   exact ⟨sl,(hs.2 b (Nat.ne_of_lt (Nat.lt_of_lt_of_le (Heap.lt_size e) (I.ok.Gx x c hfn hc)))).trans e1⟩
  ·obtain ⟨o',e1⟩:=I.base.there b o e hx
   exact ⟨o',(hs.2 b (Nat.ne_of_lt (Nat.lt_of_lt_of_le (Heap.lt_size e) (I.ok.Gx x c hfn hc)))).trans e1⟩
  ·by_cases hj:j=i
   ·subst hj
    rw [hi] at e1;cases e1
    rw [List.getElem?_set_self hiσ] at e2
    cases e2
    exact ⟨u,r,.inr ⟨.inl hk,c,hc,hc'⟩⟩
   ·rw [List.getElem?_set_ne (Ne.symm hj)] at e2
    obtain ⟨u',r',q⟩:=hl j y v' e1 e2 e3
    refine ⟨u',r',?_⟩
    rcases q with q | ⟨k,c',e,z'⟩
    ·exact .inl q
    ·refine .inr ⟨k,c',e,z'.sameBut hs ?_⟩
     rintro rfl
     exact hj (uW hN e1 (I.ok.inj _ _ _ e hc▸hi))
  ·by_cases hcc:c'=c
   ·subst hcc;exact ⟨_,hc'⟩
   ·obtain ⟨w2,z2⟩:=I.cell y c' e
    exact ⟨w2,z2.sameBut hs hcc⟩
  ·obtain ⟨e,n,ne,nf,d⟩:=I.pin p hp
   refine ⟨(hs.2 p.1 ?_).trans e,n,ne,nf,d⟩
   intro q
   rw [q,hoc] at e
   have q':oc=p.2:=Option.some.inj e
   exact d w' (by rw [← q'];exact hocd)
theorem uk {M:Model} {A:Around} {E:Value->Shared->Prop} {i:Nat} {x:Str} {v:V} {u:Value} {Q:Unit->Shared->Prop} (I:Inv X pins σ H s) (hN:X.N.Nodup) (hi:X.N[i]?=some x) (hx:Loc X.env.scope x) (r:RelV v u)
  (h:∀ s',Inv X pins (σ.set i (some v)) H s'->Q () s') (hf:X.fn x=true\/X.env.scope.names.lookup x=some .local:=by first | exact .inl rfl | exact .inr rfl | assumption):wpAny M A (storeName X.env x u) Q E s :=
 rB I hN hi hx r (fun s' I' _=>h s' I') hf
theorem Inv.wt {s':Shared} {ch:List Addr} (I:Inv X pins σ H s) (ho:s'.os=s.os) (u:Un (uY X.stack) ch H H' s.heap s'.heap) (bu:m5 X.prog X.w H' s'.heap) (hg:AllBare s'.gens)
  (hch:∀ b∈ch,(b∈X.ex\/X.s₀.heap.objs.size<=b)/\b≠X.env.locals/\(∀ x c,X.env.cells.lookup x=some c->c≠b)/\∀ p∈X.pn++pins,p.1≠b):Inv X pins σ H' s':=by
 obtain ⟨h',g',d',t',o'⟩:=s'
 have e:o'=s.os:=ho
 subst e
 exact I.call (g':=g') (t':=t') (d':=d') u bu hg hch
end
abbrev XK:=Value->Option Addr->Hp->Prop
abbrev St:=List (Option V)
abbrev VK:=V->Hp->Prop
abbrev TE:=St->Hp->VK->Prop
abbrev TT:=St->Hp->(Bool->Hp->Prop)->Prop
abbrev TA:=St->Hp->(List V->Hp->Prop)->Prop
structure Ends where
 nx:St->Hp->Prop
 rt:VK
 bk:St->Hp->Prop:=fun _ _=>False
 ct:St->Hp->Prop:=fun _ _=>False
abbrev TS:=Ends->St->Hp->Prop
def EP (X:Cx) (pins:List (Addr×Obj)) (σ:St) (Q:VK) (u:Value) (s':Shared):Prop:=∃ v H',Inv X pins σ H' s'/\RelV v u/\Q v H'
def TP (X:Cx) (pins:List (Addr×Obj)) (σ:St) (Q:Bool->Hp->Prop) (b:Bool) (s':Shared):Prop:=∃ H',Inv X pins σ H' s'/\Q b H'
def AP (X:Cx) (pins:List (Addr×Obj)) (σ:St) (Q:List V->Hp->Prop) (us:List Value) (s':Shared):Prop:=∃ vs H',Inv X pins σ H' s'/\Vals vs us/\Q vs H'
def SP (X:Cx) (pins:List (Addr×Obj)) (D:Ends) (f:Flow) (s':Shared):Prop :=
 match f with
 | .next=>∃ σ' H',Inv X pins σ' H' s'/\D.nx σ' H'
 | .brk=>∃ σ' H',Inv X pins σ' H' s'/\D.bk σ' H'
 | .cont=>∃ σ' H',Inv X pins σ' H' s'/\D.ct σ' H'
 | .ret u=>∃ v σ' H',Inv X pins σ' H' s'/\RelV v u/\D.rt v H'
def PE (X:Cx) (e:Expr) (t:TE):Prop :=
 ∀ (pins:List (Addr×Obj)) (s:Shared) (σ:St) (H:Hp) (Q:VK),Inv X pins σ H s->t σ H Q->wpAny (model X.prog X.w) X.A (eval e X.env) (EP X pins σ Q) X.xe s
def PT (X:Cx) (e:Expr) (t:TT):Prop :=
 ∀ (pins:List (Addr×Obj)) (s:Shared) (σ:St) (H:Hp) (Q:Bool->Hp->Prop),Inv X pins σ H s->t σ H Q->wpAny (model X.prog X.w) X.A (isTrue e X.env (eval e X.env)) (TP X pins σ Q) X.xe s
def PW (X:Cx) (e:Expr) (t:TT):Prop :=
 ∀ (whole:Sem Value) (pins:List (Addr×Obj)) (s:Shared) (σ:St) (H:Hp) (Q:Bool->Hp->Prop),Inv X pins σ H s->t σ H Q->wpAny (model X.prog X.w) X.A (isTrue e X.env whole) (TP X pins σ Q) X.xe s
theorem PW.pt {X:Cx} {e:Expr} {t:TT} (h:PW X e t):PT X e t:=h _
def PA (X:Cx) (es:List Expr) (t:TA):Prop :=
 ∀ (pos:Pos) (pins:List (Addr×Obj)) (s:Shared) (σ:St) (H:Hp) (Q:List V->Hp->Prop),Inv X pins σ H s->t σ H Q->wpAny (model X.prog X.w) X.A (spliced (backTo pos (starEach es X.env))) (AP X pins σ Q) X.xe s
def PS (X:Cx) (st:Stmt) (t:TS):Prop :=
 ∀ (pins:List (Addr×Obj)) (s:Shared) (σ:St) (H:Hp) (D:Ends),Inv X pins σ H s->t D σ H->wpAny (model X.prog X.w) X.A (exec st X.env) (SP X pins D) X.xe s
def nM (X:Cx) (st:List Stmt) (t:TS):Prop :=
 ∀ (pins:List (Addr×Obj)) (s:Shared) (σ:St) (H:Hp) (D:Ends),Inv X pins σ H s->t D σ H->wpAny (model X.prog X.w) X.A (execs st X.env) (SP X pins D) X.xe s
theorem cF {α:Type} {t:Sem α} {Q Q':α->Shared->Prop} {M:Model} {A:Around} {E:Value->Shared->Prop} {s:Shared} (h:wpAny M A t Q E s) (hQ:∀ a s,Q a s->Q' a s):wpAny M A t Q' E s:=wpAny_mono h hQ fun _ _ x=>x
end L2
namespace L2
open PySem PySem.Spec PyProof.Rows
section
variable {X:Cx}
def O5 (i:Nat):TE:=fun σ H Q=>∃ v,σ[i]?=some (some v)/\Q v H
def tC (v:V):TE:=fun _ H Q=>Q v H
theorem ph {i:Nat} {x:Str} {pos:Pos} (hN:X.N[i]?=some x) (hv:Bv X.env.scope x) (hd:(x==("__debug__" : Str))=false:=by decide) (hcd:(x==("__classdict__" : Str))=false:=by decide):PE X (.Name x pos) (O5 i):=by
 intro pins s σ H Q I h
 obtain ⟨v,e,h⟩:=h
 obtain ⟨m,hn,hl⟩:=I.loc
 obtain ⟨u,r,l⟩:=hl i x v hN e hv
 have fin:EP X pins σ Q u s:=⟨v,H,I,r,h⟩
 rcases l with ⟨hk,hm⟩ | ⟨hk,c,hc,hcell⟩
 ·exact wpAny_Name (wpAny_loadName_local I.ok.kind hk hn hm fin) hd
 ·rcases hk with hk | hk
  ·exact wpAny_Name (wpAny_loadName_cell I.ok.kind hk hc hcell fin) hd
  ·exact wpAny_Name (wpAny_loadName_free I.ok.kind hk hc hcell fin hcd) hd
theorem FN {i j pos}:PE X (.Constant (.int i) j pos) (tC (.int i)):=fun _ _ _ H _ I h=>wpAny_Constant_int ⟨.int i,H,I.tok _,⟨_,rfl⟩,h⟩
theorem Hi {b j pos}:PE X (.Constant (.bool b) j pos) (tC (.bl b)):=fun _ _ _ H _ I h=>Constant_bool ⟨.bl b,H,I,rfl,h⟩
theorem D7 {j pos}:PE X (.Constant .none j pos) (tC .c8):=fun _ _ _ H _ I h=>Constant_none ⟨.c8,H,I,rfl,h⟩
theorem Fh {x j pos}:PE X (.Constant (.str x) j pos) (tC (.str x)):=fun _ _ _ H _ I h=>Calls.Constant_str ⟨.str x,H,I.tok _,⟨_,rfl⟩,h⟩
def Gl (X:Cx) (x:Str):Prop:=X.env.kindOf x=some .globalImplicit
theorem lW {E:Value->Shared->Prop} {pins:List (Addr×Obj)} {s:Shared} {σ:St} {H:Hp} {x:Str} {u:Value} {pos:Pos} {Q:Value->Shared->Prop} (I:Inv X pins σ H s) (hg:Gl X x) (hm:X.mg x=some u) (h:Q u s)
  (hd:(x==("__debug__" : Str))=false:=by decide):wpAny (model X.prog X.w) X.A (eval (.Name x pos) X.env) Q E s :=
 Calls.Name_function_global I.ok.kind hg (Calls.loadGlobal_global (by rw [I.ok.glob];exact I.mod.glob.keeps I.bk) hm h) hd
theorem gX {E:Value->Shared->Prop} {pins:List (Addr×Obj)} {s:Shared} {σ:St} {H:Hp} {x:Str} {u:Value} {pos:Pos} {Q:Value->Shared->Prop} (I:Inv X pins σ H s) (hg:Gl X x) (hm:X.mg x=none) (hv:bootBuiltins x=some u) (h:Q u s)
  (hn:x ≠ "__name__" := by decide) (hd:(x==("__debug__" : Str))=false:=by decide):wpAny (model X.prog X.w) X.A (eval (.Name x pos) X.env) Q E s:=by
 obtain ⟨mb,h1,h2⟩:=I.mod.blt
 exact Calls.Name_function_global I.ok.kind hg (Calls.loadGlobal_builtin (by rw [I.ok.glob];exact I.mod.glob.keeps I.bk) hm (by rw [I.ok.blt];exact h1.keeps I.bk) ((h2 x hn).trans hv) h) hd
theorem BV {x:Str} {v:V} {u:Value} {pos:Pos} (hg:Gl X x) (hm:X.mg x=some u) (r:RelV v u) (hd:(x==("__debug__" : Str))=false:=by decide):PE X (.Name x pos) (tC v) :=
 fun _ _ _ H _ I h=>lW I hg hm ⟨v,H,I,r,h⟩ hd
theorem lV {x:Str} {v:V} {u:Value} {pos:Pos} (hg:Gl X x) (hm:X.mg x=none) (hv:bootBuiltins x=some u) (r:RelV v u) (hn:x ≠ "__name__" := by decide) (hd:(x==("__debug__" : Str))=false:=by decide):PE X (.Name x pos) (tC v) :=
 fun _ _ _ H _ I h=>gX I hg hm hv ⟨v,H,I,r,h⟩ hn hd
variable {a b:Expr} {ta tb:TE} {pos:Pos}
def tB (t:TE):TT:=fun σ H Q=>t σ H fun x H1=>∃ c,x=.bl c/\Q c H1
theorem Ex {e:Expr} {t:TE} (h:PE X e t) (he:∀ whole,isTrue e X.env whole=(do let v ← whole;standAt e.pos;holding [v] (truthy v)):=by intro _;rfl):PT X e (tB t):=by
 intro pins s σ H Q I hw
 refine isTrue_plain (cF (h pins s σ H _ I hw) fun v s1 ⟨x,H1,I1,r1,q1⟩=>?_) (he _)
 obtain ⟨d,rfl,q⟩:=q1
 cases r1
 exact wpAny_truthy_bool ⟨H1,I1,q⟩
variable {tA tB':TT} {rest:List Expr}
def RV (t u:TT):TT:=fun σ H Q=>t σ H fun c H1=>if c=true then Q true H1 else u σ H1 Q
def Ka (t:TT):TT:=fun σ H Q=>t σ H fun c H1=>Q (!c) H1
theorem pw_or1 (ha:PT X a tA):PW X (.BoolOp .Or [a] pos) tA:=by
 intro wh pins s σ H Q I h
 refine isTrue_or (cF (ha pins s σ H Q I h) fun c s1 e=>?_)
 cases c with
 | false=>exact isTrue_or_nil e
 | true=>exact e
theorem pw_or (ha:PT X a tA) (hb:PW X (.BoolOp .Or (b::rest) pos) tB'):PW X (.BoolOp .Or (a::b::rest) pos) (RV tA tB'):=by
 intro wh pins s σ H Q I h
 refine isTrue_or (cF (ha pins s σ H _ I h) fun c s1 ⟨H1,I1,q1⟩=>?_)
 cases c with
 | true=>exact ⟨H1,I1,q1⟩
 | false=>exact hb wh pins s1 σ H1 Q I1 q1
theorem E8 (ha:PT X a tA):PT X (.UnaryOp .Not a pos) (Ka tA):=by
 intro pins s σ H Q I h
 exact isTrue_not (ha pins s σ H (fun c H1=>Q (!c) H1) I h)
def F9 (ta tb:TE):TE:=fun σ H Q=>ta σ H fun x H1=>∃ c,x=.bl c/\if c=true then tb σ H1 Q else Q (.bl false) H1
def G_ (ta:TE):TE:=fun σ H Q=>ta σ H fun x H1=>∃ c,x=.bl c/\Q (.bl (!c)) H1
theorem AJ {op} {t:TE} (h:PE X a t):PE X (.BoolOp op [a] pos) t:=fun pins s σ H Q I hw=>BoolOp_one (h pins s σ H Q I hw)
theorem Ey (ha:PE X a ta) (hb:PE X (.BoolOp .And (b::rest) pos) tb):PE X (.BoolOp .And (a::b::rest) pos) (F9 ta tb):=by
 intro pins s σ H Q I h
 refine BoolOp_and (cF (ha pins s σ H _ I h) fun v s1 ⟨x,H1,I1,r1,q1⟩=>?_)
 obtain ⟨c,rfl,q1⟩:=q1
 cases r1
 refine wpAny_truthy_bool ?_
 cases c with
 | true=>exact hb pins s1 σ H1 Q I1 q1
 | false=>exact ⟨.bl false,H1,I1,rfl,q1⟩
theorem ES (ha:PE X a ta):PE X (.UnaryOp .Not a pos) (G_ ta):=by
 intro pins s σ H Q I h
 refine UnaryOp_ (cF (ha pins s σ H _ I h) fun v s1 ⟨x,H1,I1,r1,q1⟩=>?_)
 obtain ⟨c,rfl,q1⟩:=q1
 cases r1
 exact not_of (wpAny_truthy_bool ⟨.bl (!c),H1,I1,rfl,q1⟩)
def R7 (t:TT) (ta tb:TE):TE:=fun σ H Q=>t σ H fun c H1=>if c=true then ta σ H1 Q else tb σ H1 Q
theorem A0 {c:Expr} (hc:PT X c tA) (ha:PE X a ta) (hb:PE X b tb):PE X (.IfExp c a b pos) (R7 tA ta tb):=by
 intro pins s σ H Q I h
 refine wpAny_IfExp (cF (hc pins s σ H _ I h) fun d s1 ⟨H1,I1,q1⟩=>?_)
 cases d with
 | true=>exact ha pins s1 σ H1 Q I1 q1
 | false=>exact hb pins s1 σ H1 Q I1 q1
end
end L2
namespace L2
open PySem PySem.Spec PyProof.Rows
def iM (K:PySem.W.Frag) (H:Hp) (a:Addr) (xs:List V):Prop :=
 Rd H a (.lst xs) ∨
  ∃ (o:Obj) (its:Array Value) (n:Nat),K.lookup a=some o/\o.cls=.type "list" /\ o.dict=none/\o.data=.seq its n/\its.size<=sizeLine/\Vals xs its.toList
def ji (K:PySem.W.Frag) (H:Hp) (a:Addr) (xs:List V):Prop :=
 Rd H a (.tup xs) ∨
  ∃ (o:Obj) (its:Array Value) (n:Nat),K.lookup a=some o/\o.cls=.type "tuple" /\ o.data=.seq its n/\its.size<=sizeLine/\Vals xs its.toList
def JI:Value->Option V
 | .none=>some .c8
 | .bool b=>some (.bl b)
 | .int i _=>some (.int i)
 | .str x _=>some (.str x)
 | .bytes b _=>some (.byt b)
 | .float b _=>some (.Dg b)
 | .ref a=>some (.ref a)
 | .type n=>some (.ty n)
 | _=>none
theorem RelV.abs {x:V} {u:Value} (r:RelV x u):JI u=some x:=by
 cases x with
 | c8=>cases r;rfl
 | bl _=>cases r;rfl
 | int _=>obtain ⟨t,rfl⟩:=r;rfl
 | str _=>obtain ⟨t,rfl⟩:=r;rfl
 | byt _=>obtain ⟨t,rfl⟩:=r;rfl
 | Dg _=>obtain ⟨t,rfl⟩:=r;rfl
 | ref _=>cases r;rfl
 | ty _=>cases r;rfl
theorem RelV.inj {x y:V} {u:Value} (r:RelV x u) (q:RelV y u):x=y:=Option.some.inj (r.abs.symm.trans q.abs)
theorem Vals.inj:∀ {xs ys:List V} {us:List Value},Vals xs us->Vals ys us->xs=ys
 | _,_,_,.nil,.nil=>rfl
 | _,_,_,.cons r t,.cons r' t'=>by rw [r.inj r',Vals.inj t t']
section
variable {X:Cx} {pins:List (Addr×Obj)} {σ:St} {H:Hp} {s:Shared} {a:Addr} {xs ys:List V}
theorem iM.of {K:PySem.W.Frag} (h:H a=some (.lst xs)):iM K H a xs:=.inl (.inl h)
theorem ji.of {K:PySem.W.Frag} (h:H a=some (.tup xs)):ji K H a xs:=.inl (.inl h)
theorem Inv.list (I:Inv X pins σ H s) (h:iM X.K H a xs):∃ its:List Value,Vals xs its/\PlainL s.heap a its.toArray/\xs.length<=sizeLine:=by
 rcases h with h | ⟨o,its,n,hk,hc,hd,hs,hz,r⟩
 ·obtain ⟨z,its,n,r,e⟩:=h.ok I.bu
  exact ⟨its,r,⟨_,n,e,rfl,rfl,rfl⟩,z⟩
 ·refine ⟨its.toList,r,⟨o,n,I.jO a o hk,hc,hd,by simpa using hs⟩,?_⟩
  have e:=r.length
  simp only [Array.length_toList] at e
  omega
theorem Inv.tuple (I:Inv X pins σ H s) (h:ji X.K H a xs):∃ its:List Value,Vals xs its/\IsTup s.heap a its.toArray/\xs.length<=sizeLine:=by
 rcases h with h | ⟨o,its,n,hk,hc,hs,hz,r⟩
 ·obtain ⟨z,its,r,p⟩:=h.ok I.bu
  exact ⟨its,r,p,z⟩
 ·refine ⟨its.toList,r,⟨o,I.jO a o hk,hc,n,by simpa using hs⟩,?_⟩
  have e:=r.length
  simp only [Array.length_toList] at e
  omega
theorem Inv.oK (I:Inv X pins σ H s) (h:iM X.K H a xs) (h':iM X.K H a ys):xs=ys:=by
 obtain ⟨its,r,⟨o,n,e,_,_,d⟩,_⟩:=I.list h
 obtain ⟨its',r',⟨o',n',e',_,_,d'⟩,_⟩:=I.list h'
 rw [e] at e';cases e'
 rw [d] at d'
 injection d' with d1 _
 have:its=its':=by simpa using congrArg Array.toList d1
 subst this
 exact r.inj r'
theorem Inv.rj (I:Inv X pins σ H s) (h:ji X.K H a xs) (h':ji X.K H a ys):xs=ys:=by
 obtain ⟨its,r,⟨o,e,_,n,d⟩,_⟩:=I.tuple h
 obtain ⟨its',r',⟨o',e',_,n',d'⟩,_⟩:=I.tuple h'
 rw [e] at e';cases e'
 rw [d] at d'
 injection d' with d1 _
 have:its=its':=by simpa using congrArg Array.toList d1
 subst this
 exact r.inj r'
end
abbrev Cx.pV (X:Cx) (E:Value->Shared->Prop):Cx:={ X with xe:=E }
theorem Cx.Ok.pV {X:Cx} (ok:X.Ok) (E:Value->Shared->Prop):(X.pV E).Ok :=
 ⟨ok.mod,ok.kind,ok.glob,ok.blt,ok.above,ok.inj,ok.has,ok.Gx,ok.hd,ok.frames,ok.HI,ok.HJ,ok.bs,ok.B_,ok.wc,ok.yr,ok.nF,ok.DT⟩
theorem Cx.Ok.iu {X:Cx} {E:Value->Shared->Prop} (ok:(X.pV E).Ok):X.Ok :=
 ⟨ok.mod,ok.kind,ok.glob,ok.blt,ok.above,ok.inj,ok.has,ok.Gx,ok.hd,ok.frames,ok.HI,ok.HJ,ok.bs,ok.B_,ok.wc,ok.yr,ok.nF,ok.DT⟩
section
variable {X:Cx} {pins:List (Addr×Obj)} {σ:St} {H:Hp} {s:Shared} {E:Value->Shared->Prop}
theorem Inv.pV (I:Inv X pins σ H s) (E:Value->Shared->Prop):Inv (X.pV E) pins σ H s:=⟨I.ok.pV E,I.os,I.bare,I.base,I.loc,I.cell,I.free,I.jI,I.pin,I.bu,I.len⟩
theorem Inv.iu (I:Inv (X.pV E) pins σ H s):Inv X pins σ H s:=⟨I.ok.iu,I.os,I.bare,I.base,I.loc,I.cell,I.free,I.jI,I.pin,I.bu,I.len⟩
theorem SP.iu {D:Ends} {f:Flow} {s':Shared} (h:SP (X.pV E) pins D f s'):SP X pins D f s':=by
 cases f with
 | next=>obtain ⟨σ',H',I,q⟩:=h;exact ⟨σ',H',I.iu,q⟩
 | brk=>obtain ⟨σ',H',I,q⟩:=h;exact ⟨σ',H',I.iu,q⟩
 | cont=>obtain ⟨σ',H',I,q⟩:=h;exact ⟨σ',H',I.iu,q⟩
 | ret u=>obtain ⟨v,σ',H',I,r,q⟩:=h;exact ⟨v,σ',H',I.iu,r,q⟩
end
section
variable {X:Cx} {st:Stmt} {rest:List Stmt} {t u:TS} {e:Expr} {te:TE} {pos:Pos}
def GV:TS:=fun D σ H=>D.nx σ H
def NO (t u:TS):TS:=fun D σ H=>t { D with nx:=u D } σ H
theorem Cv:nM X [] GV:=fun _ _ σ H _ I h=>wpAny_execs_nil ⟨σ,H,I,h⟩
theorem yP (h1:PS X st t) (h2:nM X rest u):nM X (st::rest) (NO t u):=by
 intro pins s σ H D I h
 refine wpAny_execs_cons (cF (h1 pins s σ H { D with nx:=u D } I h) fun f s1 q=>?_)
 cases f with
 | next =>
  obtain ⟨σ',H',I',q⟩:=q
  exact h2 pins s1 σ' H' D I' q
 | ret v=>exact q
 | brk=>exact q
 | cont=>exact q
theorem wU (h1:PS X st t):nM X [st] t:=by
 intro pins s σ H D I h
 refine wpAny_execs_cons (cF (h1 pins s σ H D I h) fun f s1 q=>?_)
 cases f with
 | next=>exact wpAny_execs_nil q
 | ret v=>exact q
 | brk=>exact q
 | cont=>exact q
theorem Inv.quiet {pins:List (Addr×Obj)} {σ:St} {H:Hp} {s:Shared} (I:Inv X pins σ H s):interactive X.env=false:=by simp [interactive,I.ok.kind]
def GA (te:TE):TS:=fun D σ H=>te σ H fun _ H1=>D.nx σ H1
theorem wF (he:PE X e te) (hs:swapsWith e none pos.line X.env=pure false:=by rfl):PS X (.Expr e pos) (GA te):=by
 intro pins s σ H D I h
 exact wpAny_Expr_any (cF (he pins s σ H _ I h) fun v s1 ⟨x,H1,I1,r1,q1⟩=>⟨σ,H1,I1,q1⟩) I.quiet hs
def MW (te:TE):TS:=fun D σ H=>te σ H D.rt
theorem za (he:PE X e te):PS X (.Return (some e) pos) (MW te):=by
 intro pins s σ H D I h
 exact wpAny_Return_some (cF (he pins s σ H _ I h) fun v s1 ⟨x,H1,I1,r1,q1⟩=>⟨x,σ,H1,I1,r1,q1⟩)
def NQ (c:TT) (t u:TS):TS:=fun D σ H=>c σ H fun b H1=>if b=true then t D σ H1 else u D σ H1
theorem Gg {c:Expr} {a b:List Stmt} {tc:TT} (hc:PT X c tc) (ha:nM X a t) (hb:nM X b u):PS X (.If c a b pos) (NQ tc t u):=by
 intro pins s σ H D I h
 refine wpAny_If (cF (hc pins s σ H _ I h) fun d s1 ⟨H1,I1,q1⟩=>?_)
 cases d with
 | true=>exact ha pins s1 σ H1 D I1 q1
 | false=>exact hb pins s1 σ H1 D I1 q1
end
abbrev TG:=V->St->Hp->(St->Hp->Prop)->Prop
abbrev Er:=List V->St->Hp->(St->Hp->Prop)->Prop
def PG (X:Cx) (target:Expr) (t:TG):Prop :=
 ∀ (pins:List (Addr×Obj)) (s:Shared) (σ:St) (H:Hp) (v:V) (u:Value) (Q:St->Hp->Prop),Inv X pins σ H s->RelV v u->t v σ H Q ->
  wpAny (model X.prog X.w) X.A (assign target X.env u) (fun _ s'=>∃ σ' H',Inv X pins σ' H' s'/\Q σ' H') X.xe s
def HM (X:Cx) (ts:List Expr) (t:Er):Prop :=
 ∀ (pins:List (Addr×Obj)) (s:Shared) (σ:St) (H:Hp) (vs:List V) (us:List Value) (Q:St->Hp->Prop),Inv X pins σ H s->Vals vs us->t vs σ H Q ->
  wpAny (model X.prog X.w) X.A (assignInOrder ((assignEach ts X.env).map (·.2)) us) (fun _ s'=>∃ σ' H',Inv X pins σ' H' s'/\Q σ' H') X.xe s
section
variable {X:Cx} {pos:Pos}
def aV (i:Nat):TG:=fun v σ H Q=>Q (σ.set i (some v)) H
theorem aL {i:Nat} {x:Str} (hN:X.N.Nodup) (hi:X.N[i]?=some x) (hx:Loc X.env.scope x) (hf:X.fn x=true\/X.env.scope.names.lookup x=some .local:=by first | exact .inl rfl | exact .inr rfl | assumption):PG X (.Name x pos) (aV i):=by
 intro pins s σ H v u Q I r h
 exact wpAny_assign_Name (uk I hN hi hx r (fun s' I'=>⟨_,H,I',h⟩) hf)
def ku:Er:=fun vs σ H Q=>vs=[]/\Q σ H
def bS (t:TG) (u:Er):Er:=fun vs σ H Q=>∃ v r,vs=v::r/\t v σ H fun σ' H'=>u r σ' H' Q
theorem dz:HM X [] ku:=by
 intro pins s σ H vs us Q I r h
 obtain ⟨e,h⟩:=h
 subst e
 cases r
 exact assignInOrder_nil ⟨σ,H,I,h⟩
theorem aW {e:Expr} {es:List Expr} {t:TG} {u:Er} (h1:PG X e t) (h2:HM X es u)
  (hs:(assignEach (e::es) X.env).map (·.2)=assign e X.env::(assignEach es X.env).map (·.2):=by rfl):HM X (e::es) (bS t u):=by
 intro pins s σ H vs us Q I r h
 obtain ⟨v,vr,e1,h⟩:=h
 subst e1
 cases r with
 | cons r rr =>
  rw [hs]
  refine assignInOrder_cons (cF (h1 pins s σ H _ _ _ I r h) fun _ s1 ⟨σ1,H1,I1,q1⟩=>?_)
  exact h2 pins s1 σ1 H1 _ _ Q I1 rr q1
def kA (K:PySem.W.Frag) (n:Nat) (t:Er):TG:=fun v σ H Q=>∃ a xs,v=.ref a/\ji K H a xs/\xs.length=n/\t xs σ H Q
theorem fe {es:List Expr} {k:Nat} {t:Er} {n:Nat} (hc:X.calm=true) (h:HM X es t)
  (hn:(assignEach es X.env).length=n:=by rfl) (hst:(assignEach es X.env).findIdx? (·.1)=none:=by rfl):PG X (.Tuple es k pos) (kA X.K n t):=by
 intro pins s σ H v u Q I r hw
 obtain ⟨a,xs,e1,hq,hl,hw⟩:=hw
 subst e1
 cases r
 obtain ⟨its,rv,ht,hz⟩:=I.tuple hq
 refine assign_Tuple_tuple (I.ok.hd hc) ht (by simp [hn,← hl,rv.length]) hst fun h' hx=>?_
 have I1:Inv X pins σ H { s with heap:=h' }:=I.kept (t':=s.toks) fun b o e=>hx b o (Nat.ne_of_lt (Heap.lt_size e)) e
 exact h pins _ σ H xs _ Q I1 (by simpa using rv) hw
def Hf (te:TE) (g:TG):TS:=fun D σ H=>te σ H fun x H1=>g x σ H1 D.nx
theorem Ah {i:Nat} {x:Str} {e:Expr} {te:TE} {pos':Pos} (hN:X.N.Nodup) (hi:X.N[i]?=some x) (hx:Loc X.env.scope x) (he:PE X e te) (hs:swapsWith e (some (.Name x pos')) pos.line X.env=pure false:=by rfl) (hf:X.fn x=true\/X.env.scope.names.lookup x=some .local:=by first | exact .inl rfl | exact .inr rfl | assumption) :
  PS X (.Assign [.Name x pos'] e pos) (Hf te (aV i)):=by
 intro pins s σ H D I h
 refine wpAny_Assign_Name (cF (he pins s σ H _ I h) fun v s1 ⟨y,H1,I1,r1,q1⟩=>?_) hs
 exact uk I1 hN hi hx r1 (fun s2 I2=>⟨_,H1,I2,q1⟩) hf
end
section
variable {X:Cx} {pos:Pos}
def D6 (c:TT) (tb:TS):TS:=fun D σ H=>∃ W:Nat->St->Hp->Prop,(∃ m,W m σ H)/\∀ m σ H,W m σ H ->
 c σ H fun b H1=>if b=true then ∃ N:St->Hp->Prop,(∀ σ' H',N σ' H'->∃ m',m'<m/\W m' σ' H')/\tb { D with nx:=N,ct:=N,bk:=D.nx } σ H1 else D.nx σ H1
theorem Bq {c:Expr} {body:List Stmt} {tc:TT} {tb:TS} (hp:PassesOwn (model X.prog X.w) X.A X.env X.xe) (hc:PT X c tc) (hb:nM X body tb):PS X (.While c body [] pos) (D6 tc tb):=by
 intro pins s σ H D I h
 obtain ⟨W,⟨m0,w0⟩,turn⟩:=h
 refine wpAny_While (codeAny_whileLoop (fun n s'=>∃ σ' H',Inv X pins σ' H' s'/\W n σ' H') ?_ m0 ⟨σ,H,I,w0⟩)
 rintro n s1 ⟨σ1,H1,I1,w1⟩
 refine wpAny_passesOwn hp (cF (hc pins s1 σ1 H1 _ I1 (turn n σ1 H1 w1)) fun b s2 ⟨H2,I2,q2⟩=>?_)
 cases b with
 | true =>
  obtain ⟨N,hN,q2⟩:=q2
  rw [if_pos rfl]
  refine wpAny_passesOwn hp (cF (hb pins s2 σ1 H2 _ I2 q2) fun f s3 q3=>?_)
  cases f with
  | next =>
   obtain ⟨σ3,H3,I3,n3⟩:=q3
   obtain ⟨m',hm,w3⟩:=hN σ3 H3 n3
   exact ⟨m',hm,σ3,H3,I3,w3⟩
  | cont =>
   obtain ⟨σ3,H3,I3,n3⟩:=q3
   obtain ⟨m',hm,w3⟩:=hN σ3 H3 n3
   exact ⟨m',hm,σ3,H3,I3,w3⟩
  | brk=>exact q3
  | ret v=>exact q3
 | false =>
  rw [if_neg Bool.false_ne_true]
  exact wpAny_execs_nil ⟨σ1,H2,I2,q2⟩
end
structure It where
 go:Nat->Hp->Prop
 uZ:Nat->Hp->V->Hp->Prop
 stop:Nat->Hp->Prop
def k9 (X:Cx) (pins:List (Addr×Obj)) (H:Hp) (b:Addr):Prop :=
 H b=none/\b≠X.env.locals/\b ∉ X.fs/\(b∈X.ex\/X.s₀.heap.objs.size<=b)/\(∀ x c,X.env.cells.lookup x=some c->c≠b)/\∀ p∈X.pn++pins,p.1≠b
theorem Inv.pS {X:Cx} {pins:List (Addr×Obj)} {σ:St} {H H':Hp} {s:Shared} {b:Addr} (I:Inv X pins σ H s) (hb:s.heap.objs.size<=b) (hn:H' b=none):k9 X pins H' b:=by
 refine ⟨hn,Nat.ne_of_gt (Nat.lt_of_lt_of_le I.lt hb),I.KQ hb,.inr (Nat.le_trans I.sz hb),fun x c e z=>?_,fun p hp z=>?_⟩
 ·obtain ⟨v,q⟩:=I.cell x c e
  exact absurd (Nat.lt_of_lt_of_le q.lt (by rw [z];exact hb)) (Nat.lt_irrefl _)
 ·exact absurd (Nat.lt_of_lt_of_le (Heap.lt_size (I.pin p hp).1) (by rw [z];exact hb)) (Nat.lt_irrefl _)
structure Turn (P:Program) (w:World) (K:PySem.W.Frag) (tg:Expr) (J:It) (fp:List Addr) (it:Addr) (tn:Nat->Heap->Prop):Prop where
 mem:it∈fp
 obj:∀ i h,tn i h->∀ b∈fp,∃ o,h.get? b=some o/\∀ v,o.data≠.cell v
 keep:∀ i h h',tn i h->(∀ b∈fp,∀ o,h.get? b=some o->h'.get? b=some o)->tn i h'
 item:∀ (X:Cx),X.prog=P->X.w=w->X.K=K->X.calm=true->∀ (i:Nat) (pins:List (Addr×Obj)) (s:Shared) (σ:St) (H:Hp) (E:Value->Shared->Prop),Inv X pins σ H s->(∀ b∈fp,k9 X pins H b)->tn i s.heap->J.go i H ->
  wpAny (model P w) X.A (pyNext (.ref it)) (fun r s1=>∃ u,r=some u ∧
   wpAny (model P w) X.A (letOwnedTupleGo tg (.ref it) u) (fun _ s2=>∃ x H',Inv X pins σ H' s2/\RelV x u/\J.uZ i H x H'/\tn (i+1) s2.heap/\∀ b∈fp,H' b=none) E s1) E s
 done:∀ (X:Cx),X.prog=P->X.w=w->X.K=K->X.calm=true->∀ (i:Nat) (pins:List (Addr×Obj)) (s:Shared) (σ:St) (H:Hp) (E:Value->Shared->Prop),Inv X pins σ H s->(∀ b∈fp,k9 X pins H b)->tn i s.heap->J.stop i H ->
  wpAny (model P w) X.A (pyNext (.ref it)) (fun r s1=>r=none/\Inv X pins σ H s1) E s
 self:∀ (A:Around) (i:Nat) (s:Shared) (Q:Value->Shared->Prop) (E:Value->Shared->Prop),tn i s.heap->Q (.ref it) s->wpAny (model P w) A (pyIter (.ref it)) Q E s
abbrev TI:=St->Hp->(It->Hp->Prop)->Prop
def Kb (X:Cx) (pins:List (Addr×Obj)) (σ:St) (tg:Expr) (R:It->Hp->Prop) (itv:Value) (s2:Shared):Prop :=
 ∃ (it:Addr) (fp:List Addr) (tn:Nat->Heap->Prop) (J:It) (H':Hp),itv=.ref it/\Inv X pins σ H' s2/\Turn X.prog X.w X.K tg J fp it tn/\tn 0 s2.heap/\(∀ b∈fp,k9 X pins H' b)/\R J H'
def PI (X:Cx) (tg iter:Expr) (wi:TI):Prop :=
 ∀ (pins:List (Addr×Obj)) (s:Shared) (σ:St) (H:Hp) (R:It->Hp->Prop),Inv X pins σ H s->wi σ H R ->
  wpAny (model X.prog X.w) X.A (eval iter X.env) (fun v s1=>wpAny (model X.prog X.w) X.A (pyIter v) (Kb X pins σ tg R) X.xe s1) X.xe s
theorem wC {M : Model} {A : Around} {E : Value -> Shared -> Prop} {s : Shared} {tg : Expr} {it : Addr} {u : Value} {o : Obj} {n : String} {vs : Array Value} {Q : Unit -> Shared -> Prop} (ho : s.heap.get? it = some o) (hc : o.cls = .type n) (hd : o.data = .fields vs)
    (hn : ["enumerate", "zip", "dict_itemiterator", "dict_reverseitemiterator", "odict_iterator", "itertools.zip_longest", "itertools.pairwise"].contains n = false) (hQ : Q () s) : wpAny M A (letOwnedTupleGo tg (.ref it) u) Q E s := by
  unfold letOwnedTupleGo
  cases tg <;> first
    | exact wpAny_pure hQ
    | (cases u <;> first
        | exact wpAny_pure hQ
        | (refine wpAny_bind (wpAny_load ho ?_)
           rw [hc, hd]
           show wpAny M A (if (["enumerate", "zip", "dict_itemiterator", "dict_reverseitemiterator", "odict_iterator", "itertools.zip_longest", "itertools.pairwise"].contains n && vs[0]? == some (rawInt _)) = true then _ else _) Q E s
           rw [if_neg (by intro h; rw [hn, Bool.false_and] at h; cases h)]
           exact wpAny_pure hQ))
def QF (K:PySem.W.Frag) (a:Addr):It :=
 ⟨fun i H=>∃ xs x,iM K H a xs/\xs[i]?=some x,fun i H x H'=>H'=H/\∀ xs,iM K H a xs->xs[i]?=some x,fun i H=>∃ xs,iM K H a xs/\xs.length<=i⟩
def Ra (K:PySem.W.Frag) (a:Addr):It :=
 ⟨fun i H=>∃ xs x,ji K H a xs/\xs[i]?=some x,fun i H x H'=>H'=H/\∀ xs,ji K H a xs->xs[i]?=some x,fun i H=>∃ xs,ji K H a xs/\xs.length<=i⟩
def GU (lo:Int) (n:Nat):It:=⟨fun i _=>i<n,fun i H x H'=>H'=H/\x=.int (lo+i),fun i _=>n<=i⟩
theorem yc {P:Program} {w:World} {K:PySem.W.Frag} {tg:Expr} (a it:Addr):Turn P w K tg (QF K a) [it] it (fun i h=>h.IsListIter it a i) where
 mem:=by simp
 obj:=fun i h st b hb=>by
  have e:b=it:=by simpa using hb
  subst e
  obtain ⟨o,e,c,d⟩:=st
  exact ⟨o,e,fun v z=>by rw [d] at z;cases z⟩
 keep:=fun i h h' st k=>st.at fun o e=>k it (by simp) o e
 item:=by
  intro X hP hw hK hc i pins s σ H E I hf st hg
  subst hP hw hK
  obtain ⟨xs,x,hq,hx⟩:=hg
  obtain ⟨its,rv,p,hz⟩:=I.list hq
  obtain ⟨u,hu,ru⟩:=rv.get hx
  obtain ⟨f0,f1,f2,f3,f4,f5⟩:=hf it (by simp)
  refine wpAny_pyNext_list_item st p.isList (x:=u) (by simpa using hu) fun h' st' sb=>?_
  have I1:Inv X pins σ H { s with heap:=h' }:=I.turned (t':=s.toks) (fun b o hb e=>(sb.2 b hb).trans e) f0 f1 f3 f4 f5
  obtain ⟨o,e,c,d⟩:=id st'
  exact ⟨u,rfl,wC (s:={ s with heap:=h' }) e c d (by decide) ⟨x,H,I1,ru,⟨rfl,fun ys hy=>by rw [I.oK hy hq];exact hx⟩,st',fun b hb=>(hf b hb).1⟩⟩
 done:=by
  intro X hP hw hK hc i pins s σ H E I hf st hg
  subst hP hw hK
  obtain ⟨xs,hq,hx⟩:=hg
  obtain ⟨its,rv,p,hz⟩:=I.list hq
  obtain ⟨f0,f1,f2,f3,f4,f5⟩:=hf it (by simp)
  have hl:=rv.length
  exact wpAny_pyNext_list_end (I.ok.hd hc) st p.isList (by simp;omega) fun h' eb=>⟨rfl,I.turned (t':=s.toks) (fun b o hb e=>eb b o hb e) f0 f1 f3 f4 f5⟩
 self:=fun _ _ _ _ _ st h=>wpAny_pyIter_listiter st h
theorem vi {P:Program} {w:World} {K:PySem.W.Frag} {tg:Expr} (a it:Addr):Turn P w K tg (Ra K a) [it] it (fun i h=>h.IsTupleIter it a i) where
 mem:=by simp
 obj:=fun i h st b hb=>by
  have e:b=it:=by simpa using hb
  subst e
  obtain ⟨o,e,c,d⟩:=st
  exact ⟨o,e,fun v z=>by rw [d] at z;cases z⟩
 keep:=fun i h h' st k=>st.at fun o e=>k it (by simp) o e
 item:=by
  intro X hP hw hK hc i pins s σ H E I hf st hg
  subst hP hw hK
  obtain ⟨xs,x,hq,hx⟩:=hg
  obtain ⟨its,rv,p,hz⟩:=I.tuple hq
  obtain ⟨u,hu,ru⟩:=rv.get hx
  obtain ⟨f0,f1,f2,f3,f4,f5⟩:=hf it (by simp)
  refine wpAny_pyNext_tuple_item st (show s.heap.IsTuple a its.toArray from p) (x:=u) (by simpa using hu) fun h' st' sb=>?_
  have I1:Inv X pins σ H { s with heap:=h' }:=I.turned (t':=s.toks) (fun b o hb e=>(sb.2 b hb).trans e) f0 f1 f3 f4 f5
  obtain ⟨o,e,c,d⟩:=id st'
  exact ⟨u,rfl,wC (s:={ s with heap:=h' }) e c d (by decide) ⟨x,H,I1,ru,⟨rfl,fun ys hy=>by rw [I.rj hy hq];exact hx⟩,st',fun b hb=>(hf b hb).1⟩⟩
 done:=by
  intro X hP hw hK hc i pins s σ H E I hf st hg
  subst hP hw hK
  obtain ⟨xs,hq,hx⟩:=hg
  obtain ⟨its,rv,p,hz⟩:=I.tuple hq
  obtain ⟨f0,f1,f2,f3,f4,f5⟩:=hf it (by simp)
  have hl:=rv.length
  exact wpAny_pyNext_tuple_end (I.ok.hd hc) st (show s.heap.IsTuple a its.toArray from p) (by simp;omega) fun h' eb=>⟨rfl,I.turned (t':=s.toks) (fun b o hb e=>eb b o hb e) f0 f1 f3 f4 f5⟩
 self:=fun _ _ _ _ _ st h=>wpAny_pyIter_tupleiter st h
theorem v7 {P:Program} {w:World} {K:PySem.W.Frag} {tg:Expr} (it:Addr) (lo:Int) (n:Nat):Turn P w K tg (GU lo n) [it] it (fun i h=>IsRangeIter h it (lo+(i:Nat)*1) ((n:Int)-(i:Nat)) 1) where
 mem:=by simp
 obj:=fun i h st b hb=>by
  have e:b=it:=by simpa using hb
  subst e
  exact ⟨_,st,fun v z=>by
   have z':Data.fields _=Data.cell v:=z
   cases z'⟩
 keep:=fun i h h' st k=>k it (by simp) _ st
 item:=by
  intro X hP hw hK hc i pins s σ H E I hf st hg
  subst hP hw hK
  obtain ⟨f0,f1,f2,f3,f4,f5⟩:=hf it (by simp)
  have W:=Walks.range (prog:=X.prog) (w:=X.w) (I.ok.hd hc) it lo 1 n
  refine W.item i s _ _ hg st fun v h' tk hv st' kk=>?_
  obtain ⟨t,rfl⟩:=hv
  have I1:Inv X pins σ H { s with heap:=h',toks:=tk }:=I.turned (fun b o hb e=>kk b o (by simpa using hb) e) f0 f1 f3 f4 f5
  refine ⟨_,rfl,wC (s:={ s with heap:=h',toks:=tk }) (n := "range_iterator") st' rfl rfl (by decide) ⟨.int (lo+i),H,I1,⟨t,?_⟩,⟨rfl,rfl⟩,st',fun b hb=>(hf b hb).1⟩⟩
  rw [Int.mul_one]
 done:=by
  intro X hP hw hK hc i pins s σ H E I hf st hg
  subst hP hw hK
  obtain ⟨f0,f1,f2,f3,f4,f5⟩:=hf it (by simp)
  exact wpAny_pyNext_range_end (I.ok.hd hc) st (by have:n<=i:=hg;omega) fun h' eb=>⟨rfl,I.turned (t':=s.toks) (fun b o hb e=>eb b o hb e) f0 f1 f3 f4 f5⟩
 self:=fun _ _ _ _ _ st h=>wpAny_pyIter_rangeiter st h
end L2
namespace L2
open PySem PySem.Spec PyProof.Rows
section
variable {X:Cx} {tg:Expr}
theorem uA {pins:List (Addr×Obj)} {σ:St} {H:Hp} {s:Shared} {R:It->Hp->Prop} {E:Value->Shared->Prop} {lo hi:Int} {t u v:Tok} {tk:Nat} (I:Inv X pins σ H s) (h1:-(2^62)<=lo) (h2:lo<2^62) (h3:-(2^62)<=hi) (h4:hi<2^62)
  (q:R (GU lo (hi-lo).toNat) H):wpAny (model X.prog X.w) X.A (pyIter (.ref s.heap.objs.size)) (Kb X pins σ tg R) E { s with heap:=s.heap.push { cls:=.type "range", data:=.fields #[.int lo t,.int hi u,.int 1 v] },toks:=tk }:=by
 refine wpAny_pyIter_range (IsRange.new ..) (small_one h1 h2 h3 h4) ?_
 have I1:Inv X pins σ H { s with heap:=s.heap.push { cls:=.type "range", data:=.fields #[.int lo t,.int hi u,.int 1 v] },toks:=tk }:=I.kept fun b o e=>Heap.get?_push_of_some _ e
 refine ⟨(s.heap.push { cls:=.type "range", data:=.fields #[.int lo t,.int hi u,.int 1 v] }).objs.size,[(s.heap.push { cls:=.type "range", data:=.fields #[.int lo t,.int hi u,.int 1 v] }).objs.size],_,_,H,rfl,
  I1.kept (t':=tk) fun b o e=>Heap.get?_push_of_some _ e,v7 _ lo (hi-lo).toNat,?_,fun b hb=>?_,q⟩
 ·have e1:lo+((0:Nat):Int)*1=lo:=by simp
  have e2:(((hi-lo).toNat:Nat):Int)-((0:Nat):Int)=Builtin.Range.rangeSize lo hi 1:=by rw [rangeSize_one];split <;> omega
  show IsRangeIter _ _ (lo+((0:Nat):Int)*1) ((((hi-lo).toNat:Nat):Int)-((0:Nat):Int)) 1
  rw [e1,e2]
  exact Heap.get?_push_size _ rfl
 ·have e:b=(s.heap.push { cls:=.type "range", data:=.fields #[.int lo t,.int hi u,.int 1 v] }).objs.size:=by simpa using hb
  subst e
  exact I1.pS (Nat.le_refl _) (I1.bu.fresh (Nat.le_refl _))
def C9 (ta:TA):TI:=fun σ H R=>ta σ H fun vs H1=>∃ j:Int,vs=[.int j]/\-(2^62)<=j/\j<2^62/\R (GU 0 j.toNat) H1
def Du (ta:TA):TI:=fun σ H R=>ta σ H fun vs H1=>∃ i j:Int,vs=[.int i,.int j]/\(-(2^62)<=i/\i<2^62/\-(2^62)<=j/\j<2^62)/\R (GU i (j-i).toNat) H1
theorem iC {a:Expr} {ta:TA} {p pos:Pos} (hg:Gl X "range") (hm:X.mg "range" = none) (ha:PA X [a] ta) (hs:starEach [a] X.env=[(false,eval a X.env)]:=by rfl):PI X tg (.Call (.Name "range" p) [a] [] pos) (C9 ta):=by
 intro pins s σ H R I h
 refine Call_ (gX I hg hm boot_range (PyProof.Rows.callWith_type1 (cF (ha pos pins s σ H _ I h) fun us s1 ⟨vs,H1,I1,r1,q1⟩=>?_) hs rfl))
 obtain ⟨j,e,q1,q2,q⟩:=q1
 subst e
 cases r1 with
 | cons r rr =>
  cases rr
  obtain ⟨t,rfl⟩:=r
  exact call_range_1 (uA I1 (by omega) (by omega) q1 q2 (by simpa using q))
theorem yw {a b:Expr} {ta:TA} {p pos:Pos} (hg:Gl X "range") (hm:X.mg "range" = none) (ha:PA X [a,b] ta) (hs:starEach [a,b] X.env=[(false,eval a X.env),(false,eval b X.env)]:=by rfl) (hs2:starEach [b] X.env=[(false,eval b X.env)]:=by rfl) :
  PI X tg (.Call (.Name "range" p) [a,b] [] pos) (Du ta):=by
 intro pins s σ H R I h
 refine Call_ (gX I hg hm boot_range (PyProof.Rows.callWith_type1 (cF (ha pos pins s σ H _ I h) fun us s1 ⟨vs,H1,I1,r1,q1⟩=>?_) (by rw [hs,hs2]) (by rw [hs2];rfl)))
 obtain ⟨i,j,e,⟨q1,q2,q3,q4⟩,q⟩:=q1
 subst e
 cases r1 with
 | cons r rr =>
  cases rr with
  | cons r' rr =>
   cases rr
   obtain ⟨t,rfl⟩:=r
   obtain ⟨t',rfl⟩:=r'
   exact call_range_2 (uA I1 q1 q2 q3 q4 q)
def Ko (wi:TI) (g:TG) (tb:TS):TS:=fun D σ H=>wi σ H fun J H1=>∃ W:Nat->Nat->St->Hp->Prop,(∃ m,W 0 m σ H1)/\∀ i m σ H,W i m σ H ->
 (J.stop i H/\D.nx σ H)\/(J.go i H/\∃ N:St->Hp->Prop,(∀ σ' H',N σ' H'->∃ m',m'<m/\W (i+1) m' σ' H')/\∀ x H',J.uZ i H x H'->g x σ H' fun σ2 H2=>tb { D with nx:=N,ct:=N,bk:=D.nx } σ2 H2)
def jD (fp:List Addr) (h:Heap):List (Addr×Obj):=fp.filterMap fun b=>(h.get? b).map fun o=>(b,o)
theorem eX {fp:List Addr} {h:Heap} {b:Addr} {o:Obj} (hb:b∈fp) (e:h.get? b=some o):(b,o)∈jD fp h:=List.mem_filterMap.mpr ⟨b,hb,by rw [e];rfl⟩
theorem xv {fp:List Addr} {h:Heap} {p:Addr×Obj} (hp:p∈jD fp h):p.1∈fp/\h.get? p.1=some p.2:=by
 obtain ⟨b,hb,e⟩:=List.mem_filterMap.mp hp
 cases q:h.get? b with
 | none=>rw [q] at e;cases e
 | some o =>
  rw [q] at e
  have e':(b,o)=p:=Option.some.inj e
  subst e'
  exact ⟨hb,q⟩
theorem Inv.pinned {pins:List (Addr×Obj)} {σ:St} {H:Hp} {s:Shared} {fp:List Addr} (I:Inv X pins σ H s) (hf:∀ b∈fp,k9 X pins H b) (ho:∀ b∈fp,∃ o,s.heap.get? b=some o/\∀ v,o.data≠.cell v):Inv X (pins++jD fp s.heap) σ H s :=
 I.wM fun p hp=>(List.mem_append.mp hp).elim (fun z=>I.pin p (List.mem_append_right _ z)) fun z=>by
  obtain ⟨hb,e⟩:=xv z
  obtain ⟨f0,f1,f2,_⟩:=hf p.1 hb
  obtain ⟨o,e',d⟩:=ho p.1 hb
  rw [e] at e';cases e'
  exact ⟨e,f0,f1,f2,d⟩
theorem Inv.jv {pins pl:List (Addr×Obj)} {σ:St} {H:Hp} {s:Shared} (I:Inv X (pins++pl) σ H s):Inv X pins σ H s:=I.wM fun p hp=>I.pin p (List.mem_append_right _ (List.mem_append_left _ hp))
theorem EL {iter:Expr} {body:List Stmt} {wi:TI} {g:TG} {tb:TS} {pos:Pos} (hp:PassesOwn (model X.prog X.w) X.A X.env X.xe) (hc:X.calm=true) (hi:PI X tg iter wi) (hg:PG X tg g) (hb:nM X body tb)
  (hs:∀ x,foldedSetIterable iter X.env x=pure x:=by intro _;rfl):PS X (.For tg iter body [] pos) (Ko wi g tb):=by
 intro pins s σ H D I h
 refine wpAny_For (cF (hi pins s σ H _ I h) fun v s1 h1=>cF h1 fun itv s2 h2=>?_) hs
 obtain ⟨it,fp,tn,J,H2,e,I2,T,st2,f2,W,⟨m0,w0⟩,turn⟩:=h2
 subst e
 have stat:∀ {H':Hp},(∀ b∈fp,H' b=none)->∀ b∈fp,k9 X pins H' b:=fun hn b hb=>⟨hn b hb,(f2 b hb).2⟩
 refine codeAny_forLoop_any (fun n s'=>∃ i σ' H',Inv X pins σ' H' s'/\tn i s'.heap/\(∀ b∈fp,H' b=none)/\W i n σ' H') ?_ m0 ⟨0,σ,H2,I2,st2,fun b hb=>(f2 b hb).1,w0⟩
 rintro n s3 ⟨i,σ3,H3,I3,st3,fr3,w3⟩
 rcases turn i n σ3 H3 w3 with ⟨stop,qn⟩ | ⟨go,N,hN,step⟩
 ·refine wpAny_passesOwn hp (cF (T.done X rfl rfl rfl hc i pins s3 σ3 H3 X.xe I3 (stat fr3) st3 stop) fun r s4 ⟨hr,I4⟩=>?_)
  subst hr
  exact wpAny_execs_nil ⟨σ3,H3,I4,qn⟩
 ·refine wpAny_passesOwn hp (cF (T.item X rfl rfl rfl hc i pins s3 σ3 H3 X.xe I3 (stat fr3) st3 go) fun r s4 ⟨u,hr,h4⟩=>?_)
  subst hr
  refine wpAny_passesOwn hp (cF h4 fun _ s5 ⟨x,H5,I5,r5,y5,st5,fr5⟩=>?_)
  have I5':=I5.pinned (stat fr5) (T.obj _ _ st5)
  refine wpAny_passesOwn hp (cF (hg _ s5 σ3 H5 x u _ I5' r5 (step x H5 y5)) fun _ s6 ⟨σ6,H6,I6,q6⟩=>?_)
  refine wpAny_passesOwn hp (cF (hb _ s6 σ6 H6 _ I6 q6) fun f s7 q7=>?_)
  have again:∀ {σ7:St} {H7:Hp},Inv X (pins++jD fp s5.heap) σ7 H7 s7->N σ7 H7->∃ m,m<n/\∃ i σ' H',Inv X pins σ' H' s7/\tn i s7.heap/\(∀ b∈fp,H' b=none)/\W i m σ' H':=fun {σ7 H7} I7 n7=>by
   obtain ⟨m',hm,w7⟩:=hN σ7 H7 n7
   refine ⟨m',hm,i+1,σ7,H7,I7.jv,T.keep _ _ _ st5 fun b hb o e=>(I7.pin (b,o) (List.mem_append_right _ (List.mem_append_right _ (eX hb e)))).1,fun b hb=>?_,w7⟩
   obtain ⟨o,e,d⟩:=T.obj _ _ st5 b hb
   exact (I7.pin (b,o) (List.mem_append_right _ (List.mem_append_right _ (eX hb e)))).2.1
  cases f with
  | next=>obtain ⟨σ7,H7,I7,n7⟩:=q7;exact again I7 n7
  | cont=>obtain ⟨σ7,H7,I7,n7⟩:=q7;exact again I7 n7
  | brk=>obtain ⟨σ7,H7,I7,q7⟩:=q7;exact ⟨σ7,H7,I7.jv,q7⟩
  | ret v=>obtain ⟨x7,σ7,H7,I7,r7,q7⟩:=q7;exact ⟨x7,σ7,H7,I7.jv,r7,q7⟩
end
end L2
namespace L2
open PySem PySem.Spec PyProof.Rows
abbrev R2:=V->V->Hp->VK->Prop
def hX (X:Cx) (f:Value->Value->Sem Value) (r:R2):Prop :=
 ∀ (pins:List (Addr×Obj)) (s:Shared) (σ:St) (H:Hp) (x y:V) (v u:Value) (Q:VK),Inv X pins σ H s->RelV x v->RelV y u->r x y H Q ->
  wpAny (model X.prog X.w) X.A (f v u) (EP X pins σ Q) X.xe s
def LU (X:Cx) (f:Value->Sem Value) (r:V->Hp->VK->Prop):Prop :=
 ∀ (pins:List (Addr×Obj)) (s:Shared) (σ:St) (H:Hp) (x:V) (v:Value) (Q:VK),Inv X pins σ H s->RelV x v->r x H Q ->
  wpAny (model X.prog X.w) X.A (f v) (EP X pins σ Q) X.xe s
def dP (X:Cx) (f:Value) (r:List V->Hp->VK->Prop):Prop :=
 ∀ (pins:List (Addr×Obj)) (s:Shared) (σ:St) (H:Hp) (xs:List V) (us:List Value) (Q:VK),Inv X pins σ H s->Vals xs us->r xs H Q ->
  wpAny (model X.prog X.w) X.A (call f us) (EP X pins σ Q) X.xe s
def Hu (r:R2) (ta tb:TE):TE:=fun σ H Q=>ta σ H fun x H1=>tb σ H1 fun y H2=>r x y H2 Q
def QW (r:V->Hp->VK->Prop) (ta:TE):TE:=fun σ H Q=>ta σ H fun x H1=>r x H1 Q
def rI (C:Int->Int->Prop) (g:Int->Int->V):R2:=fun x y H Q=>∃ i j,x=.int i/\y=.int j/\C i j/\Q (g i j) H
def wz (g:Int->Int->V):R2:=fun x y H Q=>∃ i j,x=.int i/\y=.int j/\Q (g i j) H
def rU (g:Int->V):V->Hp->VK->Prop:=fun x H Q=>∃ i,x=.int i/\Q (g i) H
section
variable {X:Cx} {a b c:Expr} {ta tb tc:TE} {pos:Pos}
theorem Ew (ha:PE X a ta) (hb:PE X b tb) {pins:List (Addr×Obj)} {s:Shared} {σ:St} {H:Hp} {R:V->V->Hp->Prop} (I:Inv X pins σ H s)
  (h:ta σ H fun x H1=>tb σ H1 fun y H2=>R x y H2) {Q:Value->Shared->Prop} {f:Value->Value->Sem Value}
  (hf:∀ v u s2 x y H2,Inv X pins σ H2 s2->RelV x v->RelV y u->R x y H2->wpAny (model X.prog X.w) X.A (f v u) Q X.xe s2) :
  wpAny (model X.prog X.w) X.A (eval a X.env) (fun v s₁=>wpAny (model X.prog X.w) X.A (eval b X.env) (fun u s₂=>wpAny (model X.prog X.w) X.A (f v u) Q X.xe s₂) X.xe s₁) X.xe s:=by
 refine cF (ha pins s σ H _ I h) fun v s1 ⟨x,H1,I1,r1,q1⟩=>?_
 refine cF (hb pins s1 σ H1 _ I1 q1) fun u s2 ⟨y,H2,I2,r2,q2⟩=>?_
 exact hf v u s2 x y H2 I2 r1 r2 q2
theorem GD {op:Operator} {r:R2} (ho:hX X (binaryOp op) r) (ha:PE X a ta) (hb:PE X b tb):PE X (.BinOp a op b pos) (Hu r ta tb):=by
 intro pins s σ H Q I h
 exact wpAny_BinOp (Ew ha hb I h fun v u s2 x y H2 I2 rx ry q=>ho pins s2 σ H2 x y v u Q I2 rx ry q)
theorem Gf {op:UnaryOp} {r:V->Hp->VK->Prop} (ho:LU X (unaryOp op) r) (ha:PE X a ta):PE X (.UnaryOp op a pos) (QW r ta):=by
 intro pins s σ H Q I h
 exact UnaryOp_ (cF (ha pins s σ H _ I h) fun v s1 ⟨x,H1,I1,r1,q1⟩=>ho pins s1 σ H1 x v Q I1 r1 q1)
theorem HE {f:Value->Value->Sem Value} {C:Int->Int->Prop} {g:Int->Int->Int}
  (rule:∀ (i j:Int) (t u:Tok) (s:Shared) (Q:Value->Shared->Prop) (E:Value->Shared->Prop),C i j->Q (.int (g i j) s.toks) { s with toks:=s.toks+1 }->wpAny (model X.prog X.w) X.A (f (.int i t) (.int j u)) Q E s) :
  hX X f (rI C fun i j=>.int (g i j)):=by
 intro pins s σ H x y v u Q I rx ry h
 obtain ⟨i,j,rfl,rfl,hc,q⟩:=h
 obtain ⟨t,rfl⟩:=rx
 obtain ⟨t',rfl⟩:=ry
 exact rule i j t t' s _ _ hc ⟨.int (g i j),H,I.tok _,⟨_,rfl⟩,q⟩
theorem GL {f:Value->Value->Sem Value} {g:Int->Int->Int}
  (rule:∀ (i j:Int) (t u:Tok) (s:Shared) (Q:Value->Shared->Prop) (E:Value->Shared->Prop),Q (.int (g i j) s.toks) { s with toks:=s.toks+1 }->wpAny (model X.prog X.w) X.A (f (.int i t) (.int j u)) Q E s) :
  hX X f (wz fun i j=>.int (g i j)):=by
 intro pins s σ H x y v u Q I rx ry h
 obtain ⟨i,j,rfl,rfl,q⟩:=h
 obtain ⟨t,rfl⟩:=rx
 obtain ⟨t',rfl⟩:=ry
 exact rule i j t t' s _ _ ⟨.int (g i j),H,I.tok _,⟨_,rfl⟩,q⟩
theorem BO {f:Value->Value->Sem Value} {g:Int->Int->Bool}
  (rule:∀ (i j:Int) (t u:Tok) (s:Shared) (Q:Value->Shared->Prop) (E:Value->Shared->Prop),Q (.bool (g i j)) s->wpAny (model X.prog X.w) X.A (f (.int i t) (.int j u)) Q E s) :
  hX X f (wz fun i j=>.bl (g i j)):=by
 intro pins s σ H x y v u Q I rx ry h
 obtain ⟨i,j,rfl,rfl,q⟩:=h
 obtain ⟨t,rfl⟩:=rx
 obtain ⟨t',rfl⟩:=ry
 exact rule i j t t' s _ _ ⟨.bl (g i j),H,I,rfl,q⟩
def EO (i j:Int):Prop:=0<=j/\j<=1000000/\i.natAbs<2^64
theorem Fw:hX X (binaryOp .Add) (wz fun i j=>.int (i+j)):=GL fun _ _ _ _ _ _ _ q=>add_int q
theorem eT:hX X (binaryOp .Sub) (wz fun i j=>.int (i-j)):=GL fun _ _ _ _ _ _ _ q=>sub_int q
theorem bG:hX X (binaryOp .Mod) (rI (fun _ j=>j≠0) fun i j=>.int (i.fmod j)):=HE fun _ _ _ _ _ _ _ hc q=>mod_int' hc q
theorem rY:hX X (binaryOp .Pow) (rI EO fun i j=>.int (i^j.toNat)):=HE fun _ _ _ _ _ _ _ hc q=>pow_int_small hc.1 hc.2.1 hc.2.2 q
theorem TN {f:Value->Sem Value} {g:Int->Int}
  (rule:∀ (i:Int) (t:Tok) (s:Shared) (Q:Value->Shared->Prop) (E:Value->Shared->Prop),Q (.int (g i) s.toks) { s with toks:=s.toks+1 }->wpAny (model X.prog X.w) X.A (f (.int i t)) Q E s) :
  LU X f (rU fun i=>.int (g i)):=by
 intro pins s σ H x v Q I rx h
 obtain ⟨i,rfl,q⟩:=h
 obtain ⟨t,rfl⟩:=rx
 exact rule i t s _ _ ⟨.int (g i),H,I.tok _,⟨_,rfl⟩,q⟩
theorem DX:LU X (unaryOp .USub) (rU fun i=>.int (-i)):=TN fun _ _ _ _ _ q=>neg_int q
end
section
variable {X:Cx} {a b c:Expr} {ta tb tc:TE} {pos:Pos}
theorem vY {pins:List (Addr×Obj)} {σ:St} {H:Hp} {s:Shared} {Q:VK} {k k':Bool} (I:Inv X pins σ H s) (q:Q (.bl k) H) (e:k=k'):EP X pins σ Q (.bool k') s:=by
 subst e
 exact ⟨.bl k,H,I,rfl,q⟩
theorem zF:hX X (compareOp .Lt) (wz fun i j=>.bl (decide (i<j))):=BO fun _ _ _ _ _ _ _ q=>lt_int q
theorem zz:hX X (compareOp .LtE) (wz fun i j=>.bl (decide (i<=j))):=BO fun _ _ _ _ _ _ _ q=>le_int q
theorem Dy:hX X (compareOp .Gt) (wz fun i j=>.bl (decide (j<i))):=BO fun _ _ _ _ _ _ _ q=>gt_int q
theorem DF:hX X (compareOp .GtE) (wz fun i j=>.bl (decide (j<=i))):=BO fun _ _ _ _ _ _ _ q=>ge_int q
theorem yI:hX X (compareOp .Is) (fun x y H Q=>y=.c8/\Q (.bl (decide (x=.c8))) H):=by
 intro pins s σ H x y v u Q I rx ry h
 obtain ⟨rfl,q⟩:=h
 cases ry
 refine is_none_gen (vY I q ?_)
 cases x <;> first
  | (cases rx;rfl)
  | (obtain ⟨t,rfl⟩:=rx;rfl)
theorem hX.or {f:Value->Value->Sem Value} {r r':R2} (h:hX X f r) (h':hX X f r'):hX X f (fun x y H Q=>r x y H Q\/r' x y H Q):=by
 intro pins s σ H x y v u Q I rx ry q
 rcases q with q | q
 ·exact h pins s σ H x y v u Q I rx ry q
 ·exact h' pins s σ H x y v u Q I rx ry q
theorem bH (b:Expr) {op:CmpOp} (h:op≠.In:=by decide) (h2:op≠.NotIn:=by decide):behindInMarks op b=false:=by
 have e1:(op==CmpOp.In)=false:=by cases op <;> first | rfl | exact absurd rfl h
 have e2:(op==CmpOp.NotIn)=false:=by cases op <;> first | rfl | exact absurd rfl h2
 cases b <;> simp [behindInMarks,e1,e2]
theorem BM {op:CmpOp} {r:R2} (ho:hX X (compareOp op) r) (ha:PE X a ta) (hb:PE X b tb) (hm:behindInMarks op b=false):PE X (.Compare a [op] [b] pos) (Hu r ta tb):=by
 intro pins s σ H Q I h
 exact wpAny_Compare1 (Ew ha hb I h fun v u s2 x y H2 I2 rx ry q=>ho pins s2 σ H2 x y v u Q I2 rx ry q) hm
def Gy (t:TE):TT:=fun σ H Q=>t σ H fun x H'=>∃ k,x=.bl k/\Q k H'
theorem BP {op:CmpOp} {r:R2} (ho:hX X (compareOp op) r) (ha:PE X a ta) (hb:PE X b tb) (hm:behindInMarks op b=false):PT X (.Compare a [op] [b] pos) (Gy (Hu r ta tb)):=by
 intro pins s σ H Q I h
 refine wpAny_isTrue_Compare1 (cF (ha pins s σ H _ I h) fun v s1 ⟨x,H1,I1,r1,q1⟩=>cF (hb pins s1 σ H1 _ I1 q1) fun u s2 ⟨y,H2,I2,r2,q2⟩ =>
  cF (ho pins s2 σ H2 x y v u _ I2 r1 r2 q2) fun c s3 ⟨z,H3,I3,r3,k,e,q3⟩=>?_) hm
 subst e
 cases r3
 exact wpAny_truthy_bool ⟨H3,I3,q3⟩
def Aq (r r':R2) (ta tb tc:TE):TE:=fun σ H Q=>ta σ H fun x H1=>tb σ H1 fun y H2=>r x y H2 fun z H3=>∃ k,z=.bl k ∧
 (if k=true then tc σ H3 fun w' H4=>r' y w' H4 Q else Q (.bl false) H3)
theorem Bf {op op':CmpOp} {r r':R2} (ho:hX X (compareOp op) r) (ho':hX X (compareOp op') r') (ha:PE X a ta) (hb:PE X b tb) (hc:PE X c tc)
  (hm:lastMarks [op,op'] [b,c]=false:=by with_unfolding_all rfl):PE X (.Compare a [op,op'] [b,c] pos) (Aq r r' ta tb tc):=by
 intro pins s σ H Q I h
 refine Compare_chain (cF (ha pins s σ H _ I h) fun v s1 ⟨x,H1,I1,r1,q1⟩=>chain_link (cF (hb pins s1 σ H1 _ I1 q1) fun u s2 ⟨y,H2,I2,r2,q2⟩ =>
  cF (ho pins s2 σ H2 x y v u _ I2 r1 r2 q2) fun d s3 ⟨z,H3,I3,r3,k,e,q3⟩=>?_)) hm
 subst e
 cases r3
 refine wpAny_truthy_bool ?_
 cases k with
 | false=>exact ite_ff ⟨.bl false,H3,I3,rfl,q3⟩
 | true=>exact ite_tt (chain_last (cF (hc pins s3 σ H3 _ I3 q3) fun w' s4 ⟨z',H4,I4,r4,q4⟩=>ho' pins s4 σ H4 y z' u w' Q I4 r2 r4 q4))
theorem pb:(sizeLine:Nat)<2^63:=by rw [sizeLine_eq];decide
theorem vB:hX X (binaryOp .Add) (fun x y H Q=>∃ i j,x=.str i/\y=.str j/\i.length+j.length<=sizeLine/\Q (.str (i++j)) H):=by
 intro pins s σ H x y v u Q I rx ry h
 obtain ⟨i,j,rfl,rfl,hz,q⟩:=h
 obtain ⟨t,rfl⟩:=rx
 obtain ⟨t',rfl⟩:=ry
 exact add_str (fun t' tk=>⟨.str (i++j),H,I.tok _,⟨_,rfl⟩,q⟩) hz
theorem vals1 {x:V} {us:List Value} (r:Vals [x] us):∃ u,us=[u]/\RelV x u:=by
 cases r with
 | cons r1 r2=>cases r2;exact ⟨_,rfl,r1⟩
theorem vals2 {x y:V} {us:List Value} (r:Vals [x,y] us):∃ u w',us=[u,w']/\RelV x u/\RelV y w':=by
 cases r with
 | cons r1 r2 =>
  cases r2 with
  | cons r3 r4=>cases r4;exact ⟨_,_,rfl,r1,r3⟩
theorem yh (hc:X.calm=true):dP X (.builtin "max") (fun xs H Q=>∃ i j,xs=[.int i,.int j]/\Q (.int (if j>i then j else i)) H):=by
 intro pins s σ H xs us Q I r h
 obtain ⟨i,j,rfl,q⟩:=h
 obtain ⟨u,w',rfl,⟨t,rfl⟩,⟨t',rfl⟩⟩:=vals2 r
 refine max_two_ints (I.ok.hd hc) fun h' tk k=>⟨_,H,I.kept k,?_,q⟩
 by_cases hj:j>i
 ·rw [if_pos hj,if_pos hj];exact ⟨_,rfl⟩
 ·rw [if_neg hj,if_neg hj];exact ⟨_,rfl⟩
end
end L2
namespace L2
open PySem PySem.Spec PyProof.Rows
structure vM (h:Heap) (x dx C:Addr) (mA:Str->Option Value):Prop where
 obj:h.get? x=some (PySem.W.instObj C dx)
 ns:h.Ns1 dx mA
 ne:dx≠x
theorem mC {h:Heap} {dx:Addr} {mA:Str->Option Value} (n:h.Ns1 dx mA):∃ od,h.get? dx=some od/\∀ name,PySem.W.lookIn name od=some (mA name):=by
 obtain ⟨o,es,ep,ho,hd,hk,_,hm⟩:=n
 refine ⟨o,ho,fun name=>?_⟩
 have e:=hm name
 unfold nsFind findBy at e
 rw [← Array.find?_toList] at e
 unfold PySem.W.lookIn
 rw [hd]
 dsimp only
 split
 ·rename_i y q
  rw [q] at e
  exact congrArg some e
 ·rename_i q
  rw [q] at e
  have a:es.toList.any (·.refKey)=false:=by
   rw [List.any_eq_false]
   intro y hy
   obtain ⟨z,t,hkey⟩:=hk y (Array.mem_toList_iff.mp hy)
   simp [DictEntry.refKey,hkey]
  have a':¬ es.toList.any (·.refKey)=true:=by rw [a];exact Bool.false_ne_true
  rw [if_neg a']
  exact congrArg some e
theorem vM.look {h:Heap} {x dx C:Addr} {mA:Str->Option Value} (I:vM h x dx C mA):∃ od,PySem.W.InstAt h x (PySem.W.instObj C dx) C (some od)/\∀ name,PySem.W.lookIn name od=some (mA name) :=
 let ⟨od,ho,hl⟩:=mC I.ns
 ⟨od,⟨I.obj,rfl,rfl,ho⟩,hl⟩
section
variable {prog:Program} {w:World} {A:Around} {E:Value->Shared->Prop} {s:Shared} {K:PySem.W.Frag} {x dx C f:Addr} {mA:Str->Option Value} {name:Str} {v:Value}
theorem get_map {expr:Bool} {Q:Value->Shared->Prop} (X:K.In s.heap) (I:vM s.heap x dx C mA) (hg:PySem.W.plainGet K C name=true) (hh:PySem.W.hasDictIn K C=true)
  (ha:PySem.W.findIn K (.ref C) name=some none) (hv:mA name=some v) (hv':PySem.W.handedIn v=true) (h:Q v { s with toks:=s.toks+1 }) :
  wpAny (model prog w) A (getAttr (.ref x) name expr) Q E s:=by
 obtain ⟨od,J,hl⟩:=I.look
 exact PySem.W.get_value X J (PySem.W.plainGet_of hg).1 (PySem.W.findObj_own hh ha rfl (by rw [hl,hv])) hv' h
theorem Bs {pl:Sem Bool} {Q:Value×List Value->Shared->Prop} (X:K.In s.heap) (I:vM s.heap x dx C mA) (hg:PySem.W.plainGet K C name=true)
  (hf:PySem.W.findIn K (.ref C) name=some (some (.ref f))) (ht:PySem.W.isFn K (.ref f)=true) (hv:mA name=none) (h:Q (.ref f,[.ref x]) s) :
  wpAny (model prog w) A (getMethod (.ref x) name pl) Q E s:=by
 obtain ⟨od,J,hl⟩:=I.look
 exact PySem.W.method_fn X J (PySem.W.plainGet_of hg).1 (PySem.W.plainGet_of hg).2 hf (beq_iff_eq.mp ht) (by show (PySem.W.lookIn name od).map (·.isSome)=some false;rw [hl,hv];rfl) h
theorem Cp {ns:List Str} {Q:Unit->Shared->Prop} (X:K.In s.heap) (I:vM s.heap x dx C mA)
  (hs:PySem.W.findIn K (.ref C) "__setattr__" = some (some (.builtin "object.__setattr__"))) (hp:PySem.W.plainOver K C=true) (ht:PySem.W.takerIn K C name=some none) (hh:PySem.W.hasDictIn K C=true)
  (hw:PySem.Within mA ns) (hsz:ns.length<=sizeLine)
  (h:∀ h',vM h' x dx C (fun y=>if y=name then some v else mA y)->Heap.SameBut dx s.heap h'->Q () { s with heap:=h',toks:=s.toks+2 }) :
  wpAny (model prog w) A (setAttr (.ref x) name v) Q E s:=by
 obtain ⟨od,J,hl⟩:=I.look
 refine PySem.W.set_plain X J hs (PySem.W.osa_open (s:={ s with toks:=s.toks+1 }) (r:=none) X J hp ht fun b=>?_)
 obtain ⟨cd,hc,hd'⟩:=PySem.W.any_some hh
 have hx:s.heap.get? x=some ⟨.ref C,some dx,.plain,#[]⟩:=I.obj
 refine wpAny_bind (wpAny_pure (wpAny_bind (wpAny_bind (wpAny_loadPart hx (wpAny_bind (PySem.W.Looks.here (s:={ s with toks:=s.toks+1 }) (PySem.W.looks_clsIn X hc) ?_))))))
 rw [hd']
 refine wpAny_pure (a:=some dx) (wpAny_bind (wpAny_pure (wpAny_bind ?_)))
 refine wpAny_nsSet1 (s:={ s with toks:=s.toks+1 }) I.ns fun h' hn2 hs2=>?_
 obtain ⟨oD,esD,epD,hoD,hdD,hcD⟩:=hn2.count (PySem.Within.cons name v hw)
 refine wpAny_bind (wpAny_lookBehind hoD (by rw [hdD];exact pastItsLine_dict (Nat.le_trans hcD (by rw [List.length_cons];omega))) ?_)
 exact wpAny_pure (h _ ⟨(hs2.2 _ (Ne.symm I.ne)).trans I.obj,hn2,I.ne⟩ hs2)
theorem Bk {R:Result->Shared->Prop} {vs:List Value} {kw:List (Str×Value)} (X:K.In s.heap) (hm:PySem.W.makesIn K C=true)
  (hi:PySem.W.findIn K (.ref C) "__init__" = some (some (.ref f))) (hf:PySem.W.typeIn K (.ref f)=some (.type "function"))
  (h:codeAny (model prog w) (A.under (.builtin "type.__call__" ⟨.ref C::vs,kw⟩)) (.call (.ref f) ⟨.ref (s.heap.objs.size+1)::vs,kw⟩) (PySem.W.InitBack (s.heap.objs.size+1) R)
   { s with heap:=(s.heap.push PySem.W.emptyDict).push (PySem.W.instObj C s.heap.objs.size) }) :
  codeAny (model prog w) A (.call (.ref C) ⟨vs,kw⟩) R s:=by
 obtain ⟨hh,g,d,t,os⟩:=s
 exact PySem.W.make_core (PySem.W.makes_of X hm) (PySem.W.looks_findIn X hi) (fun self=>PySem.W.bind_fn X self hf) (.inl rfl) h
end
def jn (f:Str) (v:V):List (Str×V)->List (Str×V)
 | []=>[(f,v)]
 | (g,x)::r=>if g=f then (g,v)::r else (g,x)::jn f v r
theorem m8 (f g:Str) (v:V):∀ fs:List (Str×V),(jn f v fs).lookup g=if g=f then some v else fs.lookup g
 | []=>by
  show List.lookup g [(f,v)]=_
  by_cases h:g=f
  ·have hb:(g==f)=true:=beq_iff_eq.mpr h
   simp only [List.lookup,hb,if_pos h]
  ·have hb:(g==f)=false:=beq_eq_false_iff_ne.mpr h
   simp only [List.lookup,hb,if_neg h]
 | (k,x)::r=>by
  have ih:=m8 f g v r
  rw [show jn f v ((k,x)::r)=(if k=f then (k,v)::r else (k,x)::jn f v r) from rfl]
  by_cases hk:k=f
  ·rw [if_pos hk]
   by_cases h:g=k
   ·have hb:(g==k)=true:=beq_iff_eq.mpr h
    simp only [List.lookup,hb,if_pos (h.trans hk)]
   ·have hb:(g==k)=false:=beq_eq_false_iff_ne.mpr h
    simp only [List.lookup,hb,if_neg (fun e:g=f=>h (e.trans hk.symm))]
  ·rw [if_neg hk]
   by_cases h:g=k
   ·have hb:(g==k)=true:=beq_iff_eq.mpr h
    simp only [List.lookup,hb,if_neg (fun e:g=f=>hk (h.symm.trans e))]
   ·have hb:(g==k)=false:=beq_eq_false_iff_ne.mpr h
    simp only [List.lookup,hb]
    exact ih
theorem mE (f:Str) (v:V):∀ fs:List (Str×V),f∈(jn f v fs).map (·.1)/\∀ g,g∈fs.map (·.1)->g∈(jn f v fs).map (·.1)
 | []=>⟨by simp [jn],fun g h=>by simp at h⟩
 | (k,x)::r=>by
  obtain ⟨i1,i2⟩:=mE f v r
  rw [show jn f v ((k,x)::r)=(if k=f then (k,v)::r else (k,x)::jn f v r) from rfl]
  by_cases hk:k=f
  ·rw [if_pos hk]
   subst hk
   exact ⟨by simp,fun g h=>by simpa using h⟩
  ·rw [if_neg hk]
   refine ⟨?_,fun g h=>?_⟩
   ·rw [List.map_cons]
    exact List.mem_cons_of_mem _ i1
   ·rw [List.map_cons] at h ⊢
    rcases List.mem_cons.mp h with e | e
    ·exact List.mem_cons.mpr (.inl e)
    ·exact List.mem_cons_of_mem _ (i2 g e)
theorem m7 (f:Str) (v:V):∀ fs:List (Str×V),(jn f v fs).length<=fs.length+1
 | []=>by simp [jn]
 | (k,x)::r=>by
  have ih:=m7 f v r
  rw [show jn f v ((k,x)::r)=(if k=f then (k,v)::r else (k,x)::jn f v r) from rfl]
  by_cases hk:k=f
  ·rw [if_pos hk,List.length_cons,List.length_cons];omega
  ·rw [if_neg hk,List.length_cons,List.length_cons];omega
theorem my.some_of {v:V} {o:Option Value} (r:my (some v) o):∃ u,o=some u/\RelV v u:=by
 cases o with
 | none=>exact (show False from r).elim
 | some u=>exact ⟨u,rfl,r⟩
theorem my.none_of {o:Option Value} (r:my none o):o=none:=by
 cases o with
 | none=>rfl
 | some u=>exact (show False from r).elim
theorem xo {v:V} {u:Value} (r:RelV v u):PySem.W.handedIn u=true:=by
 cases v with
 | c8=>cases (show u=Value.none from r);rfl
 | bl b=>cases (show u=Value.bool b from r);rfl
 | int i=>obtain ⟨t,e⟩:=(show ∃ t,u=Value.int i t from r);cases e;rfl
 | str x=>obtain ⟨t,e⟩:=(show ∃ t,u=Value.str x t from r);cases e;rfl
 | byt b=>obtain ⟨t,e⟩:=(show ∃ t,u=Value.bytes b t from r);cases e;rfl
 | Dg b=>obtain ⟨t,e⟩:=(show ∃ t,u=Value.float b t from r);cases e;rfl
 | ref a=>cases (show u=Value.ref a from r);rfl
 | ty n=>cases (show u=Value.type n from r);rfl
section
variable {P:Program} {w:World} {H H':Hp} {h h':Heap} {a C dx:Addr} {fs fs':List (Str×V)}
theorem lR (bu:m5 P w H h) (e:H a=some (.ins C dx fs)):∃ mA,vM h a dx C mA/\(∀ f,my (fs.lookup f) (mA f))/\PySem.Within mA (fs.map (·.1))/\fs.length<=1000/\H dx=some (.own a):=by
 obtain ⟨d,z,ne,ob,mA,n,r,q⟩:=(show bY P w H h a (.ins C dx fs) from bu a _ e)
 exact ⟨mA,⟨ob,n,ne⟩,r,q,z,d⟩
end
structure lM (K:PySem.W.Frag) (C:Addr):Prop where
 pg:PySem.W.plainGet K C Str.empty=true
 hd:PySem.W.hasDictIn K C=true
 po:PySem.W.plainOver K C=true
 sa:PySem.W.findIn K (.ref C) "__setattr__" = some (some (.builtin "object.__setattr__"))
theorem lM.get {K:PySem.W.Frag} {C:Addr} (c:lM K C) (f:Str):PySem.W.plainGet K C f=true:=c.pg
def bT (K:PySem.W.Frag) (C:Addr) (f:Str):Prop:=PySem.W.findIn K (.ref C) f=some none
theorem bT.De {K:PySem.W.Frag} {C:Addr} {f:Str} (n:bT K C f):PySem.W.takerIn K C f=some none:=by
 unfold PySem.W.takerIn
 rw [show PySem.W.findIn K (.ref C) f=some none from n]
 rfl
structure Meth (K:PySem.W.Frag) (C:Addr) (m:Str) (f:Addr):Prop where
 at_:PySem.W.findIn K (.ref C) m=some (some (.ref f))
 fn:PySem.W.isFn K (.ref f)=true
 kp:PySem.W.keepIn K (.ref f)=true
section
variable {X:Cx} {pins:List (Addr×Obj)} {σ:St} {H:Hp} {s:Shared} {a C dx:Addr} {fs:List (Str×V)} {f:Str} {v:V} {A:Around} {E:Value->Shared->Prop}
theorem u_ {b:Bool} {Q:Value->Shared->Prop} (I:Inv X pins σ H s) (e:H a=some (.ins C dx fs)) (c:lM X.K C) (n:bT X.K C f) (l:fs.lookup f=some v)
  (h:∀ u s',Inv X pins σ H s'->RelV v u->Q u s'):wpAny (model X.prog X.w) A (getAttr (.ref a) f b) Q E s:=by
 obtain ⟨mA,O,r,_,_,_⟩:=lR I.bu e
 obtain ⟨u,hu,ru⟩:=my.some_of (v:=v) (o:=mA f) (by rw [← l];exact r f)
 exact get_map I.jO O (c.get f) c.hd n hu (xo ru) (h u _ (I.tok _) ru)
theorem ou {m:Str} {g:Addr} {pl:Sem Bool} {Q:Value×List Value->Shared->Prop} (I:Inv X pins σ H s) (e:H a=some (.ins C dx fs)) (c:lM X.K C) (k:Meth X.K C m g) (l:fs.lookup m=none)
  (h:Q (.ref g,[.ref a]) s):wpAny (model X.prog X.w) A (getMethod (.ref a) m pl) Q E s:=by
 obtain ⟨mA,O,r,_,_,_⟩:=lR I.bu e
 have hn:mA m=none:=my.none_of (by rw [← l];exact r m)
 exact Bs I.jO O (c.get m) k.at_ k.fn hn h
theorem vT {y:V} {u:Value} {Q:Unit->Shared->Prop} (I:Inv X pins σ H s) (e:H a=some (.ins C dx fs)) (c:lM X.K C) (n:bT X.K C f) (hl:fs.length<1000) (ry:RelV y u)
  (h:∀ s',Inv X pins σ (upd H a (.ins C dx (jn f y fs))) s'->Q () s'):wpAny (model X.prog X.w) A (setAttr (.ref a) f u) Q E s:=by
 obtain ⟨mA,O,r,wi,_,ho⟩:=lR I.bu e
 have hz:(fs.map (·.1)).length<=sizeLine:=by rw [List.length_map,sizeLine_eq];omega
 refine Cp I.jO O c.sa c.po n.De c.hd wi hz fun h' O' sb=>h _ ?_
 have hd:∃ o,h'.get? dx=some o:=let ⟨o,_,_,e',_⟩:=O'.ns;⟨o,e'⟩
 refine I.write (x:=a) (e:=dx) (by rw [e];exact True.intro) (.inr ho) (fun b q hb z=>(sb.2 b hb).trans z) hd ?_
 refine ⟨by rw [aw O.ne];exact ho,?_,O.ne,O'.obj,_,O'.ns,fun g=>?_,fun g hg=>?_⟩
 ·have:=m7 f y fs;omega
 ·show my ((jn f y fs).lookup g) (if g=f then some u else mA g)
  rw [m8]
  by_cases q:g=f
  ·rw [if_pos q,if_pos q];exact ry
  ·rw [if_neg q,if_neg q];exact r g
 ·by_cases q:g=f
  ·rw [q];exact (mE f y fs).1
  ·refine (mE f y fs).2 g (wi g fun z=>hg ?_)
   show (if g=f then some u else mA g)=none
   rw [if_neg q];exact z
theorem Inv.made (I:Inv X pins σ H s):Inv X pins σ (upd (upd H s.heap.objs.size (.own (s.heap.objs.size+1))) (s.heap.objs.size+1) (.ins C s.heap.objs.size []))
  { s with heap:=(s.heap.push PySem.W.emptyDict).push (PySem.W.instObj C s.heap.objs.size) }:=by
 have e1:(s.heap.push PySem.W.emptyDict).get? s.heap.objs.size=some PySem.W.emptyDict:=Heap.get?_push_size s.heap rfl
 have e2:((s.heap.push PySem.W.emptyDict).push (PySem.W.instObj C s.heap.objs.size)).get? (s.heap.objs.size+1)=some (PySem.W.instObj C s.heap.objs.size):=by
  have:=Heap.get?_push_size (s.heap.push PySem.W.emptyDict) (o:=PySem.W.instObj C s.heap.objs.size) rfl
  rwa [Heap.size_push] at this
 have e3:(s.heap.push PySem.W.emptyDict).Ns s.heap.objs.size (fun _=>none):=⟨PySem.W.emptyDict,#[],_,e1,rfl,(fun e he=>absurd he (by simp)),fun _=>rfl⟩
 have I1:=I.laid (a:=s.heap.objs.size) (o:=.own (s.heap.objs.size+1)) (h':=s.heap.push PySem.W.emptyDict) (t':=s.toks) (fun b u q=>Heap.get?_push_of_some _ q) (Nat.le_refl _) ⟨_,e1⟩
 refine I1.laid (a:=s.heap.objs.size+1) (o:=.ins C s.heap.objs.size []) (t':=s.toks) (fun b u q=>Heap.get?_push_of_some _ q) (Nat.le_of_eq (Heap.size_push _ _)) ?_
 have ne:s.heap.objs.size≠s.heap.objs.size+1:=Nat.ne_of_lt (Nat.lt_succ_self _)
 refine ⟨by rw [aw ne,aE],Nat.zero_le _,ne,e2,fun _=>none,(Heap.Ns1.of_empty e3).at fun o q=>Heap.get?_push_of_some _ q,fun _=>True.intro,fun y hy=>absurd rfl hy⟩
theorem CZ {prog:Program} {w:World} {env:Env} {e:Expr} {f:Str} {pos:Pos} {s:Shared} {Q:Value->Shared->Prop} (hb:attributeBase e f env (eval e env)=eval e env)
  (h:wpAny (model prog w) A (eval e env) (fun o s₁=>wpAny (model prog w) A (getAttr o f true) Q E s₁) E s):wpAny (model prog w) A (eval (.Attribute e f pos) env) Q E s :=
 Attribute_any_ h (by rw [arm_eval_Attribute,hb])
end
def Qq (K:PySem.W.Frag) (ta:TE) (f:Str):TE:=fun σ H Q=>ta σ H fun x H1=>∃ a C dx fs v,x=.ref a/\H1 a=some (.ins C dx fs)/\lM K C/\bT K C f/\fs.lookup f=some v/\Q v H1
def PN (K:PySem.W.Frag) (ta tv:TE) (f:Str):TS:=fun D σ H=>tv σ H fun y H1=>ta σ H1 fun x H2=>∃ a C dx fs,x=.ref a/\H2 a=some (.ins C dx fs)/\lM K C/\bT K C f/\fs.length<1000 ∧
 D.nx σ (upd H2 a (.ins C dx (jn f y fs)))
section
variable {X:Cx} {o e value:Expr} {f:Str} {pos pos' tpos:Pos} {ta tv:TE}
theorem D5 (he:PE X e ta) (hb:attributeBase e f X.env (eval e X.env)=eval e X.env):PE X (.Attribute e f pos) (Qq X.K ta f):=by
 intro pins s σ H Q I h
 refine CZ hb (cF (he pins s σ H _ I h) fun u s1 ⟨x,H1,I1,rx,a,C,dx,fs,v,ex,ea,c,n,l,q⟩=>?_)
 subst ex
 obtain rfl:u=Value.ref a:=rx
 exact u_ I1 ea c n l fun u' s2 I2 ru=>⟨v,H1,I2,ru,q⟩
theorem Ea (ha:PE X o ta) (hv:PE X value tv) (hs:swapsWith value (some (.Attribute o f pos')) pos.line X.env=pure false):PS X (.Assign [.Attribute o f pos'] value pos) (PN X.K ta tv f):=by
 intro pins s σ H D I h
 refine plainObj_wpAny_Assign_Attribute (cF (hv pins s σ H _ I h) fun u s1 ⟨y,H1,I1,ry,q⟩=>cF (ha pins s1 σ H1 _ I1 q) fun ov s2 ⟨x,H2,I2,rx,a,C,dx,fs,ex,ea,c,n,l,q2⟩=>?_) hs
 subst ex
 obtain rfl:ov=Value.ref a:=rx
 exact vT I2 ea c n l ry fun s3 I3=>⟨σ,_,I3,q2⟩
end
section
variable {X:Cx} {pins:List (Addr×Obj)} {σ:St} {H:Hp} {s:Shared} {A:Around} {E:Value->Shared->Prop} {Q:Value->Shared->Prop} {c:Value} {b:Bool}
inductive jy (K:PySem.W.Frag) (H:Hp):V->Value->Prop where
 | c8:jy K H .c8 (.type "NoneType")
 | bl (x:Bool):jy K H (.bl x) (.type "bool")
 | int (i:Int):jy K H (.int i) (.type "int")
 | str (x:Str):jy K H (.str x) (.type "str")
 | Dg (x:UInt64):jy K H (.Dg x) (.type "float")
 | lst {a:Addr} {xs:List V} (e:H a=some (.lst xs)):jy K H (.ref a) (.type "list")
 | pU {a:Addr} {o:Obj} {xs:List V} (e:H a=some (.pU o (.lst xs))):jy K H (.ref a) (.type "list")
 | tup {a:Addr} {xs:List V} (e:H a=some (.tup xs)):jy K H (.ref a) (.type "tuple")
 | dK {a:Addr} {kvs:List (Key×V)} (e:H a=some (.dK kvs)):jy K H (.ref a) (.type "dict")
 | dT {a:Addr} {kvs:List (List Key×V)} (e:H a=some (.dT kvs)):jy K H (.ref a) (.type "dict")
 | ins {a C dx:Addr} {fs:List (Str×V)} (e:H a=some (.ins C dx fs)) (cl:lM K C) (ha:PySem.W.findIn K (.ref C) "__class__" = some (some (.builtin "object.__class__")))
   (hn:PySem.W.specialIn K (.builtin "object.__class__") "__get__" = some (some (.builtin "getset_descriptor.__get__"))) (FW:PySem.W.takesIn K (.builtin "object.__class__")=some true)
   (hm:PySem.W.mroIn K C (.type "object")=some true):jy K H (.ref a) (.ref C)
theorem xD {x:V} {u t:Value} (I:Inv X pins σ H s) (rx:RelV x u) (ty:jy X.K H x t) (e:PySem.W.kitOne X.K t c=some b) (h:∀ tk,Q (.bool b) { s with toks:=tk }) :
  wpAny (model X.prog X.w) A (call (.builtin "isinstance") [u,c]) Q E s:=by
 cases ty with
 | c8=>cases (show u=Value.none from rx);exact PySem.W.kia_one PySem.W.kitx_none I.jO True.intro e (fun z=>nomatch z) h
 | bl y=>cases (show u=Value.bool y from rx);exact PySem.W.kia_one PySem.W.kitx_bool I.jO True.intro e (fun z=>nomatch z) h
 | int i=>obtain ⟨t,q⟩:=(show ∃ t,u=Value.int i t from rx);cases q;exact PySem.W.kia_one PySem.W.kitx_int I.jO True.intro e (fun z=>nomatch z) h
 | str y=>obtain ⟨t,q⟩:=(show ∃ t,u=Value.str y t from rx);cases q;exact PySem.W.kia_one PySem.W.kitx_str I.jO True.intro e (fun z=>nomatch z) h
 | Dg y=>obtain ⟨t,q⟩:=(show ∃ t,u=Value.float y t from rx);cases q;exact PySem.W.kia_one PySem.W.kitx_float I.jO True.intro e (fun z=>nomatch z) h
 | @lst a xs ea =>
  cases (show u=Value.ref a from rx)
  obtain ⟨_,_,n,_,h1⟩:=(show bY X.prog X.w H s.heap a (.lst xs) from I.bu a _ ea)
  exact PySem.W.kia_one PySem.W.kitx_list I.jO ⟨_,h1,rfl⟩ e (fun z=>nomatch z) h
 | @pU a ob xs ea =>
  cases (show u=Value.ref a from rx)
  obtain ⟨_,_,_,n,_,h1⟩:=(show bY X.prog X.w H s.heap a (.pU ob (.lst xs)) from I.bu a _ ea)
  exact PySem.W.kia_one PySem.W.kitx_list I.jO ⟨_,h1,rfl⟩ e (fun z=>nomatch z) h
 | @tup a xs ea =>
  cases (show u=Value.ref a from rx)
  obtain ⟨_,_,_,p⟩:=(show bY X.prog X.w H s.heap a (.tup xs) from I.bu a _ ea)
  obtain ⟨o,h1,h2,_⟩:=p
  exact PySem.W.kia_one PySem.W.kitx_tuple I.jO ⟨o,h1,h2⟩ e (fun z=>nomatch z) h
 | @dK a kvs ea =>
  cases (show u=Value.ref a from rx)
  obtain ⟨_,_,vs,_,p⟩:=(show bY X.prog X.w H s.heap a (.dK kvs) from I.bu a _ ea)
  obtain ⟨o,es,ep,h1,h2,_⟩:=p
  exact PySem.W.kia_one PySem.W.kitx_dict I.jO ⟨o,h1,h2.1⟩ e (fun z=>nomatch z) h
 | @dT a kvs ea =>
  cases (show u=Value.ref a from rx)
  obtain ⟨_,_,xs,_,o,es,ep,h1,h2,_⟩:=(show bY X.prog X.w H s.heap a (.dT kvs) from I.bu a _ ea)
  exact PySem.W.kia_one PySem.W.kitx_dict I.jO ⟨o,h1,h2.1⟩ e (fun z=>nomatch z) h
 | @ins a C dx fs ea cl ha hn FW hm =>
  cases (show u=Value.ref a from rx)
  obtain ⟨mA,O,_⟩:=lR I.bu ea
  obtain ⟨od,J,_⟩:=O.look
  exact PySem.W.kia_one (PySem.W.kitx_own (cl.get _) cl.hd ha hn FW hm) I.jO J e (fun z=>nomatch z) h
end
end L2
namespace L2
open PySem PySem.Spec PyProof.Rows
structure cy (k:Nat) (A:Around):Prop where
 hd:A.handled=none
 dp:A.depth+3*k+5<recursionLimit
 un:A.units+16*k+200<cLine
theorem cy.mono {j k:Nat} {A:Around} (r:cy k A) (h:j<=k):cy j A:=⟨r.hd,by have:=r.dp;omega,by have:=r.un;omega⟩
theorem cy.deeper {k:Nat} {A:Around} (r:cy (k+1) A) (env:Env):cy k (A.deeper env) :=
 ⟨r.hd,by have:=r.dp;show A.depth+1+3*k+5<_;omega,by have:=r.un;show A.units+3+16*k+200<_;omega⟩
theorem v8 {A:Around} {C:Addr} {us:List Value} {kw:List (Str×Value)}:(A.under (.builtin "type.__call__" ⟨.ref C::us,kw⟩)).depth=A.depth+1:=by
 first | rfl | simp [Around.under,Code.weight,Code.isCreation,Code.isGuard,Code.isCaller,Code.frames,Code.isFrame,guardIds]
theorem vq {A:Around} {C:Addr} {us:List Value} {kw:List (Str×Value)}:(A.under (.builtin "type.__call__" ⟨.ref C::us,kw⟩)).units=A.units+1:=by
 first | rfl | simp [Around.under,Code.cUnits,Code.frames,Code.isFrame]
theorem cy.make {k:Nat} {A:Around} (r:cy (k+1) A) (C:Addr) (us:List Value) (kw:List (Str×Value)):cy k (A.under (.builtin "type.__call__" ⟨.ref C::us,kw⟩)) :=
 ⟨r.hd,by have:=r.dp;rw [v8];omega,by have:=r.un;rw [vq];omega⟩
theorem cy.depth {k:Nat} {A:Around} (r:cy k A):A.depth<recursionLimit:=by have:=r.dp;omega
theorem cy.units {k:Nat} {A:Around} (r:cy k A):A.units+64<cLine:=by have:=r.un;omega
def C1:TA:=fun _ H Q=>Q [] H
def Bn (ta:TE) (tr:TA):TA:=fun σ H Q=>ta σ H fun x H1=>tr σ H1 fun xs H2=>Q (x::xs) H2
section
variable {X:Cx} {e:Expr} {es:List Expr} {te:TE} {t:TA} {pos:Pos}
theorem kP:PA X [] C1:=fun _ _ _ _ H Q I h=>Calls.spliced_nil ⟨[],H,I,.nil,h⟩
theorem fF (ha:PE X e te) (hr:PA X es t) (hs:starEach (e::es) X.env=(false,eval e X.env)::starEach es X.env:=by rfl):PA X (e::es) (Bn te t):=by
 intro pos pins s σ H Q I h
 rw [hs]
 show wpAny _ _ (spliced ((false,eval e X.env)::backTo pos (starEach es X.env))) _ _ s
 refine Calls.spliced_cons (cF (ha pins s σ H _ I h) fun u s1 ⟨x,H1,I1,r1,q1⟩=>?_)
 exact cF (hr pos pins s1 σ H1 _ I1 q1) fun us s2 ⟨xs,H2,I2,r2,q2⟩=>⟨x::xs,H2,I2,.cons r1 r2,q2⟩
def JK (t:TA):TE:=fun σ H Q=>t σ H fun xs H1=>xs.length<=sizeLine/\∀ p,H1 p=none->Q (.ref p) (upd H1 p (.tup xs))
def Kh (t:TA):TE:=fun σ H Q=>t σ H fun xs H1=>xs.length<=sizeLine/\∀ p,H1 p=none->Q (.ref p) (upd H1 p (.lst xs))
theorem zL {x1} (h:PA X es t):PE X (.Tuple es x1 pos) (JK t):=by
 intro pins s σ H Q I hq
 refine wpAny_Tuple_spliced (cF (h pos pins s σ H _ I hq) fun us s1 ⟨xs,H1,I1,r,z,q⟩=>⟨by rw [← r.length];exact z,?_⟩)
 have hf:H1 s1.heap.objs.size=none:=I1.bu.fresh (Nat.le_refl _)
 refine ⟨.ref s1.heap.objs.size,upd H1 s1.heap.objs.size (.tup xs),I1.laid (t':=s1.toks) (fun b u e=>Heap.get?_push_of_some _ e) (Nat.le_refl _) ?_,rfl,q _ hf⟩
 exact ⟨z,us,r,⟨_,Heap.get?_push_size _ rfl,rfl,_,rfl⟩⟩
theorem zY (h:PA X es t):PE X (.List es pos) (Kh t):=by
 intro pins s σ H Q I hq
 refine wpAny_List_spliced (cF (h pos pins s σ H _ I hq) fun us s1 ⟨xs,H1,I1,r,z,q⟩=>⟨by rw [← r.length];exact z,?_⟩)
 have hf:H1 s1.heap.objs.size=none:=I1.bu.fresh (Nat.le_refl _)
 refine ⟨.ref s1.heap.objs.size,upd H1 s1.heap.objs.size (.lst xs),I1.laid (t':=s1.toks) (fun b u e=>Heap.get?_push_of_some _ e) (Nat.le_refl _) ?_,rfl,q _ hf⟩
 exact ⟨z,us,0,r,Heap.get?_push_size _ rfl⟩
end
abbrev Sp:=List V->Hp->VK->XK->Prop
abbrev BK:=List Env->Hp->Shared->XK->Value->Shared->Prop
structure v_ (P:Program) (w:World) (K:PySem.W.Frag) (mg:Str->Option Value) (base:Heap) (A:Around) (outer:List Env) (s:Shared) (H:Hp):Prop where
 frames:A.frames=some outer
 mod:Mod K mg base
 bs:∀ b o,base.get? b=some o->s.heap.get? b=some o/\H b=none
 B_:base.objs.size<=s.heap.objs.size
 nF:s.heap.FunFrames base outer
 DT:∀ b∈uY outer,H b=none
 bu:m5 P w H s.heap
 bare:AllBare s.gens
def CE (outer:List Env) (P:Program) (w:World) (H:Hp) (s:Shared) (Q:VK) (u:Value) (s':Shared):Prop :=
 ∃ v H',s'.os=s.os/\AllBare s'.gens/\Un (uY outer) [] H H' s.heap s'.heap/\m5 P w H' s'.heap/\RelV v u/\Q v H'
def CR (CX:BK) (outer:List Env) (P:Program) (w:World) (H:Hp) (s:Shared) (Q:VK) (E:XK) (r:Result) (s':Shared):Prop :=
 match r with
 | .ok (.ret u)=>CE outer P w H s Q u s'
 | .ok _=>False
 | .error e=>CX outer H s E e s'
structure aY (P:Program) (w:World) (K:PySem.W.Frag) (mg:Str->Option Value) (base:Heap) (CX:BK) (k:Nat) (f:Addr) (fd:FuncData) (ps:List Str) (sp:Sp):Prop where
 len:∀ vs H Q E,sp vs H Q E->vs.length=ps.length
 run:∀ (A:Around) (outer:List Env) (s:Shared) (H:Hp) (args:Args) (us:List Value) (vs:List V) (Q:VK) (E:XK),cy k A->v_ P w K mg base A outer s H->BindsTo s fd args (ps.zip us)->Vals vs us->sp vs H Q E ->
  codeAny (model P w) A (.call (.ref f) args) (CR CX outer P w H s Q E) s
theorem v_.make {P:Program} {w:World} {K:PySem.W.Frag} {mg:Str->Option Value} {base:Heap} {A:Around} {outer:List Env} {s:Shared} {H:Hp} (e:v_ P w K mg base A outer s H) (C:Addr) (us:List Value) (kw:List (Str×Value)) :
  v_ P w K mg base (A.under (.builtin "type.__call__" ⟨.ref C::us,kw⟩)) outer s H:=⟨by first | exact e.frames | (simpa [Around.under,Code.envs,Code.isFrame,pushEnvs] using e.frames),e.mod,e.bs,e.B_,e.nF,e.DT,e.bu,e.bare⟩
section
variable {X:Cx} {pins:List (Addr×Obj)} {σ:St} {H:Hp} {s s':Shared}
theorem Inv.i8 (I:Inv X pins σ H s):v_ X.prog X.w X.K X.mg X.base X.A X.stack s H :=
 ⟨I.ok.frames,I.ok.mod,I.bs,Nat.le_trans I.ok.B_ I.sz,I.stack,I.nR,I.bu,I.bare⟩
theorem Inv.after {Q:VK} {u:Value} (I:Inv X pins σ H s) (h:CE X.stack X.prog X.w H s Q u s'):EP X pins σ Q u s':=by
 obtain ⟨v,H',os,bare,un,bu,r,q⟩:=h
 obtain ⟨hh,g,d,t,os'⟩:=s'
 obtain rfl:os'=s.os:=os
 exact ⟨v,H',I.call (h':=hh) (g':=g) (d':=d) (t':=t) (ch:=[]) un bu bare (fun b z=>absurd z (by simp)),r,q⟩
end
def Binds (K:PySem.W.Frag) (fd:FuncData) (ps:List Str) (ds:List Value):Prop :=
 ∀ (s:Shared) (us:List Value),K.In s.heap->(us++ds).length=ps.length->BindsTo s fd ⟨us,[]⟩ (ps.zip (us++ds))
theorem Binds.all {K:PySem.W.Frag} {fd:FuncData} {ps:List Str} (h:∀ us:List Value,us.length=ps.length->bindArgs fd ⟨us,[]⟩=pure (ps.zip us)):Binds K fd ps []:=fun s us _ hl=>by
 rw [List.append_nil] at hl ⊢
 exact .of_eq (h us hl)
section
variable {X:Cx} {CX:BK} {k:Nat} {f C:Addr} {fd:FuncData} {ps:List Str} {sp:Sp} {dvs:List V} {ds:List Value} {E:XK} {x m:Str} {p pos apos:Pos} {e o:Expr} {es:List Expr} {ta:TE} {t:TA}
structure Mk (K:PySem.W.Frag) (C f:Addr):Prop where
 makes:PySem.W.makesIn K C=true
 init:PySem.W.findIn K (.ref C) "__init__" = some (some (.ref f))
 fn:PySem.W.isFn K (.ref f)=true
 kp:PySem.W.keepIn K (.ref C)=true
end
section
variable {X:Cx} {CX:BK} {k:Nat} {f C:Addr} {fd:FuncData} {ps ks:List Str} {sp:Sp} {E:XK} {x m:Str} {p pos apos kpos:Pos} {e o:Expr} {es:List Expr} {kws:List Keyword} {te ta:TE} {t tk:TA} {nm:Option Str}
variable {g:List Value->List Value->List Value} {gV:List V->List V->List V}
end
structure aH (N P:List Str) (sc:Scope):Prop where
 kind:sc.kind=.function
 co:sc.isCoroutine=false
 gen:sc.isGenerator=false
 nd:N.Nodup
 pre:N.take P.length=P
 par:∀ x∈P,sc.names.lookup x=some .local\/sc.names.lookup x=some .cell
 EU:∀ y∈sc.names,y.2≠.free
theorem qF {kindOf:Str->Option NameKind} {x:Str}:∀ {binds:List (Str×Value)} {m:Str->Option Value},(∀ v,(x,v) ∉ binds)->bindL kindOf binds m x=m x
 | [],_,_=>rfl
 | (n,v)::r,m,h=>by
  unfold bindL
  rw [qF fun w hw=>h w (List.mem_cons_of_mem _ hw)]
  split
  ·have:x≠n:=by rintro rfl;exact h v List.mem_cons_self
   simp [this]
  ·rfl
theorem qY {kindOf:Str->Option NameKind} {x:Str}:∀ {binds:List (Str×Value)} {m:Str->Option Value},(∀ v,(x,v) ∉ binds)->bindC kindOf binds m x=m x
 | [],_,_=>rfl
 | (n,v)::r,m,h=>by
  unfold bindC
  rw [qY fun w hw=>h w (List.mem_cons_of_mem _ hw)]
  split
  ·rfl
  ·have:x≠n:=by rintro rfl;exact h v List.mem_cons_self
   simp [this]
theorem qK {kindOf:Str->Option NameKind} {x:Str} {v:Value}:∀ {P:List Str} {vs:List Value} {i:Nat} {m:Str->Option Value},P.Nodup->P[i]?=some x->vs[i]?=some v->kindOf x=some .local ->
  bindL kindOf (P.zip vs) m x=some v
 | [],_,_,_,_,h,_,_=>by simp at h
 | _::_,[],_,_,_,_,h,_=>by simp at h
 | p::P,w::vs,0,m,nd,h1,h2,hk=>by
  simp at h1 h2;subst h1;subst h2
  show bindL kindOf ((p,w)::P.zip vs) m p=_
  unfold bindL
  rw [qF fun v hv=>(List.nodup_cons.mp nd).1 (List.of_mem_zip hv).1,if_pos hk]
  simp
 | p::P,w::vs,i+1,m,nd,h1,h2,hk=>by
  show bindL kindOf ((p,w)::P.zip vs) m x=_
  unfold bindL
  exact qK (i:=i) (List.nodup_cons.mp nd).2 (by simpa using h1) (by simpa using h2) hk
theorem rC {kindOf:Str->Option NameKind} {x:Str} {v:Value}:∀ {P:List Str} {vs:List Value} {i:Nat} {m:Str->Option Value},P.Nodup->P[i]?=some x->vs[i]?=some v->kindOf x≠some .local ->
  bindC kindOf (P.zip vs) m x=some v
 | [],_,_,_,_,h,_,_=>by simp at h
 | _::_,[],_,_,_,_,h,_=>by simp at h
 | p::P,w::vs,0,m,nd,h1,h2,hk=>by
  simp at h1 h2;subst h1;subst h2
  show bindC kindOf ((p,w)::P.zip vs) m p=_
  unfold bindC
  rw [qY fun v hv=>(List.nodup_cons.mp nd).1 (List.of_mem_zip hv).1,if_neg hk]
  simp
 | p::P,w::vs,i+1,m,nd,h1,h2,hk=>by
  show bindC kindOf ((p,w)::P.zip vs) m x=_
  unfold bindC
  exact rC (i:=i) (List.nodup_cons.mp nd).2 (by simpa using h1) (by simpa using h2) hk
def start (N:List Str) (vs:List V):St:=vs.map some++List.replicate (N.length-vs.length) none
def kK (CX:BK) (P:Program) (w:World) (K:PySem.W.Frag) (mg:Str->Option Value) (base:Heap) (N:List Str) (qual:Str) (scope:Scope) (f:Addr) (cd:Value) (A:Around) (outer:List Env) (s:Shared) (H:Hp) (E:XK):Cx where
 prog:=P
 w:=w
 K:=K
 mg:=mg
 base:=base
 A:=A.deeper (envOfC qual scope s.heap.objs.size f cd)
 N:=N
 s₀:=s
 H₀:=H
 env:=envOfC qual scope s.heap.objs.size f cd
 outer:=outer
 stack:=envOfC qual scope s.heap.objs.size f cd::outer
 ex:=[]
 calm:=true
 fn:=fun _=>true
 pn:=[]
 xe:=fun e s'=>wpAny (model P w) (A.deeper (envOfC qual scope s.heap.objs.size f cd)) (leaving (envOfC qual scope s.heap.objs.size f cd) e) (fun _ s''=>CX outer H s E e s'') (fun e' s''=>CX outer H s E e' s'') s'
theorem uQ {sc:Scope} {n:Nat} {x:Str} (h:sc.names.lookup x=some .cell):∃ c,(cellsFrom n sc.names []).lookup x=some c:=by
 have q:=PySem.W.cellsFrom_some sc.names n [] (.inl h)
 exact Option.isSome_iff_exists.mp q
theorem yn {CX:BK} {P:Program} {w:World} {K:PySem.W.Frag} {mg:Str->Option Value} {base:Heap} {N ps:List Str} {qual:Str} {scope:Scope} {f:Addr} {cd:Value} {A:Around} {outer:List Env} {s s1:Shared} {H:Hp} {E:XK} {us:List Value} {vs:List V}
  (S:aH N ps scope) (hd:A.handled=none) (e0:v_ P w K mg base A outer s H) (hl:vs.length=ps.length) (r:Vals vs us)
  (x:InCallC s s.heap.objs.size (bindL (envOfC qual scope s.heap.objs.size f cd).kindOf (ps.zip us) fun _=>none) (cellsFrom (s.heap.objs.size+1) scope.names []) (bindC (envOfC qual scope s.heap.objs.size f cd).kindOf (ps.zip us) fun _=>none) s1) :
  Inv (kK CX P w K mg base N qual scope f cd A outer s H E) [] (start N vs) H s1:=by
 have hpl:ps.length<=N.length:=by have:=congrArg List.length S.pre;rw [List.length_take] at this;omega
 obtain ⟨h1,tk,rfl,hk⟩:=x.done
 have vv:∀ b:Addr,b ∉ (kK CX P w K mg base N qual scope f cd A outer s H E).ex:=fun b z=>absurd (show b∈([]:List Addr) from z) (by simp)
 refine ⟨⟨e0.mod,S.kind,rfl,rfl,Nat.le_refl _,fun y z c h1 h2=>?_,fun y hy=>?_,fun y c _ h=>?_,fun _=>hd,Around.frames_deeper e0.frames,.inr ⟨rfl,rfl⟩,fun b z=>absurd z (vv b),e0.bs,e0.B_,fun b _ _=>vv b,fun b z=>absurd z (vv b),e0.nF,e0.DT⟩,
  rfl,e0.bare,Un.kept hk,⟨_,x.toInCall.ns,fun i y v h1 h2 h3=>?_⟩,fun y c h=>⟨_,x.cell y c h⟩,e0.bu.fresh (Nat.le_refl _),fun y c h=>?_,fun p hp=>absurd (show p∈([]:List (Addr×Obj)) from hp) (by simp),e0.bu.kept hk,?_⟩
 ·exact name_of_addr x.apart (PySem.mem_of_lookup h1) (PySem.mem_of_lookup h2)
 ·have hy:scope.names.lookup y=some .cell\/scope.names.lookup y=some .free:=hy
  rcases hy with hy | hy
  ·exact uQ hy
  ·exact absurd rfl (S.EU _ (PySem.mem_of_lookup hy))
 ·exact Nat.le_of_lt (x.above y c (PySem.mem_of_lookup h))
 ·have hi:i<vs.length:=by
   unfold start at h2
   by_cases hi:i<vs.length
   ·exact hi
   ·rw [List.getElem?_append_right (by simpa using hi)] at h2
    rw [List.getElem?_replicate] at h2
    split at h2 <;> cases h2
  have ha:vs[i]?=some v:=by
   unfold start at h2
   rw [List.getElem?_append_left (by simpa using hi),List.getElem?_map] at h2
   cases e:vs[i]? with
   | none=>rw [e] at h2;cases h2
   | some a=>rw [e] at h2;cases h2;rfl
  obtain ⟨u,hu,rv⟩:=r.get ha
  have hp:ps[i]?=some y:=by
   rw [← S.pre,List.getElem?_take_of_lt (by omega)];exact h1
  have ndP:ps.Nodup:=by rw [← S.pre];exact S.nd.sublist (List.take_sublist _ _)
  refine ⟨u,rv,?_⟩
  rcases S.par y (List.mem_of_getElem? hp) with k | k
  ·exact .inl ⟨k,qK ndP hp hu k⟩
  ·obtain ⟨c,e⟩:=uQ (n:=s.heap.objs.size+1) k
   refine .inr ⟨.inl k,c,e,?_⟩
   have q:=x.cell y c e
   rw [rC ndP hp hu (by show scope.names.lookup y≠_;rw [k];decide)] at q
   exact q
 ·exact e0.bu.fresh (Nat.le_of_lt (x.above y c (PySem.mem_of_lookup h)))
 ·unfold start
  show _=N.length
  rw [List.length_append,List.length_map,List.length_replicate]
  omega
theorem Gq {CX:BK} {P:Program} {w:World} {K:PySem.W.Frag} {mg:Str->Option Value} {base:Heap} {k:Nat} {f:Addr} {name qual:Str} {params:Arguments} {body:List Stmt} {scope:Scope} {dV kV doc pm cdv ct oc:Value} {an od:Option Addr}
  {osl:Array (Option Value)} {N ps:List Str} {sp:Sp} (lk:K.lookup f=some ⟨oc,od,.func (PySem.W.fnOf name qual params body scope dV kV doc pm an cdv ct),osl⟩) (hcd:PySem.W.codeIn K cdv qual=true) (S:aH N ps scope)
  (len:∀ vs H Q E,sp vs H Q E->vs.length=ps.length)
  (hbody:∀ (A:Around) (outer:List Env) (s:Shared) (H:Hp) (vs:List V) (Q:VK) (E:XK),cy k (A.deeper (envOfC qual scope s.heap.objs.size f cdv))->sp vs H Q E ->
   ∃ t,nM (kK CX P w K mg base N qual scope f cdv A outer s H E) body t/\t { nx:=fun _ H'=>Q .c8 H',rt:=Q } (start N vs) H) :
  aY P w K mg base CX (k+1) f (PySem.W.fnOf name qual params body scope dV kV doc pm an cdv ct) ps sp:=by
 refine ⟨len,fun A outer s H args us vs Q E hr e0 hb r hsp=>?_⟩
 have hl:=len _ _ _ _ hsp
 have KX:K.In s.heap:=e0.mod.Dq.keeps fun b o e=>(e0.bs b o e).1
 have lim:s.heap.NoLimit:=e0.mod.nolimit.keeps fun b o e=>(e0.bs b o e).1
 have hkind:∀ y∈ps.zip us,scope.names.lookup y.1=some .local\/(scope.names.lookup y.1=some .cell/\((cellsFrom (s.heap.objs.size+1) scope.names []).lookup y.1).isSome=true):=fun ⟨n,v⟩ hy=>by
  rcases S.par n (List.of_mem_zip hy).1 with q | q
  ·exact .inl q
  ·exact .inr ⟨q,PySem.W.cellsFrom_some _ _ _ (.inl q)⟩
 refine codeAny_call_function hr.depth (KX _ _ lk) rfl S.co S.gen rfl (PySem.W.codeRec_of KX hcd) (hb _ _ _ _ ?_)
 refine wpAny_newFunctionEnv_cells S.kind hkind fun env he s1 x=>?_
 subst he
 refine ⟨lim.keeps x.toInCall.keep,codeAny_func ?_⟩
 obtain ⟨t,ht,hq⟩:=hbody A outer s H vs Q E (hr.deeper _) hsp
 have I:Inv (kK CX P w K mg base N qual scope f cdv A outer s H E) [] (start N vs) H s1:=yn S hr.hd e0 hl r x
 refine wpAny_mono (ht [] s1 (start N vs) H _ I hq) (fun fl s' hs=>?_) fun e s' hs=>hs
 have fin:∀ {σ':St} {H':Hp} {v:V} {u:Value},Inv (kK CX P w K mg base N qual scope f cdv A outer s H E) [] σ' H' s'->RelV v u->Q v H'->CE outer P w H s Q u s' :=
  fun {σ' H' v u} J rv q=>⟨v,H',J.os,J.bare,J.base,J.bu,rv,q⟩
 cases fl with
 | ret u =>
  obtain ⟨v,σ',H',J,rv,q⟩:=hs
  exact fin J rv q
 | next =>
  obtain ⟨σ',H',J,q⟩:=hs
  exact fin (v:=V.c8) (u:=Value.none) J rfl q
 | brk =>
  obtain ⟨_,_,_,q⟩:=hs
  exact False.elim q
 | cont =>
  obtain ⟨_,_,_,q⟩:=hs
  exact False.elim q
end L2
namespace L2
open PySem PySem.Spec PyProof.Rows
section
variable {X:Cx} {x:Str} {p pos:Pos} {e:Expr} {es:List Expr} {t:TA} {id T:String} {r:List V->Hp->VK->Prop}
def LZ (r:List V->Hp->VK->Prop) (t:TA):TE:=fun σ H Q=>t σ H fun vs H1=>r vs H1 Q
theorem n9 (hc:dP X (.builtin id) r) (hg:Gl X x) (hm:X.mg x=none) (hv:bootBuiltins x=some (.builtin id)) (ha:PA X (e::es) t) (hn:x ≠ "__name__" := by decide) (hdb:(x==("__debug__" : Str))=false:=by decide)
  (he:starEach (e::es) X.env=(false,eval e X.env)::starEach es X.env:=by rfl) (hpl:(backTo pos (starEach es X.env)).any (·.1)=false:=by rfl):PE X (.Call (.Name x p) (e::es) [] pos) (LZ r t):=by
 intro pins s σ H Q I h
 refine wpAny_Call_Name_kw (gX I hg hm hv ?_ hn hdb)
 exact PyProof.Rows.callWith_builtin1 (cF (ha pos pins s σ H _ I h) fun us s1 ⟨vs,H1,I1,r1,q1⟩=>hc pins s1 σ H1 vs us Q I1 r1 q1) he hpl
theorem ro (hc:dP X (.type T) r) (hg:Gl X x) (hm:X.mg x=none) (hv:bootBuiltins x=some (.type T)) (ha:PA X (e::es) t) (hn:x ≠ "__name__" := by decide) (hdb:(x==("__debug__" : Str))=false:=by decide)
  (he:starEach (e::es) X.env=(false,eval e X.env)::starEach es X.env:=by rfl) (hpl:(backTo pos (starEach es X.env)).any (·.1)=false:=by rfl):PE X (.Call (.Name x p) (e::es) [] pos) (LZ r t):=by
 intro pins s σ H Q I h
 refine wpAny_Call_Name_kw (gX I hg hm hv ?_ hn hdb)
 exact PyProof.Rows.callWith_type1 (cF (ha pos pins s σ H _ I h) fun us s1 ⟨vs,H1,I1,r1,q1⟩=>hc pins s1 σ H1 vs us Q I1 r1 q1) he hpl
end
end L2
namespace HT
open PySem PyProof.Rows
section
open PySem.SeqAt
open PySem.AutoSeq1 (wpAny_loadPart')
open PySem.MeetsSeq PySem.MeetsSeq2 PySem.MeetsSeq3
end
section
variable {prog:Program} {w:World} {A:Around} {E:Value->Shared->Prop} {s:Shared}
theorem CM {t b:Addr} {vs ws:List Value} {Q:Value->Shared->Prop} (ht:IsTup s.heap t vs.toArray) (hb:IsTup s.heap b ws.toArray) (hv:vs≠[])
  (h1:ws=[]->Q (.ref t) s) (h2:ws≠[]->Q (.ref s.heap.objs.size) { s with heap:=s.heap.push { cls:=.type "tuple", data:=.seq (vs++ws).toArray } })
  (hsz:vs.length+ws.length<=sizeLine):wpAny (model prog w) A (binaryOp .Add (.ref t) (.ref b)) Q E s:=by
 obtain ⟨⟨cls,dd,data,sl⟩,ho,hc,n,hd⟩:=id ht
 obtain ⟨⟨cls2,dd2,data2,sl2⟩,ho2,hc2,n2,hd2⟩:=id hb
 simp only at hc hd hc2 hd2
 subst hc hd hc2 hd2
 have e:vs.toArray++ws.toArray=(vs++ws).toArray:=by simp
 by_cases hw:ws=[]
 ·exact concat_meets ⟨_,ho,rfl⟩ ⟨_,ho2,rfl⟩ noFill_tuple_add seq_tuple_add PySem.F.slot_tuple_add PySem.F.entry_tuple_add (PySem.F.args_tuple_add_2 _ _)
   (tuple_addW1 t b vs.toArray ws.toArray n n2 dd dd2 sl sl2 (by simpa using hv) (by simp [hw])) ⟨ho,ho2,h1 hw⟩
 ·refine concat_meets ⟨_,ho,rfl⟩ ⟨_,ho2,rfl⟩ noFill_tuple_add seq_tuple_add PySem.F.slot_tuple_add PySem.F.entry_tuple_add (PySem.F.args_tuple_add_2 _ _)
   (tuple_addW2 t b vs.toArray ws.toArray n n2 dd dd2 sl sl2 (by simpa using hv) (by simpa using hw) (by rw [List.size_toArray,List.size_toArray];exact hsz)) ⟨ho,ho2,?_⟩
  rw [e]
  exact h2 hw
def dU (n d:Nat):Option Int->Nat
 | none=>d
 | some v=>if v<0 then (v+(n:Int)).toNat else min v.toNat n
theorem xc (n d k:Nat):dU n d (some (k:Int))=min k n:=by
 show (if (k:Int)<0 then ((k:Int)+(n:Int)).toNat else min (k:Int).toNat n)=min k n
 rw [if_neg (by omega),Int.toNat_natCast]
theorem FQ (n d:Nat) (hd:d<=n) (o:Option Int):dU n d o<=n:=by
 cases o with
 | none=>exact hd
 | some v =>
  show (if v<0 then (v+(n:Int)).toNat else min v.toNat n)<=n
  by_cases hv:v<0
  ·rw [if_pos hv];omega
  ·rw [if_neg hv];exact Nat.min_le_right _ _
theorem wD (v:Int) (n d:Nat):(if v<0 then max (v+(n:Int)) 0 else min v (n:Int))=((dU n d (some v):Nat):Int):=by
 show (if v<0 then max (v+(n:Int)) 0 else min v (n:Int))=(((if v<0 then (v+(n:Int)).toNat else min v.toNat n):Nat):Int)
 by_cases hv:v<0
 ·simp only [if_pos hv];omega
 ·simp only [if_neg hv];omega
theorem vh (lo hi:Option Int) (n:Nat):Builtin.Slice.sliceAdjust lo hi 1 (n:Int)=(((dU n 0 lo:Nat):Int),((dU n n hi:Nat):Int)):=by
 have h1:¬ ((1:Int)<0):=by omega
 unfold Builtin.Slice.sliceAdjust
 simp only [h1,if_false]
 refine Prod.ext ?_ ?_
 ·cases lo with
  | none=>rfl
  | some v=>exact wD v n 0
 ·cases hi with
  | none=>rfl
  | some v=>exact wD v n n
theorem v9 (i j:Nat):Builtin.Slice.slicePlaces (i:Int) (j:Int) 1=j-i:=by
 unfold Builtin.Slice.slicePlaces
 have h1:(1:Int)>0:=by omega
 simp only [h1,if_true,Int.ediv_one]
 split <;> omega
theorem oI {v:Value} {o:Option Int} {Q:Option Int->Shared->Prop} (p:IsPart v o) (h:Q o s):wpAny (model prog w) A (Builtin.Slice.slicePartIndex v) Q E s:=by
 cases p with
 | none=>exact slicePart_none h
 | int i t=>exact slicePart_int h
theorem l7 {sl:Addr} {vl vu:Value} {lo hi:Option Int} {n:Nat} {Q:Int×Int×Nat->Shared->Prop} (hs:s.heap.IsSliceOf sl vl vu .none) (pl:IsPart vl lo) (pu:IsPart vu hi)
  (h:Q (((dU n 0 lo:Nat):Int),1,dU n n hi-dU n 0 lo) s):wpAny (model prog w) A (Builtin.Slice.sliceApplied (.ref sl) (pure (n:Int))) Q E s:=by
 obtain ⟨os,hos,hcs,hds⟩:=id hs
 unfold Builtin.Slice.sliceApplied Builtin.Slice.sliceFields
 refine wpAny_bind (wpAny_bind (wpAny_field hos hds (x:=vl) rfl (wpAny_bind (wpAny_field hos hds (x:=vu) rfl (wpAny_bind (wpAny_field hos hds (x:=.none) rfl (wpAny_pure ?_)))))))
 refine wpAny_bind (slicePart_none ?_)
 show wpAny _ _ (if ((1:Int)==0)=true then _ else _) _ _ s
 rw [if_neg (by decide)]
 refine wpAny_bind (oI pl (wpAny_bind (oI pu (wpAny_bind (wpAny_pure ?_)))))
 show wpAny _ _ (match Builtin.Slice.sliceAdjust lo hi 1 (n:Int) with | (lo,hi)=>pure (lo,(1:Int),Builtin.Slice.slicePlaces lo hi 1)) _ _ s
 rw [vh lo hi n]
 show wpAny _ _ (pure (((dU n 0 lo:Nat):Int),(1:Int),Builtin.Slice.slicePlaces ((dU n 0 lo:Nat):Int) ((dU n n hi:Nat):Int) 1)) _ _ s
 rw [v9]
 exact wpAny_pure h
theorem Ai (xs:Array Value) (i k:Nat):((List.range k).filterMap fun (m:Nat)=>xs[((i:Int)+(m:Int)*1).toNat]?).toArray=((xs.toList.drop i).take k).toArray:=by
 have e:(fun (m:Nat)=>xs[((i:Int)+(m:Int)*1).toNat]?)=fun m=>xs[i+m]?:=by
  funext m
  have:((i:Int)+(m:Int)*1).toNat=i+m:=by omega
  rw [this]
 rw [e]
 have:=pick_run xs i k
 rw [List.filterMap_map] at this
 have e2:((fun x=>xs[x]?)∘fun x=>i+x)=fun m=>xs[i+m]?:=rfl
 rw [e2] at this
 rw [this]
theorem lL {t sl:Addr} {items:Array Value} {vl vu:Value} {lo hi:Option Int} {Q:Value->Shared->Prop} (ht:IsTup s.heap t items) (hs:s.heap.IsSliceOf sl vl vu .none) (pl:IsPart vl lo) (pu:IsPart vu hi)
  (hw:¬ (dU items.size 0 lo=0/\dU items.size items.size hi=items.size))
  (h:Q (.ref s.heap.objs.size) { s with heap:=s.heap.push { cls:=.type "tuple", data:=.seq ((items.toList.drop (dU items.size 0 lo)).take (dU items.size items.size hi-dU items.size 0 lo)).toArray } })
  (hsz:items.size<=sizeLine):wpAny (model prog w) A (getItem (.ref t) (.ref sl)) Q E s:=by
 have htake:sizeOk (.seq ((items.toList.drop (dU items.size 0 lo)).take (dU items.size items.size hi-dU items.size 0 lo)).toArray):=by
  show ((items.toList.drop (dU items.size 0 lo)).take (dU items.size items.size hi-dU items.size 0 lo)).toArray.size<=sizeLine
  rw [List.size_toArray,List.length_take,List.length_drop,Array.length_toList]
  omega
 have hj:dU items.size items.size hi<=items.size:=FQ _ _ (Nat.le_refl _) hi
 obtain ⟨os,hos,hcs,hds⟩:=id hs
 have hTs:s.TypeIs (.ref sl) "slice" := ⟨os,hos,hcs⟩
 unfold getItem
 try with_reducible refine wpAny_holding ?_
 first | refine wpAny_bind (wpAny_pure ?_) | skip
 refine wpAny_bind (wpAny_sequenceKey ht.typeIs (by decide) ?_)
 refine wpAny_bind (wpAny_callSpecial?_slot (name:=Str.ofString "__getitem__") ht.typeIs PyProof.Rows.slot_tuple_getitem
  (wpAny_call_entry PyProof.Rows.slot_tuple_getitem ht.typeIs entry_tuple_getitem ?_ (args_tuple_getitem _ _)))
 show wpAny _ _ (Builtin.Tuple.tupleItemsOf (.ref t) >>= _) _ _ s
 refine wpAny_bind (tupleItemsOf_ ht ?_)
 refine wpAny_bind (wpAny_typeOf hTs ?_)
 rw [if_pos (by decide)]
 refine wpAny_bind (l7 hs pl pu ?_)
 have hno:¬ ((((dU items.size 0 lo:Nat):Int)==0&&(1:Int)==1&&(dU items.size items.size hi-dU items.size 0 lo)==items.size)=true):=by
  intro q
  rw [Bool.and_eq_true,Bool.and_eq_true] at q
  have q1:((dU items.size 0 lo:Nat):Int)=0:=eq_of_beq q.1.1
  have q2:dU items.size items.size hi-dU items.size 0 lo=items.size:=eq_of_beq q.2
  exact hw ⟨by omega,by omega⟩
 show wpAny _ _ (if (((dU items.size 0 lo:Nat):Int)==0&&(1:Int)==1&&(dU items.size items.size hi-dU items.size 0 lo)==items.size)=true then _ else _) _ _ s
 rw [if_neg hno,Ai]
 first
  | exact wpAny_bind (m:=Builtin.Tuple.tupleExact _) (wpAny_newObj_type (wpAny_pure ⟨_,rfl,wpAny_pure h⟩) htake)
  | exact wpAny_bind (m:=Builtin.Tuple.tupleExact _) (wpAny_newObj_type (wpAny_bind (wpAny_pure (wpAny_pure ⟨_,rfl,wpAny_pure h⟩))) htake)
  | exact wpAny_bind (wpAny_bind (m:=Builtin.Tuple.tupleExact _) (wpAny_newObj_type (wpAny_pure (wpAny_pure ⟨_,rfl,wpAny_pure h⟩)) htake))
  | exact wpAny_bind (wpAny_bind (m:=Builtin.Tuple.tupleExact _) (wpAny_newObj_type (wpAny_pure ⟨_,rfl,wpAny_pure h⟩) htake))
end
end HT
namespace L2
open PySem PySem.Spec PyProof.Rows
abbrev TO:=St->Hp->(Option Int->Hp->Prop)->Prop
def PO (X:Cx) (e:Option Expr) (t:TO):Prop :=
 ∀ (pins:List (Addr×Obj)) (s:Shared) (σ:St) (H:Hp) (Q:Option Int->Hp->Prop),Inv X pins σ H s->t σ H Q ->
  wpAny (model X.prog X.w) X.A (evalPart e X.env) (fun u s'=>∃ o H',Inv X pins σ H' s'/\IsPart u o/\Q o H') X.xe s
def G7 (t:TE):TO:=fun σ H Q=>t σ H fun x H1=>∃ i,x=.int i/\Q (some i) H1
section
variable {X:Cx} {e:Expr} {te:TE} {lo hi:Option Expr} {tl th:TO} {pos p2:Pos}
theorem CP (h:PE X e te):PO X (some e) (G7 te):=by
 intro pins s σ H Q I hw
 rw [evalPart_some]
 refine cF (h pins s σ H _ I hw) fun u s1 ⟨x,H1,I1,r1,q1⟩=>?_
 obtain ⟨i,rfl,q⟩:=q1
 obtain ⟨t,rfl⟩:=r1
 exact ⟨some i,H1,I1,.int i t,q⟩
def Dl (X:Cx) (r:V->Option Int->Option Int->Hp->VK->Prop):Prop :=
 ∀ (pins:List (Addr×Obj)) (s:Shared) (σ:St) (H:Hp) (x:V) (v vl vu:Value) (lo hi:Option Int) (sl:Addr) (Q:VK),Inv X pins σ H s->RelV x v->s.heap.IsSliceOf sl vl vu .none->IsPart vl lo->IsPart vu hi->r x lo hi H Q ->
  ∃ T id,typeLookup (.type T) "__getitem__" = pure (some (.builtin id))/\s.TypeIs v T/\wpAny (model X.prog X.w) X.A (getItem v (.ref sl)) (EP X pins σ Q) X.xe s
theorem Dl.or {r r':V->Option Int->Option Int->Hp->VK->Prop} (h:Dl X r) (h':Dl X r'):Dl X (fun x lo hi H Q=>r x lo hi H Q\/r' x lo hi H Q):=by
 intro pins s σ H x v vl vu lo hi sl Q I rx hs pl pu q
 rcases q with q | q
 ·exact h pins s σ H x v vl vu lo hi sl Q I rx hs pl pu q
 ·exact h' pins s σ H x v vl vu lo hi sl Q I rx hs pl pu q
def SY (r:V->Option Int->Option Int->Hp->VK->Prop) (te:TE) (tl th:TO):TE:=fun σ H Q=>te σ H fun x H1=>tl σ H1 fun l H2=>th σ H2 fun u H3=>r x l u H3 Q
theorem zj {r:V->Option Int->Option Int->Hp->VK->Prop} (hr:Dl X r) (he:PE X e te) (hl:PO X lo tl) (hu:PO X hi th):PE X (.Subscript e (.Slice lo hi none p2) pos) (SY r te tl th):=by
 intro pins s σ H Q I h
 refine Subscript_ (cF (he pins s σ H _ I h) fun v s1 ⟨x,H1,I1,r1,q1⟩=>?_)
 refine wpAny_Slice (cF (hl pins s1 σ H1 _ I1 q1) fun vl s2 ⟨l,H2,I2,pl,q2⟩=>cF (hu pins s2 σ H2 _ I2 q2) fun vu s3 ⟨u,H3,I3,pu,q3⟩=>?_)
 rw [evalPart_none]
 refine wpAny_pure ?_
 have I4:Inv X pins σ H3 { s3 with heap:=s3.heap.push { cls:=.type "slice", data:=.fields #[vl,vu,.none] } }:=I3.kept (t':=s3.toks) fun b ob q=>Heap.get?_push_of_some _ q
 obtain ⟨T,id,hT,ht,hg⟩:=hr pins { s3 with heap:=s3.heap.push { cls:=.type "slice", data:=.fields #[vl,vu,.none] } } σ H3 x v vl vu l u s3.heap.objs.size Q I4 r1 (Heap.IsSliceOf.new ..) pl pu q3
 show wpAny (model X.prog X.w) X.A (subscriptTail e (.Slice lo hi none p2) v (.ref s3.heap.objs.size)) (EP X pins σ Q) X.xe { s3 with heap:=s3.heap.push { cls:=.type "slice", data:=.fields #[vl,vu,.none] } }
 exact tail_any (ops:=[.ref s3.heap.objs.size,v]) ht hT hg (by with_unfolding_all rfl)
def tZ (xs:List V) (lo hi:Option Int):List V:=(xs.drop (HT.dU xs.length 0 lo)).take (HT.dU xs.length xs.length hi-HT.dU xs.length 0 lo)
theorem mV (xs:List V) (lo hi:Option Int):(tZ xs lo hi).length<=xs.length:=by
 unfold tZ
 rw [List.length_take,List.length_drop]
 omega
def Jg (K:PySem.W.Frag):V->Option Int->Option Int->Hp->VK->Prop:=fun x lo hi H Q=>∃ a xs,x=.ref a/\ji K H a xs ∧
 ¬ (HT.dU xs.length 0 lo=0/\HT.dU xs.length xs.length hi=xs.length)/\∀ p,H p=none->Q (.ref p) (upd H p (.tup (tZ xs lo hi)))
theorem DM:Dl X (Jg X.K):=by
 intro pins s σ H x v vl vu lo hi sl Q I rx hs pl pu h
 obtain ⟨a,xs,rfl,hx,hw,q⟩:=h
 cases rx
 obtain ⟨its,r,ht,hz⟩:=I.tuple hx
 have hlen:its.toArray.size=xs.length:=by rw [List.size_toArray];exact r.length.symm
 refine ⟨"tuple", _,PyProof.Rows.slot_tuple_getitem.lookup,ht.typeIs,?_⟩
 refine HT.lL ht hs pl pu (by rw [hlen];exact hw) ?_ (by rw [hlen];exact hz)
 rw [hlen]
 refine ⟨.ref s.heap.objs.size,_,I.laid (t':=s.toks) (o:=.tup (tZ xs lo hi)) (fun b ob q=>Heap.get?_push_of_some _ q) (Nat.le_refl _) ?_,rfl,q _ (I.bu.fresh (Nat.le_refl _))⟩
 exact ⟨Nat.le_trans (mV xs lo hi) hz,_,(r.drop (HT.dU xs.length 0 lo)).take (HT.dU xs.length xs.length hi-HT.dU xs.length 0 lo),IsTup.new _ _⟩
def Dh (K:PySem.W.Frag):R2:=fun x y H Q=>∃ a b xs ys,x=.ref a/\y=.ref b/\ji K H a xs/\ji K H b ys/\xs≠[]/\xs.length+ys.length<=sizeLine ∧
 (ys=[]->Q (.ref a) H)/\(ys≠[]->∀ p,H p=none->Q (.ref p) (upd H p (.tup (xs++ys))))
theorem Vals.lN {xs:List V} {us:List Value} (r:Vals xs us):us=[] ↔ xs=[]:=by
 cases r with
 | nil=>simp
 | cons _ _=>simp
theorem Cu:hX X (binaryOp .Add) (Dh X.K):=by
 intro pins s σ H x y v u Q I rx ry h
 obtain ⟨a,b,xs,ys,rfl,rfl,ha,hb,hx,hz,q1,q2⟩:=h
 cases rx
 cases ry
 obtain ⟨its,r1,p1,_⟩:=I.tuple ha
 obtain ⟨its2,r2,p2,_⟩:=I.tuple hb
 refine HT.CM p1 p2 (fun z=>hx (r1.lN.mp z)) (fun z=>⟨.ref a,H,I,rfl,q1 (r2.lN.mp z)⟩) (fun z=>?_) (by rw [← r1.length,← r2.length];exact hz)
 refine ⟨.ref s.heap.objs.size,_,I.laid (t':=s.toks) (o:=.tup (xs++ys)) (fun b ob q=>Heap.get?_push_of_some _ q) (Nat.le_refl _) ?_,rfl,q2 (fun w=>z (r2.lN.mpr w)) _ (I.bu.fresh (Nat.le_refl _))⟩
 exact ⟨by rw [List.length_append];exact hz,_,r1.append r2,IsTup.new _ _⟩
end
end L2
namespace L2
open PySem PySem.Spec PyProof.Rows
def FV (n:Nat) (i:Int):Option Nat:=if 0<=i then (if i<n then some i.toNat else none) else if -(n:Int)<=i then some (i+n).toNat else none
def tH {α:Type} (xs:List α) (i:Int):Option α:=(FV xs.length i).bind fun j=>xs[j]?
theorem CJ {n:Nat} {i:Int} {j:Nat} (h:FV n i=some j):seqIndex? i n=some j/\j<n/\-(n:Int)<=i/\i<n:=by
 unfold FV at h
 by_cases h0:0<=i
 ·rw [if_pos h0] at h
  by_cases h1:i<n
  ·rw [if_pos h1] at h
   have e:i.toNat=j:=Option.some.inj h
   exact ⟨by rw [seqIndex_of h0 h1,e],by omega,by omega,h1⟩
  ·rw [if_neg h1] at h;cases h
 ·rw [if_neg h0] at h
  by_cases h1:-(n:Int)<=i
  ·rw [if_pos h1] at h
   have e:(i+n).toNat=j:=Option.some.inj h
   exact ⟨by rw [seqIndex_neg (by omega) h1,e],by omega,h1,by omega⟩
  ·rw [if_neg h1] at h;cases h
theorem ti {α:Type} {xs:List α} {i:Int} {v:α} (h:tH xs i=some v):∃ j,seqIndex? i xs.length=some j/\xs[j]?=some v/\j<xs.length/\-(xs.length:Int)<=i/\i<xs.length:=by
 unfold tH at h
 cases e:FV xs.length i with
 | none=>rw [e] at h;cases h
 | some j =>
  rw [e] at h
  obtain ⟨h1,h2,h3,h4⟩:=CJ e
  exact ⟨j,h1,h,h2,h3,h4⟩
theorem sO {α:Type} {xs:List α} {j:Nat} {v:α} (h:xs[j]?=some v):tH xs (j:Int)=some v:=by
 have hj:j<xs.length:=(List.getElem?_eq_some_iff.mp h).1
 have e:FV xs.length (j:Int)=some j:=by
  unfold FV
  rw [if_pos (by omega),if_pos (by omega)];simp
 unfold tH;rw [e];exact h
def wQ (b:Expr):Prop:=∀ o i,subscripted b false o i=operate [o,i] (getItem o i)
def Cd (X:Cx) (r:R2):Prop :=
 ∀ (value slice:Expr) (pins:List (Addr×Obj)) (s:Shared) (σ:St) (H:Hp) (x y:V) (v u:Value) (Q:VK),Inv X pins σ H s->RelV x v->RelV y u->r x y H Q ->
  subscripted slice false v u=operate [v,u] (getItem v u)->wpAny (model X.prog X.w) X.A (subscriptTail value slice v u) (EP X pins σ Q) X.xe s
def Rc (X:Cx) (id:String) (r:V->List V->Hp->VK->Prop):Prop :=
 ∀ (pins:List (Addr×Obj)) (s:Shared) (σ:St) (H:Hp) (x:V) (xs:List V) (v:Value) (us:List Value) (Q:VK),Inv X pins σ H s->RelV x v->Vals xs us->r x xs H Q ->
  wpAny (model X.prog X.w) X.A (call (.builtin id) (v::us)) (EP X pins σ Q) X.xe s
section
variable {X:Cx} {a b:Expr} {ta tb:TE} {pos:Pos}
theorem Cd.or {r r':R2} (h:Cd X r) (h':Cd X r'):Cd X (fun x y H Q=>r x y H Q\/r' x y H Q):=by
 intro value slice pins s σ H x y v u Q I rx ry q hs
 rcases q with q | q
 ·exact h value slice pins s σ H x y v u Q I rx ry q hs
 ·exact h' value slice pins s σ H x y v u Q I rx ry q hs
theorem Gj {r:R2} (hr:Cd X r) (ha:PE X a ta) (hb:PE X b tb) (hs:wQ b):PE X (.Subscript a b pos) (Hu r ta tb):=by
 intro pins s σ H Q I h
 exact Subscript_ (Ew ha hb I h fun v u s2 x y H2 I2 rx ry q=>hr a b pins s2 σ H2 x y v u Q I2 rx ry q (hs _ _))
def GZ (K:PySem.W.Frag):R2:=fun x y H Q=>∃ p xs i v,x=.ref p/\y=.int i/\iM K H p xs/\tH xs i=some v/\Q v H
def Ga (K:PySem.W.Frag):R2:=fun x y H Q=>∃ p xs i v,x=.ref p/\y=.int i/\ji K H p xs/\tH xs i=some v/\Q v H
def Hh:R2:=fun x y H Q=>∃ z i c,x=.str z/\y=.int i/\z.length<=sizeLine/\tH z.cps.toList i=some c/\Q (.str ⟨#[c]⟩) H
theorem CT:Cd X (GZ X.K):=by
 intro value slice pins s σ H x y v u Q I rx ry h hs
 obtain ⟨p,xs,i,z,rfl,rfl,hq,he,q⟩:=h
 cases rx
 obtain ⟨t,rfl⟩:=ry
 obtain ⟨its,r,pl,hz⟩:=I.list hq
 obtain ⟨j,h1,h2,h3,h4,h5⟩:=ti he
 obtain ⟨w,ew,rw'⟩:=r.get h2
 have hl:=r.length
 have hn:=pb
 have fin:EP X pins σ Q w s:=⟨z,H,I,rw',q⟩
 by_cases h0:0<=i
 ·have hj:i.toNat=j:=by
   rw [seqIndex_of h0 h5] at h1
   exact Option.some.inj h1
  exact item_listR pl.isList h0 (by omega) (by rw [hj];simpa using ew) fin hs
 ·have hj:(i+(its.toArray.size:Int)).toNat=j:=by
   rw [seqIndex_neg (by omega) h4] at h1
   rw [List.size_toArray,← hl]
   exact Option.some.inj h1
  exact subscriptTail_builtinR (x:=w) pl.isList.typeIs slot_list_getitem.lookup
   (wpAny_getItem_list_neg (Q:=fun r s'=>r=w/\EP X pins σ Q r s') pl.isList (by omega) (by rw [List.size_toArray] <;> omega) (by omega) (by rw [hj];simpa using ew) ⟨rfl,fin⟩) hs
theorem E2:Cd X (Ga X.K):=by
 intro value slice pins s σ H x y v u Q I rx ry h hs
 obtain ⟨p,xs,i,z,rfl,rfl,hq,he,q⟩:=h
 cases rx
 obtain ⟨t,rfl⟩:=ry
 obtain ⟨its,r,pl,hz⟩:=I.tuple hq
 obtain ⟨j,h1,h2,h3,h4,h5⟩:=ti he
 obtain ⟨w,ew,rw'⟩:=r.get h2
 have hl:=r.length
 have hn:=pb
 have fin:EP X pins σ Q w s:=⟨z,H,I,rw',q⟩
 exact subscriptTail_builtinR (x:=w) pl.typeIs slot_tuple_getitem.lookup
  (getItem_tuple (j:=j) (Q:=fun r s'=>r=w/\EP X pins σ Q r s') pl (by omega) (by omega) (by rw [List.size_toArray,← hl];exact h1) (by simpa using ew) ⟨rfl,fin⟩) hs
theorem EJ:Cd X Hh:=by
 intro value slice pins s σ H x y v u Q I rx ry h hs
 obtain ⟨z,i,c,rfl,rfl,hz,he,q⟩:=h
 obtain ⟨t,rfl⟩:=rx
 obtain ⟨t',rfl⟩:=ry
 obtain ⟨j,h1,h2,h3,h4,h5⟩:=ti he
 have hl:z.cps.toList.length=z.length:=by simp [Str.length]
 rw [hl] at h1 h4 h5
 have hn:=pb
 exact tail_any (typeIs_str s z t) slot_str_getitem.lookup (getItem_str (c:=c) (by
  have e1:decide (i < -(2^63:Int))=false:=decide_eq_false (by omega)
  have e2:decide (i>=2^63)=false:=decide_eq_false (by omega)
  rw [e1,e2,Bool.or_false]) (by rw [h1];simpa using h2) ⟨.str ⟨#[c]⟩,H,I.tok _,⟨_,rfl⟩,q⟩) hs
def Rj (K:PySem.W.Frag):R2:=fun x y H Q=>GZ K x y H Q\/Ga K x y H Q\/Hh x y H Q
theorem EM:Cd X (Rj X.K):=CT.or (E2.or EJ)
theorem rP (lo hi:Option Int) (n:Nat):(sliceBounds lo hi none n).1=((HT.dU n 0 lo:Nat):Int)/\(sliceBounds lo hi none n).2.1=((HT.dU n n hi:Nat):Int)/\(sliceBounds lo hi none n).2.2=1:=by
 refine ⟨?_,?_,rfl⟩
 ·cases lo with
  | none=>simp [sliceBounds,HT.dU]
  | some i =>
   simp only [sliceBounds,HT.dU,Option.getD_none,show (1:Int)>0 by decide,if_true]
   by_cases h:i<0
   ·simp only [h,if_true] <;> omega
   ·simp only [h,if_false] <;> omega
 ·cases hi with
  | none=>simp [sliceBounds,HT.dU]
  | some i =>
   simp only [sliceBounds,HT.dU,Option.getD_none,show (1:Int)>0 by decide,if_true]
   by_cases h:i<0
   ·simp only [h,if_true] <;> omega
   ·simp only [h,if_false] <;> omega
theorem pM (its:List Value) (lo hi:Option Int):slicePick its.toArray lo hi none=((its.drop (HT.dU its.length 0 lo)).take (HT.dU its.length its.length hi-HT.dU its.length 0 lo)).toArray:=by
 obtain ⟨h1,h2,h3⟩:=rP lo hi its.toArray.size
 unfold slicePick
 rw [h1,h2,h3]
 simp only [sliceRange_one,pick_run,List.size_toArray] <;> rfl
def Kj (K:PySem.W.Frag):V->Option Int->Option Int->Hp->VK->Prop:=fun x lo hi H Q=>∃ a xs,x=.ref a/\iM K H a xs/\∀ p,H p=none->Q (.ref p) (upd H p (.lst (tZ xs lo hi)))
theorem C2:Dl X (Kj X.K):=by
 intro pins s σ H x v vl vu lo hi sl Q I rx hs pl pu h
 obtain ⟨a,xs,rfl,hx,q⟩:=h
 cases rx
 obtain ⟨its,r,ht,hz⟩:=I.list hx
 have hlen:=r.length
 refine ⟨"list", _,slot_list_getitem.lookup,ht.isList.typeIs,?_⟩
 refine wpAny_getItem_list_slice ht.isList hs pl pu .none (by simp) ?_ (by rw [List.size_toArray] <;> omega)
 rw [pM,← hlen]
 refine ⟨.ref s.heap.objs.size,_,I.laid (t':=s.toks) (o:=.lst (tZ xs lo hi)) (fun b ob q=>Heap.get?_push_of_some _ q) (Nat.le_refl _) ?_,rfl,q _ (I.bu.fresh (Nat.le_refl _))⟩
 exact ⟨Nat.le_trans (mV xs lo hi) hz,_,0,(r.drop (HT.dU xs.length 0 lo)).take (HT.dU xs.length xs.length hi-HT.dU xs.length 0 lo),Heap.get?_push_size _ rfl⟩
theorem sy:dP X (.builtin "len") (fun xs H Q=>∃ p ys,xs=[.ref p]/\(iM X.K H p ys\/ji X.K H p ys)/\Q (.int ys.length) H):=by
 intro pins s σ H xs us Q I r h
 obtain ⟨p,ys,rfl,hq,q⟩:=h
 obtain ⟨u,rfl,rx⟩:=vals1 r
 cases rx
 have hn:=pb
 rcases hq with hq | hq
 ·obtain ⟨its,r',pl,hz⟩:=I.list hq
  have hlen:=r'.length
  exact Calls.call_len_list pl.isList (by simp only [List.size_toArray] <;> omega) ⟨.int ys.length,H,I.tok _,⟨s.toks+1,by rw [List.size_toArray,hlen]⟩,q⟩
 ·obtain ⟨its,r',pl,hz⟩:=I.tuple hq
  have hlen:=r'.length
  exact len_tuple pl (by simp only [List.size_toArray] <;> omega) ⟨.int ys.length,H,I.tok _,⟨s.toks+1,by rw [List.size_toArray,hlen]⟩,q⟩
theorem rS:dP X (.builtin "len") (fun xs H Q=>∃ z,xs=[.str z]/\z.length<=sizeLine/\Q (.int z.length) H):=by
 intro pins s σ H xs us Q I r h
 obtain ⟨z,rfl,hz,q⟩:=h
 obtain ⟨u,rfl,t,rfl⟩:=vals1 r
 have hn:=pb
 exact len_str (by omega) ⟨.int z.length,H,I.tok _,⟨_,rfl⟩,q⟩
theorem dP.or {f:Value} {r r':List V->Hp->VK->Prop} (h:dP X f r) (h':dP X f r'):dP X f (fun xs H Q=>r xs H Q\/r' xs H Q):=by
 intro pins s σ H xs us Q I rs q
 rcases q with q | q
 ·exact h pins s σ H xs us Q I rs q
 ·exact h' pins s σ H xs us Q I rs q
theorem gD:dP X (.type "list") (fun xs H Q=>∃ p ys,xs=[.ref p]/\(iM X.K H p ys\/ji X.K H p ys)/\∀ l,H l=none->Q (.ref l) (upd H l (.lst ys))):=by
 intro pins s σ H xs us Q I r h
 obtain ⟨p,ys,rfl,hq,q⟩:=h
 obtain ⟨u,rfl,rx⟩:=vals1 r
 cases rx
 have fin:∀ (its:List Value),Vals ys its->ys.length<=sizeLine->∀ (h':Heap) (c':Nat),(∀ b o',s.heap.get? b=some o'->h'.get? b=some o') ->
   h'.get? s.heap.objs.size=some { cls:=.type "list", dict:=none,data:=.seq its.toArray c',slots:=#[] }->EP X pins σ Q (.ref s.heap.objs.size) { s with heap:=h' }:=fun its r' hz h' c' kp e =>
  ⟨.ref s.heap.objs.size,_,I.laid (t':=s.toks) kp (Nat.le_refl _) (show bY X.prog X.w _ h' _ (.lst ys) from ⟨hz,its,c',r',e⟩),rfl,q _ (I.bu.fresh (Nat.le_refl _))⟩
 rcases hq with hq | hq
 ·obtain ⟨its,r',pl,hz⟩:=I.list hq
  have hlen:=r'.length
  obtain ⟨o,ho,hc,n,hd⟩:=pl.isList
  exact call_list_seq p (.inl rfl) ho hc hd (fun h' c' kp e=>fin its r' hz h' c' kp e) (by simp only [List.size_toArray] <;> omega)
 ·obtain ⟨its,r',pl,hz⟩:=I.tuple hq
  have hlen:=r'.length
  obtain ⟨o,ho,hc,n,hd⟩:=pl
  exact call_list_seq p (.inr rfl) ho hc hd (fun h' c' kp e=>fin its r' hz h' c' kp e) (by simp only [List.size_toArray] <;> omega)
theorem bb:dP X (.type "tuple") (fun xs H Q=>∃ p ys,xs=[.ref p]/\((iM X.K H p ys/\∀ l,H l=none->Q (.ref l) (upd H l (.tup ys)))\/(ji X.K H p ys/\Q (.ref p) H))):=by
 intro pins s σ H xs us Q I r h
 obtain ⟨p,ys,rfl,h⟩:=h
 obtain ⟨u,rfl,rx⟩:=vals1 r
 cases rx
 rcases h with ⟨hq,q⟩ | ⟨hq,q⟩
 ·obtain ⟨its,r',pl,hz⟩:=I.list hq
  have hlen:=r'.length
  refine call_tuple_list pl.isList (fun h' kp=>?_) (by simp only [List.size_toArray] <;> omega)
  have I1:Inv X pins σ H { s with heap:=h' }:=I.kept (t':=s.toks) kp
  have I2:Inv X pins σ (upd H h'.objs.size (.tup ys)) { s with heap:=h'.push { cls:=.type "tuple", data:=.seq its.toArray } } :=
   I1.laid (t':=s.toks) (fun b o e=>Heap.get?_push_of_some _ e) (Nat.le_refl _) (show bY X.prog X.w _ _ _ (.tup ys) from ⟨hz,its,r',IsTup.new _ _⟩)
  exact ⟨.ref h'.objs.size,_,I2,rfl,q _ (I1.bu.fresh (Nat.le_refl _))⟩
 ·obtain ⟨its,r',pl,hz⟩:=I.tuple hq
  exact call_tuple_same pl ⟨.ref p,H,I,rfl,q⟩
def LP (K:PySem.W.Frag) (T:String) (x:V) (H:Hp):Prop:=match x with
 | .str _=>T = "str"
 | .int _=>T = "int"
 | .ref p=>(T = "list" /\ ∃ xs,iM K H p xs)\/(T = "tuple" /\ ∃ o,K.lookup p=some o/\o.cls=.type "tuple" /\ o.dict=none) ∨
   (T = "dict" /\ ((∃ kvs,H p=some (.dK kvs))\/∃ kvs,H p=some (.dT kvs)))\/(T = "set" /\ ∃ S n,H p=some (.set S n))
 | _=>False
theorem zy {pins:List (Addr×Obj)} {σ:St} {H:Hp} {s:Shared} {T:String} {x:V} {v:Value} (I:Inv X pins σ H s) (r:RelV x v) (ty:LP X.K T x H) :
  s.TypeIs v T/\∀ a,v=.ref a->∃ ob,s.heap.get? a=some ob/\ob.dict=none:=by
 cases x with
 | str z =>
  obtain ⟨t,rfl⟩:=r
  cases (show T = "str" from ty)
  exact ⟨typeIs_str s z t,fun _ e=>nomatch e⟩
 | int i =>
  obtain ⟨t,rfl⟩:=r
  cases (show T = "int" from ty)
  exact ⟨typeIs_int s i t,fun _ e=>nomatch e⟩
 | ref p =>
  cases r
  rcases ty with ⟨rfl,xs,hq⟩ | ⟨rfl,o,hk,hc,hd⟩ | ⟨rfl,hk⟩ | ⟨rfl,S,n,hk⟩
  ·obtain ⟨its,_,pl,_⟩:=I.list hq
   refine ⟨pl.isList.typeIs,fun a e=>?_⟩
   cases e
   obtain ⟨o,n,e,c,hd,_⟩:=pl
   exact ⟨o,e,hd⟩
  ·refine ⟨⟨o,I.jO p o hk,hc⟩,fun a e=>?_⟩
   cases e
   exact ⟨o,I.jO _ o hk,hd⟩
  ·have z:∃ o,s.heap.get? p=some o/\o.ExactDict:=by
    rcases hk with ⟨kvs,hk⟩ | ⟨kvs,hk⟩
    ·obtain ⟨_,_,_,_,o,_,_,e,ex,_⟩:=I.bu p _ hk
     exact ⟨o,e,ex⟩
    ·obtain ⟨_,_,_,_,o,_,_,e,ex,_⟩:=I.bu p _ hk
     exact ⟨o,e,ex⟩
   obtain ⟨o,e,ex⟩:=z
   refine ⟨⟨o,e,ex.1⟩,fun a e2=>?_⟩
   cases e2
   exact ⟨o,e,ex.2.1⟩
  ·obtain ⟨o,_,_,_,e,ex,_⟩:=I.bu p _ hk
   refine ⟨⟨o,e,ex.1⟩,fun a e2=>?_⟩
   cases e2
   exact ⟨o,e,ex.2.1⟩
 | _=>exact False.elim ty
def JW (K:PySem.W.Frag) (T:String) (r:V->List V->Hp->VK->Prop) (to:TE):TE:=fun σ H Q=>to σ H fun x H1=>LP K T x H1/\r x [] H1 Q
def Uy (K:PySem.W.Frag) (T:String) (r:V->List V->Hp->VK->Prop) (to:TE) (t:TA):TE:=fun σ H Q=>to σ H fun x H1=>LP K T x H1/\t σ H1 fun xs H2=>r x xs H2 Q
variable {o e:Expr} {es:List Expr} {to:TE} {t:TA} {name:Str} {apos cpos:Pos} {T id:String} {r:V->List V->Hp->VK->Prop}
theorem EY (pa:PlainAttrs T) (slot:Slot T name id) (hty:typeOf (.builtin id)=pure (.type "method_descriptor")) (hm:Rc X id r) (ho:PE X o to)
  (hbase:attributeBase o name X.env (eval o X.env)=eval o X.env:=by rfl) (hline:(apos.endLine==cpos.line)=true:=by rfl):PE X (.Call (.Attribute o name apos) [] [] cpos) (JW X.K T r to):=by
 intro pins s σ H Q I h
 refine wpAny_Call_method0_late hbase hline (cF (ho pins s σ H _ I h) fun v s1 ⟨x,H1,I1,r1,ty,q1⟩=>?_)
 obtain ⟨h1,h2⟩:=zy I1 r1 ty
 exact ⟨T,id,pa,slot,hty,h1,h2,Calls.callWith_builtin rfl (PySem.evalArgs_none (hm pins s1 σ H1 x [] v [] Q I1 r1 .nil q1))⟩
theorem Hq (pa:PlainAttrs T) (slot:Slot T name id) (hty:typeOf (.builtin id)=pure (.type "method_descriptor")) (hm:Rc X id r) (ho:PE X o to) (ha:PA X (e::es) t)
  (hbase:attributeBase o name X.env (eval o X.env)=eval o X.env:=by rfl)
  (hfew:((backTo cpos (starEach (e::es) X.env)).all (fun x=>!x.1)&&(backToKw cpos (keywordEach [] X.env)).all (fun x=>x.1.isSome)
   && decide ((e::es).length+([]:List Keyword).length+(if ([]:List Keyword).isEmpty then 0 else 1)<30))=true:=by rfl)
  (hline:(apos.endLine==cpos.line)=true:=by rfl) (hs:starEach (e::es) X.env=(false,eval e X.env)::starEach es X.env:=by rfl) (hplain:(backTo cpos (starEach es X.env)).any (·.1)=false:=by rfl) :
  PE X (.Call (.Attribute o name apos) (e::es) [] cpos) (Uy X.K T r to t):=by
 intro pins s σ H Q I h
 refine wpAny_Call_method_late hbase hfew hline rfl (cF (ho pins s σ H _ I h) fun v s1 ⟨x,H1,I1,r1,ty,q1⟩=>?_)
 obtain ⟨h1,h2⟩:=zy I1 r1 ty
 refine ⟨T,id,pa,slot,hty,h1,h2,?_⟩
 have hA:=ha cpos pins s1 σ H1 _ I1 q1
 rw [hs] at hA ⊢
 refine Calls.callWith_builtin (by show (false||(backTo cpos (starEach es X.env)).any (·.1))=false;rw [hplain] <;> rfl) (Calls.evalArgs_plain ?_)
 exact cF hA fun us s2 ⟨vs,H2,I2,r2,q2⟩=>hm pins s2 σ H2 x vs v us Q I2 r1 r2 q2
end
end L2
namespace L2
open PySem PySem.Spec PyProof.Rows
def QO (X:Cx) (id:String) (r:V->List V->Hp->VK->Prop):Prop :=
 ∀ (pins:List (Addr×Obj)) (s:Shared) (σ:St) (H:Hp) (x:V) (xs:List V) (v:Value) (us:List Value) (Q:VK),Inv X pins σ H s->RelV x v->Vals xs us->r x xs H Q ->
  wpAny (model X.prog X.w) X.A (call (.builtin id) (v::us)) (EP X pins σ Q) X.xe s
theorem Vals.one:∀ {x:V} {us:List Value},Vals [x] us->∃ u,us=[u]/\RelV x u
 | _,_,.cons r .nil=>⟨_,rfl,r⟩
theorem Vals.zero:∀ {us:List Value},Vals [] us->us=[]
 | _,.nil=>rfl
theorem Vals.rep {xs:List V} {us:List Value} (h:Vals xs us):∀ k:Nat,Vals (List.replicate k xs).flatten (List.replicate k us).flatten
 | 0=>.nil
 | k+1=>by
  rw [List.replicate_succ,List.replicate_succ,List.flatten_cons,List.flatten_cons]
  exact Vals.append h (Vals.rep h k)
theorem foldl_rep (its:List Value):∀ (k:Nat) (acc:List Value),
  List.foldl (fun x1 x2=>x1++x2) acc.toArray (List.replicate k its.toArray)=(acc++(List.replicate k its).flatten).toArray
 | 0,acc=>by simp
 | k+1,acc=>by
  have e:acc.toArray++its.toArray=(acc++its).toArray:=by simp
  have e2:(acc++its)++(List.replicate k its).flatten=acc++(List.replicate (k+1) its).flatten:=by
   rw [List.replicate_succ,List.flatten_cons,List.append_assoc]
  rw [← e2,← foldl_rep its k (acc++its),← e,List.replicate_succ,List.foldl_cons]
section
variable {X:Cx} {pins:List (Addr×Obj)} {σ:St} {H:Hp} {s:Shared} {l b:Addr} {xs ys zs:List V}
theorem Inv.Hn {its its':List Value} {n:Nat} {f:Array Value->Array Value} {t':Nat} (I:Inv X pins σ H s) (hH:H l=some (.lst xs))
  (e:s.heap.get? l=some { cls:=.type "list", data:=.seq its.toArray n }) (hf:f its.toArray=its'.toArray) (hv:Vals ys its') (hz:ys.length<=sizeLine) :
  Inv X pins σ (upd H l (.lst ys)) { s with heap:=s.heap.update l (Obj.mapSeq f),toks:=t' }:=by
 have q:=PySem.IsL.update e f
 rw [hf] at q
 refine I.write (x:=l) (e:=l) (by rw [hH];exact trivial) (.inl rfl) (fun b' u hb hu=>(Heap.get?_update_other s.heap (Obj.mapSeq f) (Ne.symm hb)).trans hu) ⟨_,q⟩ ?_
 exact ⟨hz,its',_,hv,q⟩
theorem Inv.GQ {its:List Value} {t':Nat} (I:Inv X pins σ H s) (hv:Vals ys its) (hz:ys.length<=sizeLine) :
  Inv X pins σ (upd H s.heap.objs.size (.lst ys)) { s with heap:=s.heap.push { cls:=.type "list", data:=.seq its.toArray },toks:=t' } :=
 I.laid (fun _ _ q=>Heap.get?_push_of_some _ q) (Nat.le_refl _) ⟨hz,its,0,hv,Heap.get?_push_size _ rfl⟩
theorem Inv.fresh (I:Inv X pins σ H s):H s.heap.objs.size=none:=I.bu.fresh (Nat.le_refl _)
theorem Inv.Bp (I:Inv X pins σ H s) (hH:H l=some (.lst xs)):xs.length<=sizeLine/\∃ (its:List Value) (n:Nat),Vals xs its/\xs.length=its.length/\s.heap.get? l=some { cls:=.type "list", data:=.seq its.toArray n }:=by
 obtain ⟨z,its,n,r,e⟩:=I.bu l _ hH
 exact ⟨z,its,n,r,r.length,e⟩
theorem zI {n:Nat} (h:n<=sizeLine):Builtin.List.listTooLong n=false:=by
 unfold Builtin.List.listTooLong
 exact decide_eq_false (by omega)
end
section
variable {X:Cx}
def CY:V->List V->Hp->VK->Prop:=fun x vs H Q=>∃ l xs y,x=.ref l/\vs=[y]/\H l=some (.lst xs)/\xs.length<sizeLine/\Q .c8 (upd H l (.lst (xs++[y])))
theorem mf:QO X "list.append" CY:=by
 intro pins s σ H x vs v us Q I rx rv h
 obtain ⟨l,xs,y,rfl,rfl,hH,hz,q⟩:=h
 cases rx
 obtain ⟨u,rfl,ru⟩:=rv.one
 obtain ⟨z,its,n,r,hl,e⟩:=I.Bp hH
 refine call_meets F.slot_list_append ⟨_,e,rfl⟩ F.entry_list_append (F.args_list_append_2 _ _) (PySem.list_append l its.toArray n u (by rw [List.size_toArray];omega)) ⟨e,?_⟩
 refine ⟨.c8,_,I.Hn (its':=its++[u]) hH e (by simp) (r.append (.cons ru .nil)) ?_,rfl,q⟩
 rw [List.length_append,List.length_singleton]
 omega
def DQ:V->List V->Hp->VK->Prop:=fun x vs H Q=>∃ l xs,x=.ref l/\vs=[]/\H l=some (.lst xs)/\Q .c8 (upd H l (.lst []))
theorem zc:QO X "list.clear" DQ:=by
 intro pins s σ H x vs v us Q I rx rv h
 obtain ⟨l,xs,rfl,rfl,hH,q⟩:=h
 cases rx
 have hus:=rv.zero
 subst hus
 obtain ⟨z,its,n,r,hl,e⟩:=I.Bp hH
 refine call_meets F.slot_list_clear ⟨_,e,rfl⟩ F.entry_list_clear (F.args_list_clear_1 _) (AutoSeq1.list_clear_list_0 l its.toArray n (by rw [List.size_toArray];omega)) ⟨e,?_⟩
 exact ⟨.c8,_,I.Hn (its':=[]) (ys:=[]) hH e rfl .nil (Nat.zero_le _),rfl,q⟩
def Ht:R2:=fun x y H Q=>∃ l b xs zs,x=.ref l/\y=.ref b/\H l=some (.lst xs)/\H b=some (.lst zs)/\xs.length+zs.length<=sizeLine/\∀ p,H p=none->Q (.ref p) (upd H p (.lst (xs++zs)))
theorem Ee:hX X (binaryOp .Add) Ht:=by
 intro pins s σ H x y v u Q I rx ry h
 obtain ⟨l,b,xs,zs,rfl,rfl,hH,hB,hz,q⟩:=h
 cases rx
 cases ry
 obtain ⟨z,its,n,r,hl,e⟩:=I.Bp hH
 obtain ⟨z2,its2,n2,r2,hl2,e2⟩:=I.Bp hB
 refine PySem.P.add_list e e2 ?_ (by rw [List.size_toArray,List.size_toArray];omega)
 have ea:its.toArray++its2.toArray=(its++its2).toArray:=by simp
 rw [ea]
 exact ⟨.ref _,_,I.GQ (t':=s.toks) (r.append r2) (by rw [List.length_append];omega),rfl,q _ I.fresh⟩
def Gv:R2:=fun x y H Q=>∃ l k xs,x=.ref l/\y=.int k/\H l=some (.lst xs)/\-(2^63)<=k/\k<2^63/\xs.length*k.toNat<=sizeLine ∧
 ∀ p,H p=none->Q (.ref p) (upd H p (.lst (List.replicate k.toNat xs).flatten))
theorem len_rep {α:Type} (xs:List α) (k:Nat):(List.replicate k xs).flatten.length=k*xs.length:=by
 induction k with
 | zero=>simp
 | succ k ih=>rw [List.replicate_succ,List.flatten_cons,List.length_append,ih,Nat.succ_mul,Nat.add_comm]
theorem ED:hX X (binaryOp .Mult) Gv:=by
 intro pins s σ H x y v u Q I rx ry h
 obtain ⟨l,k,xs,rfl,rfl,hH,h1,h2,hz,q⟩:=h
 cases rx
 obtain ⟨t,rfl⟩:=ry
 obtain ⟨z,its,n,r,hl,e⟩:=I.Bp hH
 have hlen:its.toArray.size*k.toNat<=sizeLine:=by rw [List.size_toArray,← hl];exact hz
 have hcap:¬ its.toArray.size*k.toNat>(2^63-1)/8:=by
  have:(sizeLine:Nat)<=(2^63-1)/8:=by decide
  omega
 have hfit:¬ (!Builtin.List.listFitsIndex k)=true:=by
  rw [fitsIndex_both h1 h2]
  exact Bool.false_ne_true
 have hlong:¬ Builtin.List.listTooLong (its.toArray.size*k.toNat)=true:=by
  rw [zI hlen]
  exact Bool.false_ne_true
 have hnew:List.foldl (fun x1 x2=>x1++x2) #[] (List.replicate (if its.toArray.isEmpty=true then 0 else k.toNat) its.toArray)=(List.replicate k.toNat its).flatten.toArray:=by
  have f0:∀ m:Nat,List.foldl (fun x1 x2=>x1++x2) #[] (List.replicate m its.toArray)=(List.replicate m its).flatten.toArray:=fun m=>by
   have:=foldl_rep its m []
   rw [List.nil_append] at this
   exact this
  rw [f0]
  cases its with
  | nil=>simp
  | cons a r'=>rw [if_neg (by simp)]
 refine wpAny_binaryOp_repeat_ref (T := "list") (U := "int") (by decide) ⟨_,e,rfl⟩ (fun s'=>typeIs_int s' k t) noFill_list_mul F.fills_int_mul F.slot_int_rmul repeat_list F.slot_int_index.lookup
  (call_meets F.slot_int_rmul (typeIs_int s k t) F.entry_int_rmul (F.args_int_rmul_2 _ _) (int___rmul___int_list k t l its.toArray n)
   ⟨e,rfl,⟨_,e,rfl⟩,call_meets F.slot_list_mul ⟨_,e,rfl⟩ F.entry_list_mul (F.args_list_mul_2 _ _) (AutoListH.list___mul___list_int_3 l its.toArray n k t hfit hcap hlong) ⟨e,?_⟩⟩)
 rw [hnew]
 exact ⟨.ref _,_,I.GQ (t':=s.toks) (r.rep k.toNat) (by rw [len_rep,Nat.mul_comm];exact hz),rfl,q _ I.fresh⟩
end
section
variable {prog:Program} {w:World} {A:Around} {E:Value->Shared->Prop} {s:Shared}
end
section
variable {X:Cx}
end
end L2
namespace L2
open PySem PySem.Spec PyProof.Rows
section
variable {κ:Type} [DecidableEq κ]
end
section
variable {P:Program} {w:World} {H:Hp} {h:Heap} {a:Addr}
end
section
variable {X:Cx} {pins:List (Addr×Obj)} {σ:St} {H:Hp} {s:Shared} {a:Addr} {y v:V} {u r:Value} {o:Option V} {A:Around} {E:Value->Shared->Prop}
end
section
variable {X:Cx} {pins:List (Addr×Obj)} {σ:St} {H:Hp} {s:Shared} {a:Addr} {kvs:List (Key×V)} {k:Key} {u:Value} {A:Around} {E:Value->Shared->Prop}
end
section
variable {X:Cx} {o i e value:Expr} {pos pos' tpos:Pos} {td ty tv:TE}
end
section
variable {X:Cx} {pos:Pos}
end
section
variable {X:Cx} {pins:List (Addr×Obj)} {σ:St} {H:Hp} {s:Shared} {a:Addr} {y d:V} {u r:Value} {o:Option V} {A:Around} {E:Value->Shared->Prop}
end
section
variable {X:Cx} {o e f:Expr} {apos cpos:Pos} {td ty tx:TE}
end
section
variable {X:Cx} {pins:List (Addr×Obj)} {σ:St} {H:Hp} {s:Shared} {a:Addr} {kvs:List (Key×V)} {A:Around} {E:Value->Shared->Prop}
end
section
variable {X:Cx} {pins:List (Addr×Obj)} {σ:St} {H:Hp} {s:Shared} {a:Addr} {y:V} {u:Value} {A:Around} {E:Value->Shared->Prop}
end
end L2
namespace Att
open PySem PySem.W PySem.Calls PyProof.Rows
theorem nL {P:Params} {h:Heap}:∀ (ns:List Int) (vs:List Value),WellAll P h vs (ns.map WData.int)->IntsAre vs ns:=by
 intro ns
 induction ns with
 | nil =>
  intro vs w
  rw [List.map_nil] at w
  cases w
  exact .nil
 | cons n ns ih =>
  intro vs w
  rw [List.map_cons] at w
  cases w with
  | cons a b =>
   cases a
   exact .cons _ _ (ih _ b)
theorem xM {l:OpenLaw} {n:Nat} (hn:l.most=some n) {P:Params} {h:Heap} {args:List WData} {vals:List Value}
  (xx:l.row.toRowW.claim.pre args=true) (hwl:WellAll P h vals args) :
  ∃ a vs ns,vals=[Value.ref a]/\args=[WData.list (ns.map WData.int)]/\h.get? a=some { cls:=.type "list", data:=.seq vs.toArray }/\IntsAre vs ns/\ns.length<=n:=by
 have hsh:WShape.hasAll [] args [.list .int]=true:=(pre_splitW xx).1
 have hc:l.pre.holds [] { args:=args }=true:=(pre_splitW xx).2
 obtain ⟨d,r,rfl,h1,h2⟩:=hasAllW_cons hsh
 obtain rfl:=hasAllW_nil h2
 obtain ⟨xs,rfl,h3⟩:=hasW_list h1
 obtain ⟨ns,rfl⟩:=items_int h3
 have hlen:ns.length<=n:=by
  unfold OpenLaw.pre at hc
  have h4:(WTm.not (.lt (.lit (.int (n:Int))) (.len (.arg 0)))).holds [] { args:=[.list (ns.map .int)] }=true:=by
   have h4:=(holds_andW hc).1
   rw [hn] at h4
   exact h4
  have h5:=condW_of h4 (w_not (w_lt w_lit (w_len_list (w_arg rfl))))
  rw [List.length_map] at h5
  refine Nat.le_of_not_lt fun q=>?_
  have q':(n:Int)<((ns.length:Nat):Int):=by omega
  first
   | (rw [decide_eq_true q'] at h5;exact absurd h5 (by decide))
   | (simp at h5;omega)
 cases hwl with
 | cons w1 w2 =>
  cases w2
  cases w1 with
  | list ho hall=>exact ⟨_,_,ns,rfl,rfl,ho,nL ns _ hall,hlen⟩
theorem xq (l:OpenLaw) (args:List WData):l.row.toRowW.claim.post args (.bool true) args=true :=
 postW_of (r:=l.row.toRowW) (X:=(true==true))
  (show WShape.has [] (.bool true) .bool=true by first | rfl | decide | simp [WShape.has,WShape.arms,WShape.armsAll])
  (show (WTm.eq .res (.lit (.bool true))).value [] { args:=args,res:=some (.bool true),after:=args }=some (.bool (true==true)) from w_eq_bool (w_res rfl) w_lit) rfl
section
variable {prog:Program} {w:World} {A:Around} {E:Value->Shared->Prop} {s:Shared} {K:Frag}
end
end Att
namespace L2
open PySem PySem.Spec PyProof.Rows
theorem qM:∀ {vs:List Value} {ns:List Int},IntsAre vs ns->Vals (ns.map V.int) vs
 | _,_,.nil=>.nil
 | _,_,.cons n t h=>.cons ⟨t,rfl⟩ (qM h)
def GO (H:Hp):Prop:=∀ b,H b=none\/∃ o xs,H b=some (.pU o (.lst xs))
theorem AZ {P:Program} {w:World} {K:PySem.W.Frag} {mg mb:Str->Option Value} {CX:BK} {k:Nat} {fa a:Addr} {fd:FuncData} {x:Str} {sp:Sp} {s₁:Shared} {vs:List Value} {ns:List Int}
  (KX:K.In s₁.heap) (hns:s₁.heap.Ns mainGlobals mg) (hb:s₁.heap.Ns builtinsNs mb) (hbb:∀ x:Str,x ≠ "__name__" -> mb x=bootBuiltins x) (hlim:s₁.heap.NoLimit) (hg:s₁.gens=#[])
  (ha:s₁.heap.get? a=some { cls:=.type "list", data:=.seq vs.toArray }) (hi:IntsAre vs ns) (hl:ns.length<=sizeLine) (hr:cy k callerA)
  (F:∀ base:Heap,K.In base->base.Ns mainGlobals mg->aY P w K mg base CX k fa fd [x] sp) (hbind:∀ (s:Shared) (u:Value),BindsTo s fd ⟨[u],[]⟩ [(x,u)])
  (hsp:∀ H:Hp,GO H->iM K H a (ns.map V.int)->sp [.ref a] H (fun v _=>v=.bl true) fun _ _ _=>False)
  (hCX:∀ H e s',CX [] H s₁ (fun _ _ _=>False) e s'->False) :
  codeAny (model P w) callerA (.call (.ref fa) ⟨[.ref a],[]⟩) (fun r s'=>r=.ok (.ret (.bool true))/\OldK s₁.heap s'.heap/\s'.os=s₁.os/\AllBare s'.gens) s₁:=by
 have rv:=qM hi
 have lenV:=hi.length
 have core:∀ H:Hp,GO H->iM K H a (ns.map V.int)->m5 P w H s₁.heap->(∀ b,H b≠none->b=a)->(H a≠none->K.lookup a=none) ->
   codeAny (model P w) callerA (.call (.ref fa) ⟨[.ref a],[]⟩) (fun r s'=>r=.ok (.ret (.bool true))/\OldK s₁.heap s'.heap/\s'.os=s₁.os/\AllBare s'.gens) s₁:=by
  intro H hO hS bu hA hK
  have base_of:∀ {b:Addr} {o:Obj},s₁.heap.get? b=some o->H b=none->(sj s₁.heap H).get? b=some o:=fun e n=>A7 e n
  have vv:∀ {b:Addr} {o:Obj} {es:Array DictEntry} {ep:Nat},s₁.heap.get? b=some o->o.data=.dict es ep->H b=none:=fun {b o es ep} e d=>by
   cases q:H b with
   | none=>rfl
   | some u =>
    have e':b=a:=hA b (by rw [q];simp)
    subst e'
    rw [ha] at e;cases e
    have d':Data.seq vs.toArray _=Data.dict es ep:=d
    cases d'
  have nsK:∀ {b:Addr} {m:Str->Option Value},s₁.heap.Ns b m->(sj s₁.heap H).Ns b m:=fun {b m} ⟨o,es,ep,e,d,r⟩=>⟨o,es,ep,base_of e (vv e d),d,r⟩
  have hKb:K.In (sj s₁.heap H):=fun b o e=>base_of (KX b o e) (by
   cases q:H b with
   | none=>rfl
   | some u =>
    have e':b=a:=hA b (by rw [q];simp)
    subst e'
    rw [hK (by rw [q];simp)] at e;cases e)
  have hM:Mod K mg (sj s₁.heap H):=⟨hKb,nsK hns,⟨mb,nsK hb,hbb⟩,let ⟨mc,h1,h2⟩:=hlim;⟨mc,nsK h1,h2⟩⟩
  have e0:v_ P w K mg (sj s₁.heap H) callerA [] s₁ H:=⟨rfl,hM,fun b o e=>Cj e,Nat.le_of_eq (yf _ _),trivial,fun b hb=>absurd (show b∈([]:List Addr) from hb) (by simp),bu,.of_eq hg⟩
  refine codeAny_mono ((F _ hKb (nsK hns)).run callerA [] s₁ H ⟨[.ref a],[]⟩ [.ref a] [.ref a] _ _ hr e0 (hbind s₁ (.ref a)) (.cons rfl .nil) (hsp H hO hS)) fun r s' h=>?_
  cases r with
  | error e=>exact (hCX H e s' h).elim
  | ok fl =>
   cases fl with
   | next=>exact False.elim h
   | brk=>exact False.elim h
   | cont=>exact False.elim h
   | ret u =>
    obtain ⟨v,H',os,bare,un,hok',r',q⟩:=h
    have q':v=.bl true:=q
    subst q'
    obtain rfl:u=Value.bool true:=r'
    refine ⟨rfl,OldK.of_keep fun b o e=>?_,os,bare⟩
    cases q:H b with
    | none=>exact un.keep b o e q (by intro z;exact absurd (show b∈([]:List Addr) from z) (by simp)) (by simp)
    | some u =>
     rcases hO b with z | ⟨ob,xs,z⟩
     ·rw [q] at z;cases z
     ·have z2:=un.lU b ob _ z
      obtain ⟨e1,_⟩:=bu b _ z
      obtain ⟨e2,_⟩:=hok' b _ z2
      rw [e] at e1;cases e1
      exact e2
 cases hk:K.lookup a with
 | some o =>
  have e:=KX a o hk
  rw [ha] at e
  cases e
  refine core (fun _=>none) (fun _=>.inl rfl) (.inr ⟨_,vs.toArray,_,hk,rfl,rfl,rfl,by rw [List.size_toArray,lenV];exact hl,by simpa using rv⟩) (fun b u z=>by have z':(none:Option HO)=some u:=z;cases z') (fun b z=>absurd rfl z) fun z=>absurd rfl z
 | none =>
  refine core (fun b=>if b=a then some (.pU { cls:=.type "list", data:=.seq vs.toArray } (.lst (ns.map V.int))) else none) (fun b=>?_) (.inl (.inr ⟨{ cls:=.type "list", data:=.seq vs.toArray },if_pos rfl⟩)) (fun b u z=>?_) (fun b z=>?_) fun _=>hk
  ·by_cases hb:b=a
   ·exact .inr ⟨_,_,if_pos hb⟩
   ·exact .inl (if_neg hb)
  ·by_cases hb:b=a
   ·have z':=(if_pos hb).symm.trans z
    cases z'
    subst hb
    exact ⟨ha,by rw [List.length_map];exact hl,vs,_,rv,ha⟩
   ·have z':=(if_neg hb).symm.trans z
    cases z'
  ·by_cases hb:b=a
   ·exact hb
   ·exact absurd (if_neg hb) z
end L2
namespace L2
open PySem PySem.Spec PyProof.Rows
end L2
namespace L2
open PySem PySem.Spec PyProof.Rows
def inClass (s:Stmt) (j:Nat):Stmt:=match s with
 | .ClassDef _ _ _ body _ _ _ _ _ _ _=>body.getD j (.Pass ⟨0,0,0,0⟩)
 | _=>.Pass ⟨0,0,0,0⟩
def aK (s:Stmt):Arguments:=match s with
 | .FunctionDef _ a _ _ _ _ _ _ _ _=>a
 | _=>{ posonlyargs:=[],args:=[],vararg:=none,kwonlyargs:=[],kw_defaults:=[],kwarg:=none,defaults:=[] }
def aJ (s:Stmt):List Stmt:=match s with
 | .FunctionDef _ _ b _ _ _ _ _ _ _=>b
 | _=>[]
def ak (s:Stmt):Scope:=match s with
 | .FunctionDef _ _ _ _ _ _ sc _ _ _=>sc
 | _=>{ kind:=.function,names:=[],isGenerator:=false,isCoroutine:=false }
abbrev E0:XK:=fun _ _ _=>False
section
variable {P:Program} {w:World} {K:PySem.W.Frag} {mg:Str->Option Value} {base:Heap}
end
theorem mi {n:Nat} (h:n<=1000):n<sizeLine:=Nat.lt_of_le_of_lt h (by decide)
section
variable {X:Cx}
end
def bp (H H':Hp):Prop:=∀ b o,H b=some o->H' b=some o
end L2
namespace L2
open PySem PySem.Spec PyProof.Rows
section
variable {X:Cx}
def AI (_ j:Int):Prop:=j≠0/\j.natAbs.log2<9000
theorem bh:hX X (binaryOp .FloorDiv) (rI AI fun i j=>.int (i.fdiv j)):=HE fun _ _ _ _ _ _ _ hc q=>floordiv_int hc.1 q (.inl (PyProof.noPylong_of_log2 hc.2))
theorem Bx:hX X (binaryOp .Mult) (rI (fun i j=>IntMulOk i j) fun i j=>.int (i*j)):=HE fun _ _ _ _ _ _ _ hc q=>mul_int q hc
theorem yT {a b:Int} {m n:Nat} (ha:a.natAbs<2^m) (hb:b.natAbs<2^n) (h:m+n<=134217728):IntMulOk a b:=IntMulOk.of_le (intBits_le_iff.mpr ha) (intBits_le_iff.mpr hb) h
theorem zm:bootBuiltins "isinstance" = some (.builtin "isinstance"):=by decide +kernel
theorem Es:bootBuiltins "int" = some (.type "int"):=by decide +kernel
theorem CG:bootBuiltins "bool" = some (.type "bool"):=by decide +kernel
theorem cq:bootBuiltins "tuple" = some (.type "tuple"):=by decide +kernel
theorem kX:bootBuiltins "list" = some (.type "list"):=by decide +kernel
def IA (K:PySem.W.Frag):List V->Hp->VK->Prop:=fun xs H Q=>∃ x T t b,xs=[x,.ty T]/\jy K H x t/\PySem.W.kitOne K t (.type T)=some b/\Q (.bl b) H
theorem yZ:dP X (.builtin "isinstance") (IA X.K):=by
 intro pins s σ H xs us Q I r h
 obtain ⟨x,T,t,b,rfl,ty,e,q⟩:=h
 cases r with
 | cons r1 r2 =>
  cases r2 with
  | cons r3 r4 =>
   cases r4
   cases (show _=Value.type T from r3)
   exact xD I r1 ty e fun tk=>⟨.bl b,H,I.tok tk,rfl,q⟩
end
section
variable (K:PySem.W.Frag)
end
section
variable {X:Cx}
theorem Inv.mj {pins:List (Addr×Obj)} {σ:St} {H:Hp} {s:Shared} {h':Heap} {t':Nat} {ch:List Addr} {a:Addr} {o:HO} (I:Inv X pins σ H s) (k:∀ b u,b ∉ ch->s.heap.get? b=some u->h'.get? b=some u)
  (hch:∀ b∈ch,k9 X pins H b) (hp:s.heap.objs.size<=a) (hl:∀ b∈ch,∃ u,s.heap.get? b=some u) (new:bY X.prog X.w (upd H a o) h' a o):Inv X pins σ (upd H a o) { s with heap:=h',toks:=t' }:=by
 have ne:∀ b u,s.heap.get? b=some u->b≠a:=fun b u e=>Nat.ne_of_lt (Nat.lt_of_lt_of_le (Heap.lt_size e) hp)
 have hfr:H a=none:=I.bu.fresh hp
 have nitH:∀ b u,H b=some u->b ∉ ch:=fun b u e z=>by rw [(hch b z).1] at e;cases e
 have nea:∀ b u,H b=some u->b≠a:=fun b u e z=>by rw [z,hfr] at e;cases e
 refine I.step (g':=s.gens) (d':=s.drawn) (ch:=ch) (fun b hb=>?_) (fun b u _ _ hc e _=>k b u hc e) (fun b u _ _ hc e _=>⟨u.slots,k b u hc e⟩)
  (fun b u _ e n=>by rw [aw (ne b u e)];exact n) (fun b u hc e=>⟨u,k b u hc e⟩)
  (fun b xs e=>by rw [aw (nea b _ e)];exact e) (fun b ob u e=>by rw [aw (nea b _ e)];exact e) (fun b ps e=>⟨#[],by rw [aw (nea b _ e),e];simp⟩) (fun m hm=>?_) (fun b u e=>?_) I.bare
 ·obtain ⟨_,f1,_,f3,f4,f5⟩:=hch b hb
  exact ⟨f3,f1,f4,f5⟩
 ·obtain ⟨ob,es,ep,ho,r⟩:=hm
  exact ⟨ob,es,ep,k _ ob (fun z=>(hch _ z).2.1 rfl) ho,r⟩
 ·by_cases z:b=a
  ·subst z
   rw [aE] at e
   cases e
   exact new
  ·rw [aw z] at e
   refine (I.bu b u e).mG (fun c v hc q=>k c v ?_ q) (fun c q=>?_) fun c ys q=>?_
   ·rcases hc with z' | z'
    ·rw [z'];exact nitH b u e
    ·exact nitH c _ z'
   ·rw [aw (nea c _ q)];exact q
   ·rw [aw (nea c _ q)];exact q
def EW (K : PySem.W.Frag) (a : Addr) : It :=
  ⟨fun i H => ∃ xs x, iM K H a xs /\ xs[i]? = some x,
   fun i H y H' => ∃ p x, H p = none /\ y = .ref p /\ H' = upd H p (.tup [.int i, x]) /\ ∀ xs, iM K H a xs -> xs[i]? = some x,
   fun i H => ∃ xs, iM K H a xs /\ xs.length <= i⟩
theorem xj {P:Program} {w:World} {K:PySem.W.Frag} {elts:List Expr} {x1:Nat} {tp:Pos} (a e it:Addr) (hne:e≠it):Turn P w K (.Tuple elts x1 tp) (EW K a) [e,it] e (fun i h=>(∃ old,IsEnum h e it i old)/\h.IsListIter it a i) where
 mem:=by simp
 obj:=fun i h st b hb=>by
  obtain ⟨⟨old,he⟩,⟨o,e1,c,d⟩⟩:=st
  rcases List.mem_cons.mp hb with z | z
  ·subst z
   exact ⟨_,he,fun v z=>by cases z⟩
  ·have z':b=it:=by simpa using z
   subst z'
   exact ⟨o,e1,fun v z=>by rw [d] at z;cases z⟩
 keep:=fun i h h' st k=>by
  obtain ⟨⟨old,he⟩,hit⟩:=st
  exact ⟨⟨old,k e (by simp) _ he⟩,hit.at fun o x=>k it (by simp) o x⟩
 item:=by
  intro X hP hw hK hc i pins s σ H E I hf st hg
  subst hP hw hK
  obtain ⟨xs,x,hq,hx⟩:=hg
  obtain ⟨its,rv,p,hz⟩:=I.list hq
  obtain ⟨u,hu,ru⟩:=rv.get hx
  obtain ⟨⟨old,he⟩,hit⟩:=st
  have helt:e<s.heap.objs.size:=Heap.lt_size he
  have hilt:it<s.heap.objs.size:=by obtain ⟨_,z,_⟩:=hit;exact Heap.lt_size z
  refine wpAny_pyNext_enum_item he hit p.isList (x:=u) (by simpa using hu) hne fun h' ho hit' hT hsz hk=>⟨_,rfl,?_⟩
  refine wpAny_letOwnedTupleGo_enum (s:={ s with heap:=h',toks:=s.toks+1 }) ho fun h2 he2 hs2=>?_
  have keep2:∀ b o,b ∉ [e,it]->s.heap.get? b=some o->h2.get? b=some o:=fun b o hb q=>by
   have n1:b≠e:=fun z=>hb (by simp [z])
   have n2:b≠it:=fun z=>hb (by simp [z])
   exact (hs2.2 b n1).trans (hk b o n1 n2 q)
  have hT2:h2.get? s.heap.objs.size=some { cls:=.type "tuple", data:=.seq #[.int i s.toks,u] }:=(hs2.2 _ (Nat.ne_of_gt helt)).trans hT
  have I2:Inv X pins σ (upd H s.heap.objs.size (.tup [.int i,x])) { s with heap:=h2,toks:=s.toks+1 } :=
   I.mj (ch:=[e,it]) keep2 hf (Nat.le_refl _) (fun b hb=>by
    rcases List.mem_cons.mp hb with z | z
    ·subst z;exact ⟨_,he⟩
    ·have z':b=it:=by simpa using z
     subst z'
     obtain ⟨o,z,_⟩:=hit
     exact ⟨o,z⟩)
    ⟨by show 2<=sizeLine;decide,[.int i s.toks,u],.cons ⟨_,rfl⟩ (.cons ru .nil),⟨_,hT2,rfl,_,rfl⟩⟩
  have hnew:H s.heap.objs.size=none:=I.bu.fresh (Nat.le_refl _)
  refine ⟨.ref s.heap.objs.size,_,I2,rfl,⟨_,x,hnew,rfl,rfl,fun ys hy=>by rw [I.oK hy hq];exact hx⟩,⟨⟨u,by simpa using he2⟩,hit'.at fun o z=>(hs2.2 it (Ne.symm hne)).trans z⟩,fun b hb=>?_⟩
  have nb:b≠s.heap.objs.size:=by
   rcases List.mem_cons.mp hb with z | z
   ·rw [z];exact Nat.ne_of_lt helt
   ·have z':b=it:=by simpa using z
    rw [z'];exact Nat.ne_of_lt hilt
  rw [aw nb]
  exact (hf b hb).1
 done:=by
  intro X hP hw hK hc i pins s σ H E I hf st hg
  subst hP hw hK
  obtain ⟨xs,hq,hx⟩:=hg
  obtain ⟨its,rv,p,hz⟩:=I.list hq
  have hl:=rv.length
  obtain ⟨⟨old,he⟩,hit⟩:=st
  obtain ⟨f0,f1,f2,f3,f4,f5⟩:=hf it (by simp)
  exact wpAny_pyNext_enum_end (I.ok.hd hc) he hit p.isList (by simp;omega) fun h' eb=>⟨rfl,I.turned (t':=s.toks) (fun b o hb e=>eb b o hb e) f0 f1 f3 f4 f5⟩
 self:=fun _ _ _ _ _ st h=>by
  obtain ⟨⟨old,he⟩,_⟩:=st
  exact wpAny_pyIter_enum he h
def C_ (K:PySem.W.Frag) (tl:TA):TI:=fun σ H R=>tl σ H fun vs H1=>∃ a,vs=[.ref a]/\(∃ xs,iM K H1 a xs)/\R (EW K a) H1
theorem l4 {elts:List Expr} {x1:Nat} {tp:Pos} {l:Expr} {tl:TA} {p pos:Pos} (hg:Gl X "enumerate") (hm:X.mg "enumerate" = none) (hl:PA X [l] tl) (hs:starEach [l] X.env=[(false,eval l X.env)]:=by rfl) :
  PI X (.Tuple elts x1 tp) (.Call (.Name "enumerate" p) [l] [] pos) (C_ X.K tl):=by
 intro pins s σ H R I h
 refine Call_ (gX I hg hm PyProof.Rows.boot_enumerate (PyProof.Rows.callWith_type1 (cF (hl pos pins s σ H _ I h) fun us s1 ⟨vs,H1,I1,r1,q1⟩=>?_) hs rfl))
 obtain ⟨a,e,⟨xs,hq⟩,q⟩:=q1
 subst e
 cases r1 with
 | cons r rr =>
  cases rr
  cases (show _=Value.ref a from r)
  obtain ⟨its,rv,pl,hz⟩:=I1.list hq
  refine call_enumerate_list pl.isList fun h' he hit hsz hk=>?_
  have I2:Inv X pins σ H1 { s1 with heap:=h' }:=I1.kept (t':=s1.toks) hk
  refine wpAny_pyIter_enum (s:={ s1 with heap:=h' }) he ?_
  refine ⟨s1.heap.objs.size+1,[s1.heap.objs.size+1,s1.heap.objs.size],_,_,H1,rfl,I2,xj a _ _ (Nat.succ_ne_self _),⟨⟨_,he⟩,hit⟩,fun b hb=>?_,q⟩
  rcases List.mem_cons.mp hb with z | z
  ·subst z
   exact I1.pS (Nat.le_succ _) (I1.bu.fresh (Nat.le_succ _))
  ·have z':b=s1.heap.objs.size:=by simpa using z
   subst z'
   exact I1.pS (Nat.le_refl _) (I1.bu.fresh (Nat.le_refl _))
end
end L2
namespace L2
open PySem PySem.Spec PyProof.Rows
section
variable {prog:Program} {w:World} {A:Around} {R:Result->Shared->Prop} {s:Shared}
theorem qT {elt target iter:Expr} {ifs:List Expr} {scope:Scope} {pos:Pos} {it acc:Value} {env:Env} (I:Nat->Shared->Prop)
  (turn:∀ n s,I n s->wpAny (model prog w) A (pyNext it) (fun r s₁=>match r with
   | none=>R (.ok .next) s₁
   | some v=>wpAny (model prog w) A (letOwnedTupleGo target it v) (fun _ s₂=>wpAny (model prog w) A (assign target env v) (fun _ s₃ =>
     wpAny (model prog w) A (forIn ifs true fun c r=>if r=true then do let ok ← isTrue c env (eval c env);pure (ForInStep.yield ok) else pure (ForInStep.yield r)) (fun ok s₄ =>
      if ok=true then wpAny (model prog w) A (eval elt env) (fun x s₅ =>
       wpAny (model prog w) A (call (.builtin "list.append") [acc,x]) (fun _ s₆=>∃ m,m<n/\I m s₆) (fun _ _=>False) s₅) (fun _ _=>False) s₄
      else ∃ m,m<n/\I m s₄) (fun _ _=>False) s₃) (fun _ _=>False) s₂) (fun _ _=>False) s₁) (fun _ _=>False) s)
  (n:Nat) (h:I n s) :
  codeAny (model prog w) A (.compLoop (.ListComp elt [⟨target,iter,ifs,0⟩] scope pos) 0 it acc env) R s:=by
 refine codeAny_loop rfl I (fun n s hI=>?_) n h
 show wpAny _ A ((compTurn (.ListComp elt [⟨target,iter,ifs,0⟩] scope pos) 0 it acc env).onRaise (fun x=>do noteFrame x env;theTreesLotGoes x)) _ _ s
 refine wpAny_noted ?_
 rw [compTurn_list]
 refine wpAny_bind (wpAny_standAt (wpAny_bind (wpAny_mono (turn n s hI) (fun r s₁ h₁=>?_) fun _ _ h'=>h'.elim)))
 cases r with
 | none=>exact wpAny_pure h₁
 | some v =>
  refine wpAny_bind (wpAny_mono h₁ (fun _ s₂ h₂=>wpAny_bind (wpAny_mono h₂ (fun _ s₃ h₃=>wpAny_bind (wpAny_mono h₃ (fun ok s₄ h₄=>?_) fun _ _ h'=>h'.elim)) fun _ _ h'=>h'.elim)) fun _ _ h'=>h'.elim)
  cases ok with
  | false=>exact wpAny_pure ⟨rfl,h₄⟩
  | true =>
   exact wpAny_bind (wpAny_bind (wpAny_mono h₄ (fun x s₅ h₅=>wpAny_bind (wpAny_mono h₅ (fun _ s₆ h₆=>wpAny_pure (wpAny_pure ⟨rfl,h₆⟩)) fun _ _ h'=>h'.elim)) fun _ _ h'=>h'.elim))
end
def ui (X:Cx) (scope:Scope) (cl:List (Str×Addr)) (N:List Str) (C:Addr) (s₀:Shared) (H₀:Hp) (ex:List Addr) (pins:List (Addr×Obj)):Cx :=
 { X with N:=N,s₀:=s₀,H₀:=H₀,env:=compEnvC scope cl C X.env,outer:=X.stack,stack:=X.stack,ex:=ex,fn:=fun _=>false,pn:=X.pn++pins,xe:=fun _ _=>False }
inductive iB (X:Cx) (sc:Scope) (cl:List (Str×Addr)):List Str->List Nat->Prop where
 | nil:iB X sc cl [] []
 | cons {x:Str} {j:Nat} {c:Addr} {fs:List Str} {js:List Nat} (hN:X.N[j]?=some x) (hf:sc.names.lookup x=some .free) (hv:X.env.kindOf x=some .cell\/X.env.kindOf x=some .free) (hc:X.env.cells.lookup x=some c) (hl:cl.lookup x=some c) (r:iB X sc cl fs js):iB X sc cl (x::fs) (j::js)
inductive f_ (X:Cx):List (Str×Addr)->Prop where
 | nil:f_ X []
 | cons {x:Str} {c:Addr} {r:List (Str×Addr)} (h:X.env.cells.lookup x=some c) (t:f_ X r):f_ X ((x,c)::r)
theorem f_.at {X:Cx}:∀ {cl:List (Str×Addr)},f_ X cl->∀ x c,cl.lookup x=some c->X.env.cells.lookup x=some c
 | _,.nil,_,_,e=>by simp at e
 | _,.cons (x:=y) (c:=d) h t,x,c,e=>by
  rw [List.lookup_cons] at e
  cases q:x==y with
  | true =>
   rw [q] at e
   have e':d=c:=Option.some.inj e
   have q':x=y:=by simpa using q
   rw [q',← e'];exact h
  | false =>
   rw [q] at e
   exact f_.at t x c e
def ki (cl:List (Str×Addr)) (names:List (Str×NameKind)):Bool:=names.all fun y=>y.2 != .free||(cl.lookup y.1).isSome
def iy (names:List (Str×NameKind)):Bool:=names.all fun y=>y.2 != .cell
def j3 (names:List (Str×NameKind)):Bool:=names.all fun y=>y.2 != .local||(names.lookup y.1==some .local)
def du (ts:List Str) (js:List Nat) (σ:St):St:=ts.map (fun _=>none)++js.map fun j=>(σ[j]?).join
def zo (wi:TI) (g:TG) (tt:Option TT) (te:TE) (ts:List Str) (js:List Nat):TE:=fun σ H Q=>wi σ H fun J H1=>∀ D,H1 D=none ->
 ∃ W:Nat->Nat->St->Hp->Prop,(∃ m,W 0 m (du ts js σ) (upd H1 D (.lst [])))/\∀ i m σ' H',W i m σ' H' ->
  (J.stop i H'/\Q (.ref D) H')\/(J.go i H'/\∃ N:St->Hp->Prop,(∀ σ'' H'',N σ'' H''->∃ m',m'<m/\W (i+1) m' σ'' H'') ∧
   ∀ x H2,J.uZ i H' x H2->g x σ' H2 fun σ2 H3=>match tt with
    | none=>te σ2 H3 fun y H4=>∃ ys,H4 D=some (.lst ys)/\ys.length<sizeLine/\N σ2 (upd H4 D (.lst (ys++[y])))
    | some t=>t σ2 H3 fun b H3'=>if b=true then te σ2 H3' fun y H4=>∃ ys,H4 D=some (.lst ys)/\ys.length<sizeLine/\N σ2 (upd H4 D (.lst (ys++[y]))) else N σ2 H3')
theorem jx {scope : Scope} {cl : List (Str × Addr)} {C : Addr} {env : Env} {x : Str} (h : (compEnvC scope cl C env).kindOf x = some .cell \/ (compEnvC scope cl C env).kindOf x = some .free) (nc : iy scope.names = true) : scope.names.lookup x = some .free := by
  have key : ∀ (names : List (Str × NameKind)), iy names = true ->
      ((names.map fun (n, k) => if (k == NameKind.free && env.scope.kind == .function && env.kindOf n == some .cell) then (n, NameKind.cell) else (n, k)).lookup x = some .cell ∨
       (names.map fun (n, k) => if (k == NameKind.free && env.scope.kind == .function && env.kindOf n == some .cell) then (n, NameKind.cell) else (n, k)).lookup x = some .free) -> names.lookup x = some .free := by
    intro names
    induction names with
    | nil => intro _ h; simp at h
    | cons p r ih =>
      obtain ⟨n, k⟩ := p
      intro nc h
      have nc' : (k != .cell) = true /\ iy r = true := by
        unfold iy at nc
        rw [List.all_cons, Bool.and_eq_true] at nc
        exact nc
      rw [List.map_cons] at h
      dsimp only at h
      by_cases hc : (k == NameKind.free && env.scope.kind == .function && env.kindOf n == some .cell) = true
      · rw [if_pos hc] at h
        rw [List.lookup_cons] at h ⊢
        cases q : x == n with
        | true =>
          have : k = .free := by
            rw [Bool.and_eq_true, Bool.and_eq_true] at hc
            simpa using hc.1.1
          rw [this]
        | false =>
          rw [q] at h
          exact ih nc'.2 h
      · rw [if_neg hc] at h
        rw [List.lookup_cons] at h ⊢
        cases q : x == n with
        | true =>
          rw [q] at h
          have nk : k ≠ .cell := by simpa using nc'.1
          rcases h with h | h
          · exact absurd (Option.some.inj h) nk
          · exact h
        | false =>
          rw [q] at h
          exact ih nc'.2 h
  exact key scope.names nc h
theorem Ck {X : Cx} {tg elt iter : Expr} {ifs : List Expr} {scope : Scope} {cl : List (Str × Addr)} {pos : Pos} {wi : TI} {g : TG} {tt : Option TT} {te : TE} {ts fs : List Str} {js : List Nat} (hcalm : X.calm = true)
    (hclos : closureFor scope X.env = pure cl) (hk : scope.kind = .function) (nc : iy scope.names = true) (lo : j3 scope.names = true) (fh : ki cl scope.names = true) (ag : f_ X cl) (fr : iB X scope cl fs js)
    (hi : PI X tg iter wi) (hg : ∀ C s₀ H₀ ex pins, PG (ui X scope cl (ts ++ fs) C s₀ H₀ ex pins) tg g)
    (ht : ∀ C s₀ H₀ ex pins, match ifs, tt with | [], none => True | [c], some t => PT (ui X scope cl (ts ++ fs) C s₀ H₀ ex pins) c t | _, _ => False)
    (he : ∀ C s₀ H₀ ex pins, PE (ui X scope cl (ts ++ fs) C s₀ H₀ ex pins) elt te)
    (hs : ∀ x, foldedSetIterable iter X.env x = pure x := by intro _; rfl) :
    PE X (.ListComp elt [⟨tg, iter, ifs, 0⟩] scope pos) (zo wi g tt te ts js) := by
  intro pins s σ H Q I h
  rw [eval_ListComp]
  have hcell : ∀ y ∈ scope.names, y.2 ≠ .cell := fun y hy => by
    have := List.all_eq_true.mp nc y hy
    simpa using this
  have hnames : ∀ y ∈ scope.names, y.2 = .local -> scope.names.lookup y.1 = some .local := fun y hy hl => by
    have := List.all_eq_true.mp lo y hy
    rw [hl] at this
    simpa using this
  refine wpAny_comprehension_free (use := none) rfl hs hclos hk hnames (cF (hi pins s σ H _ I h) fun v s1 h1 => cF h1 fun itv s2 h2 => ?_)
  obtain ⟨it, fp, tn, J, H1, e, I2, T, st2, f2, hJ⟩ := h2
  subst e
  refine wpAny_newObj_type (wpAny_newFunctionEnv hcell (by intro y hy; simp at hy) (fun h₁ hns₁ hsb₁ => ?_) hk)
  dsimp only at hns₁ hsb₁ ⊢
  generalize hH2 : s2.heap.push { cls := .type "list", dict := none, data := .seq ([] : List Value).toArray } = G at hns₁ hsb₁ ⊢
  have hC : G.objs.size = s2.heap.objs.size + 1 := by rw [← hH2, Heap.size_push]
  have old : ∀ b o, s2.heap.get? b = some o -> h₁.get? b = some o := fun b o e => by
    have hb := Heap.lt_size e
    refine hsb₁.extBut b o (Nat.ne_of_lt (Nat.lt_of_lt_of_le hb (Nat.le_of_lt (by rw [hC]; exact Nat.lt_succ_self _)))) (Heap.get?_push_of_some _ ?_)
    rw [← hH2]
    exact Heap.get?_push_of_some _ e
  have hacc : h₁.get? s2.heap.objs.size = some { cls := .type "list", dict := none, data := .seq #[] } := by
    refine hsb₁.extBut _ _ (Nat.ne_of_lt (by rw [hC]; exact Nat.lt_succ_self _)) (Heap.get?_push_of_some _ ?_)
    rw [← hH2]
    exact Heap.get?_push_size _ rfl
  have nD : H1 s2.heap.objs.size = none := I2.bu.fresh (Nat.le_refl _)
  have nC : H1 G.objs.size = none := I2.bu.fresh (by omega)
  obtain ⟨W, ⟨m0, w0⟩, turn⟩ := hJ _ nD
  have hfpS : ∀ b ∈ fp, b < s2.heap.objs.size := fun b hb => by
    obtain ⟨o, e, _⟩ := T.obj _ _ st2 b hb
    exact Heap.lt_size e
  have ltk : ∀ (x : Str) (c : Addr), cl.lookup x = some c -> c < s2.heap.objs.size /\ H1 c = none /\ (∃ v, s2.heap.IsCell c v) := fun x c e => by
    have e' := ag.at x c e
    obtain ⟨v, q⟩ := I2.cell x c e'
    exact ⟨q.lt, I2.jI x c e', v, q⟩
  let X' := ui X scope cl (ts ++ fs) G.objs.size s2 H1 fp pins
  have okX : X'.Ok := by
    refine ⟨I2.ok.mod, hk, I2.ok.glob, I2.ok.blt, by show s2.heap.objs.size <= G.objs.size; omega, fun x y c e1 e2 => I2.ok.inj x y c (ag.at x c e1) (ag.at y c e2), fun x hx => ?_, fun x c hf _ => (nomatch (show (false : Bool) = true from hf)), I2.ok.hd, I2.ok.frames, .inl rfl, fun b hb => ⟨?_, fun x c e z => ?_⟩, fun b o e => I2.bs b o e, Nat.le_trans I2.ok.B_ I2.sz, fun b o e hb => ?_, fun b hb hz => ?_, I2.stack, fun b hb => I2.nR b hb⟩
    · have hfree := jx (env := X.env) hx nc
      have hm : ∃ y ∈ scope.names, y.1 = x /\ y.2 = .free := by
        have : ∀ (l : List (Str × NameKind)), l.lookup x = some .free -> ∃ y ∈ l, y.1 = x /\ y.2 = .free := by
          intro l
          induction l with
          | nil => intro h; simp at h
          | cons p r ih =>
            intro h
            rw [List.lookup_cons] at h
            cases q : x == p.1 with
            | true =>
              rw [q] at h
              exact ⟨p, List.mem_cons_self, (by simpa using q : x = p.1).symm, Option.some.inj h⟩
            | false =>
              rw [q] at h
              obtain ⟨y, hy, r1, r2⟩ := ih h
              exact ⟨y, List.mem_cons_of_mem _ hy, r1, r2⟩
        exact this _ hfree
      obtain ⟨y, hy, r1, r2⟩ := hm
      have := List.all_eq_true.mp fh y hy
      rw [r2] at this
      have h' : (cl.lookup y.1).isSome = true := by simpa using this
      rw [r1] at h'
      exact Option.isSome_iff_exists.mp h'
    · exact Nat.ne_of_lt (Nat.lt_of_lt_of_le (hfpS b hb) (by show s2.heap.objs.size <= G.objs.size; omega))
    · exact (f2 b hb).2.2.2.2.1 x c (ag.at x c e) z
    · obtain ⟨_, _, _, f3, _, _⟩ := f2 b hb
      rcases f3 with z | z
      · exact I2.ok.wc b o e z
      · exact absurd (Nat.lt_of_lt_of_le (Heap.lt_size (I2.ok.bs b o e).1) z) (Nat.lt_irrefl _)
    · rcases List.mem_cons.mp (I2.mO b hz) with z | z
      · exact (f2 b hb).2.1 z
      · exact (f2 b hb).2.2.1 z
  have keepB : ∀ b o, s2.heap.get? b = some o -> h₁.get? b = some o := old
  have I3 : Inv X' [] (du ts js σ) (upd H1 s2.heap.objs.size (.lst [])) { s2 with heap := h₁, toks := s2.toks + ([] : List (Str × Value)).length } := by
    have neD : ∀ b o, s2.heap.get? b = some o -> b ≠ s2.heap.objs.size := fun b o e => Nat.ne_of_lt (Heap.lt_size e)
    refine ⟨okX, rfl, I2.bare, ⟨fun b o e n hb hx => old b o e, fun b o e n hb hx => ⟨o.slots, old b o e⟩, fun b o e n hx => by rw [aw (neD b o e)]; exact n, fun b o e hx => ⟨o, old b o e⟩, fun b xs e => ?_, fun b o u e => ?_, fun b ps e => ?_⟩, ⟨_, hns₁, fun i x v e1 e2 e3 => ?_⟩, fun x c e => ?_, ?_, fun x c e => ?_, fun p hp => ?_, ?_, ?_⟩
    · rw [aw (a_ e nD)]; exact e
    · rw [aw (a_ e nD)]; exact e
    · exact ⟨#[], by rw [aw (a_ e nD)]; exact Eq.trans e (by simp)⟩
    ·
      have hlen : (ts.map (fun _ => (none : Option V))).length = ts.length := List.length_map _
      unfold du at e2
      by_cases hlt : i < ts.length
      · rw [List.getElem?_append_left (by rw [hlen]; exact hlt), List.getElem?_map] at e2
        cases q : ts[i]? <;> rw [q] at e2 <;> cases e2
      · rw [List.getElem?_append_right (by rw [hlen]; omega), hlen] at e2
        have e1' : fs[i - ts.length]? = some x := by
          have e1' : (ts ++ fs)[i]? = some x := e1
          rw [List.getElem?_append_right (by omega)] at e1'
          exact e1'
        have all : ∀ {fs : List Str} {js : List Nat}, iB X scope cl fs js -> ∀ k : Nat, fs[k]? = some x -> (js.map fun j => (σ[j]?).join)[k]? = some (some v) ->
            ∃ (j : Nat) (c : Addr), X.N[j]? = some x /\ σ[j]? = some (some v) /\ (X.env.kindOf x = some .cell \/ X.env.kindOf x = some .free) /\ X.env.cells.lookup x = some c /\ cl.lookup x = some c /\ scope.names.lookup x = some .free := by
          intro fs js r
          induction r with
          | nil => intro k e; simp at e
          | @cons y j c fs js hN hf hv hc hl r ih =>
            intro k e e'
            cases k with
            | zero =>
              have e0 : y = x := by simpa using e
              subst e0
              have e0' : (σ[j]?).join = some v := by simpa using e'
              refine ⟨j, c, hN, ?_, hv, hc, hl, hf⟩
              cases q : σ[j]? with
              | none => rw [q] at e0'; cases e0'
              | some z => rw [q] at e0'; cases z with
                | none => cases e0'
                | some z => have : z = v := by simpa using e0'
                            rw [this]
            | succ k => exact ih k (by simpa using e) (by simpa using e')
        obtain ⟨j, c, q1, q2, q3, q4, q5, q6⟩ := all fr (i - ts.length) e1' e2
        obtain ⟨m, hn, hl⟩ := I2.loc
        have vis : Bv X.env.scope x := by
          rcases q3 with z | z
          · exact .inr (.inl z)
          · exact .inr (.inr z)
        obtain ⟨u, ru, lk⟩ := hl j x v q1 q2 vis
        refine ⟨u, ru, .inr ⟨?_, c, q5, ?_⟩⟩
        · rcases e3 with z | z | z
          · exfalso
            have key : ∀ (l : List (Str × NameKind)), (l.map fun (n, k) => if (k == NameKind.free && X.env.scope.kind == .function && X.env.kindOf n == some .cell) then (n, NameKind.cell) else (n, k)).lookup x = some .local -> l.lookup x = some .local := by
              intro l
              induction l with
              | nil => intro h; simp at h
              | cons p r ih =>
                obtain ⟨n, k⟩ := p
                intro h
                rw [List.map_cons] at h
                dsimp only at h
                by_cases hc : (k == NameKind.free && X.env.scope.kind == .function && X.env.kindOf n == some .cell) = true
                · rw [if_pos hc] at h
                  rw [List.lookup_cons] at h ⊢
                  cases q : x == n with
                  | true => rw [q] at h; cases h
                  | false => rw [q] at h; exact ih h
                · rw [if_neg hc] at h
                  rw [List.lookup_cons] at h ⊢
                  cases q : x == n with
                  | true => rw [q] at h; exact h
                  | false => rw [q] at h; exact ih h
            have := key _ z
            rw [q6] at this
            cases this
          · exact .inl z
          · exact .inr z
        · rcases lk with ⟨k, _⟩ | ⟨_, c', e4, z⟩
          · rcases q3 with z | z <;> rw [z] at k <;> cases k
          · rw [q4] at e4
            cases e4
            obtain ⟨o, ho, hd⟩ := z
            exact ⟨o, old c o ho, hd⟩
    · obtain ⟨_, _, v, o, ho, hd⟩ := ltk x c e
      exact ⟨v, o, old c o ho, hd⟩
    · show upd H1 s2.heap.objs.size (.lst []) G.objs.size = none
      rw [aw (Nat.ne_of_gt (by rw [hC]; exact Nat.lt_succ_self _))]; exact nC
    · obtain ⟨q1, q2, _⟩ := ltk x c e
      rw [aw (Nat.ne_of_lt q1)]; exact q2
    · have hp' : p ∈ X.pn ++ pins := by
        have : p ∈ (X.pn ++ pins) ++ [] := hp
        rwa [List.append_nil] at this
      obtain ⟨e, n, ne, nf, d⟩ := I2.pin p hp'
      have hlt := Heap.lt_size e
      refine ⟨old _ _ e, by rw [aw (Nat.ne_of_lt hlt)]; exact n, ?_, fun hz => ?_, d⟩
      · show p.1 ≠ G.objs.size
        exact Nat.ne_of_lt (Nat.lt_trans hlt (by rw [hC]; exact Nat.lt_succ_self _))
      · rcases List.mem_cons.mp (I2.mO _ hz) with z | z
        · exact ne z
        · exact nf z
    · exact I2.bu.laid old (Nat.le_refl _) ⟨Nat.zero_le _, [], 0, .nil, hacc⟩
    · show (du ts js σ).length = (ts ++ fs).length
      have frl : ∀ {fs : List Str} {js : List Nat}, iB X scope cl fs js -> fs.length = js.length := by
        intro fs js r
        induction r with
        | nil => rfl
        | cons _ _ _ _ _ _ ih => rw [List.length_cons, List.length_cons, ih]
      unfold du
      rw [List.length_append, List.length_append, List.length_map, List.length_map, frl fr]
  have stat : ∀ {H' : Hp}, (∀ b ∈ fp, H' b = none) -> ∀ b ∈ fp, k9 X' [] H' b := fun {H'} hn b hb => by
    obtain ⟨_, f1, f3, _, f4, f5⟩ := f2 b hb
    refine ⟨hn b hb, okX.HJ b hb |>.1, okX.yr b hb, .inl hb, fun x c e => f4 x c (ag.at x c e), fun p hp => f5 p ?_⟩
    have : p ∈ (X.pn ++ pins) ++ [] := hp
    rwa [List.append_nil] at this
  have fin : ∀ {σ' : St} {H' : Hp} {s' : Shared}, Inv X' [] σ' H' s' -> Q (.ref s2.heap.objs.size) H' ->
      compPost (model X.prog X.w) X.A X.xe none (EP X pins σ Q) (.ref s2.heap.objs.size) G.objs.size (.ok .next) s' := by
    intro σ' H' s' I4 q
    obtain ⟨m, hn, _⟩ := I4.loc
    refine ⟨m, hn, fun h' hs' => ⟨.ref s2.heap.objs.size, H', ?_, rfl, q⟩⟩
    have neC : ∀ b o, s2.heap.get? b = some o -> b ≠ G.objs.size := fun b o e => Nat.ne_of_lt (Nat.lt_trans (Heap.lt_size e) (by rw [hC]; exact Nat.lt_succ_self _))
    have fC : H' G.objs.size = none := I4.free
    refine I2.wt (s' := { s' with heap := h' }) (ch := fp) I4.os ⟨fun b o e n hb hx => ?_, fun b o e n hb hx => ?_, fun b o e n hx => I4.base.free b o e n hx, fun b o e hx => ?_, I4.base.qv, I4.base.lU, I4.base.qb⟩ (fun b u e => ?_) I4.bare fun b hb => ?_
    · exact (hs'.2 b (neC b o e)).trans (I4.base.keep b o e n hb hx)
    · obtain ⟨sl, e1⟩ := I4.base.slot b o e n hb hx
      exact ⟨sl, (hs'.2 b (neC b o e)).trans e1⟩
    · obtain ⟨o', e1⟩ := I4.base.there b o e hx
      exact ⟨o', (hs'.2 b (neC b o e)).trans e1⟩
    · refine (I4.bu b u e).mG (fun c v hc q => (hs'.2 c ?_).trans q) (fun _ q => q) fun _ _ q => q
      rcases hc with z | z
      · rw [z]; exact a_ e fC
      · exact a_ z fC
    · obtain ⟨_, f1, _, f3, f4, f5⟩ := f2 b hb
      exact ⟨f3, f1, f4, f5⟩
  have loop : ∀ s3 : Shared, s3 = { s2 with heap := h₁, toks := s2.toks + ([] : List (Str × Value)).length } ->
      codeAny (model X.prog X.w) X.A (.compLoop (.ListComp elt [⟨tg, iter, ifs, 0⟩] scope pos) 0 (.ref it) (.ref s2.heap.objs.size) (compEnvC scope cl G.objs.size X.env))
        (compPost (model X.prog X.w) X.A X.xe none (EP X pins σ Q) (.ref s2.heap.objs.size) G.objs.size) s3 := by
    rintro s3 rfl
    refine qT (fun n s' => ∃ i σ' H', Inv X' [] σ' H' s' /\ tn i s'.heap /\ (∀ b ∈ fp, H' b = none) /\ W i n σ' H') ?_ m0 ⟨0, _, _, I3, T.keep _ _ _ st2 fun b _ o e => old b o e, fun b hb => ?_, w0⟩
    · rintro n s3 ⟨i, σ3, H3, I3, st3, fr3, w3⟩
      rcases turn i n σ3 H3 w3 with ⟨stop, qn⟩ | ⟨go, N, hN, step⟩
      · refine cF (T.done X' rfl rfl rfl hcalm i [] s3 σ3 H3 _ I3 (stat fr3) st3 stop) fun r s4 ⟨hr, I4⟩ => ?_
        subst hr
        exact fin I4 qn
      · refine cF (T.item X' rfl rfl rfl hcalm i [] s3 σ3 H3 _ I3 (stat fr3) st3 go) fun r s4 ⟨u, hr, h4⟩ => ?_
        subst hr
        refine cF h4 fun _ s5 ⟨x, H5, I5, r5, y5, st5, fr5⟩ => ?_
        have I5' := I5.pinned (stat fr5) (T.obj _ _ st5)
        refine cF (hg _ _ _ _ _ _ s5 σ3 H5 x u _ I5' r5 (step x H5 y5)) fun _ s6 ⟨σ6, H6, I6, q6⟩ => ?_
        have again : ∀ {σ7 : St} {H7 : Hp} {s7 : Shared}, Inv X' ([] ++ jD fp s5.heap) σ7 H7 s7 -> N σ7 H7 -> ∃ m, m < n /\ ∃ i σ' H', Inv X' [] σ' H' s7 /\ tn i s7.heap /\ (∀ b ∈ fp, H' b = none) /\ W i m σ' H' := fun {σ7 H7 s7} I7 n7 => by
          obtain ⟨m', hm, w7⟩ := hN σ7 H7 n7
          refine ⟨m', hm, i + 1, σ7, H7, I7.jv, T.keep _ _ _ st5 fun b hb o e => (I7.pin (b, o) (List.mem_append_right _ (List.mem_append_right _ (eX hb e)))).1, fun b hb => ?_, w7⟩
          obtain ⟨o, e, d⟩ := T.obj _ _ st5 b hb
          exact (I7.pin (b, o) (List.mem_append_right _ (List.mem_append_right _ (eX hb e)))).2.1
        have tail : ∀ {H7 : Hp} {s7 : Shared}, Inv X' ([] ++ jD fp s5.heap) σ6 H7 s7 -> (te σ6 H7 fun y H4 => ∃ ys, H4 s2.heap.objs.size = some (.lst ys) /\ ys.length < sizeLine /\ N σ6 (upd H4 s2.heap.objs.size (.lst (ys ++ [y])))) ->
            wpAny (model X.prog X.w) X.A (eval elt (compEnvC scope cl G.objs.size X.env)) (fun x s₅ => wpAny (model X.prog X.w) X.A (call (.builtin "list.append") [.ref s2.heap.objs.size, x])
              (fun _ s₆ => ∃ m, m < n /\ ∃ i σ' H', Inv X' [] σ' H' s₆ /\ tn i s₆.heap /\ (∀ b ∈ fp, H' b = none) /\ W i m σ' H') (fun _ _ => False) s₅) (fun _ _ => False) s7 := by
          intro H7 s7 I7 q7
          refine cF (he _ _ _ _ _ _ s7 σ6 H7 _ I7 q7) fun uy s8 ⟨y, H8, I8, ry, ys, hy, hl, q8⟩ => ?_
          refine cF (mf (X := X') _ s8 σ6 H8 (.ref s2.heap.objs.size) [y] (.ref s2.heap.objs.size) [uy] (fun _ H9 => N σ6 H9) I8 rfl (.cons ry .nil) ⟨_, ys, y, rfl, rfl, hy, hl, q8⟩) fun _ s9 ⟨_, H9, I9, _, q9⟩ => ?_
          exact again I9 q9
        cases ifs with
        | nil =>
          cases tt with
          | none => exact wpAny_tests_nil (tail I6 q6)
          | some t => exact (ht 0 s2 H1 [] []).elim
        | cons c r =>
          cases r with
          | nil =>
            cases tt with
            | none => exact (ht 0 s2 H1 [] []).elim
            | some t =>
              refine wpAny_tests_one (cF (ht G.objs.size s2 H1 fp pins _ s6 σ6 H6 _ I6 q6) fun b s7 ⟨H7, I7, q7⟩ => ?_)
              cases b with
              | true =>
                rw [if_pos rfl] at q7 ⊢
                exact tail I7 q7
              | false =>
                rw [if_neg Bool.false_ne_true] at q7 ⊢
                exact again I7 q7
          | cons _ _ => cases tt <;> exact (ht 0 s2 H1 [] []).elim
    · rw [aw (Nat.ne_of_lt (hfpS b hb))]
      exact (f2 b hb).1
  exact codeAny_compStart_list (loop _ rfl) (T.self _ 0 _ _ _ (T.keep _ _ _ st2 fun b _ o e => old b o e) (loop _ rfl))
def vF (wi:TI) (g:TG) (te:TE) (ts:List Str) (js:List Nat):TE:=fun σ H Q=>wi σ H fun J H1=>∀ D,H1 D=none ->
 ∃ W:Nat->Nat->St->Hp->Prop,(∃ m,W 0 m (du ts js σ) (upd H1 D (.lst [])))/\∀ i m σ' H',W i m σ' H' ->
  (J.stop i H'/\Q (.ref D) H')\/(J.go i H'/\∃ N:St->Hp->Prop,(∀ σ'' H'',N σ'' H''->∃ m',m'<m/\W (i+1) m' σ'' H'') ∧
   ∀ x H2,J.uZ i H' x H2->g x σ' H2 fun σ2 H3=>te σ2 H3 fun y H4=>∃ ys,H4 D=some (.lst ys)/\ys.length<sizeLine/\N σ2 (upd H4 D (.lst (ys++[y]))))
theorem zh {X:Cx} {tg elt iter:Expr} {scope:Scope} {cl:List (Str×Addr)} {pos:Pos} {wi:TI} {g:TG} {te:TE} {ts fs:List Str} {js:List Nat} (hcalm:X.calm=true)
  (hclos:closureFor scope X.env=pure cl) (hk:scope.kind=.function) (nc:iy scope.names=true) (lo:j3 scope.names=true) (fh:ki cl scope.names=true) (ag:f_ X cl) (fr:iB X scope cl fs js)
  (hi:PI X tg iter wi) (hg:∀ C s₀ H₀ ex pins,PG (ui X scope cl (ts++fs) C s₀ H₀ ex pins) tg g) (he:∀ C s₀ H₀ ex pins,PE (ui X scope cl (ts++fs) C s₀ H₀ ex pins) elt te)
  (hs:∀ x,foldedSetIterable iter X.env x=pure x:=by intro _;rfl):PE X (.ListComp elt [⟨tg,iter,[],0⟩] scope pos) (vF wi g te ts js) :=
 Ck (tt:=none) hcalm hclos hk nc lo fh ag fr hi hg (fun _ _ _ _ _=>trivial) he hs
end L2
namespace L2
open PySem PySem.Spec PyProof.Rows
def f6 (h:Heap) (b:Bool) (l:Addr) (xs:Array Value):Prop:=match b with
 | true=>h.IsList l xs
 | false=>h.IsTuple l xs
def dW (h:Heap) (b:Bool) (it l:Addr) (i:Nat):Prop:=match b with
 | true=>h.IsListIter it l i
 | false=>h.IsTupleIter it l i
theorem f6.at {h h':Heap} {b:Bool} {l:Addr} {xs:Array Value} (x:f6 h b l xs) (k:∀ o,h.get? l=some o->h'.get? l=some o):f6 h' b l xs:=by
 cases b with
 | true=>obtain ⟨o,ho,r⟩:=(show h.IsList l xs from x);exact (show h'.IsList l xs from ⟨o,k o ho,r⟩)
 | false=>obtain ⟨o,ho,r⟩:=(show h.IsTuple l xs from x);exact (show h'.IsTuple l xs from ⟨o,k o ho,r⟩)
theorem dW.at {h h':Heap} {b:Bool} {it l:Addr} {i:Nat} (x:dW h b it l i) (k:∀ o,h.get? it=some o->h'.get? it=some o):dW h' b it l i:=by
 cases b with
 | true=>obtain ⟨o,ho,r⟩:=(show h.IsListIter it l i from x);exact (show h'.IsListIter it l i from ⟨o,k o ho,r⟩)
 | false=>obtain ⟨o,ho,r⟩:=(show h.IsTupleIter it l i from x);exact (show h'.IsTupleIter it l i from ⟨o,k o ho,r⟩)
theorem dW.obj {h:Heap} {b:Bool} {it l:Addr} {i:Nat} (x:dW h b it l i):∃ o vs,h.get? it=some o/\o.data=.fields vs:=by
 cases b with
 | true=>obtain ⟨o,ho,_,hd⟩:=(show h.IsListIter it l i from x);exact ⟨o,_,ho,hd⟩
 | false=>obtain ⟨o,ho,_,hd⟩:=(show h.IsTupleIter it l i from x);exact ⟨o,_,ho,hd⟩
theorem f6.obj {h:Heap} {b:Bool} {l:Addr} {xs:Array Value} (x:f6 h b l xs):∃ o n,h.get? l=some o/\o.data=.seq xs n:=by
 cases b with
 | true=>obtain ⟨o,ho,_,n,hd⟩:=(show h.IsList l xs from x);exact ⟨o,n,ho,hd⟩
 | false=>obtain ⟨o,ho,_,n,hd⟩:=(show h.IsTuple l xs from x);exact ⟨o,n,ho,hd⟩
section
variable {prog:Program} {w:World} {A:Around} {E:Value->Shared->Prop} {s:Shared}
theorem lP {it t:Addr} {i:Nat} {items:Array Value} {x:Value} {Q:Value->Shared->Prop} (hit:s.heap.IsTupleIter it t i)
  (ht:s.heap.IsTuple t items) (hx:items[i]?=some x)
  (hQ:∀ h',h'.IsTupleIter it t (i+1)->Heap.SameBut it s.heap h'->Q x { s with heap:=h' }) :
  wpAny (model prog w) A (Builtin.SmallTypes.nextOf (.ref it)) Q E s:=by
 obtain ⟨o,ho,hc,hd⟩:=id hit
 obtain ⟨ol,hol,_,nl,hdl⟩:=ht
 unfold Builtin.SmallTypes.nextOf
 refine wpAny_bind (wpAny_callSpecial?_slot (name:=Str.ofString "__next__") hit.typeIs F.slot_tuple_iterator_next
  (wpAny_call_entry F.slot_tuple_iterator_next hit.typeIs F.entry_tuple_iterator_next ?_ (F.args_tuple_iterator_next_1 _)))
 show wpAny _ _ (field (.ref it) 0 >>= _) _ _ s
 refine wpAny_bind (wpAny_field ho hd (x:=.ref t) rfl ?_)
 show wpAny _ _ (if (Value.ref t==Value.none)=true then _ else _) _ _ s
 rw [if_neg (show ¬ ((Value.ref t==Value.none)=true) from Bool.false_ne_true)]
 show wpAny _ _ (field (.ref it) 1 >>= _) _ _ s
 refine wpAny_bind (wpAny_field ho hd (x:=.int i 0) rfl ?_)
 show wpAny _ _ (seqItems? (.ref t) >>= _) _ _ s
 refine wpAny_bind (wpAny_seqItems hol hdl ?_)
 simp only [Int.toNat_natCast,hx]
 refine wpAny_bind (wpAny_setField ho hd (by simp) (wpAny_pure ⟨x,rfl,wpAny_pure (hQ _ ?_ (Heap.SameBut.update ..))⟩))
 exact ⟨_,Heap.get?_update_self _ ho (Obj.isFreed_of_fields (Obj.data_mapFields hd _)),(Obj.cls_mapFields ..).trans hc,by
  rw [Obj.data_mapFields hd];simp [rawInt]⟩
theorem mx {it t:Addr} {i:Nat} {items:Array Value} {Q:Value->Shared->Prop} (hh:A.handled=none)
  (hit:s.heap.IsTupleIter it t i) (ht:s.heap.IsTuple t items) (hx:items[i]?=none)
  (hE:∀ h' e,Heap.ExtBut it s.heap h'->(∃ o,h'.get? e=some o/\o.cls=.type "StopIteration")->E (.ref e) { s with heap:=h' }) :
  wpAny (model prog w) A (Builtin.SmallTypes.nextOf (.ref it)) Q E s:=by
 obtain ⟨o,ho,hc,hd⟩:=id hit
 obtain ⟨ol,hol,_,nl,hdl⟩:=ht
 unfold Builtin.SmallTypes.nextOf
 refine wpAny_bind (wpAny_callSpecial?_slot (name:=Str.ofString "__next__") hit.typeIs F.slot_tuple_iterator_next
  (wpAny_call_entry F.slot_tuple_iterator_next hit.typeIs F.entry_tuple_iterator_next ?_ (F.args_tuple_iterator_next_1 _)))
 show wpAny _ _ (field (.ref it) 0 >>= _) _ _ s
 refine wpAny_bind (wpAny_field ho hd (x:=.ref t) rfl ?_)
 show wpAny _ _ (if (Value.ref t==Value.none)=true then _ else _) _ _ s
 rw [if_neg (show ¬ ((Value.ref t==Value.none)=true) from Bool.false_ne_true)]
 show wpAny _ _ (field (.ref it) 1 >>= _) _ _ s
 refine wpAny_bind (wpAny_field ho hd (x:=.int i 0) rfl ?_)
 show wpAny _ _ (seqItems? (.ref t) >>= _) _ _ s
 refine wpAny_bind (wpAny_seqItems hol hdl ?_)
 simp only [Int.toNat_natCast,hx]
 refine wpAny_bind (wpAny_rule (wpAny_bind (wpAny_setField ho hd (by simp) ?_)))
 show wpAny _ _ (newExc (.type "StopIteration") [] >>= _) _ _ _
 refine wpAny_bind ?_
 simp only [newExc,newTuple]
 refine wpAny_bind (wpAny_newObj_type ?_ (by size_fits))
 refine wpAny_bind (m:=firstArgMember _ _) (wpAny_of_eq (a:=Value.none) (by first | rfl | (simp only [firstArgMember];rfl)) ?_)
 refine wpAny_newObj_type ?_ (by size_fits)
 simp only [raiseNew]
 refine wpAny_bind (wpAny_handled ?_)
 first | rw [show A.in1.handled=none from hh] | rw [hh]
 refine wpAny_bind (wpAny_pure (wpAny_throw ?_))
 exact hE _ _ (((Heap.SameBut.update ..).extBut.push _).push _) ⟨_,Heap.get?_push_size _ rfl,rfl⟩
theorem cN {b:Bool} {it l:Addr} {i:Nat} {items:Array Value} {x:Value} {Q:Value->Shared->Prop} (hit:dW s.heap b it l i) (hl:f6 s.heap b l items) (hx:items[i]?=some x)
  (hQ:∀ h',dW h' b it l (i+1)->Heap.SameBut it s.heap h'->Q x { s with heap:=h' }):wpAny (model prog w) A (Builtin.SmallTypes.nextOf (.ref it)) Q E s:=by
 cases b with
 | true=>exact wpAny_nextOf_list_item hit hl hx hQ
 | false=>exact lP hit hl hx hQ
theorem g9 {b:Bool} {it l:Addr} {i:Nat} {items:Array Value} {Q:Value->Shared->Prop} (hh:A.handled=none) (hit:dW s.heap b it l i) (hl:f6 s.heap b l items) (hx:items[i]?=none)
  (hE:∀ h' e,Heap.ExtBut it s.heap h'->(∃ o,h'.get? e=some o/\o.cls=.type "StopIteration")->E (.ref e) { s with heap:=h' }):wpAny (model prog w) A (Builtin.SmallTypes.nextOf (.ref it)) Q E s:=by
 cases b with
 | true=>exact wpAny_nextOf_list_end hh hit hl hx hE
 | false=>exact mx hh hit hl hx hE
theorem yz {b1 b2:Bool} {z TI TO i1 i2 l1 l2:Addr} {k1 k2:Nat} {xs ys:Array Value} {x y a b:Value} {Q:Value->Shared->Prop} (D:ZipApart z TI TO i1 i2 l1 l2)
  (hz:IsZip s.heap z TI TO .none) (hTI:IsPair s.heap TI (.ref i1) (.ref i2)) (hTO:IsPair s.heap TO a b)
  (h1:dW s.heap b1 i1 l1 k1) (h2:dW s.heap b2 i2 l2 k2) (hl1:f6 s.heap b1 l1 xs) (hl2:f6 s.heap b2 l2 ys) (hx:xs[k1]?=some x) (hy:ys[k2]?=some y)
  (hQ:∀ h',IsZip h' z TI TO (rawInt s.heap.objs.size)->IsPair h' TO x y->dW h' b1 i1 l1 (k1+1)->dW h' b2 i2 l2 (k2+1)->IsPair h' s.heap.objs.size x y->h'.objs.size=s.heap.objs.size+1 ->
   (∀ c o,c≠z->c≠TO->c≠i1->c≠i2->s.heap.get? c=some o->h'.get? c=some o)->Q (.ref s.heap.objs.size) { s with heap:=h' }) :
  wpAny (model prog w) A (Builtin.«zip.__next__» ⟨[.ref z],[]⟩) (fun fin s'=>∃ v,fin=.done (.ret v)/\Q v s') E s:=by
 show wpAny _ _ (field (.ref z) 2 >>= _) _ _ _
 refine wpAny_bind (wpAny_field hz rfl (x:=.bool false) rfl ?_)
 show wpAny _ _ (field (.ref z) 3 >>= _) _ _ _
 refine wpAny_bind (wpAny_field hz rfl (x:=.ref TI) rfl ?_)
 refine wpAny_bind (wpAny_seqItems hTI rfl ?_)
 show wpAny _ _ (Builtin.SmallTypes.ownedTupleIsFree (.ref z) >>= _) _ _ _
 refine wpAny_bind ?_
 unfold Builtin.SmallTypes.ownedTupleIsFree
 refine wpAny_bind (wpAny_field hz rfl (x:=.none) rfl (wpAny_pure ?_))
 simp only [if_true]
 refine wpAny_bind (wpAny_rule ?_)
 refine wpAny_bind (wpAny_field hz rfl (x:=.ref TO) rfl ?_)
 refine wpAny_bind (wpAny_setField_rec hz (by simp) fun h₁ hz₁ hs₁=>?_)
 replace hz₁:IsZip h₁ z TI TO .ellipsis:=hz₁
 refine wpAny_bind ?_
 simp only [List.zipIdx_cons,List.zipIdx_nil,List.forIn_cons,List.forIn_nil]
 refine wpAny_bind (wpAny_bind (wpAny_onRaise ?_))
 show wpAny _ _ (Builtin.SmallTypes.nextOf (.ref i1) >>= _) _ _ _
 refine wpAny_bind (cN (h1.at fun o e=>hs₁.extBut _ _ D.i1z e) (hl1.at fun o e=>hs₁.extBut _ _ D.l1z e) hx fun h₂ h1₂ hs₂=>wpAny_pure ?_)
 have hTO₂:IsPair h₂ TO a b:=hs₂.extBut _ _ D.TOi1 (hs₁.extBut _ _ D.TOz hTO)
 refine wpAny_bind (wpAny_seqItems hTO₂ rfl ?_)
 refine wpAny_bind (wpAny_updateSeq_pair hTO₂ fun h₃ hTO₃ hs₃=>?_)
 replace hTO₃:IsPair h₃ TO x b:=hTO₃
 refine wpAny_bind (wpAny_letGo (wpAny_pure ?_))
 refine wpAny_bind (wpAny_bind (wpAny_onRaise ?_))
 show wpAny _ _ (Builtin.SmallTypes.nextOf (.ref i2) >>= _) _ _ _
 refine wpAny_bind (cN (h2.at fun o e=>hs₃.extBut _ _ D.TOi2.symm (hs₂.extBut _ _ D.i12.symm (hs₁.extBut _ _ D.i2z e)))
  (hl2.at fun o e=>hs₃.extBut _ _ D.l2TO (hs₂.extBut _ _ D.l2i1 (hs₁.extBut _ _ D.l2z e))) hy fun h₄ h2₄ hs₄=>wpAny_pure ?_)
 have hTO₄:IsPair h₄ TO x b:=hs₄.extBut _ _ D.TOi2 hTO₃
 refine wpAny_bind (wpAny_seqItems hTO₄ rfl ?_)
 refine wpAny_bind (wpAny_updateSeq_pair hTO₄ fun h₅ hTO₅ hs₅=>?_)
 replace hTO₅:IsPair h₅ TO x y:=hTO₅
 refine wpAny_bind (wpAny_letGo (wpAny_pure (wpAny_pure ?_)))
 refine wpAny_bind (wpAny_seqItems hTO₅ rfl ?_)
 refine wpAny_bind (wpAny_newTuple ?_)
 have hsz:h₅.objs.size=s.heap.objs.size:=by rw [hs₅.1,hs₄.1,hs₃.1,hs₂.1,hs₁.1]
 have hz₅:IsZip h₅ z TI TO .ellipsis:=hs₅.extBut _ _ D.TOz.symm (hs₄.extBut _ _ D.i2z.symm (hs₃.extBut _ _ D.TOz.symm (hs₂.extBut _ _ D.i1z.symm hz₁)))
 have hk₅:∀ c o,c≠z->c≠TO->c≠i1->c≠i2->s.heap.get? c=some o->h₅.get? c=some o:=fun c o c1 c2 c3 c4 e =>
  hs₅.extBut _ _ c2 (hs₄.extBut _ _ c4 (hs₃.extBut _ _ c2 (hs₂.extBut _ _ c3 (hs₁.extBut _ _ c1 e))))
 have h1₅:dW h₅ b1 i1 l1 (k1+1):=h1₂.at fun o e=>hs₅.extBut _ _ D.TOi1.symm (hs₄.extBut _ _ D.i12 (hs₃.extBut _ _ D.TOi1.symm e))
 have h2₅:dW h₅ b2 i2 l2 (k2+1):=h2₄.at fun o e=>hs₅.extBut _ _ D.TOi2.symm e
 have hzlt:z<h₅.objs.size:=Heap.lt_size hz₅
 show wpAny _ _ (Builtin.SmallTypes.ownedTupleHandOut (.ref z) (.ref h₅.objs.size) >>= _) _ _ _
 refine wpAny_bind ?_
 unfold Builtin.SmallTypes.ownedTupleHandOut
 have hz₆:IsZip (h₅.push { cls:=.type "tuple", data:=.seq #[x,y] }) z TI TO .ellipsis:=Heap.get?_push_of_some _ hz₅
 refine wpAny_bind (wpAny_setField_rec hz₆ (by simp) fun h₇ hz₇ hs₇=>?_)
 replace hz₇:IsZip h₇ z TI TO (rawInt h₅.objs.size):=hz₇
 refine wpAny_setField_rec hz₇ (by simp) fun h₈ hz₈ hs₈=>?_
 replace hz₈:IsZip h₈ z TI TO (rawInt h₅.objs.size):=hz₈
 have up:∀ c o,c≠z->h₅.get? c=some o->h₈.get? c=some o:=fun c o c1 e=>hs₈.extBut _ _ c1 (hs₇.extBut _ _ c1 (Heap.get?_push_of_some _ e))
 have hT₈:IsPair h₈ h₅.objs.size x y:=hs₈.extBut _ _ (Nat.ne_of_gt hzlt) (hs₇.extBut _ _ (Nat.ne_of_gt hzlt) (Heap.get?_push_size _ rfl))
 have hz8:h₈.objs.size=h₅.objs.size+1:=by rw [hs₈.1,hs₇.1,Heap.size_push]
 rw [hsz] at hz₈ hT₈ hz8
 refine wpAny_pure ⟨_,rfl,?_⟩
 show Q (.ref h₅.objs.size) _
 rw [hsz]
 exact hQ h₈ hz₈ (up _ _ D.TOz hTO₅) (h1₅.at fun o e=>up _ o D.i1z e) (h2₅.at fun o e=>up _ o D.i2z e) hT₈ hz8 fun c o c1 c2 c3 c4 e=>up c o c1 (hk₅ c o c1 c2 c3 c4 e)
theorem AQ {b1 b2:Bool} {z TI TO i1 i2 l1 l2:Addr} {k1 k2:Nat} {xs ys:Array Value} {a b:Value} {Q:Fin->Shared->Prop} (hh:A.handled=none) (D:ZipApart z TI TO i1 i2 l1 l2)
  (hz:IsZip s.heap z TI TO .none) (hTI:IsPair s.heap TI (.ref i1) (.ref i2)) (hTO:IsPair s.heap TO a b)
  (h1:dW s.heap b1 i1 l1 k1) (h2:dW s.heap b2 i2 l2 k2) (hl1:f6 s.heap b1 l1 xs) (hl2:f6 s.heap b2 l2 ys) (hend:xs[k1]?=none\/ys[k2]?=none)
  (hE:∀ h' e,(∀ c o,c≠z->c≠TO->c≠i1->c≠i2->s.heap.get? c=some o->h'.get? c=some o)->(∃ o,h'.get? e=some o/\o.cls=.type "StopIteration")->E (.ref e) { s with heap:=h' }) :
  wpAny (model prog w) A (Builtin.«zip.__next__» ⟨[.ref z],[]⟩) Q E s:=by
 show wpAny _ _ (field (.ref z) 2 >>= _) _ _ _
 refine wpAny_bind (wpAny_field hz rfl (x:=.bool false) rfl ?_)
 show wpAny _ _ (field (.ref z) 3 >>= _) _ _ _
 refine wpAny_bind (wpAny_field hz rfl (x:=.ref TI) rfl ?_)
 refine wpAny_bind (wpAny_seqItems hTI rfl ?_)
 show wpAny _ _ (Builtin.SmallTypes.ownedTupleIsFree (.ref z) >>= _) _ _ _
 refine wpAny_bind ?_
 unfold Builtin.SmallTypes.ownedTupleIsFree
 refine wpAny_bind (wpAny_field hz rfl (x:=.none) rfl (wpAny_pure ?_))
 simp only [if_true]
 refine wpAny_bind (wpAny_rule ?_)
 refine wpAny_bind (wpAny_field hz rfl (x:=.ref TO) rfl ?_)
 refine wpAny_bind (wpAny_setField_rec hz (by simp) fun h₁ hz₁ hs₁=>?_)
 replace hz₁:IsZip h₁ z TI TO .ellipsis:=hz₁
 refine wpAny_bind ?_
 simp only [List.zipIdx_cons,List.zipIdx_nil,List.forIn_cons,List.forIn_nil]
 refine wpAny_bind (wpAny_bind (wpAny_onRaise ?_))
 show wpAny _ _ (Builtin.SmallTypes.nextOf (.ref i1) >>= _) _ _ _
 cases hx:xs[k1]? with
 | none =>
  refine wpAny_bind (g9 hh (h1.at fun o e=>hs₁.extBut _ _ D.i1z e) (hl1.at fun o e=>hs₁.extBut _ _ D.l1z e) hx fun h₂ e hs₂ he=>?_)
  obtain ⟨oe,hoe,hce⟩:=he
  have hz₂:IsZip h₂ z TI TO .ellipsis:=hs₂ _ _ D.i1z.symm hz₁
  have hez:e≠z:=fun x=>by subst x;rw [hz₂] at hoe;cases hoe;simp at hce
  refine wpAny_setField_rec hz₂ (by simp) fun h₃ _ hs₃=>hE h₃ e (fun c o c1 _ c3 _ x=>hs₃.extBut _ _ c1 (hs₂ _ _ c3 (hs₁.extBut _ _ c1 x))) ⟨oe,hs₃.extBut _ _ hez hoe,hce⟩
 | some x =>
  have hy:ys[k2]?=none:=by rcases hend with h | h;rw [hx] at h;cases h;exact h
  refine wpAny_bind (cN (h1.at fun o e=>hs₁.extBut _ _ D.i1z e) (hl1.at fun o e=>hs₁.extBut _ _ D.l1z e) hx fun h₂ h1₂ hs₂=>wpAny_pure ?_)
  have hTO₂:IsPair h₂ TO a b:=hs₂.extBut _ _ D.TOi1 (hs₁.extBut _ _ D.TOz hTO)
  refine wpAny_bind (wpAny_seqItems hTO₂ rfl ?_)
  refine wpAny_bind (wpAny_updateSeq_pair hTO₂ fun h₃ hTO₃ hs₃=>?_)
  refine wpAny_bind (wpAny_letGo (wpAny_pure ?_))
  refine wpAny_bind (wpAny_bind (wpAny_onRaise ?_))
  show wpAny _ _ (Builtin.SmallTypes.nextOf (.ref i2) >>= _) _ _ _
  refine wpAny_bind (g9 hh (h2.at fun o e=>hs₃.extBut _ _ D.TOi2.symm (hs₂.extBut _ _ D.i12.symm (hs₁.extBut _ _ D.i2z e)))
   (hl2.at fun o e=>hs₃.extBut _ _ D.l2TO (hs₂.extBut _ _ D.l2i1 (hs₁.extBut _ _ D.l2z e))) hy fun h₄ e hs₄ he=>?_)
  obtain ⟨oe,hoe,hce⟩:=he
  have hz₄:IsZip h₄ z TI TO .ellipsis:=hs₄ _ _ D.i2z.symm (hs₃.extBut _ _ D.TOz.symm (hs₂.extBut _ _ D.i1z.symm hz₁))
  have hez:e≠z:=fun x=>by subst x;rw [hz₄] at hoe;cases hoe;simp at hce
  refine wpAny_setField_rec hz₄ (by simp) fun h₅ _ hs₅=>hE h₅ e (fun c o c1 c2 c3 c4 x=>hs₅.extBut _ _ c1 (hs₄ _ _ c4 (hs₃.extBut _ _ c2 (hs₂.extBut _ _ c3 (hs₁.extBut _ _ c1 x))))) ⟨oe,hs₅.extBut _ _ hez hoe,hce⟩
theorem uJ {b:Bool} {l:Addr} {items:Array Value} {Q:Value->Shared->Prop} (hl:f6 s.heap b l items)
  (h:∀ o,o=({ cls:=.type (if b then "list_iterator" else "tuple_iterator"),data:=.fields #[.ref l,.int 0 0] }:Obj)->Q (.ref s.heap.objs.size) { s with heap:=s.heap.push o }):wpAny (model prog w) A (pyIter (.ref l)) Q E s:=by
 cases b with
 | true=>exact wpAny_pyIter_list hl (h _ rfl)
 | false=>exact wpAny_pyIter_tuple hl (h _ rfl)
theorem mP {b1 b2:Bool} {z TI TO i1 i2 l1 l2:Addr} {k1 k2:Nat} {xs ys:Array Value} {x y a b:Value} {Q:Option Value->Shared->Prop} (D:ZipApart z TI TO i1 i2 l1 l2)
  (hz:IsZip s.heap z TI TO .none) (hTI:IsPair s.heap TI (.ref i1) (.ref i2)) (hTO:IsPair s.heap TO a b)
  (h1:dW s.heap b1 i1 l1 k1) (h2:dW s.heap b2 i2 l2 k2) (hl1:f6 s.heap b1 l1 xs) (hl2:f6 s.heap b2 l2 ys) (hx:xs[k1]?=some x) (hy:ys[k2]?=some y)
  (hQ:∀ h',IsZip h' z TI TO (rawInt s.heap.objs.size)->IsPair h' TO x y->dW h' b1 i1 l1 (k1+1)->dW h' b2 i2 l2 (k2+1)->IsPair h' s.heap.objs.size x y->h'.objs.size=s.heap.objs.size+1 ->
   (∀ c o,c≠z->c≠TO->c≠i1->c≠i2->s.heap.get? c=some o->h'.get? c=some o)->Q (some (.ref s.heap.objs.size)) { s with heap:=h' }) :
  wpAny (model prog w) A (pyNext (.ref z)) Q E s:=by
 have hT:s.TypeIs (.ref z) "zip" := ⟨_,hz,rfl⟩
 unfold pyNext
 exact wpAny_bind (wpAny_attempt (wpAny_callSpecial?_slot (name:=Str.ofString "__next__") hT F.slot_zip_next
  (wpAny_call_entry F.slot_zip_next hT F.entry_zip_next
   (yz D hz hTI hTO h1 h2 hl1 hl2 hx hy fun h' a1 a2 a3 a4 a5 a6 a7=>wpAny_pure (hQ h' a1 a2 a3 a4 a5 a6 a7)) (F.args_zip_next_1 _))))
theorem nJ {b1 b2:Bool} {z TI TO i1 i2 l1 l2:Addr} {k1 k2:Nat} {xs ys:Array Value} {a b:Value} {Q:Option Value->Shared->Prop} (hh:A.handled=none) (D:ZipApart z TI TO i1 i2 l1 l2)
  (hz:IsZip s.heap z TI TO .none) (hTI:IsPair s.heap TI (.ref i1) (.ref i2)) (hTO:IsPair s.heap TO a b)
  (h1:dW s.heap b1 i1 l1 k1) (h2:dW s.heap b2 i2 l2 k2) (hl1:f6 s.heap b1 l1 xs) (hl2:f6 s.heap b2 l2 ys) (hend:xs[k1]?=none\/ys[k2]?=none)
  (hQ:∀ h',(∀ c o,c≠z->c≠TO->c≠i1->c≠i2->s.heap.get? c=some o->h'.get? c=some o)->Q none { s with heap:=h' }):wpAny (model prog w) A (pyNext (.ref z)) Q E s:=by
 have hT:s.TypeIs (.ref z) "zip" := ⟨_,hz,rfl⟩
 unfold pyNext
 refine wpAny_bind (wpAny_attempt (wpAny_callSpecial?_slot (name:=Str.ofString "__next__") hT F.slot_zip_next
  (wpAny_call_entry F.slot_zip_next hT F.entry_zip_next (AQ hh D hz hTI hTO h1 h2 hl1 hl2 hend fun h' e hk he=>?_) (F.args_zip_next_1 _))))
 obtain ⟨o,ho,hc⟩:=he
 refine wpAny_bind (wpAny_isInstance (T := "StopIteration") (b:=true) ⟨o,ho,hc⟩ isSubtype_stop ?_)
 exact wpAny_pure (hQ _ hk)
abbrev Cf (b:Bool) (l:Addr):Obj:={ cls:=.type (if b then "list_iterator" else "tuple_iterator"),data:=.fields #[.ref l,.int 0 0] }
abbrev DY (h:Heap) (b1:Bool) (l1:Addr):Heap:=h.push (Cf b1 l1)
abbrev Dj (h:Heap) (b1 b2:Bool) (l1 l2:Addr):Heap:=(DY h b1 l1).push (Cf b2 l2)
abbrev HR (h:Heap) (b1 b2:Bool) (l1 l2:Addr):Heap:=(Dj h b1 b2 l1 l2).push { cls:=.type "tuple", data:=.seq #[.ref h.objs.size,.ref (DY h b1 l1).objs.size] }
abbrev HA (h:Heap) (b1 b2:Bool) (l1 l2:Addr):Heap:=(HR h b1 b2 l1 l2).push { cls:=.type "tuple", data:=.seq #[.none,.none] }
abbrev Fg (h:Heap) (b1 b2:Bool) (l1 l2:Addr):Heap:=(HA h b1 b2 l1 l2).push { cls:=.type "zip", data:=.fields #[.none,.bool false,.bool false,.ref (Dj h b1 b2 l1 l2).objs.size,.ref (HR h b1 b2 l1 l2).objs.size] }
end
theorem fR {prog:Program} {w:World} {A:Around} {E:Value->Shared->Prop} {s:Shared} {b:Bool} {l:Addr} {items:Array Value} {Q:Value->Shared->Prop} (hl:f6 s.heap b l items)
  (h:Q (.ref s.heap.objs.size) { s with heap:=s.heap.push (Cf b l) }):wpAny (model prog w) A (pyIter (.ref l)) Q E s:=uJ hl fun o e=>by subst e;exact h
theorem f6.push {h:Heap} {b:Bool} {l:Addr} {xs:Array Value} (x:f6 h b l xs) (o:Obj):f6 (h.push o) b l xs:=x.at fun _ e=>Heap.get?_push_of_some _ e
theorem pk (b1 b2:Bool) (l1 l2:Addr) (xs ys:Array Value) :
  Meets (Builtin.«zip.__new__» ⟨[.type "zip", .ref l1,.ref l2],[]⟩) (fun _ R s=>f6 s.heap b1 l1 xs/\f6 s.heap b2 l2 ys ∧
   R (.ok (.ret (.ref (HA s.heap b1 b2 l1 l2).objs.size))) { s with heap:=Fg s.heap b1 b2 l1 l2 }) :=
 .of_wp fun prog w A R s h=>by
  obtain ⟨hp,g,d,tk,os⟩:=s;obtain ⟨hl1,hl2,h⟩:=h
  have hsub:=sub_zip
  have hL1:f6 (Shared.heap ⟨hp,g,d,tk,os⟩) b1 l1 xs:=hl1
  have hL2:f6 (Shared.heap ⟨hp.push (Cf b1 l1),g,d,tk,os⟩) b2 l2 ys:=f6.push hl2 _
  wp_walk using fR hL1,fR hL2
  exact ⟨_,rfl,h⟩
section
variable {prog:Program} {w:World} {A:Around} {E:Value->Shared->Prop} {s:Shared}
theorem dW.new (h:Heap) (b:Bool) (it l:Addr) (e:h.get? it=some (Cf b l)):dW h b it l 0:=by
 cases b with
 | true=>exact ⟨_,e,rfl,rfl⟩
 | false=>exact ⟨_,e,rfl,rfl⟩
theorem xi {b1 b2:Bool} {l1 l2:Addr} {xs ys:Array Value} {Q:Value->Shared->Prop} (hl1:f6 s.heap b1 l1 xs) (hl2:f6 s.heap b2 l2 ys)
  (h:∀ h',IsZip h' (s.heap.objs.size+4) (s.heap.objs.size+2) (s.heap.objs.size+3) .none->IsPair h' (s.heap.objs.size+2) (.ref s.heap.objs.size) (.ref (s.heap.objs.size+1)) ->
   IsPair h' (s.heap.objs.size+3) .none .none->dW h' b1 s.heap.objs.size l1 0->dW h' b2 (s.heap.objs.size+1) l2 0->h'.objs.size=s.heap.objs.size+5 ->
   (∀ c o,s.heap.get? c=some o->h'.get? c=some o)->Q (.ref (s.heap.objs.size+4)) { s with heap:=h' }) :
  wpAny (model prog w) A (call (.type "zip") [.ref l1,.ref l2]) Q E s:=by
 refine callType_new F.called_zip (by decide) (F.typeCall_zip_2 _ _) (F.newCall_zip_2 _ _) (fun obj=>F.args_object_init_3 obj _ _) F.entry_zip_new
  (pk b1 b2 l1 l2 xs ys) ⟨hl1,hl2,?_⟩
 have z1:(DY s.heap b1 l1).objs.size=s.heap.objs.size+1:=Heap.size_push ..
 have z2:(Dj s.heap b1 b2 l1 l2).objs.size=s.heap.objs.size+2:=by rw [Heap.size_push,z1]
 have z3:(HR s.heap b1 b2 l1 l2).objs.size=s.heap.objs.size+3:=by rw [Heap.size_push,z2]
 have z4:(HA s.heap b1 b2 l1 l2).objs.size=s.heap.objs.size+4:=by rw [Heap.size_push,z3]
 have z5:(Fg s.heap b1 b2 l1 l2).objs.size=s.heap.objs.size+5:=by rw [Heap.size_push,z4]
 have g5:(Fg s.heap b1 b2 l1 l2).get? (HA s.heap b1 b2 l1 l2).objs.size=some _:=Heap.get?_push_size _ rfl
 have g4:(Fg s.heap b1 b2 l1 l2).get? (HR s.heap b1 b2 l1 l2).objs.size=some _:=Heap.get?_push_of_some _ (Heap.get?_push_size _ rfl)
 have g3:(Fg s.heap b1 b2 l1 l2).get? (Dj s.heap b1 b2 l1 l2).objs.size=some _:=Heap.get?_push_of_some _ (Heap.get?_push_of_some _ (Heap.get?_push_size _ rfl))
 have g2:(Fg s.heap b1 b2 l1 l2).get? (DY s.heap b1 l1).objs.size=some _:=Heap.get?_push_of_some _ (Heap.get?_push_of_some _ (Heap.get?_push_of_some _ (Heap.get?_push_size _ rfl)))
 have g1:(Fg s.heap b1 b2 l1 l2).get? s.heap.objs.size=some _:=Heap.get?_push_of_some _ (Heap.get?_push_of_some _ (Heap.get?_push_of_some _ (Heap.get?_push_of_some _ (Heap.get?_push_size _ rfl))))
 show _/\_
 rw [z2,z3,z4] at g5
 rw [z1,z2] at g3
 rw [z3] at g4
 rw [z1] at g2
 rw [z4]
 exact ⟨⟨_,g5,rfl⟩,h _ g5 g3 g4 (dW.new _ b1 _ _ g1) (dW.new _ b2 _ _ g2) z5 fun c o x =>
  Heap.get?_push_of_some _ (Heap.get?_push_of_some _ (Heap.get?_push_of_some _ (Heap.get?_push_of_some _ (Heap.get?_push_of_some _ x))))⟩
end
def kl (K:PySem.W.Frag) (H:Hp) (b:Bool) (a:Addr) (xs:List V):Prop:=match b with
 | true=>iM K H a xs
 | false=>ji K H a xs
section
variable {X:Cx}
theorem Inv.row {pins:List (Addr×Obj)} {σ:St} {H:Hp} {s:Shared} {b:Bool} {a:Addr} {xs:List V} (I:Inv X pins σ H s) (h:kl X.K H b a xs):∃ its:List Value,Vals xs its/\f6 s.heap b a its.toArray/\xs.length<=sizeLine:=by
 cases b with
 | true =>
  obtain ⟨its,r,p,z⟩:=I.list h
  exact ⟨its,r,p.isList,z⟩
 | false =>
  obtain ⟨its,r,p,z⟩:=I.tuple h
  exact ⟨its,r,p,z⟩
theorem Inv.lJ {pins:List (Addr×Obj)} {σ:St} {H:Hp} {s:Shared} {b:Bool} {a:Addr} {xs ys:List V} (I:Inv X pins σ H s) (h:kl X.K H b a xs) (h':kl X.K H b a ys):xs=ys:=by
 cases b with
 | true=>exact I.oK h h'
 | false=>exact I.rj h h'
theorem Inv.wO {pins:List (Addr×Obj)} {σ:St} {H:Hp} {s:Shared} {h':Heap} {t':Nat} {ch:List Addr} (I:Inv X pins σ H s) (k:∀ b u,b ∉ ch->s.heap.get? b=some u->h'.get? b=some u)
  (hch:∀ b∈ch,k9 X pins H b):Inv X pins σ H { s with heap:=h',toks:=t' }:=by
 have nitH:∀ b u,H b=some u->b ∉ ch:=fun b u e z=>by rw [(hch b z).1] at e;cases e
 refine I.step (g':=s.gens) (d':=s.drawn) (ch:=ch) (fun b hb=>?_) (fun b u _ _ hc e _=>k b u hc e) (fun b u _ _ hc e _=>⟨u.slots,k b u hc e⟩)
  (fun b u _ e n=>n) (fun b u hc e=>⟨u,k b u hc e⟩) (fun b xs e=>e) (fun b ob u e=>e) (fun b ps e=>⟨#[],by rw [e];simp⟩) (fun m hm=>?_) (fun b u e=>?_) I.bare
 ·obtain ⟨_,f1,_,f3,f4,f5⟩:=hch b hb
  exact ⟨f3,f1,f4,f5⟩
 ·obtain ⟨ob,es,ep,ho,r⟩:=hm
  exact ⟨ob,es,ep,k _ ob (fun z=>(hch _ z).2.1 rfl) ho,r⟩
 ·refine (I.bu b u e).mG (fun c v hc q=>k c v ?_ q) (fun c q=>q) fun c ys q=>q
  rcases hc with z' | z'
  ·rw [z'];exact nitH b u e
  ·exact nitH c _ z'
theorem cA {pins:List (Addr×Obj)} {σ:St} {H:Hp} {s:Shared} {b:Bool} {a c:Addr} {xs:List V} (I:Inv X pins σ H s) (h:kl X.K H b a xs) (f:k9 X pins H c):a≠c:=by
 have rd:∀ {u:HO},Rd H a u->a≠c:=fun {u} r=>by
  rcases r with r | ⟨o,r⟩
  ·exact a_ r f.1
  ·exact a_ r f.1
 have mk:∀ {o:Obj},X.K.lookup a=some o->a≠c:=fun {o} e z=>by
  subst z
  have e':=I.ok.mod.Dq _ _ e
  rcases f.2.2.2.1 with q | q
  ·exact I.ok.wc _ _ e' q
  ·exact absurd (Nat.lt_of_lt_of_le (Heap.lt_size (I.ok.bs _ _ e').1) q) (Nat.lt_irrefl _)
 cases b with
 | true =>
  rcases (show iM X.K H a xs from h) with r | ⟨o,its,n,e,_⟩
  ·exact rd r
  ·exact mk e
 | false =>
  rcases (show ji X.K H a xs from h) with r | ⟨o,its,n,e,_⟩
  ·exact rd r
  ·exact mk e
def Lg (K : PySem.W.Frag) (b1 b2 : Bool) (a1 a2 : Addr) : It :=
  ⟨fun i H => ∃ xs ys x y, kl K H b1 a1 xs /\ kl K H b2 a2 ys /\ xs[i]? = some x /\ ys[i]? = some y,
   fun i H v H' => ∃ p x y, H p = none /\ v = .ref p /\ H' = upd H p (.tup [x, y]) /\ (∀ xs, kl K H b1 a1 xs -> xs[i]? = some x) /\ (∀ ys, kl K H b2 a2 ys -> ys[i]? = some y),
   fun i H => ∃ xs ys, kl K H b1 a1 xs /\ kl K H b2 a2 ys /\ (xs.length <= i \/ ys.length <= i)⟩
theorem Ag {P:Program} {w:World} {K:PySem.W.Frag} {elts:List Expr} {x1:Nat} {tp:Pos} (b1 b2:Bool) (a1 a2 z TI TO i1 i2:Addr) (D:TI≠z/\TO≠z/\i1≠z/\i2≠z/\TI≠TO/\TI≠i1/\TI≠i2/\TO≠i1/\TO≠i2/\i1≠i2) :
  Turn P w K (.Tuple elts x1 tp) (Lg K b1 b2 a1 a2) [z,TO,i1,i2,TI] z (fun i h=>IsZip h z TI TO .none/\IsPair h TI (.ref i1) (.ref i2)/\(∃ a b,IsPair h TO a b)/\dW h b1 i1 a1 i/\dW h b2 i2 a2 i) where
 mem:=by simp
 obj:=fun i h st b hb=>by
  obtain ⟨hz,hTI,⟨a,c,hTO⟩,h1,h2⟩:=st
  simp only [List.mem_cons,List.mem_nil_iff,or_false] at hb
  rcases hb with q | q | q | q | q <;> subst q
  ·exact ⟨_,hz,fun v z=>by cases z⟩
  ·exact ⟨_,hTO,fun v z=>by cases z⟩
  ·obtain ⟨o,vs,e,d⟩:=h1.obj
   exact ⟨o,e,fun v z=>by rw [d] at z;cases z⟩
  ·obtain ⟨o,vs,e,d⟩:=h2.obj
   exact ⟨o,e,fun v z=>by rw [d] at z;cases z⟩
  ·exact ⟨_,hTI,fun v z=>by cases z⟩
 keep:=fun i h h' st k=>by
  obtain ⟨hz,hTI,⟨a,c,hTO⟩,h1,h2⟩:=st
  exact ⟨k z (by simp) _ hz,k TI (by simp) _ hTI,⟨a,c,k TO (by simp) _ hTO⟩,h1.at fun o e=>k i1 (by simp) o e,h2.at fun o e=>k i2 (by simp) o e⟩
 item:=by
  intro X hP hw hK hc i pins s σ H E I hf st hg
  subst hP hw hK
  obtain ⟨xs,ys,x,y,hq1,hq2,hx,hy⟩:=hg
  obtain ⟨its1,rv1,p1,hz1⟩:=I.row hq1
  obtain ⟨its2,rv2,p2,hz2⟩:=I.row hq2
  obtain ⟨u1,hu1,ru1⟩:=rv1.get hx
  obtain ⟨u2,hu2,ru2⟩:=rv2.get hy
  obtain ⟨hz,hTI,⟨a,c,hTO⟩,h1,h2⟩:=st
  obtain ⟨d1,d2,d3,d4,d5,d6,d7,d8,d9,d10⟩:=D
  obtain ⟨o1,n1,e1,dd1⟩:=p1.obj
  obtain ⟨o2,n2,e2,dd2⟩:=p2.obj
  obtain ⟨oi1,vs1,ei1,di1⟩:=h1.obj
  obtain ⟨oi2,vs2,ei2,di2⟩:=h2.obj
  have D:ZipApart z TI TO i1 i2 a1 a2:=⟨d1,d2,d3,d4,d5,d6,d7,d8,d9,d10,cA I hq1 (hf z (by simp)),cA I hq1 (hf TO (by simp)),cA I hq1 (hf i1 (by simp)),cA I hq1 (hf i2 (by simp)),
   cA I hq2 (hf z (by simp)),cA I hq2 (hf TO (by simp)),cA I hq2 (hf i1 (by simp)),cA I hq2 (hf i2 (by simp))⟩
  refine mP D hz hTI hTO h1 h2 p1 p2 (x:=u1) (y:=u2) (by simpa using hu1) (by simpa using hu2) fun h' g1 g2 g3 g4 g5 g6 g7=>⟨_,rfl,?_⟩
  refine wpAny_letOwnedTupleGo_zip (s:={ s with heap:=h' }) g1 fun h3 hz3 hs3=>?_
  have hnew:H s.heap.objs.size=none:=I.bu.fresh (Nat.le_refl _)
  have lt:∀ {c:Addr} {o:Obj},s.heap.get? c=some o->c≠s.heap.objs.size:=fun e=>Nat.ne_of_lt (Heap.lt_size e)
  have keep3:∀ b o,b ∉ [z,TO,i1,i2,TI]->s.heap.get? b=some o->h3.get? b=some o:=fun b o hb q=>by
   simp only [List.mem_cons,List.mem_nil_iff,or_false,not_or] at hb
   exact (hs3.2 b hb.1).trans (g7 b o hb.1 hb.2.1 hb.2.2.1 hb.2.2.2.1 q)
  have hT3:h3.get? s.heap.objs.size=some { cls:=.type "tuple", data:=.seq #[u1,u2] }:=(hs3.2 _ (lt hz).symm).trans g5
  have I3:Inv X pins σ (upd H s.heap.objs.size (.tup [x,y])) { s with heap:=h3,toks:=s.toks } :=
   I.mj (ch:=[z,TO,i1,i2,TI]) keep3 hf (Nat.le_refl _) (fun b hb=>by
    simp only [List.mem_cons,List.mem_nil_iff,or_false] at hb
    rcases hb with q | q | q | q | q <;> subst q
    ·exact ⟨_,hz⟩
    ·exact ⟨_,hTO⟩
    ·exact ⟨_,ei1⟩
    ·exact ⟨_,ei2⟩
    ·exact ⟨_,hTI⟩)
    ⟨by show 2<=sizeLine;decide,[u1,u2],.cons ru1 (.cons ru2 .nil),⟨_,hT3,rfl,_,rfl⟩⟩
  refine ⟨.ref s.heap.objs.size,_,I3,rfl,⟨_,x,y,hnew,rfl,rfl,fun zs hzs=>by rw [I.lJ hzs hq1];exact hx,fun zs hzs=>by rw [I.lJ hzs hq2];exact hy⟩,
   ⟨hz3,(hs3.2 TI d1).trans (g7 TI _ d1 d5 d6 d7 hTI),⟨_,_,(hs3.2 TO d2).trans g2⟩,g3.at fun o e=>(hs3.2 i1 d3).trans e,g4.at fun o e=>(hs3.2 i2 d4).trans e⟩,fun b hb=>?_⟩
  have nb:b≠s.heap.objs.size:=by
   simp only [List.mem_cons,List.mem_nil_iff,or_false] at hb
   rcases hb with q | q | q | q | q <;> subst q
   ·exact lt hz
   ·exact lt hTO
   ·exact lt ei1
   ·exact lt ei2
   ·exact lt hTI
  rw [aw nb]
  exact (hf b hb).1
 done:=by
  intro X hP hw hK hc i pins s σ H E I hf st hg
  subst hP hw hK
  obtain ⟨xs,ys,hq1,hq2,hend⟩:=hg
  obtain ⟨its1,rv1,p1,hz1⟩:=I.row hq1
  obtain ⟨its2,rv2,p2,hz2⟩:=I.row hq2
  obtain ⟨hz,hTI,⟨a,c,hTO⟩,h1,h2⟩:=st
  obtain ⟨d1,d2,d3,d4,d5,d6,d7,d8,d9,d10⟩:=D
  have D:ZipApart z TI TO i1 i2 a1 a2:=⟨d1,d2,d3,d4,d5,d6,d7,d8,d9,d10,cA I hq1 (hf z (by simp)),cA I hq1 (hf TO (by simp)),cA I hq1 (hf i1 (by simp)),cA I hq1 (hf i2 (by simp)),
   cA I hq2 (hf z (by simp)),cA I hq2 (hf TO (by simp)),cA I hq2 (hf i1 (by simp)),cA I hq2 (hf i2 (by simp))⟩
  have l1:=rv1.length
  have l2:=rv2.length
  refine nJ (I.ok.hd hc) D hz hTI hTO h1 h2 p1 p2 ?_ fun h' k=>⟨rfl,?_⟩
  ·rcases hend with q | q
   ·exact .inl (by simp;omega)
   ·exact .inr (by simp;omega)
  ·exact I.wO (t':=s.toks) (ch:=[z,TO,i1,i2,TI]) (fun b u hb e=>by
    simp only [List.mem_cons,List.mem_nil_iff,or_false,not_or] at hb
    exact k b u hb.1 hb.2.1 hb.2.2.1 hb.2.2.2.1 e) hf
 self:=fun _ _ _ _ _ st h=>by
  obtain ⟨hz,_⟩:=st
  exact wpAny_pyIter_zip hz h
theorem Fz (n:Nat):n+2≠n+4/\n+3≠n+4/\n≠n+4/\n+1≠n+4/\n+2≠n+3/\n+2≠n/\n+2≠n+1/\n+3≠n/\n+3≠n+1/\n≠n+1:=by
 refine ⟨?_,?_,?_,?_,?_,?_,?_,?_,?_,?_⟩ <;> omega
def GY (K:PySem.W.Frag) (tl:TA):TI:=fun σ H R=>tl σ H fun vs H1=>∃ b1 b2 a1 a2,vs=[.ref a1,.ref a2]/\(∃ xs,kl K H1 b1 a1 xs)/\(∃ ys,kl K H1 b2 a2 ys)/\R (Lg K b1 b2 a1 a2) H1
theorem kL {elts:List Expr} {x1:Nat} {tp:Pos} {l1 l2:Expr} {tl:TA} {p pos:Pos} (hg:Gl X "zip") (hm:X.mg "zip" = none) (hl:PA X [l1,l2] tl) (hs:starEach [l1,l2] X.env=[(false,eval l1 X.env),(false,eval l2 X.env)]:=by rfl) (hs2:starEach [l2] X.env=[(false,eval l2 X.env)]:=by rfl) :
  PI X (.Tuple elts x1 tp) (.Call (.Name "zip" p) [l1,l2] [] pos) (GY X.K tl):=by
 intro pins s σ H R I h
 refine Call_ (gX I hg hm PyProof.Rows.boot_zip (PyProof.Rows.callWith_type1 (cF (hl pos pins s σ H _ I h) fun us s1 ⟨vs,H1,I1,r1,q1⟩=>?_) (by rw [hs,hs2]) (by rw [hs2];rfl)))
 obtain ⟨b1,b2,a1,a2,e,⟨xs,hq1⟩,⟨ys,hq2⟩,q⟩:=q1
 subst e
 cases r1 with
 | cons r rr =>
  cases rr with
  | cons r' rr =>
   cases rr
   cases (show _=Value.ref a1 from r)
   cases (show _=Value.ref a2 from r')
   obtain ⟨its1,rv1,p1,hz1⟩:=I1.row hq1
   obtain ⟨its2,rv2,p2,hz2⟩:=I1.row hq2
   refine xi p1 p2 fun h' g1 g2 g3 g4 g5 g6 g7=>?_
   have I2:Inv X pins σ H1 { s1 with heap:=h' }:=I1.kept (t':=s1.toks) g7
   refine wpAny_pyIter_zip (s:={ s1 with heap:=h' }) g1 ?_
   refine ⟨s1.heap.objs.size+4,[s1.heap.objs.size+4,s1.heap.objs.size+3,s1.heap.objs.size,s1.heap.objs.size+1,s1.heap.objs.size+2],_,_,H1,rfl,I2,
    Ag b1 b2 a1 a2 _ _ _ _ _ (Fz s1.heap.objs.size),⟨g1,g2,⟨_,_,g3⟩,g4,g5⟩,fun b hb=>?_,q⟩
   have hle:s1.heap.objs.size<=b:=by
    simp only [List.mem_cons,List.mem_nil_iff,or_false] at hb
    rcases hb with q | q | q | q | q
    ·rw [q];exact Nat.le_add_right _ 4
    ·rw [q];exact Nat.le_add_right _ 3
    ·rw [q];exact Nat.le_refl _
    ·rw [q];exact Nat.le_add_right _ 1
    ·rw [q];exact Nat.le_add_right _ 2
   exact I1.pS hle (I1.bu.fresh hle)
end
end L2
namespace L2
open PySem PySem.Spec PyProof.Rows
def Lp (K:PySem.W.Frag) (b:Bool) (a:Addr):It:=match b with
 | true=>QF K a
 | false=>Ra K a
section
variable {X:Cx} {tg:Expr}
def Hg (K:PySem.W.Frag) (tl:TE):TI:=fun σ H R=>tl σ H fun x H1=>∃ b a,x=.ref a/\(∃ xs,kl K H1 b a xs)/\R (Lp K b a) H1
theorem gb {l:Expr} {tl:TE} (hl:PE X l tl):PI X tg l (Hg X.K tl):=by
 intro pins s σ H R I h
 refine cF (hl pins s σ H _ I h) fun v s1 ⟨x,H1,I1,r1,q1⟩=>?_
 obtain ⟨b,a,e,⟨xs,hq⟩,q⟩:=q1
 subst e
 cases r1
 cases b with
 | true =>
  obtain ⟨its,rv,p,hz⟩:=I1.list hq
  refine wpAny_pyIter_list p.isList ?_
  refine ⟨s1.heap.objs.size,[s1.heap.objs.size],_,_,H1,rfl,I1.kept (t':=s1.toks) fun b o e=>Heap.get?_push_of_some _ e,yc a _,⟨_,Heap.get?_push_size _ rfl,rfl,rfl⟩,fun b hb=>?_,q⟩
  have e:b=s1.heap.objs.size:=by simpa using hb
  subst e
  exact I1.pS (Nat.le_refl _) (I1.bu.fresh (Nat.le_refl _))
 | false =>
  obtain ⟨its,rv,p,hz⟩:=I1.tuple hq
  refine wpAny_pyIter_tuple (show s1.heap.IsTuple a its.toArray from p) ?_
  refine ⟨s1.heap.objs.size,[s1.heap.objs.size],_,_,H1,rfl,I1.kept (t':=s1.toks) fun b o e=>Heap.get?_push_of_some _ e,vi a _,⟨_,Heap.get?_push_size _ rfl,rfl,rfl⟩,fun b hb=>?_,q⟩
  have e:b=s1.heap.objs.size:=by simpa using hb
  subst e
  exact I1.pS (Nat.le_refl _) (I1.bu.fresh (Nat.le_refl _))
end
section
end
section
variable {X:Cx}
end
end L2
namespace L2
open PySem PySem.Spec PyProof.Rows
structure i_ (K:PySem.W.Frag) (C:Addr):Prop where
 ga:PySem.W.findIn K (.ref C) "__getattribute__" = some (some (.builtin "BaseException.__getattribute__"))
 gn:PySem.W.findIn K (.ref C) "__getattr__" = some none
 hd:PySem.W.hasDictIn K C=true
 sa:PySem.W.findIn K (.ref C) "__setattr__" = some (some (.builtin "object.__setattr__"))
 mb:PySem.W.mroIn K C (.type "BaseException")=some true
 mo:PySem.W.mroIn K C (.type "object")=some true
 ca:PySem.W.findIn K (.ref C) "__class__" = some (some (.builtin "object.__class__"))
 cg:PySem.W.specialIn K (.builtin "object.__class__") "__get__" = some (some (.builtin "getset_descriptor.__get__"))
 ct:PySem.W.takesIn K (.builtin "object.__class__")=some true
section
variable {prog:Program} {w:World} {A:Around} {E:Value->Shared->Prop} {s:Shared} {K:PySem.W.Frag} {x C:Addr} {ox:Obj} {od:Option Obj} {name:Str}
theorem z9:builtinKind "BaseException.__getattribute__" = some .slot:=by decide +kernel
theorem xG:splitId "BaseException.__getattribute__" = some ("BaseException", "__getattribute__"):=by decide +kernel
theorem DV {tk:Tok} {fill expr:Bool} {Q:Value->Shared->Prop} (c:i_ K C) (X:K.In s.heap) (I:PySem.W.InstAt s.heap x ox C od)
  (h:wpAny (model prog w) A.in1 (Builtin.«object.__getattribute__» ⟨[.ref x,.str name tk],[]⟩)
   (fun fin s'=>match fin with | .done (.ret v)=>wpAny (model prog w) A (handedOut v) Q E s' | _=>False) (fun _ _=>False) s) :
  wpAny (model prog w) A (getAttrBy (.ref x) (.str name tk) fill expr) Q E s:=by
 have hx2:(Value.builtin "BaseException.__getattribute__" == Value.builtin "object.__getattribute__")=false:=by decide +kernel
 have hx1:(onTheHeap (Value.ref C)&&Value.builtin "BaseException.__getattribute__" == Value.builtin "object.__getattribute__")=false:=by rw [hx2];rfl
 have hx0:(expr&&onTheHeap (Value.builtin "BaseException.__getattribute__"))=false:=by cases expr <;> rfl
 have sub:PySem.W.Looks (model prog w) s.heap (isInstance (.ref x) (.type "BaseException")) true:=I.type.andThen (PySem.W.looks_mroIn X c.mb)
 unfold getAttrBy
 refine wpAny_holding (wpAny_bind (I.type.here (wpAny_bind ((PySem.W.looks_findIn X c.ga).here ?_))))
 dsimp only
 rw [hx1,if_neg Bool.false_ne_true]
 unfold getAttrByItsOwn hookBefore
 refine wpAny_bind ?_
 show wpAny _ _ (typeLookup (.ref C) "__getattr__") _ _ _
 refine (PySem.W.looks_findIn X c.gn).here ?_
 refine wpAny_bind (wpAny_attempt (wpAny_holding ?_))
 unfold callGetattribute
 rw [hx0,if_neg Bool.false_ne_true]
 unfold boundAndCalled
 refine wpAny_bind (wpAny_of_eq (PySem.F.attr_ValueError.ga.bind _) ?_)
 refine wpAny_call (codeAny_call_builtin PySem.F.attr_ValueError.ga.plain PySem.F.entry_bexc_ga (@PySem.W.check_slot (model prog w) _ _ s "BaseException.__getattribute__" "BaseException" "__getattribute__" (.ref x) [.str name tk] [] _ z9 xG sub (PySem.F.args_bexc_ga _ _) ?_))
 refine wpAny_mono h (fun fin s' z=>?_) (fun _ _ z=>z.elim)
 rcases fin with (v | _ | _ | _) | _ <;> first | exact z | exact z.elim
end
end L2
namespace L2
open PySem PySem.Spec PyProof.Rows
open PySem.Builtin.ObjectAttr (storeInOwnDict storeTaker? setByDescriptor)
abbrev dO:List Value:=[.type "ValueError", .type "Exception", .type "BaseException", .type "object"]
def gy:List Value->Bool
 | .ref _::r=>gy r
 | l=>l==dO
theorem oO (self:Value):refuseLoop self "__setattr__" dO=pure ():=by kernel_rfl
theorem mT (self:Value):∀ {l:List Value},gy l=true->refuseLoop self "__setattr__" l=pure ()
 | .ref c::r,e=>by rw [PySem.refuseLoop_ref];exact mT self e
 | [],e=>by cases (show false=true from e)
 | .type n::r,e=>by rw [show Value.type n::r=dO from beq_iff_eq.mp e];exact oO self
 | .none::r,e=>by rw [show Value.none::r=dO from beq_iff_eq.mp e];exact oO self
section
variable {prog:Program} {w:World} {A:Around} {E:Value->Shared->Prop} {s:Shared} {K:PySem.W.Frag} {x C:Addr} {ox:Obj} {od:Option Obj} {name:Str}
theorem pL {a g:Value} (hc:(PySem.W.clsIn K C).isSome=true) (ha:PySem.W.findIn K (.ref C) name=some (some a)) (hg:PySem.W.specialIn K a "__get__" = some (some g)) (ht:PySem.W.takesIn K a=some true):PySem.W.findObj K C od name=some (.bind g a):=by
 obtain ⟨cd,hc⟩:=Option.isSome_iff_exists.mp hc
 unfold PySem.W.findObj
 rw [hc,Option.bind_some,ha,Option.bind_some]
 simp [hg,ht]
theorem xF {Q:Option Value->Shared->Prop} (c:i_ K C) (X:K.In s.heap) (I:PySem.W.InstAt s.heap x ox C od) (h:Q (some (.ref C)) { s with toks:=s.toks+1 }):wpAny (model prog w) A (getAttr? (.ref x) "__class__") Q E s:=by
 have hc:(PySem.W.clsIn K C).isSome=true:=by obtain ⟨cd,hc,_⟩:=PySem.W.any_some c.hd;rw [hc];rfl
 have hf:PySem.W.findObj K C od "__class__" = some (.bind (.builtin "getset_descriptor.__get__") (.builtin "object.__class__")):=pL hc c.ca c.cg c.ct
 unfold getAttr? getAttrBy?
 refine wpAny_bind (wpAny_mkText (wpAny_bind (wpAny_attempt ?_)))
 refine DV (s:={ s with toks:=s.toks+1 }) c X I ?_
 unfold Builtin.«object.__getattribute__»
 refine wpAny_bind (wpAny_pure ?_)
 dsimp only
 refine wpAny_bind (wpAny_pure ?_)
 refine wpAny_bind (I.type.here (s:={ s with toks:=s.toks+1 }) (wpAny_bind ((PySem.W.looks_find X I hf).here (s:={ s with toks:=s.toks+1 }) ?_)))
 show wpAny _ _ (holding [.builtin "object.__class__"] (call (.builtin "getset_descriptor.__get__") [.builtin "object.__class__", .ref x,.ref C]) >>= ret) _ _ _
 refine wpAny_bind (wpAny_holding (wpAny_call (PySem.W.class_get (s:={ s with toks:=s.toks+1 }) (ox:=ox) (od:=od) X I c.mo ?_)))
 refine wpAny_pure ?_
 exact PySem.W.handed_on rfl (wpAny_pure h)
theorem uo (c:i_ K C):PySem.W.KitX K (.ref x) (.ref C) (fun h=>PySem.W.InstAt h x ox C od) where
 ty:=fun _ _ _ I=>I.type
 it:=fun _ _ X _=>by
  obtain ⟨cdD,hcD,_⟩:=PySem.W.any_some c.hd
  unfold PySem.W.clsIn at hcD
  split at hcD
  ·rename_i c' d' cd' sl' ho
   intro A' Q' E' s' k q
   unfold isType loadHead
   exact wpAny_bind (wpAny_loadPart (k _ _ (X _ _ ho)) (wpAny_pure q))
  ·cases hcD
 ne:=fun h tp dd its n sl X htp=>by
  obtain ⟨cdD,hcD,_⟩:=PySem.W.any_some c.hd
  refine Bool.eq_false_iff.mpr fun q=>?_
  have e:C=tp:=Value.ref.inj (beq_iff_eq.mp q)
  subst e
  unfold PySem.W.clsIn at hcD
  split at hcD
  ·rename_i c' d' cd' sl' ho
   have z:=(X _ _ ho).symm.trans htp
   cases z
  ·cases hcD
 ca:=fun X I k=>xF c X I k
theorem Ci {tk:Tok} {v:Value} {R:Result->Shared->Prop} (po:((PySem.W.clsIn K C).any fun cd=>gy cd.mro)=true) (c:i_ K C) (X:K.In s.heap) (I:PySem.W.InstAt s.heap x ox C od) (ht:PySem.W.takerIn K C name=some none)
  (h:∀ b,wpAny (model prog w) A.in1 (storeInOwnDict (.ref x) (.ref C) (.str name tk) name v b)
   (fun fin s'=>match fin with | .done f=>R (.ok f) s' | .again c'=>c'.quiet=true/\codeAny (model prog w) A c' R s') (fun e s'=>R (.error e) s') s) :
  codeAny (model prog w) A (.call (.builtin "object.__setattr__") ⟨[.ref x,.str name tk,v],[]⟩) R s:=by
 have SF:=PySem.F.store_object
 obtain ⟨cd,hc,ho⟩:=PySem.W.any_some po
 have sub:PySem.W.Looks (model prog w) s.heap (isInstance (.ref x) (.type "object")) true:=I.type.andThen (PySem.W.looks_mroIn X c.mo)
 refine codeAny_call_builtin SF.slot.plain SF.entry (@PySem.W.check_slot (model prog w) _ _ s "object.__setattr__" "object" "__setattr__" (.ref x) [.str name tk,v] [] _ SF.kind SF.split sub (SF.args (.ref x) (.str name tk) v) ?_)
 obtain ⟨attr,ha,hr⟩:=Option.bind_eq_some_iff.mp ht
 have hm:PySem.W.Looks (model prog w) s.heap (mroOf (.ref C)) cd.mro:=(PySem.W.looks_clsIn X hc).andThen .now
 have L3:PySem.W.Looks (model prog w) s.heap (storeTaker? attr) none:=by
  cases attr with
  | none=>cases hr;exact .now
  | some a =>
   obtain ⟨b,hb,e⟩:=Option.map_eq_some_iff.mp hr
   refine (PySem.W.looks_takesIn X hb).andThen ?_
   cases b with
   | true=>cases e
   | false=>exact .now
 rw [PySem.W.osa_eq,PySem.refuse_eq]
 refine wpAny_bind (wpAny_bind (I.type.here (wpAny_bind (hm.here ?_))))
 rw [mT _ ho]
 refine wpAny_pure (wpAny_bind (I.type.here (wpAny_bind ((PySem.W.looks_findIn X ha).here (wpAny_bind (L3.here ?_))))))
 exact h _
theorem Ba {vs:Array Value} {v:Value} {Q:Unit->Shared->Prop} (po:((PySem.W.clsIn K C).any fun cd=>gy cd.mro)=true) (c:i_ K C) (X:K.In s.heap) (hx:s.heap.get? x=some ⟨.ref C,none,.fields vs,#[]⟩) (ht:PySem.W.takerIn K C name=some none)
  (h:∀ h' tk d,h'.get? x=some ⟨.ref C,some d,.fields vs,#[]⟩->s.heap.get? d=none->h'.Ns1 d (fun y=>if y=name then some v else none)->(∀ b o,b≠x->s.heap.get? b=some o->h'.get? b=some o)->Q () { s with heap:=h',toks:=tk }) :
  wpAny (model prog w) A (setAttr (.ref x) name v) Q E s:=by
 have I:PySem.W.InstAt s.heap x ⟨.ref C,none,.fields vs,#[]⟩ C none:=⟨hx,rfl,rfl,trivial⟩
 refine PySem.W.set_plain X I c.sa (Ci (s:={ s with toks:=s.toks+1 }) po c X I ht fun b=>?_)
 obtain ⟨cd,hc,hd'⟩:=PySem.W.any_some c.hd
 have hlt:=Heap.lt_size hx
 refine wpAny_bind (wpAny_pure (wpAny_bind (wpAny_bind (wpAny_loadPart hx (wpAny_bind (PySem.W.Looks.here (s:={ s with toks:=s.toks+1 }) (PySem.W.looks_clsIn X hc) ?_))))))
 rw [hd']
 refine wpAny_bind (wpAny_alloc ?_)
 have hx1:(s.heap.push { cls:=.type "dict", data:=.dict #[] }).get? x=some ⟨.ref C,none,.fields vs,#[]⟩:=Heap.get?_push_of_some _ hx
 refine wpAny_bind (wpAny_update hx1 ?_)
 refine wpAny_pure (a:=some s.heap.objs.size) (wpAny_bind (wpAny_pure (wpAny_bind ?_)))
 have hx2:((s.heap.push { cls:=.type "dict", data:=.dict #[] }).update x fun o=>{ o with dict:=some s.heap.objs.size }).get? x=some ⟨.ref C,some s.heap.objs.size,.fields vs,#[]⟩:=Heap.get?_update_self _ hx1 rfl
 have e1:(s.heap.push { cls:=.type "dict", data:=.dict #[] }).get? s.heap.objs.size=some { cls:=.type "dict", data:=.dict #[] }:=Heap.get?_push_size s.heap rfl
 have nxd:s.heap.objs.size≠x:=Nat.ne_of_gt hlt
 have e2:((s.heap.push { cls:=.type "dict", data:=.dict #[] }).update x fun o=>{ o with dict:=some s.heap.objs.size }).get? s.heap.objs.size=some { cls:=.type "dict", data:=.dict #[] }:=by
  rw [Heap.get?_update_other _ _ (Ne.symm nxd)]
  exact e1
 have e3:((s.heap.push { cls:=.type "dict", data:=.dict #[] }).update x fun o=>{ o with dict:=some s.heap.objs.size }).Ns s.heap.objs.size (fun _=>none):=⟨_,#[],_,e2,rfl,(fun e he=>absurd he (by simp)),fun _=>rfl⟩
 refine wpAny_nsSet1 (s:={ s with heap:=(s.heap.push { cls:=.type "dict", data:=.dict #[] }).update x fun o=>{ o with dict:=some s.heap.objs.size },toks:=s.toks+1 }) (Heap.Ns1.of_empty e3) fun h' hn2 hs2=>?_
 obtain ⟨oD,esD,epD,hoD,hdD,hcD⟩:=hn2.count (PySem.Within.cons (ns:=[]) name v (fun y hy=>absurd rfl hy))
 refine wpAny_bind (wpAny_lookBehind hoD (by rw [hdD];exact pastItsLine_dict (Nat.le_trans hcD (by show 1<=sizeLine+1;exact Nat.le_add_left _ _))) ?_)
 refine wpAny_pure (h h' _ s.heap.objs.size ((hs2.2 x (Ne.symm nxd)).trans hx2) (Heap.get?_none_of_le (Nat.le_refl _)) hn2 fun b o hb e=>?_)
 refine (hs2.2 b (Nat.ne_of_lt (Heap.lt_size e))).trans ?_
 rw [Heap.get?_update_other _ _ (Ne.symm hb)]
 exact Heap.get?_push_of_some _ e
end
def jF (K:PySem.W.Frag) (C:Addr) (newId:String) (f:Addr):Bool:=match K.lookup C with
 | some ⟨.type "type", _,.cls cd,sl⟩=>(match cd.mro,sl.toList with
  | .ref C'::bm,[_,_,_,_,some (.builtin n),_]=>C'==C&&n==newId&&!cd.hasDel&&PySem.W.tailIn K dO bm&&PySem.W.nsOkIn K cd.ns&&PySem.W.nsIn K cd.ns "__init__" == some (some (.ref f))
  | _,_=>false)
 | _=>false
section
variable {prog:Program} {w:World} {A:Around} {E:Value->Shared->Prop} {h:Heap} {g:Array GenState} {d:Drawn} {t:Nat} {os:OsState}
variable {nm q:Str} {C N:Addr} {bs bm:List Value} {hdct:Bool} {sn:List Str} {sub:List Value} {ab:Bool} {col:Option Bool} {dd:Option Addr} {k0 k1 k2 k3 k5:Option Value} {newId initId:String}
theorem oR (F:ExcBaseFacts "ValueError" newId initId dO) (T:OwnTail h dO bm) {mN:Str->Option Value} {rest:List Value} {f:Addr} {Q:Fin->Shared->Prop}
  (hC:h.get? C=some (excClassObj nm q C N bs bm hdct sn sub ab col dd k0 k1 k2 k3 k5 newId)) (hn:h.Ns N mN) (hni:mN "__init__" = some (.ref f))
  (hb:∀ h':Heap,(∀ b o,h.get? b=some o->h'.get? b=some o)->∀ self,PySem.W.Looks (model prog w) h' (bindSpecial (.ref f) self) (.ref f,[self]))
  (hq:∀ h':Heap,(∀ b o,h.get? b=some o->h'.get? b=some o)->h'.get? h.objs.size=some { cls:=.type "tuple", data:=.seq rest.toArray } ->
   h'.get? (h.objs.size+1)=some { cls:=.ref C,data:=.fields #[.ref h.objs.size,.none,.none,.none,.bool false,.none] }->h'.objs.size=h.objs.size+2 ->
   wpAny (model prog w) A (call (.ref f) (.ref (h.objs.size+1)::rest)) (fun v s'=>v=.none/\Q (.done (.ret (.ref (h.objs.size+1)))) s') E ⟨h',g,d,t,os⟩) (zS:rest.length<=sizeLine:=by size_fits) :
  wpAny (model prog w) A (Builtin.«type.__call__» ⟨.ref C::rest,[]⟩) Q E ⟨h,g,d,t,os⟩:=by
 repeat (first | with_reducible refine wpAny_loadPart_at hC ?_ | with_reducible refine wpAny_madeBy_exc hC ?_ | wp_step)
 refine codeAny_call_builtin_code (Code.quiet_builtin _ F.quiet) (wpAny_check_new_subT F T hC ?_)
 refine codeAny_exc_new_subT F T hC ?_ zS
 show wpAny _ _ _ _ _ _
 have kp:∀ b o,h.get? b=some o->((h.push { cls:=.type "tuple", data:=.seq rest.toArray }).push { cls:=.ref C,data:=.fields #[.ref h.objs.size,.none,.none,.none,.bool false,.none] }).get? b=some o:=fun b o e=>Heap.get?_push_of_some _ (Heap.get?_push_of_some _ e)
 have hC₁:=kp _ _ hC
 have hn₁:((h.push { cls:=.type "tuple", data:=.seq rest.toArray }).push { cls:=.ref C,data:=.fields #[.ref h.objs.size,.none,.none,.none,.bool false,.none] }).Ns N mN:=hn.keeps kp
 have hget:((h.push { cls:=.type "tuple", data:=.seq rest.toArray }).push
   { cls:=.ref C,data:=.fields #[.ref h.objs.size,.none,.none,.none,.bool false,.none] }).get? (h.objs.size+1)=some
   { cls:=.ref C,data:=.fields #[.ref h.objs.size,.none,.none,.none,.bool false,.none] }:=by heap_get
 have htup:((h.push { cls:=.type "tuple", data:=.seq rest.toArray }).push
   { cls:=.ref C,data:=.fields #[.ref h.objs.size,.none,.none,.none,.bool false,.none] }).get? h.objs.size=some { cls:=.type "tuple", data:=.seq rest.toArray }:=Heap.get?_push_of_some _ (Heap.get?_push_size _ rfl)
 have hsz:((h.push { cls:=.type "tuple", data:=.seq rest.toArray }).push { cls:=.ref C,data:=.fields #[.ref h.objs.size,.none,.none,.none,.bool false,.none] }).objs.size=h.objs.size+2:=by rw [Heap.size_push,Heap.size_push]
 have hcC:(Value.ref C::bm).contains (.ref C)=true:=by simp
 have T₁:=T.keeps kp
 have hb₁:=hb _ kp (.ref (h.objs.size+1))
 have fin:=hq _ kp htup hget hsz
 generalize ((h.push { cls:=.type "tuple", data:=.seq rest.toArray }).push { cls:=.ref C,data:=.fields #[.ref h.objs.size,.none,.none,.none,.bool false,.none] })=h1 at *
 unfold isInstance
 repeat (first | with_reducible refine wpAny_loadPart_at hget ?_ | (with_reducible refine wpAny_isSubtype_exc hC₁ ?_;rw [hcC]) | wp_step)
 show wpAny _ _ (typeLookup (.ref C) _) _ _ _
 refine wpAny_typeLookup_tail hC₁ hn₁ T₁ F.mroIs F.init.lookup ?_
 rw [hni]
 refine wpAny_holding (wpAny_bind (hb₁.here ?_))
 refine wpAny_bind (wpAny_mono fin (fun v s' z=>?_) fun _ _ z=>z)
 obtain ⟨rfl,z⟩:=z
 wp_walk
 exact z
end
end L2
namespace L2
open PySem PySem.Spec PyProof.Rows
def i6 (C:Addr) (dd:Option Addr) (e:Addr):HO:=.ext fun h=>∃ vs,h.get? e=some ⟨.ref C,dd,.fields vs,#[]⟩
def ExcAt (H:Hp) (e C:Addr) (fo:Option (List (Str×V))):Prop:=match fo with
 | none=>H e=some (i6 C none e)
 | some fs=>∃ d,H e=some (i6 C (some d) e)/\H d=some (.xd fs)
section
variable {X:Cx} {pins:List (Addr×Obj)} {σ:St} {H:Hp} {s:Shared}
theorem Inv.ze (I:Inv X pins σ H s) {C e:Addr} {dd:Option Addr} (he:H e=some (i6 C dd e)):∃ vs,s.heap.get? e=some ⟨.ref C,dd,.fields vs,#[]⟩:=(I.bu e _ he).1
theorem Inv.Cm (I:Inv X pins σ H s) {C e:Addr} {fo:Option (List (Str×V))} (h:ExcAt H e C fo):∃ ox od,PySem.W.InstAt s.heap e ox C od/\(fo=none->od=none) ∧
  ∀ fs,fo=some fs->∃ (o:Obj) (mA:Str->Option Value),od=some o/\(∀ n,PySem.W.lookIn n o=some (mA n))/\∀ f,my (fs.lookup f) (mA f):=by
 cases fo with
 | none =>
  obtain ⟨vs,q⟩:=I.ze h
  exact ⟨_,none,⟨q,rfl,rfl,trivial⟩,fun _=>rfl,fun fs z=>(by cases z)⟩
 | some fs =>
  obtain ⟨d,h1,h2⟩:=h
  obtain ⟨vs,q⟩:=I.ze h1
  obtain ⟨mA,n,r⟩:=(show ∃ mA,s.heap.Ns1 d mA/\∀ f,my (fs.lookup f) (mA f) from I.bu d _ h2)
  obtain ⟨o,ho,hl⟩:=mC n
  refine ⟨_,some o,⟨q,rfl,rfl,ho⟩,fun z=>(by cases z),fun fs' z=>?_⟩
  cases z
  exact ⟨o,mA,rfl,hl,r⟩
theorem Inv.sF {a:Addr} (I:Inv X pins σ H s) (hn:s.heap.get? a=none):H a=none:=by
 cases q:H a with
 | none=>rfl
 | some u =>
  exfalso
  have:∀ (u:HO),bY X.prog X.w H s.heap a u->∃ ob,s.heap.get? a=some ob:=by
   intro u
   induction u with
   | lst xs=>intro ⟨_,_,_,_,e⟩;exact ⟨_,e⟩
   | tup xs=>intro ⟨_,_,_,p⟩;obtain ⟨ob,e,_⟩:=p;exact ⟨ob,e⟩
   | dK kvs=>intro ⟨_,_,_,_,p⟩;obtain ⟨ob,_,_,e,_⟩:=p;exact ⟨ob,e⟩
   | dT kvs=>intro ⟨_,_,_,_,ob,_,_,e,_⟩;exact ⟨ob,e⟩
   | set S n=>intro p;obtain ⟨es,ob,xs,ep,e,_⟩:=p;exact ⟨_,e⟩
   | ins C dx fs=>intro ⟨_,_,_,e,_⟩;exact ⟨_,e⟩
   | own x=>intro ⟨ob,e⟩;exact ⟨ob,e⟩
   | xd fs=>intro ⟨mA,n,_⟩;obtain ⟨ob,e,_⟩:=mC n;exact ⟨ob,e⟩
   | met f x=>intro e;exact ⟨_,e⟩
   | kb lo hi=>intro ⟨_,_,_,e⟩;exact ⟨_,e⟩
   | pU o u _=>intro ⟨e,_⟩;exact ⟨_,e⟩
   | DE ps=>intro e;exact ⟨_,e⟩
   | ext φ=>intro ⟨_,⟨ob,e⟩,_⟩;exact ⟨ob,e⟩
  obtain ⟨ob,e⟩:=this u (I.bu a u q)
  rw [hn] at e;cases e
theorem Inv.Dw {h':Heap} {t':Nat} {a:Addr} {o:HO} (I:Inv X pins σ H s) (k:∀ b u,s.heap.get? b=some u->h'.get? b=some u) (hn:s.heap.get? a=none) (new:bY X.prog X.w (upd H a o) h' a o) :
  Inv X pins σ (upd H a o) { s with heap:=h',toks:=t' }:=by
 have ne:∀ b u,s.heap.get? b=some u->b≠a:=fun b u e z=>by rw [z,hn] at e;cases e
 have hfr:H a=none:=I.sF hn
 have nea:∀ b u,H b=some u->b≠a:=fun b u e z=>by rw [z,hfr] at e;cases e
 refine I.un ⟨fun b u e _ _ _=>k b u e,fun b u e _ _ _=>⟨u.slots,k b u e⟩,fun b u e n _=>by rw [aw (ne b u e)];exact n,fun b u e _=>⟨u,k b u e⟩,
  fun b xs e=>by rw [aw (nea b _ e)];exact e,fun b ob u e=>by rw [aw (nea b _ e)];exact e,fun b ps e=>⟨#[],by rw [aw (nea b _ e),e];simp⟩⟩ fun b u e=>?_
 by_cases z:b=a
 ·subst z
  rw [aE] at e
  cases e
  exact new
 ·rw [aw z] at e
  refine (I.bu b u e).mG (fun c v _ q=>k c v q) (fun c q=>?_) fun c ys q=>?_
  ·rw [aw (nea c _ q)];exact q
  ·rw [aw (nea c _ q)];exact q
end
section
variable {X:Cx} {o:Expr} {ta:TE} {f m:Str} {pos apos:Pos}
def IV (K:PySem.W.Frag):List V->Hp->VK->Prop:=fun xs H Q=>∃ e C fo b,i_ K C/\ExcAt H e C fo ∧
 ((∃ T,xs=[.ref e,.ty T]/\PySem.W.kitOne K (.ref C) (.type T)=some b)\/(∃ D,xs=[.ref e,.ref D]/\PySem.W.kitOne K (.ref C) (.ref D)=some b))/\Q (.bl b) H
theorem yQ:dP X (.builtin "isinstance") (IV X.K):=by
 intro pins s σ H xs us Q I r h
 obtain ⟨e,C,fo,b,c,ha,hc,q⟩:=h
 obtain ⟨ox,od,J,_⟩:=I.Cm ha
 rcases hc with ⟨T,rfl,hk⟩ | ⟨D,rfl,hk⟩
 ·cases r with
  | cons r1 r2 =>
   cases r2 with
   | cons r3 r4 =>
    cases r4
    cases (show _=Value.ref e from r1)
    cases (show _=Value.type T from r3)
    exact PySem.W.kia_one (uo c) I.jO J hk (fun z=>nomatch z) fun tk=>⟨.bl b,H,I.tok tk,rfl,q⟩
 ·cases r with
  | cons r1 r2 =>
   cases r2 with
   | cons r3 r4 =>
    cases r4
    cases (show _=Value.ref e from r1)
    cases (show _=Value.ref D from r3)
    exact PySem.W.kia_one (uo c) I.jO J hk (fun z=>nomatch z) fun tk=>⟨.bl b,H,I.tok tk,rfl,q⟩
end
theorem wd {K:PySem.W.Frag} {h:Heap} {N:Addr} {mg:Str->Option Value} {n:Str} {v:Value} (X:K.In h) (G:h.Ns N mg) (e:PySem.W.nsIn K N n=some (some v)):mg n=some v:=by
 obtain ⟨o,es,ep,ho,hd,_,hf⟩:=G
 unfold PySem.W.nsIn at e
 split at e
 ·rename_i c d es' n' sl q
  have:=X _ _ q
  rw [ho] at this
  cases this
  cases hd
  split at e
  ·rename_i en he
   cases e
   rw [← hf]
   unfold nsFind findBy
   rw [← Array.find?_toList,he]
   rfl
  ·split at e <;> cases e
 ·cases e
theorem BB {K:PySem.W.Frag} {h:Heap} {C:Addr} {newId:String} (X:K.In h) (q:PySem.W.excIn K C dO newId=true) :
  ∃ bm N nm qn bs hdct sn sub ab col dd k0 k1 k2 k3 k5 mN,h.get? C=some (excClassObj nm qn C N bs bm hdct sn sub ab col dd k0 k1 k2 k3 k5 newId)/\h.Ns N mN/\mN "__init__" = none/\OwnTail h dO bm:=by
 unfold PySem.W.excIn at q
 split at q
 ·rename_i dd cd sl ho
  split at q
  ·rename_i C' bm k0 k1 k2 k3 n k5 hm hs
   simp only [Bool.and_eq_true,beq_iff_eq,Bool.not_eq_true'] at q
   obtain ⟨⟨⟨⟨⟨rfl,rfl⟩,hdel⟩,ht⟩,bu⟩,hni⟩:=q
   obtain ⟨nm,bs,mro,ns,qn,hd,sn,sub,ab,col,del⟩:=cd
   dsimp only at hm hdel bu hni
   subst hm hdel
   have hsl:sl=#[k0,k1,k2,k3,some (.builtin n),k5]:=by
    obtain ⟨l⟩:=sl
    simp only at hs
    rw [hs]
   subst hsl
   exact ⟨bm,ns,nm,qn,bs,hd,sn,sub,ab,col,dd,k0,k1,k2,k3,k5,_,X _ _ ho,.of_isNs (PySem.W.isNs_of_in X bu),PySem.W.nsMap_none_of_in X bu hni,PySem.W.tail_of_in X ht⟩
  ·cases q
 ·cases q
theorem AL {K:PySem.W.Frag} {h:Heap} {C f:Addr} {newId:String} (X:K.In h) (q:jF K C newId f=true) :
  ∃ bm N nm qn bs hdct sn sub ab col dd k0 k1 k2 k3 k5 mN,h.get? C=some (excClassObj nm qn C N bs bm hdct sn sub ab col dd k0 k1 k2 k3 k5 newId)/\h.Ns N mN/\mN "__init__" = some (.ref f)/\OwnTail h dO bm:=by
 unfold jF at q
 split at q
 ·rename_i dd cd sl ho
  split at q
  ·rename_i C' bm k0 k1 k2 k3 n k5 hm hs
   simp only [Bool.and_eq_true,beq_iff_eq,Bool.not_eq_true'] at q
   obtain ⟨⟨⟨⟨⟨rfl,rfl⟩,hdel⟩,ht⟩,bu⟩,hni⟩:=q
   obtain ⟨nm,bs,mro,ns,qn,hd,sn,sub,ab,col,del⟩:=cd
   dsimp only at hm hdel bu hni
   subst hm hdel
   have hsl:sl=#[k0,k1,k2,k3,some (.builtin n),k5]:=by
    obtain ⟨l⟩:=sl
    simp only at hs
    rw [hs]
   subst hsl
   have hN:=Heap.Ns.of_isNs (PySem.W.isNs_of_in X bu)
   exact ⟨bm,ns,nm,qn,bs,hd,sn,sub,ab,col,dd,k0,k1,k2,k3,k5,_,X _ _ ho,hN,wd X hN hni,PySem.W.tail_of_in X ht⟩
  ·cases q
 ·cases q
section
variable {X:Cx} {C f:Addr} {fd:FuncData} {ps:List Str} {sp:Sp} {x:Str} {p pos:Pos} {e:Expr} {es:List Expr} {t:TA} {k:Nat}
end
end L2
namespace L2
open PySem PySem.Spec PyProof.Rows
open PySem.SeqAt (shaped noMix noMixAll)
section
variable {X:Cx}
end
end L2
namespace L2
open PySem PySem.Spec PyProof.Rows
open PySem.SeqAt (shaped noMix noMixAll)
section
variable {X:Cx} {pins:List (Addr×Obj)} {σ:St} {H:Hp} {s:Shared}
theorem CQ {x:V} {u t:Value} (I:Inv X pins σ H s) (rx:RelV x u) (ty:jy X.K H x t):∃ HH:Heap->Prop,PySem.W.KitX X.K u t HH/\HH s.heap/\u≠.builtin "__main__.__loader__#opaque" := by
 cases ty with
 | c8=>cases (show u=Value.none from rx);exact ⟨_,PySem.W.kitx_none,True.intro,fun z=>nomatch z⟩
 | bl y=>cases (show u=Value.bool y from rx);exact ⟨_,PySem.W.kitx_bool,True.intro,fun z=>nomatch z⟩
 | int i=>obtain ⟨t,q⟩:=(show ∃ t,u=Value.int i t from rx);cases q;exact ⟨_,PySem.W.kitx_int,True.intro,fun z=>nomatch z⟩
 | str y=>obtain ⟨t,q⟩:=(show ∃ t,u=Value.str y t from rx);cases q;exact ⟨_,PySem.W.kitx_str,True.intro,fun z=>nomatch z⟩
 | Dg y=>obtain ⟨t,q⟩:=(show ∃ t,u=Value.float y t from rx);cases q;exact ⟨_,PySem.W.kitx_float,True.intro,fun z=>nomatch z⟩
 | @lst a xs ea =>
  cases (show u=Value.ref a from rx)
  obtain ⟨_,_,n,_,h1⟩:=(show bY X.prog X.w H s.heap a (.lst xs) from I.bu a _ ea)
  exact ⟨_,PySem.W.kitx_list,⟨_,h1,rfl⟩,fun z=>nomatch z⟩
 | @pU a ob xs ea =>
  cases (show u=Value.ref a from rx)
  obtain ⟨_,_,_,n,_,h1⟩:=(show bY X.prog X.w H s.heap a (.pU ob (.lst xs)) from I.bu a _ ea)
  exact ⟨_,PySem.W.kitx_list,⟨_,h1,rfl⟩,fun z=>nomatch z⟩
 | @tup a xs ea =>
  cases (show u=Value.ref a from rx)
  obtain ⟨_,_,_,o,h1,h2,_⟩:=(show bY X.prog X.w H s.heap a (.tup xs) from I.bu a _ ea)
  exact ⟨_,PySem.W.kitx_tuple,⟨o,h1,h2⟩,fun z=>nomatch z⟩
 | @dK a kvs ea =>
  cases (show u=Value.ref a from rx)
  obtain ⟨_,_,vs,_,o,es,ep,h1,h2,_⟩:=(show bY X.prog X.w H s.heap a (.dK kvs) from I.bu a _ ea)
  exact ⟨_,PySem.W.kitx_dict,⟨o,h1,h2.1⟩,fun z=>nomatch z⟩
 | @dT a kvs ea =>
  cases (show u=Value.ref a from rx)
  obtain ⟨_,_,xs,_,o,es,ep,h1,h2,_⟩:=(show bY X.prog X.w H s.heap a (.dT kvs) from I.bu a _ ea)
  exact ⟨_,PySem.W.kitx_dict,⟨o,h1,h2.1⟩,fun z=>nomatch z⟩
 | @ins a C dx fs ea cl ha hn FW hm =>
  cases (show u=Value.ref a from rx)
  obtain ⟨mA,O,_⟩:=lR I.bu ea
  obtain ⟨od,J,_⟩:=O.look
  exact ⟨_,PySem.W.kitx_own (cl.get _) cl.hd ha hn FW hm,J,fun z=>nomatch z⟩
end
section
variable {X:Cx}
def Hj (K:PySem.W.Frag):List V->Hp->VK->Prop:=fun xs H Q=>∃ (x:V) (tp:Addr) (Ts:List String) (t:Value) (b:Bool),xs=[x,.ref tp]/\H tp=some (.tup (Ts.map V.ty))/\jy K H x t/\PySem.W.kitAny K t (Ts.map Value.type)=some b/\Q (.bl b) H
theorem wX:∀ {Ts:List String} {us:List Value},Vals (Ts.map V.ty) us->us=Ts.map Value.type
 | [],us,r=>by rw [List.map_nil] at r;cases r;rfl
 | T::Ts,us,r=>by
  rw [List.map_cons] at r
  cases r with
  | cons r1 r2 =>
   cases (show _=Value.type T from r1)
   rw [wX r2]
   rfl
theorem xB:dP X (.builtin "isinstance") (Hj X.K):=by
 intro pins s σ H xs us Q I r h
 obtain ⟨x,tp,Ts,t,b,rfl,htp,ty,e,q⟩:=h
 cases r with
 | cons r1 r2 =>
  cases r2 with
  | cons r3 r4 =>
   cases r4
   cases (show _=Value.ref tp from r3)
   obtain ⟨HH,Z,p,ne⟩:=CQ I r1 ty
   obtain ⟨_,its,rv,o,h1,h2,n,h3⟩:=(show bY X.prog X.w H s.heap tp (.tup (Ts.map V.ty)) from I.bu tp _ htp)
   have ei:=wX rv
   subst ei
   obtain ⟨cls,dd,data,sl⟩:=o
   dsimp only at h2 h3
   subst h2 h3
   exact PySem.W.kia_tup Z I.jO p h1 e ne fun tk=>⟨.bl b,H,I.tok tk,rfl,q⟩
theorem wA:∀ {bs:List Bool} {us:List Value},Vals (bs.map V.bl) us->us=bs.map Value.bool
 | [],us,r=>by rw [List.map_nil] at r;cases r;rfl
 | b::bs,us,r=>by
  rw [List.map_cons] at r
  cases r with
  | cons r1 r2 =>
   cases (show _=Value.bool b from r1)
   rw [wA r2]
   rfl
theorem Bb:bootBuiltins "all" = some (.builtin "all"):=by decide +kernel
theorem qJ (hc:X.calm=true):dP X (.builtin "all") (fun xs H Q=>∃ (a:Addr) (bs:List Bool),xs=[.ref a]/\iM X.K H a (bs.map V.bl)/\Q (.bl (bs.all id)) H):=by
 intro pins s σ H xs us Q I r h
 obtain ⟨a,bs,rfl,hq,q⟩:=h
 cases r with
 | cons r1 r2 =>
  cases r2
  cases (show _=Value.ref a from r1)
  obtain ⟨its,rv,p,hz⟩:=I.list hq
  have ei:=wA rv
  subst ei
  have hl:=p.isList
  have hlt:a<s.heap.objs.size:=by obtain ⟨_,e,_⟩:=hl;exact Heap.lt_size e
  refine call_all_walk (wpAny_pyIter_list hl ?_)
  refine ⟨s.heap.objs.size,[s.heap.objs.size,a],[s.heap.objs.size],(bs.map Value.bool).toArray.size,_,_,fun i=>(bs[i]?).getD true,rfl,Walks.list (A:=X.A.in1) (I.ok.hd hc) _ a (Nat.ne_of_lt hlt) (bs.map Value.bool).toArray,
   ⟨⟨_,Heap.get?_push_size _ rfl,rfl,rfl⟩,hl.push _⟩,fun i v s' Q' E' hP hQ=>?_,fun h' tk hk=>?_⟩
  ·have hP':(bs.map Value.bool)[i]?=some v:=by simpa using hP
   rw [List.getElem?_map] at hP'
   obtain ⟨b,e1,e2⟩:=Option.map_eq_some_iff.mp hP'
   subst e2
   simp only [e1,Option.getD_some] at hQ
   exact wpAny_truthy_bool hQ
  ·have e:((List.range (bs.map Value.bool).toArray.size).all fun i=>(bs[i]?).getD true)=bs.all id:=by
    rw [List.size_toArray,List.length_map]
    rw [Bool.eq_iff_iff,List.all_eq_true,List.all_eq_true]
    constructor
    ·intro h b hb
     obtain ⟨i,hi,e⟩:=List.getElem_of_mem hb
     have:=h i (List.mem_range.mpr hi)
     simp only [List.getElem?_eq_getElem hi,Option.getD_some,e] at this
     exact this
    ·intro h i hi
     have hi':=List.mem_range.mp hi
     simp only [List.getElem?_eq_getElem hi',Option.getD_some]
     exact h _ (List.getElem_mem hi')
   rw [e]
   refine ⟨.bl _,H,I.kept (t':=tk) (fun b x e=>?_),rfl,q⟩
   exact hk b x (fun hm=>by rw [List.mem_singleton.mp hm] at e;exact Nat.lt_irrefl _ (Heap.lt_size e)) (Heap.get?_push_of_some _ e)
end
end L2
namespace L2
open PySem PySem.Spec PyProof.Rows
open PySem.MeetsSeq PySem.MeetsSeq2 PySem.MeetsSeq3
theorem l5:fillsNumberSlot (.type "tuple") "mul" = pure false :=
 PySem.fillsNumberSlot_seq (id := "tuple.__mul__") (r:=some (.builtin "tuple.__rmul__")) F.slot_tuple_mul.lookup (by decide +kernel) F.slot_tuple_rmul.lookup (by decide +kernel)
theorem sW:seqRepeat? (.type "tuple")=pure (some (.builtin "tuple.__mul__")):=by
 unfold seqRepeat?
 rw [PySem.seqSlot_of (T := "tuple") (name := "__mul__") (id := "tuple.__mul__") F.slot_tuple_mul.lookup (by decide +kernel),PySem.seqSlot_of (T := "tuple") (name := "__rmul__") (id := "tuple.__rmul__") F.slot_tuple_rmul.lookup (by decide +kernel)]
 rfl
theorem rR (a:Int) (t:Tok) (l:Addr) (items:Array Value) (n:Nat) (dd:Option Addr) (sl:Array (Option Value)) :
  Meets (Builtin.«int.__rmul__» ⟨[.int a t,.ref l],[]⟩) (fun _ R s=>s.heap.get? l=some ⟨.type "tuple", dd,.seq items n,sl⟩/\R (.ok (.ret Value.notImplemented)) s) :=
 .of_wp fun prog w A R s h=>by obtain ⟨hp,g,d,tk,os⟩:=s;obtain ⟨hl,h⟩:=h;wp_walk;exact ⟨_,rfl,h⟩
theorem yp (l:Addr) (items:Array Value) (n:Nat) (dd:Option Addr) (sl:Array (Option Value)) (u:Tok) :
  Meets (Builtin.«tuple.__mul__» ⟨[.ref l,.int 1 u],[]⟩) (fun _ R s=>s.heap.get? l=some ⟨.type "tuple", dd,.seq items n,sl⟩/\R (.ok (.ret (.ref l))) s) :=
 .of_wp fun prog w A R s h=>by
  obtain ⟨hp,g,d,tk,os⟩:=s;obtain ⟨hl,h⟩:=h;have f1:=AutoSeq1.idx_int;have f2:=AutoSeq1.sub_tuple_tuple
  wp_walk using AutoSeq1.wpAny_loadPart' hl
  exact ⟨_,rfl,h⟩
theorem xp (l:Addr) (items:Array Value) (n:Nat) (dd:Option Addr) (sl:Array (Option Value)) (x:Int) (u:Tok) (c0:¬ (decide (x < -2^63)||decide (x>=2^63))=true) (c1:¬ (items.isEmpty||x==1)=true) (c2:¬ (decide (x<=0)||items.isEmpty)=true)
  (c3:¬ (items.size:Int)*x>(2^63-1)/8) (c4:¬ Builtin.Tuple.tupleTooMany ((items.size:Int)*x)=true) (hsz:(List.foldl (fun x1 x2=>x1++x2) #[] (List.replicate x.toNat items)).size<=sizeLine) :
  Meets (Builtin.«tuple.__mul__» ⟨[.ref l,.int x u],[]⟩) (fun _ R s=>s.heap.get? l=some ⟨.type "tuple", dd,.seq items n,sl⟩/\R (.ok (.ret (.ref s.heap.objs.size))) { s with heap:=s.heap.push { cls:=.type "tuple", data:=.seq (List.foldl (fun x1 x2=>x1++x2) #[] (List.replicate x.toNat items)) },toks:=s.toks }) :=
 .of_wp fun prog w A R s h=>by
  obtain ⟨hp,g,d,tk,os⟩:=s;obtain ⟨hl,h⟩:=h;have f1:=AutoSeq1.idx_int;have f2:=AutoSeq1.sub_tuple_tuple
  wp_walk using AutoSeq1.wpAny_loadPart' hl
  refine wpAny_ite_false (decide_eq_false c0) ?_;wp_walk using AutoSeq1.wpAny_loadPart' hl
  refine wpAny_ite_false (decide_eq_false c3) ?_;wp_walk using AutoSeq1.wpAny_loadPart' hl
  exact ⟨_,rfl,h⟩
theorem xE (l:Addr) (items:Array Value) (n:Nat) (dd:Option Addr) (sl:Array (Option Value)) (x:Int) (u:Tok) (c0:¬ (decide (x < -2^63)||decide (x>=2^63))=true) (c1:¬ (items.isEmpty||x==1)=true) (c2:(decide (x<=0)||items.isEmpty)=true) :
  Meets (Builtin.«tuple.__mul__» ⟨[.ref l,.int x u],[]⟩) (fun _ R s=>s.heap.get? l=some ⟨.type "tuple", dd,.seq items n,sl⟩/\R (.ok (.ret (.ref s.heap.objs.size))) { s with heap:=s.heap.push { cls:=.type "tuple", data:=.seq #[] },toks:=s.toks }) :=
 .of_wp fun prog w A R s h=>by
  obtain ⟨hp,g,d,tk,os⟩:=s;obtain ⟨hl,h⟩:=h;have f1:=AutoSeq1.idx_int;have f2:=AutoSeq1.sub_tuple_tuple
  wp_walk using AutoSeq1.wpAny_loadPart' hl
  refine wpAny_ite_false (decide_eq_false c0) ?_;wp_walk using AutoSeq1.wpAny_loadPart' hl
  exact ⟨_,rfl,h⟩
section
variable {X:Cx}
def Dk (K:PySem.W.Frag):R2:=fun x y H Q=>∃ a k xs,x=.ref a/\y=.int k/\ji K H a xs/\xs≠[]/\-(2^63)<=k/\k<2^63/\xs.length*k.toNat<=sizeLine/\(k=1->Q (.ref a) H)/\(k≠1->∀ p,H p=none->Q (.ref p) (upd H p (.tup (List.replicate k.toNat xs).flatten)))
theorem BI:hX X (binaryOp .Mult) (Dk X.K):=by
 intro pins s σ H x y v u Q I rx ry h
 obtain ⟨a,k,xs,rfl,rfl,hq,hne,h1,h2,hz,q1,q2⟩:=h
 cases rx
 obtain ⟨t,rfl⟩:=ry
 obtain ⟨its,r,⟨o,e,hc,n,hd⟩,_⟩:=I.tuple hq
 obtain ⟨cls,dd,data,sl⟩:=o
 dsimp only at hc hd
 subst hc hd
 have hl:=r.length
 refine wpAny_binaryOp_repeat_ref (T := "tuple") (U := "int") (by decide) ⟨_,e,rfl⟩ (fun s'=>typeIs_int s' k t) l5 F.fills_int_mul F.slot_int_rmul sW F.slot_int_index.lookup
  (call_meets F.slot_int_rmul (typeIs_int s k t) F.entry_int_rmul (F.args_int_rmul_2 _ _) (rR k t a its.toArray n dd sl) ⟨e,rfl,⟨_,e,rfl⟩,?_⟩)
 by_cases hk1:k=1
 ·subst hk1
  exact call_meets F.slot_tuple_mul ⟨_,e,rfl⟩ F.entry_tuple_mul (F.args_tuple_mul_2 _ _) (yp a its.toArray n dd sl t) ⟨e,⟨.ref a,H,I,rfl,q1 rfl⟩⟩
 ·have hb1:(k==1)=false:=by simpa using hk1
  have hni:its≠[]:=fun z=>hne (r.lN.mp z)
  have hie:its.toArray.isEmpty=false:=by cases its with | nil=>exact absurd rfl hni | cons _ _=>rfl
  have c0:¬ (decide (k < -2^63)||decide (k>=2^63))=true:=by simp;omega
  have c1:¬ (its.toArray.isEmpty||k==1)=true:=by rw [hie,hb1];simp
  have fin:∀ ys,ys=(List.replicate k.toNat its).flatten.toArray->EP X pins σ Q (.ref s.heap.objs.size) { s with heap:=s.heap.push { cls:=.type "tuple", data:=.seq ys },toks:=s.toks }:=fun ys ey=>by
   subst ey
   refine ⟨.ref s.heap.objs.size,_,I.laid (t':=s.toks) (o:=.tup (List.replicate k.toNat xs).flatten) (fun b ob q=>Heap.get?_push_of_some _ q) (Nat.le_refl _) ?_,rfl,q2 hk1 _ (I.bu.fresh (Nat.le_refl _))⟩
   exact ⟨by rw [len_rep,Nat.mul_comm];exact hz,_,r.rep k.toNat,IsTup.new _ _⟩
  have hnew:List.foldl (fun x1 x2=>x1++x2) #[] (List.replicate k.toNat its.toArray)=(List.replicate k.toNat its).flatten.toArray:=by
   have:=foldl_rep its k.toNat []
   rw [List.nil_append] at this
   exact this
  by_cases hk0:k<=0
  ·have c2:(decide (k<=0)||its.toArray.isEmpty)=true:=by rw [decide_eq_true hk0];rfl
   refine call_meets F.slot_tuple_mul ⟨_,e,rfl⟩ F.entry_tuple_mul (F.args_tuple_mul_2 _ _) (xE a its.toArray n dd sl k t c0 c1 c2) ⟨e,fin _ ?_⟩
   rw [show k.toNat=0 by omega]
   rfl
  ·have c2:¬ (decide (k<=0)||its.toArray.isEmpty)=true:=by rw [decide_eq_false hk0,hie];simp
   have em:((its.toArray.size:Nat):Int)*k=((xs.length*k.toNat:Nat):Int):=by
    rw [List.size_toArray,← hl,Int.natCast_mul,Int.toNat_of_nonneg (by omega)]
   have hs:(sizeLine:Int)<=(2^63-1)/8:=by decide
   refine call_meets F.slot_tuple_mul ⟨_,e,rfl⟩ F.entry_tuple_mul (F.args_tuple_mul_2 _ _) (xp a its.toArray n dd sl k t c0 c1 c2 ?_ ?_ ?_) ⟨e,fin _ hnew⟩
   ·rw [em];omega
   ·rw [em]
    unfold Builtin.Tuple.tupleTooMany
    simp only [decide_eq_true_eq]
    omega
   ·rw [hnew,List.size_toArray,len_rep,Nat.mul_comm,← hl]
    exact hz
end
end L2
namespace L2
open PySem PySem.Spec PyProof.Rows
structure aQ (K:PySem.W.Frag) (x qual:Str) (st:Stmt) (dv:Value) (f:Addr) (fd:FuncData):Prop where
 ex:∃ (oc:Value) (od:Option Addr) (kV doc pm:Value) (an:Option Addr) (cdv ct:Value) (osl:Array (Option Value)),
  fd=PySem.W.fnOf x qual (aK st) (aJ st) (ak st) dv kV doc pm an cdv ct/\K.lookup f=some ⟨oc,od,.func fd,osl⟩/\PySem.W.codeIn K cdv qual=true
 kp:PySem.W.keepIn K (.ref f)=true
section
variable {P:Program} {w:World} {K:PySem.W.Frag} {mg:Str->Option Value} {base:Heap}
theorem aQ.binds {x qual:Str} {st:Stmt} {T:Addr} {o:Obj} {items:Array Value} {n:Nat} {f:Addr} {fd:FuncData} {ps:List Str} {ds:List Value} (F:aQ K x qual st (.ref T) f fd) (ho:K.lookup T=some o) (hs:o.data=.seq items n)
  (h:∀ (kV doc pm:Value) (an:Option Addr) (cdv ct:Value) (us:List Value),(us++ds).length=ps.length->∃ k,bindArgs (PySem.W.fnOf x qual (aK st) (aJ st) (ak st) (.ref T) kV doc pm an cdv ct) ⟨us,[]⟩=seqItems? (.ref T) >>= k/\k (some items)=pure (ps.zip (us++ds))):Binds K fd ps ds:=by
 obtain ⟨oc,od,kV,doc,pm,an,cdv,ct,osl,rfl,lk,hcd⟩:=F.ex
 intro s us X hl
 obtain ⟨k,h1,h2⟩:=h kV doc pm an cdv ct us hl
 exact BindsTo.of_defaults rfl (X _ _ ho) hs h1 h2
end
theorem oi {X:Cx} {x:Str} {v:V} {pos:Pos} (hg:Gl X x) (hm:∃ u,X.mg x=some u/\RelV v u) (hd:(x==("__debug__" : Str))=false:=by decide):PE X (.Name x pos) (tC v):=by
 obtain ⟨u,h1,h2⟩:=hm
 exact BV hg h1 h2 hd
theorem DW:bootBuiltins "max" = some (.builtin "max"):=by decide +kernel
end L2
namespace L2
open PySem PySem.Spec PyProof.Rows
theorem zD {X : Cx} {tg elt iter : Expr} {ifs : List Expr} {scope : Scope} {cl : List (Str × Addr)} {pos cpos : Pos} {wi : TI} {g : TG} {tt : Option TT} {te : TE} {ts fs : List Str} {js : List Nat} (hcalm : X.calm = true)
    (hclos : closureFor scope X.env = pure cl) (hk : scope.kind = .function) (nc : iy scope.names = true) (lo : j3 scope.names = true) (fh : ki cl scope.names = true) (ag : f_ X cl) (fr : iB X scope cl fs js)
    (hi : PI X tg iter wi) (hg : ∀ C s₀ H₀ ex pins, PG (ui X scope cl (ts ++ fs) C s₀ H₀ ex pins) tg g)
    (ht : ∀ C s₀ H₀ ex pins, match ifs, tt with | [], none => True | [c], some t => PT (ui X scope cl (ts ++ fs) C s₀ H₀ ex pins) c t | _, _ => False)
    (he : ∀ C s₀ H₀ ex pins, PE (ui X scope cl (ts ++ fs) C s₀ H₀ ex pins) elt te)
    (hs : ∀ x, foldedSetIterable iter X.env x = pure x) {pins : List (Addr × Obj)} {s : Shared} {σ : St} {H : Hp} {Q : VK} (I : Inv X pins σ H s) (h : zo wi g tt te ts js σ H Q)
    (use : Option (Value -> Sem Unit)) (Qv : Value -> Shared -> Prop)
    (EG : ∀ (D : Addr) (H' : Hp) (s' : Shared) (C : Addr), Inv X pins σ H' s' -> Q (.ref D) H' -> (∃ m, s'.heap.Ns C m) -> k9 X pins H' C -> compPost (model X.prog X.w) X.A X.xe use Qv (.ref D) C (.ok .next) s') :
    wpAny (model X.prog X.w) X.A (comprehension (.ListComp elt [⟨tg, iter, ifs, 0⟩] scope pos) scope X.env cpos (newList []) false (eval iter X.env) use) Qv X.xe s := by
  have hcell : ∀ y ∈ scope.names, y.2 ≠ .cell := fun y hy => by
    have := List.all_eq_true.mp nc y hy
    simpa using this
  have hnames : ∀ y ∈ scope.names, y.2 = .local -> scope.names.lookup y.1 = some .local := fun y hy hl => by
    have := List.all_eq_true.mp lo y hy
    rw [hl] at this
    simpa using this
  refine wpAny_comprehension_free (use := use) rfl hs hclos hk hnames (cF (hi pins s σ H _ I h) fun v s1 h1 => cF h1 fun itv s2 h2 => ?_)
  obtain ⟨it, fp, tn, J, H1, e, I2, T, st2, f2, hJ⟩ := h2
  subst e
  refine wpAny_newObj_type (wpAny_newFunctionEnv hcell (by intro y hy; simp at hy) (fun h₁ hns₁ hsb₁ => ?_) hk)
  dsimp only at hns₁ hsb₁ ⊢
  generalize hH2 : s2.heap.push { cls := .type "list", dict := none, data := .seq ([] : List Value).toArray } = G at hns₁ hsb₁ ⊢
  have hC : G.objs.size = s2.heap.objs.size + 1 := by rw [← hH2, Heap.size_push]
  have old : ∀ b o, s2.heap.get? b = some o -> h₁.get? b = some o := fun b o e => by
    have hb := Heap.lt_size e
    refine hsb₁.extBut b o (Nat.ne_of_lt (Nat.lt_of_lt_of_le hb (Nat.le_of_lt (by rw [hC]; exact Nat.lt_succ_self _)))) (Heap.get?_push_of_some _ ?_)
    rw [← hH2]
    exact Heap.get?_push_of_some _ e
  have hacc : h₁.get? s2.heap.objs.size = some { cls := .type "list", dict := none, data := .seq #[] } := by
    refine hsb₁.extBut _ _ (Nat.ne_of_lt (by rw [hC]; exact Nat.lt_succ_self _)) (Heap.get?_push_of_some _ ?_)
    rw [← hH2]
    exact Heap.get?_push_size _ rfl
  have nD : H1 s2.heap.objs.size = none := I2.bu.fresh (Nat.le_refl _)
  have nC : H1 G.objs.size = none := I2.bu.fresh (by omega)
  obtain ⟨W, ⟨m0, w0⟩, turn⟩ := hJ _ nD
  have hfpS : ∀ b ∈ fp, b < s2.heap.objs.size := fun b hb => by
    obtain ⟨o, e, _⟩ := T.obj _ _ st2 b hb
    exact Heap.lt_size e
  have ltk : ∀ (x : Str) (c : Addr), cl.lookup x = some c -> c < s2.heap.objs.size /\ H1 c = none /\ (∃ v, s2.heap.IsCell c v) := fun x c e => by
    have e' := ag.at x c e
    obtain ⟨v, q⟩ := I2.cell x c e'
    exact ⟨q.lt, I2.jI x c e', v, q⟩
  let X' := ui X scope cl (ts ++ fs) G.objs.size s2 H1 fp pins
  have okX : X'.Ok := by
    refine ⟨I2.ok.mod, hk, I2.ok.glob, I2.ok.blt, by show s2.heap.objs.size <= G.objs.size; omega, fun x y c e1 e2 => I2.ok.inj x y c (ag.at x c e1) (ag.at y c e2), fun x hx => ?_, fun x c hf _ => (nomatch (show (false : Bool) = true from hf)), I2.ok.hd, I2.ok.frames, .inl rfl, fun b hb => ⟨?_, fun x c e z => ?_⟩, fun b o e => I2.bs b o e, Nat.le_trans I2.ok.B_ I2.sz, fun b o e hb => ?_, fun b hb hz => ?_, I2.stack, fun b hb => I2.nR b hb⟩
    · have hfree := jx (env := X.env) hx nc
      have hm : ∃ y ∈ scope.names, y.1 = x /\ y.2 = .free := by
        have : ∀ (l : List (Str × NameKind)), l.lookup x = some .free -> ∃ y ∈ l, y.1 = x /\ y.2 = .free := by
          intro l
          induction l with
          | nil => intro h; simp at h
          | cons p r ih =>
            intro h
            rw [List.lookup_cons] at h
            cases q : x == p.1 with
            | true =>
              rw [q] at h
              exact ⟨p, List.mem_cons_self, (by simpa using q : x = p.1).symm, Option.some.inj h⟩
            | false =>
              rw [q] at h
              obtain ⟨y, hy, r1, r2⟩ := ih h
              exact ⟨y, List.mem_cons_of_mem _ hy, r1, r2⟩
        exact this _ hfree
      obtain ⟨y, hy, r1, r2⟩ := hm
      have := List.all_eq_true.mp fh y hy
      rw [r2] at this
      have h' : (cl.lookup y.1).isSome = true := by simpa using this
      rw [r1] at h'
      exact Option.isSome_iff_exists.mp h'
    · exact Nat.ne_of_lt (Nat.lt_of_lt_of_le (hfpS b hb) (by show s2.heap.objs.size <= G.objs.size; omega))
    · exact (f2 b hb).2.2.2.2.1 x c (ag.at x c e) z
    · obtain ⟨_, _, _, f3, _, _⟩ := f2 b hb
      rcases f3 with z | z
      · exact I2.ok.wc b o e z
      · exact absurd (Nat.lt_of_lt_of_le (Heap.lt_size (I2.ok.bs b o e).1) z) (Nat.lt_irrefl _)
    · rcases List.mem_cons.mp (I2.mO b hz) with z | z
      · exact (f2 b hb).2.1 z
      · exact (f2 b hb).2.2.1 z
  have keepB : ∀ b o, s2.heap.get? b = some o -> h₁.get? b = some o := old
  have I3 : Inv X' [] (du ts js σ) (upd H1 s2.heap.objs.size (.lst [])) { s2 with heap := h₁, toks := s2.toks + ([] : List (Str × Value)).length } := by
    have neD : ∀ b o, s2.heap.get? b = some o -> b ≠ s2.heap.objs.size := fun b o e => Nat.ne_of_lt (Heap.lt_size e)
    refine ⟨okX, rfl, I2.bare, ⟨fun b o e n hb hx => old b o e, fun b o e n hb hx => ⟨o.slots, old b o e⟩, fun b o e n hx => by rw [aw (neD b o e)]; exact n, fun b o e hx => ⟨o, old b o e⟩, fun b xs e => ?_, fun b o u e => ?_, fun b ps e => ?_⟩, ⟨_, hns₁, fun i x v e1 e2 e3 => ?_⟩, fun x c e => ?_, ?_, fun x c e => ?_, fun p hp => ?_, ?_, ?_⟩
    · rw [aw (a_ e nD)]; exact e
    · rw [aw (a_ e nD)]; exact e
    · exact ⟨#[], by rw [aw (a_ e nD)]; exact Eq.trans e (by simp)⟩
    ·
      have hlen : (ts.map (fun _ => (none : Option V))).length = ts.length := List.length_map _
      unfold du at e2
      by_cases hlt : i < ts.length
      · rw [List.getElem?_append_left (by rw [hlen]; exact hlt), List.getElem?_map] at e2
        cases q : ts[i]? <;> rw [q] at e2 <;> cases e2
      · rw [List.getElem?_append_right (by rw [hlen]; omega), hlen] at e2
        have e1' : fs[i - ts.length]? = some x := by
          have e1' : (ts ++ fs)[i]? = some x := e1
          rw [List.getElem?_append_right (by omega)] at e1'
          exact e1'
        have all : ∀ {fs : List Str} {js : List Nat}, iB X scope cl fs js -> ∀ k : Nat, fs[k]? = some x -> (js.map fun j => (σ[j]?).join)[k]? = some (some v) ->
            ∃ (j : Nat) (c : Addr), X.N[j]? = some x /\ σ[j]? = some (some v) /\ (X.env.kindOf x = some .cell \/ X.env.kindOf x = some .free) /\ X.env.cells.lookup x = some c /\ cl.lookup x = some c /\ scope.names.lookup x = some .free := by
          intro fs js r
          induction r with
          | nil => intro k e; simp at e
          | @cons y j c fs js hN hf hv hc hl r ih =>
            intro k e e'
            cases k with
            | zero =>
              have e0 : y = x := by simpa using e
              subst e0
              have e0' : (σ[j]?).join = some v := by simpa using e'
              refine ⟨j, c, hN, ?_, hv, hc, hl, hf⟩
              cases q : σ[j]? with
              | none => rw [q] at e0'; cases e0'
              | some z => rw [q] at e0'; cases z with
                | none => cases e0'
                | some z => have : z = v := by simpa using e0'
                            rw [this]
            | succ k => exact ih k (by simpa using e) (by simpa using e')
        obtain ⟨j, c, q1, q2, q3, q4, q5, q6⟩ := all fr (i - ts.length) e1' e2
        obtain ⟨m, hn, hl⟩ := I2.loc
        have vis : Bv X.env.scope x := by
          rcases q3 with z | z
          · exact .inr (.inl z)
          · exact .inr (.inr z)
        obtain ⟨u, ru, lk⟩ := hl j x v q1 q2 vis
        refine ⟨u, ru, .inr ⟨?_, c, q5, ?_⟩⟩
        · rcases e3 with z | z | z
          · exfalso
            have key : ∀ (l : List (Str × NameKind)), (l.map fun (n, k) => if (k == NameKind.free && X.env.scope.kind == .function && X.env.kindOf n == some .cell) then (n, NameKind.cell) else (n, k)).lookup x = some .local -> l.lookup x = some .local := by
              intro l
              induction l with
              | nil => intro h; simp at h
              | cons p r ih =>
                obtain ⟨n, k⟩ := p
                intro h
                rw [List.map_cons] at h
                dsimp only at h
                by_cases hc : (k == NameKind.free && X.env.scope.kind == .function && X.env.kindOf n == some .cell) = true
                · rw [if_pos hc] at h
                  rw [List.lookup_cons] at h ⊢
                  cases q : x == n with
                  | true => rw [q] at h; cases h
                  | false => rw [q] at h; exact ih h
                · rw [if_neg hc] at h
                  rw [List.lookup_cons] at h ⊢
                  cases q : x == n with
                  | true => rw [q] at h; exact h
                  | false => rw [q] at h; exact ih h
            have := key _ z
            rw [q6] at this
            cases this
          · exact .inl z
          · exact .inr z
        · rcases lk with ⟨k, _⟩ | ⟨_, c', e4, z⟩
          · rcases q3 with z | z <;> rw [z] at k <;> cases k
          · rw [q4] at e4
            cases e4
            obtain ⟨o, ho, hd⟩ := z
            exact ⟨o, old c o ho, hd⟩
    · obtain ⟨_, _, v, o, ho, hd⟩ := ltk x c e
      exact ⟨v, o, old c o ho, hd⟩
    · show upd H1 s2.heap.objs.size (.lst []) G.objs.size = none
      rw [aw (Nat.ne_of_gt (by rw [hC]; exact Nat.lt_succ_self _))]; exact nC
    · obtain ⟨q1, q2, _⟩ := ltk x c e
      rw [aw (Nat.ne_of_lt q1)]; exact q2
    · have hp' : p ∈ X.pn ++ pins := by
        have : p ∈ (X.pn ++ pins) ++ [] := hp
        rwa [List.append_nil] at this
      obtain ⟨e, n, ne, nf, d⟩ := I2.pin p hp'
      have hlt := Heap.lt_size e
      refine ⟨old _ _ e, by rw [aw (Nat.ne_of_lt hlt)]; exact n, ?_, fun hz => ?_, d⟩
      · show p.1 ≠ G.objs.size
        exact Nat.ne_of_lt (Nat.lt_trans hlt (by rw [hC]; exact Nat.lt_succ_self _))
      · rcases List.mem_cons.mp (I2.mO _ hz) with z | z
        · exact ne z
        · exact nf z
    · exact I2.bu.laid old (Nat.le_refl _) ⟨Nat.zero_le _, [], 0, .nil, hacc⟩
    · show (du ts js σ).length = (ts ++ fs).length
      have frl : ∀ {fs : List Str} {js : List Nat}, iB X scope cl fs js -> fs.length = js.length := by
        intro fs js r
        induction r with
        | nil => rfl
        | cons _ _ _ _ _ _ ih => rw [List.length_cons, List.length_cons, ih]
      unfold du
      rw [List.length_append, List.length_append, List.length_map, List.length_map, frl fr]
  have stat : ∀ {H' : Hp}, (∀ b ∈ fp, H' b = none) -> ∀ b ∈ fp, k9 X' [] H' b := fun {H'} hn b hb => by
    obtain ⟨_, f1, f3, _, f4, f5⟩ := f2 b hb
    refine ⟨hn b hb, okX.HJ b hb |>.1, okX.yr b hb, .inl hb, fun x c e => f4 x c (ag.at x c e), fun p hp => f5 p ?_⟩
    have : p ∈ (X.pn ++ pins) ++ [] := hp
    rwa [List.append_nil] at this
  have fin : ∀ {σ' : St} {H' : Hp} {s' : Shared}, Inv X' [] σ' H' s' -> Q (.ref s2.heap.objs.size) H' ->
      compPost (model X.prog X.w) X.A X.xe use Qv (.ref s2.heap.objs.size) G.objs.size (.ok .next) s' := by
    intro σ' H' s' I4 q
    obtain ⟨m, hn, _⟩ := I4.loc
    have fC : H' G.objs.size = none := I4.free
    have Io : Inv X pins σ H' s' := by
      refine I2.wt (s' := s') (ch := fp) I4.os ⟨fun b o e n hb hx => ?_, fun b o e n hb hx => ?_, fun b o e n hx => I4.base.free b o e n hx, fun b o e hx => ?_, I4.base.qv, I4.base.lU, I4.base.qb⟩ I4.bu I4.bare fun b hb => ?_
      · exact I4.base.keep b o e n hb hx
      · exact I4.base.slot b o e n hb hx
      · exact I4.base.there b o e hx
      · obtain ⟨_, f1, _, f3, f4, f5⟩ := f2 b hb
        exact ⟨f3, f1, f4, f5⟩
    have hCl : s2.heap.objs.size <= G.objs.size := by rw [hC]; exact Nat.le_succ _
    exact EG _ H' s' _ Io q ⟨m, hn⟩ (I2.pS hCl fC)
  have loop : ∀ s3 : Shared, s3 = { s2 with heap := h₁, toks := s2.toks + ([] : List (Str × Value)).length } ->
      codeAny (model X.prog X.w) X.A (.compLoop (.ListComp elt [⟨tg, iter, ifs, 0⟩] scope pos) 0 (.ref it) (.ref s2.heap.objs.size) (compEnvC scope cl G.objs.size X.env))
        (compPost (model X.prog X.w) X.A X.xe use Qv (.ref s2.heap.objs.size) G.objs.size) s3 := by
    rintro s3 rfl
    refine qT (fun n s' => ∃ i σ' H', Inv X' [] σ' H' s' /\ tn i s'.heap /\ (∀ b ∈ fp, H' b = none) /\ W i n σ' H') ?_ m0 ⟨0, _, _, I3, T.keep _ _ _ st2 fun b _ o e => old b o e, fun b hb => ?_, w0⟩
    · rintro n s3 ⟨i, σ3, H3, I3, st3, fr3, w3⟩
      rcases turn i n σ3 H3 w3 with ⟨stop, qn⟩ | ⟨go, N, hN, step⟩
      · refine cF (T.done X' rfl rfl rfl hcalm i [] s3 σ3 H3 _ I3 (stat fr3) st3 stop) fun r s4 ⟨hr, I4⟩ => ?_
        subst hr
        exact fin I4 qn
      · refine cF (T.item X' rfl rfl rfl hcalm i [] s3 σ3 H3 _ I3 (stat fr3) st3 go) fun r s4 ⟨u, hr, h4⟩ => ?_
        subst hr
        refine cF h4 fun _ s5 ⟨x, H5, I5, r5, y5, st5, fr5⟩ => ?_
        have I5' := I5.pinned (stat fr5) (T.obj _ _ st5)
        refine cF (hg _ _ _ _ _ _ s5 σ3 H5 x u _ I5' r5 (step x H5 y5)) fun _ s6 ⟨σ6, H6, I6, q6⟩ => ?_
        have again : ∀ {σ7 : St} {H7 : Hp} {s7 : Shared}, Inv X' ([] ++ jD fp s5.heap) σ7 H7 s7 -> N σ7 H7 -> ∃ m, m < n /\ ∃ i σ' H', Inv X' [] σ' H' s7 /\ tn i s7.heap /\ (∀ b ∈ fp, H' b = none) /\ W i m σ' H' := fun {σ7 H7 s7} I7 n7 => by
          obtain ⟨m', hm, w7⟩ := hN σ7 H7 n7
          refine ⟨m', hm, i + 1, σ7, H7, I7.jv, T.keep _ _ _ st5 fun b hb o e => (I7.pin (b, o) (List.mem_append_right _ (List.mem_append_right _ (eX hb e)))).1, fun b hb => ?_, w7⟩
          obtain ⟨o, e, d⟩ := T.obj _ _ st5 b hb
          exact (I7.pin (b, o) (List.mem_append_right _ (List.mem_append_right _ (eX hb e)))).2.1
        have tail : ∀ {H7 : Hp} {s7 : Shared}, Inv X' ([] ++ jD fp s5.heap) σ6 H7 s7 -> (te σ6 H7 fun y H4 => ∃ ys, H4 s2.heap.objs.size = some (.lst ys) /\ ys.length < sizeLine /\ N σ6 (upd H4 s2.heap.objs.size (.lst (ys ++ [y])))) ->
            wpAny (model X.prog X.w) X.A (eval elt (compEnvC scope cl G.objs.size X.env)) (fun x s₅ => wpAny (model X.prog X.w) X.A (call (.builtin "list.append") [.ref s2.heap.objs.size, x])
              (fun _ s₆ => ∃ m, m < n /\ ∃ i σ' H', Inv X' [] σ' H' s₆ /\ tn i s₆.heap /\ (∀ b ∈ fp, H' b = none) /\ W i m σ' H') (fun _ _ => False) s₅) (fun _ _ => False) s7 := by
          intro H7 s7 I7 q7
          refine cF (he _ _ _ _ _ _ s7 σ6 H7 _ I7 q7) fun uy s8 ⟨y, H8, I8, ry, ys, hy, hl, q8⟩ => ?_
          refine cF (mf (X := X') _ s8 σ6 H8 (.ref s2.heap.objs.size) [y] (.ref s2.heap.objs.size) [uy] (fun _ H9 => N σ6 H9) I8 rfl (.cons ry .nil) ⟨_, ys, y, rfl, rfl, hy, hl, q8⟩) fun _ s9 ⟨_, H9, I9, _, q9⟩ => ?_
          exact again I9 q9
        cases ifs with
        | nil =>
          cases tt with
          | none => exact wpAny_tests_nil (tail I6 q6)
          | some t => exact (ht 0 s2 H1 [] []).elim
        | cons c r =>
          cases r with
          | nil =>
            cases tt with
            | none => exact (ht 0 s2 H1 [] []).elim
            | some t =>
              refine wpAny_tests_one (cF (ht G.objs.size s2 H1 fp pins _ s6 σ6 H6 _ I6 q6) fun b s7 ⟨H7, I7, q7⟩ => ?_)
              cases b with
              | true =>
                rw [if_pos rfl] at q7 ⊢
                exact tail I7 q7
              | false =>
                rw [if_neg Bool.false_ne_true] at q7 ⊢
                exact again I7 q7
          | cons _ _ => cases tt <;> exact (ht 0 s2 H1 [] []).elim
    · rw [aw (Nat.ne_of_lt (hfpS b hb))]
      exact (f2 b hb).1
  exact codeAny_compStart_list (loop _ rfl) (T.self _ 0 _ _ _ (T.keep _ _ _ st2 fun b _ o e => old b o e) (loop _ rfl))
theorem Inv.other {X:Cx} {pins:List (Addr×Obj)} {σ:St} {H:Hp} {s:Shared} {C:Addr} {h':Heap} (I:Inv X pins σ H s) (f:k9 X pins H C) (hs:Heap.SameBut C s.heap h'):Inv X pins σ H { s with heap:=h' }:=by
 obtain ⟨f0,f1,_,f3,f4,f5⟩:=f
 refine I.wt (s':={ s with heap:=h' }) (ch:=[C]) rfl ⟨fun b o e n hb hx=>?_,fun b o e n hb hx=>?_,fun b o e n hx=>n,fun b o e hx=>?_,fun _ _ q=>q,fun _ _ _ q=>q,fun b ps q=>⟨#[],by rw [q];simp⟩⟩ (fun b u e=>?_) I.bare fun b hb=>?_
 ·exact (hs.2 b (fun z=>hx (by rw [z];exact List.mem_singleton.mpr rfl))).trans e
 ·exact ⟨o.slots,(hs.2 b (fun z=>hx (by rw [z];exact List.mem_singleton.mpr rfl))).trans e⟩
 ·exact ⟨o,(hs.2 b (fun z=>hx (by rw [z];exact List.mem_singleton.mpr rfl))).trans e⟩
 ·refine (I.bu b u e).mG (fun c v hc q=>(hs.2 c ?_).trans q) (fun _ q=>q) fun _ _ q=>q
  rcases hc with z | z
  ·rw [z];exact a_ e f0
  ·exact a_ z f0
 ·rw [List.mem_singleton.mp hb]
  exact ⟨f3,f1,f4,f5⟩
theorem B7 {X:Cx} {tg elt iter:Expr} {scope:Scope} {cl:List (Str×Addr)} {pos spos py:Pos} {i:Nat} {y:Str} {wi:TI} {g:TG} {te:TE} {ts fs:List Str} {js:List Nat} (hN:X.N.Nodup) (hiy:X.N[i]?=some y) (hy:Loc X.env.scope y) (hcalm:X.calm=true)
  (hclos:closureFor scope X.env=pure cl) (hk:scope.kind=.function) (nc:iy scope.names=true) (lo:j3 scope.names=true) (fh:ki cl scope.names=true) (ag:f_ X cl) (fr:iB X scope cl fs js)
  (hi:PI X tg iter wi) (hg:∀ C s₀ H₀ ex pins,PG (ui X scope cl (ts++fs) C s₀ H₀ ex pins) tg g) (he:∀ C s₀ H₀ ex pins,PE (ui X scope cl (ts++fs) C s₀ H₀ ex pins) elt te)
  (hs:∀ x,foldedSetIterable iter X.env x=pure x:=by intro _;rfl) (hsw:swapsWith (.ListComp elt [⟨tg,iter,[],0⟩] scope pos) (some (.Name y py)) spos.line X.env=pure true:=by rfl)
  (hf:X.fn y=true\/X.env.scope.names.lookup y=some .local:=by first | exact .inl rfl | exact .inr rfl | assumption) :
  PS X (.Assign [.Name y py] (.ListComp elt [⟨tg,iter,[],0⟩] scope pos) spos) (Hf (vF wi g te ts js) (aV i)):=by
 intro pins s σ H D I h
 rw [exec_Assign_Name_used _ _ _ _ hsw]
 refine wpAny_bind (wpAny_standAt (wpAny_bind ?_))
 show wpAny _ X.A (do let _ ← comprehension (.ListComp elt [⟨tg,iter,[],0⟩] scope pos) scope X.env _ (newList []) false (eval iter X.env) (some (assign (.Name y py) X.env))) _ _ s
 refine wpAny_bind (wpAny_mono (zD (tt:=none) hcalm hclos hk nc lo fh ag fr hi hg (fun _ _ _ _ _=>trivial) he hs I (show zo wi g none te ts js σ H (fun x H1=>D.nx (σ.set i (some x)) H1) from h) (some (assign (.Name y py) X.env)) (fun _ s'=>SP X pins D .next s') fun Dd H' s' C Io q hm f=>?_) (fun _ s' hq=>wpAny_pure (wpAny_pure hq)) fun _ _ e=>e)
 show wpAny _ X.A (assign (.Name y py) X.env (.ref Dd)) _ _ s'
 refine wpAny_assign_Name (rB Io hN hiy hy (v:=.ref Dd) rfl (fun s'' I'' ⟨a,sb,ha⟩=>?_) hf)
 obtain ⟨m,hn⟩:=hm
 obtain ⟨f0,f1,f2,f3,f4,f5⟩:=f
 have naC:a≠C:=by
  rcases ha with z | z
  ·rw [z];exact fun w=>f1 w.symm
  ·exact f4 y a z
 refine ⟨m,hn.sameBut sb (Ne.symm naC),fun h' hs'=>?_⟩
 exact ⟨_,H',I''.other ⟨f0,f1,f2,f3,f4,f5⟩ hs',q⟩
end L2
namespace L2
open PySem PySem.Spec PyProof.Rows
end L2
namespace L2
open PySem PySem.Spec PyProof.Rows
theorem oA (a b c:Value):checkTypeCall "zip" ⟨[a,b,c],[]⟩=pure ():=by kernel_rfl
theorem p4 (a b c:Value):checkBuiltinCall "zip.__new__" ⟨[.type "zip", a,b,c],[]⟩=pure ():=by kernel_rfl
abbrev bB (h:Heap) (T:Addr) (a b c:Value):Prop:=h.get? T=some { cls:=.type "tuple", data:=.seq #[a,b,c] }
structure Z3 (z TI TO i1 i2 i3:Addr):Prop where
 TIz:TI≠z
 TOz:TO≠z
 i1z:i1≠z
 i2z:i2≠z
 FY:i3≠z
 TITO:TI≠TO
 TIi1:TI≠i1
 TIi2:TI≠i2
 ME:TI≠i3
 TOi1:TO≠i1
 TOi2:TO≠i2
 Cs:TO≠i3
 i12:i1≠i2
 Jq:i1≠i3
 Ou:i2≠i3
structure L3 (z TO i1 i2 i3 l:Addr):Prop where
 z:l≠z
 o:l≠TO
 i1:l≠i1
 i2:l≠i2
 i3:l≠i3
section
variable {prog:Program} {w:World} {A:Around} {E:Value->Shared->Prop} {s:Shared}
theorem dh {T:Addr} {a b c x:Value} {k:Nat} {Q:Unit->Shared->Prop} (hT:bB s.heap T a b c)
  (h:∀ h',h'.get? T=some { cls:=.type "tuple", data:=.seq ((#[a,b,c]:Array Value).setIfInBounds k x) }->Heap.SameBut T s.heap h'->Q () { s with heap:=h' }) :
  wpAny (model prog w) A (updateSeq T (·.setIfInBounds k x)) Q E s:=by
 refine wpAny_updateSeq hT rfl (h _ ?_ (Heap.SameBut.update ..))
 rw [Heap.get?_update_self _ hT rfl]
 simp [Obj.mapSeq]
variable {b1 b2 b3:Bool} {z TI TO i1 i2 i3 l1 l2 l3:Addr} {k1 k2 k3:Nat} {xs ys zs:Array Value} {x y v a b c:Value}
theorem yy {Q:Value->Shared->Prop} (D:Z3 z TI TO i1 i2 i3) (D1:L3 z TO i1 i2 i3 l1) (D2:L3 z TO i1 i2 i3 l2) (D3:L3 z TO i1 i2 i3 l3)
  (hz:IsZip s.heap z TI TO .none) (hTI:bB s.heap TI (.ref i1) (.ref i2) (.ref i3)) (hTO:bB s.heap TO a b c)
  (h1:dW s.heap b1 i1 l1 k1) (h2:dW s.heap b2 i2 l2 k2) (h3:dW s.heap b3 i3 l3 k3) (hl1:f6 s.heap b1 l1 xs) (hl2:f6 s.heap b2 l2 ys) (hl3:f6 s.heap b3 l3 zs) (hx:xs[k1]?=some x) (hy:ys[k2]?=some y) (hv:zs[k3]?=some v)
  (hQ:∀ h',IsZip h' z TI TO (rawInt s.heap.objs.size)->bB h' TO x y v->dW h' b1 i1 l1 (k1+1)->dW h' b2 i2 l2 (k2+1)->dW h' b3 i3 l3 (k3+1)->bB h' s.heap.objs.size x y v->h'.objs.size=s.heap.objs.size+1 ->
   (∀ c o,c≠z->c≠TO->c≠i1->c≠i2->c≠i3->s.heap.get? c=some o->h'.get? c=some o)->Q (.ref s.heap.objs.size) { s with heap:=h' }) :
  wpAny (model prog w) A (Builtin.«zip.__next__» ⟨[.ref z],[]⟩) (fun fin s'=>∃ v,fin=.done (.ret v)/\Q v s') E s:=by
 show wpAny _ _ (field (.ref z) 2 >>= _) _ _ _
 refine wpAny_bind (wpAny_field hz rfl (x:=.bool false) rfl ?_)
 show wpAny _ _ (field (.ref z) 3 >>= _) _ _ _
 refine wpAny_bind (wpAny_field hz rfl (x:=.ref TI) rfl ?_)
 refine wpAny_bind (wpAny_seqItems hTI rfl ?_)
 show wpAny _ _ (Builtin.SmallTypes.ownedTupleIsFree (.ref z) >>= _) _ _ _
 refine wpAny_bind ?_
 unfold Builtin.SmallTypes.ownedTupleIsFree
 refine wpAny_bind (wpAny_field hz rfl (x:=.none) rfl (wpAny_pure ?_))
 simp only [if_true]
 refine wpAny_bind (wpAny_rule ?_)
 refine wpAny_bind (wpAny_field hz rfl (x:=.ref TO) rfl ?_)
 refine wpAny_bind (wpAny_setField_rec hz (by simp) fun h₁ hz₁ hs₁=>?_)
 replace hz₁:IsZip h₁ z TI TO .ellipsis:=hz₁
 refine wpAny_bind ?_
 simp only [List.zipIdx_cons,List.zipIdx_nil,List.forIn_cons,List.forIn_nil]
 refine wpAny_bind (wpAny_bind (wpAny_onRaise ?_))
 show wpAny _ _ (Builtin.SmallTypes.nextOf (.ref i1) >>= _) _ _ _
 refine wpAny_bind (cN (h1.at fun o e=>hs₁.extBut _ _ D.i1z e) (hl1.at fun o e=>hs₁.extBut _ _ D1.z e) hx fun h₂ h1₂ hs₂=>wpAny_pure ?_)
 have hTO₂:bB h₂ TO a b c:=hs₂.extBut _ _ D.TOi1 (hs₁.extBut _ _ D.TOz hTO)
 refine wpAny_bind (wpAny_seqItems hTO₂ rfl ?_)
 refine wpAny_bind (dh hTO₂ fun h₃ hTO₃ hs₃=>?_)
 replace hTO₃:bB h₃ TO x b c:=hTO₃
 refine wpAny_bind (wpAny_letGo (wpAny_pure ?_))
 have kk3:∀ q o,q≠z->q≠TO->q≠i1->s.heap.get? q=some o->h₃.get? q=some o:=fun q o c1 c2 c3 e=>hs₃.extBut _ _ c2 (hs₂.extBut _ _ c3 (hs₁.extBut _ _ c1 e))
 refine wpAny_bind (wpAny_bind (wpAny_onRaise ?_))
 show wpAny _ _ (Builtin.SmallTypes.nextOf (.ref i2) >>= _) _ _ _
 refine wpAny_bind (cN (h2.at fun o e=>kk3 _ o D.i2z D.TOi2.symm D.i12.symm e) (hl2.at fun o e=>kk3 _ o D2.z D2.o D2.i1 e) hy fun h₄ h2₄ hs₄=>wpAny_pure ?_)
 have hTO₄:bB h₄ TO x b c:=hs₄.extBut _ _ D.TOi2 hTO₃
 refine wpAny_bind (wpAny_seqItems hTO₄ rfl ?_)
 refine wpAny_bind (dh hTO₄ fun h₅ hTO₅ hs₅=>?_)
 replace hTO₅:bB h₅ TO x y c:=hTO₅
 refine wpAny_bind (wpAny_letGo (wpAny_pure ?_))
 have k5:∀ q o,q≠z->q≠TO->q≠i1->q≠i2->s.heap.get? q=some o->h₅.get? q=some o:=fun q o c1 c2 c3 c4 e=>hs₅.extBut _ _ c2 (hs₄.extBut _ _ c4 (kk3 q o c1 c2 c3 e))
 refine wpAny_bind (wpAny_bind (wpAny_onRaise ?_))
 show wpAny _ _ (Builtin.SmallTypes.nextOf (.ref i3) >>= _) _ _ _
 refine wpAny_bind (cN (h3.at fun o e=>k5 _ o D.FY D.Cs.symm D.Jq.symm D.Ou.symm e) (hl3.at fun o e=>k5 _ o D3.z D3.o D3.i1 D3.i2 e) hv fun h₆ h3₆ hs₆=>wpAny_pure ?_)
 have hTO₆:bB h₆ TO x y c:=hs₆.extBut _ _ D.Cs hTO₅
 refine wpAny_bind (wpAny_seqItems hTO₆ rfl ?_)
 refine wpAny_bind (dh hTO₆ fun h₇ hTO₇ hs₇=>?_)
 replace hTO₇:bB h₇ TO x y v:=hTO₇
 refine wpAny_bind (wpAny_letGo (wpAny_pure (wpAny_pure ?_)))
 refine wpAny_bind (wpAny_seqItems hTO₇ rfl ?_)
 refine wpAny_bind (wpAny_newTuple ?_)
 have hsz:h₇.objs.size=s.heap.objs.size:=by rw [hs₇.1,hs₆.1,hs₅.1,hs₄.1,hs₃.1,hs₂.1,hs₁.1]
 have hz₃:IsZip h₃ z TI TO .ellipsis:=hs₃.extBut _ _ D.TOz.symm (hs₂.extBut _ _ D.i1z.symm hz₁)
 have hz₅:IsZip h₅ z TI TO .ellipsis:=hs₅.extBut _ _ D.TOz.symm (hs₄.extBut _ _ D.i2z.symm hz₃)
 have hz₇:IsZip h₇ z TI TO .ellipsis:=hs₇.extBut _ _ D.TOz.symm (hs₆.extBut _ _ D.FY.symm hz₅)
 have k7:∀ q o,q≠z->q≠TO->q≠i1->q≠i2->q≠i3->s.heap.get? q=some o->h₇.get? q=some o:=fun q o c1 c2 c3 c4 c5 e=>hs₇.extBut _ _ c2 (hs₆.extBut _ _ c5 (k5 q o c1 c2 c3 c4 e))
 have h1₇:dW h₇ b1 i1 l1 (k1+1):=h1₂.at fun o e=>hs₇.extBut _ _ D.TOi1.symm (hs₆.extBut _ _ D.Jq (hs₅.extBut _ _ D.TOi1.symm (hs₄.extBut _ _ D.i12 (hs₃.extBut _ _ D.TOi1.symm e))))
 have h2₇:dW h₇ b2 i2 l2 (k2+1):=h2₄.at fun o e=>hs₇.extBut _ _ D.TOi2.symm (hs₆.extBut _ _ D.Ou (hs₅.extBut _ _ D.TOi2.symm e))
 have h3₇:dW h₇ b3 i3 l3 (k3+1):=h3₆.at fun o e=>hs₇.extBut _ _ D.Cs.symm e
 have hzlt:z<h₇.objs.size:=Heap.lt_size hz₇
 show wpAny _ _ (Builtin.SmallTypes.ownedTupleHandOut (.ref z) (.ref h₇.objs.size) >>= _) _ _ _
 refine wpAny_bind ?_
 unfold Builtin.SmallTypes.ownedTupleHandOut
 have hz₈:IsZip (h₇.push { cls:=.type "tuple", data:=.seq #[x,y,v] }) z TI TO .ellipsis:=Heap.get?_push_of_some _ hz₇
 refine wpAny_bind (wpAny_setField_rec hz₈ (by simp) fun h₉ hz₉ hs₉=>?_)
 replace hz₉:IsZip h₉ z TI TO (rawInt h₇.objs.size):=hz₉
 refine wpAny_setField_rec hz₉ (by simp) fun hA hzA hsA=>?_
 replace hzA:IsZip hA z TI TO (rawInt h₇.objs.size):=hzA
 have up:∀ c o,c≠z->h₇.get? c=some o->hA.get? c=some o:=fun c o c1 e=>hsA.extBut _ _ c1 (hs₉.extBut _ _ c1 (Heap.get?_push_of_some _ e))
 have hTA:bB hA h₇.objs.size x y v:=hsA.extBut _ _ (Nat.ne_of_gt hzlt) (hs₉.extBut _ _ (Nat.ne_of_gt hzlt) (Heap.get?_push_size _ rfl))
 have hzA8:hA.objs.size=h₇.objs.size+1:=by rw [hsA.1,hs₉.1,Heap.size_push]
 rw [hsz] at hzA hTA hzA8
 refine wpAny_pure ⟨_,rfl,?_⟩
 show Q (.ref h₇.objs.size) _
 rw [hsz]
 exact hQ hA hzA (up _ _ D.TOz hTO₇) (h1₇.at fun o e=>up _ o D.i1z e) (h2₇.at fun o e=>up _ o D.i2z e) (h3₇.at fun o e=>up _ o D.FY e) hTA hzA8 fun c o c1 c2 c3 c4 c5 e=>up c o c1 (k7 c o c1 c2 c3 c4 c5 e)
theorem AW {Q:Fin->Shared->Prop} (hh:A.handled=none) (D:Z3 z TI TO i1 i2 i3) (D1:L3 z TO i1 i2 i3 l1) (D2:L3 z TO i1 i2 i3 l2) (D3:L3 z TO i1 i2 i3 l3)
  (hz:IsZip s.heap z TI TO .none) (hTI:bB s.heap TI (.ref i1) (.ref i2) (.ref i3)) (hTO:bB s.heap TO a b c)
  (h1:dW s.heap b1 i1 l1 k1) (h2:dW s.heap b2 i2 l2 k2) (h3:dW s.heap b3 i3 l3 k3) (hl1:f6 s.heap b1 l1 xs) (hl2:f6 s.heap b2 l2 ys) (hl3:f6 s.heap b3 l3 zs) (hend:xs[k1]?=none\/ys[k2]?=none\/zs[k3]?=none)
  (hE:∀ h' e,(∀ c o,c≠z->c≠TO->c≠i1->c≠i2->c≠i3->s.heap.get? c=some o->h'.get? c=some o)->(∃ o,h'.get? e=some o/\o.cls=.type "StopIteration")->E (.ref e) { s with heap:=h' }) :
  wpAny (model prog w) A (Builtin.«zip.__next__» ⟨[.ref z],[]⟩) Q E s:=by
 show wpAny _ _ (field (.ref z) 2 >>= _) _ _ _
 refine wpAny_bind (wpAny_field hz rfl (x:=.bool false) rfl ?_)
 show wpAny _ _ (field (.ref z) 3 >>= _) _ _ _
 refine wpAny_bind (wpAny_field hz rfl (x:=.ref TI) rfl ?_)
 refine wpAny_bind (wpAny_seqItems hTI rfl ?_)
 show wpAny _ _ (Builtin.SmallTypes.ownedTupleIsFree (.ref z) >>= _) _ _ _
 refine wpAny_bind ?_
 unfold Builtin.SmallTypes.ownedTupleIsFree
 refine wpAny_bind (wpAny_field hz rfl (x:=.none) rfl (wpAny_pure ?_))
 simp only [if_true]
 refine wpAny_bind (wpAny_rule ?_)
 refine wpAny_bind (wpAny_field hz rfl (x:=.ref TO) rfl ?_)
 refine wpAny_bind (wpAny_setField_rec hz (by simp) fun h₁ hz₁ hs₁=>?_)
 replace hz₁:IsZip h₁ z TI TO .ellipsis:=hz₁
 refine wpAny_bind ?_
 simp only [List.zipIdx_cons,List.zipIdx_nil,List.forIn_cons,List.forIn_nil]
 refine wpAny_bind (wpAny_bind (wpAny_onRaise ?_))
 show wpAny _ _ (Builtin.SmallTypes.nextOf (.ref i1) >>= _) _ _ _
 cases hx:xs[k1]? with
 | none =>
  refine wpAny_bind (g9 hh (h1.at fun o e=>hs₁.extBut _ _ D.i1z e) (hl1.at fun o e=>hs₁.extBut _ _ D1.z e) hx fun h₂ e hs₂ he=>?_)
  obtain ⟨oe,hoe,hce⟩:=he
  have hz₂:IsZip h₂ z TI TO .ellipsis:=hs₂ _ _ D.i1z.symm hz₁
  have hez:e≠z:=fun x=>by subst x;rw [hz₂] at hoe;cases hoe;simp at hce
  refine wpAny_setField_rec hz₂ (by simp) fun h₃ _ hs₃=>hE h₃ e (fun c o c1 _ c3 _ _ x=>hs₃.extBut _ _ c1 (hs₂ _ _ c3 (hs₁.extBut _ _ c1 x))) ⟨oe,hs₃.extBut _ _ hez hoe,hce⟩
 | some x =>
  refine wpAny_bind (cN (h1.at fun o e=>hs₁.extBut _ _ D.i1z e) (hl1.at fun o e=>hs₁.extBut _ _ D1.z e) hx fun h₂ h1₂ hs₂=>wpAny_pure ?_)
  have hTO₂:bB h₂ TO a b c:=hs₂.extBut _ _ D.TOi1 (hs₁.extBut _ _ D.TOz hTO)
  refine wpAny_bind (wpAny_seqItems hTO₂ rfl ?_)
  refine wpAny_bind (dh hTO₂ fun h₃ hTO₃ hs₃=>?_)
  replace hTO₃:bB h₃ TO x b c:=hTO₃
  refine wpAny_bind (wpAny_letGo (wpAny_pure ?_))
  have kk3:∀ q o,q≠z->q≠TO->q≠i1->s.heap.get? q=some o->h₃.get? q=some o:=fun q o c1 c2 c3 e=>hs₃.extBut _ _ c2 (hs₂.extBut _ _ c3 (hs₁.extBut _ _ c1 e))
  have hz₃:IsZip h₃ z TI TO .ellipsis:=hs₃.extBut _ _ D.TOz.symm (hs₂.extBut _ _ D.i1z.symm hz₁)
  refine wpAny_bind (wpAny_bind (wpAny_onRaise ?_))
  show wpAny _ _ (Builtin.SmallTypes.nextOf (.ref i2) >>= _) _ _ _
  cases hy:ys[k2]? with
  | none =>
   refine wpAny_bind (g9 hh (h2.at fun o e=>kk3 _ o D.i2z D.TOi2.symm D.i12.symm e) (hl2.at fun o e=>kk3 _ o D2.z D2.o D2.i1 e) hy fun h₄ e hs₄ he=>?_)
   obtain ⟨oe,hoe,hce⟩:=he
   have hz₄:IsZip h₄ z TI TO .ellipsis:=hs₄ _ _ D.i2z.symm hz₃
   have hez:e≠z:=fun x=>by subst x;rw [hz₄] at hoe;cases hoe;simp at hce
   refine wpAny_setField_rec hz₄ (by simp) fun h₅ _ hs₅=>hE h₅ e (fun c o c1 c2 c3 c4 _ x=>hs₅.extBut _ _ c1 (hs₄ _ _ c4 (kk3 c o c1 c2 c3 x))) ⟨oe,hs₅.extBut _ _ hez hoe,hce⟩
  | some y =>
   have hv:zs[k3]?=none:=by
    rcases hend with h | h | h
    ·rw [hx] at h;cases h
    ·rw [hy] at h;cases h
    ·exact h
   refine wpAny_bind (cN (h2.at fun o e=>kk3 _ o D.i2z D.TOi2.symm D.i12.symm e) (hl2.at fun o e=>kk3 _ o D2.z D2.o D2.i1 e) hy fun h₄ h2₄ hs₄=>wpAny_pure ?_)
   have hTO₄:bB h₄ TO x b c:=hs₄.extBut _ _ D.TOi2 hTO₃
   refine wpAny_bind (wpAny_seqItems hTO₄ rfl ?_)
   refine wpAny_bind (dh hTO₄ fun h₅ hTO₅ hs₅=>?_)
   refine wpAny_bind (wpAny_letGo (wpAny_pure ?_))
   have k5:∀ q o,q≠z->q≠TO->q≠i1->q≠i2->s.heap.get? q=some o->h₅.get? q=some o:=fun q o c1 c2 c3 c4 e=>hs₅.extBut _ _ c2 (hs₄.extBut _ _ c4 (kk3 q o c1 c2 c3 e))
   have hz₅:IsZip h₅ z TI TO .ellipsis:=hs₅.extBut _ _ D.TOz.symm (hs₄.extBut _ _ D.i2z.symm hz₃)
   refine wpAny_bind (wpAny_bind (wpAny_onRaise ?_))
   show wpAny _ _ (Builtin.SmallTypes.nextOf (.ref i3) >>= _) _ _ _
   refine wpAny_bind (g9 hh (h3.at fun o e=>k5 _ o D.FY D.Cs.symm D.Jq.symm D.Ou.symm e) (hl3.at fun o e=>k5 _ o D3.z D3.o D3.i1 D3.i2 e) hv fun h₆ e hs₆ he=>?_)
   obtain ⟨oe,hoe,hce⟩:=he
   have hz₆:IsZip h₆ z TI TO .ellipsis:=hs₆ _ _ D.FY.symm hz₅
   have hez:e≠z:=fun x=>by subst x;rw [hz₆] at hoe;cases hoe;simp at hce
   refine wpAny_setField_rec hz₆ (by simp) fun h₇ _ hs₇=>hE h₇ e (fun c o c1 c2 c3 c4 c5 x=>hs₇.extBut _ _ c1 (hs₆ _ _ c5 (k5 c o c1 c2 c3 c4 x))) ⟨oe,hs₇.extBut _ _ hez hoe,hce⟩
end
end L2
namespace L2
open PySem PySem.Spec PyProof.Rows
section
variable {prog:Program} {w:World} {A:Around} {E:Value->Shared->Prop} {s:Shared}
variable {b1 b2 b3:Bool} {z TI TO i1 i2 i3 l1 l2 l3:Addr} {k1 k2 k3:Nat} {xs ys zs:Array Value} {x y v a b c:Value}
theorem mh {Q:Option Value->Shared->Prop} (D:Z3 z TI TO i1 i2 i3) (D1:L3 z TO i1 i2 i3 l1) (D2:L3 z TO i1 i2 i3 l2) (D3:L3 z TO i1 i2 i3 l3)
  (hz:IsZip s.heap z TI TO .none) (hTI:bB s.heap TI (.ref i1) (.ref i2) (.ref i3)) (hTO:bB s.heap TO a b c)
  (h1:dW s.heap b1 i1 l1 k1) (h2:dW s.heap b2 i2 l2 k2) (h3:dW s.heap b3 i3 l3 k3) (hl1:f6 s.heap b1 l1 xs) (hl2:f6 s.heap b2 l2 ys) (hl3:f6 s.heap b3 l3 zs) (hx:xs[k1]?=some x) (hy:ys[k2]?=some y) (hv:zs[k3]?=some v)
  (hQ:∀ h',IsZip h' z TI TO (rawInt s.heap.objs.size)->bB h' TO x y v->dW h' b1 i1 l1 (k1+1)->dW h' b2 i2 l2 (k2+1)->dW h' b3 i3 l3 (k3+1)->bB h' s.heap.objs.size x y v->h'.objs.size=s.heap.objs.size+1 ->
   (∀ c o,c≠z->c≠TO->c≠i1->c≠i2->c≠i3->s.heap.get? c=some o->h'.get? c=some o)->Q (some (.ref s.heap.objs.size)) { s with heap:=h' }) :
  wpAny (model prog w) A (pyNext (.ref z)) Q E s:=by
 have hT:s.TypeIs (.ref z) "zip" := ⟨_,hz,rfl⟩
 unfold pyNext
 exact wpAny_bind (wpAny_attempt (wpAny_callSpecial?_slot (name:=Str.ofString "__next__") hT F.slot_zip_next
  (wpAny_call_entry F.slot_zip_next hT F.entry_zip_next
   (yy D D1 D2 D3 hz hTI hTO h1 h2 h3 hl1 hl2 hl3 hx hy hv fun h' a1 a2 a3 a4 a5 a6 a7 a8=>wpAny_pure (hQ h' a1 a2 a3 a4 a5 a6 a7 a8)) (F.args_zip_next_1 _))))
theorem nA {Q:Option Value->Shared->Prop} (hh:A.handled=none) (D:Z3 z TI TO i1 i2 i3) (D1:L3 z TO i1 i2 i3 l1) (D2:L3 z TO i1 i2 i3 l2) (D3:L3 z TO i1 i2 i3 l3)
  (hz:IsZip s.heap z TI TO .none) (hTI:bB s.heap TI (.ref i1) (.ref i2) (.ref i3)) (hTO:bB s.heap TO a b c)
  (h1:dW s.heap b1 i1 l1 k1) (h2:dW s.heap b2 i2 l2 k2) (h3:dW s.heap b3 i3 l3 k3) (hl1:f6 s.heap b1 l1 xs) (hl2:f6 s.heap b2 l2 ys) (hl3:f6 s.heap b3 l3 zs) (hend:xs[k1]?=none\/ys[k2]?=none\/zs[k3]?=none)
  (hQ:∀ h',(∀ c o,c≠z->c≠TO->c≠i1->c≠i2->c≠i3->s.heap.get? c=some o->h'.get? c=some o)->Q none { s with heap:=h' }):wpAny (model prog w) A (pyNext (.ref z)) Q E s:=by
 have hT:s.TypeIs (.ref z) "zip" := ⟨_,hz,rfl⟩
 unfold pyNext
 refine wpAny_bind (wpAny_attempt (wpAny_callSpecial?_slot (name:=Str.ofString "__next__") hT F.slot_zip_next
  (wpAny_call_entry F.slot_zip_next hT F.entry_zip_next (AW hh D D1 D2 D3 hz hTI hTO h1 h2 h3 hl1 hl2 hl3 hend fun h' e hk he=>?_) (F.args_zip_next_1 _))))
 obtain ⟨o,ho,hc⟩:=he
 refine wpAny_bind (wpAny_isInstance (T := "StopIteration") (b:=true) ⟨o,ho,hc⟩ isSubtype_stop ?_)
 exact wpAny_pure (hQ _ hk)
end
abbrev HQ (h:Heap) (b1 b2 b3:Bool) (l1 l2 l3:Addr):Heap:=(Dj h b1 b2 l1 l2).push (Cf b3 l3)
abbrev HL (h:Heap) (b1 b2 b3:Bool) (l1 l2 l3:Addr):Heap:=(HQ h b1 b2 b3 l1 l2 l3).push { cls:=.type "tuple", data:=.seq #[.ref h.objs.size,.ref (DY h b1 l1).objs.size,.ref (Dj h b1 b2 l1 l2).objs.size] }
abbrev HK (h:Heap) (b1 b2 b3:Bool) (l1 l2 l3:Addr):Heap:=(HL h b1 b2 b3 l1 l2 l3).push { cls:=.type "tuple", data:=.seq #[.none,.none,.none] }
abbrev DU (h:Heap) (b1 b2 b3:Bool) (l1 l2 l3:Addr):Heap:=(HK h b1 b2 b3 l1 l2 l3).push { cls:=.type "zip", data:=.fields #[.none,.bool false,.bool false,.ref (HQ h b1 b2 b3 l1 l2 l3).objs.size,.ref (HL h b1 b2 b3 l1 l2 l3).objs.size] }
theorem oC (b1 b2 b3:Bool) (l1 l2 l3:Addr) (xs ys zs:Array Value) :
  Meets (Builtin.«zip.__new__» ⟨[.type "zip", .ref l1,.ref l2,.ref l3],[]⟩) (fun _ R s=>f6 s.heap b1 l1 xs/\f6 s.heap b2 l2 ys/\f6 s.heap b3 l3 zs ∧
   R (.ok (.ret (.ref (HK s.heap b1 b2 b3 l1 l2 l3).objs.size))) { s with heap:=DU s.heap b1 b2 b3 l1 l2 l3 }) :=
 .of_wp fun prog w A R s h=>by
  obtain ⟨hp,g,d,tk,os⟩:=s;obtain ⟨hl1,hl2,hl3,h⟩:=h
  have hsub:=sub_zip
  have hL1:f6 (Shared.heap ⟨hp,g,d,tk,os⟩) b1 l1 xs:=hl1
  have hL2:f6 (Shared.heap ⟨hp.push (Cf b1 l1),g,d,tk,os⟩) b2 l2 ys:=f6.push hl2 _
  have hL3:f6 (Shared.heap ⟨(hp.push (Cf b1 l1)).push (Cf b2 l2),g,d,tk,os⟩) b3 l3 zs:=f6.push (f6.push hl3 _) _
  wp_walk using fR hL1,fR hL2,fR hL3
  exact ⟨_,rfl,h⟩
section
variable {prog:Program} {w:World} {A:Around} {E:Value->Shared->Prop} {s:Shared}
theorem xH {b1 b2 b3:Bool} {l1 l2 l3:Addr} {xs ys zs:Array Value} {Q:Value->Shared->Prop} (hl1:f6 s.heap b1 l1 xs) (hl2:f6 s.heap b2 l2 ys) (hl3:f6 s.heap b3 l3 zs)
  (h:∀ h',IsZip h' (s.heap.objs.size+5) (s.heap.objs.size+3) (s.heap.objs.size+4) .none->bB h' (s.heap.objs.size+3) (.ref s.heap.objs.size) (.ref (s.heap.objs.size+1)) (.ref (s.heap.objs.size+2)) ->
   bB h' (s.heap.objs.size+4) .none .none .none->dW h' b1 s.heap.objs.size l1 0->dW h' b2 (s.heap.objs.size+1) l2 0->dW h' b3 (s.heap.objs.size+2) l3 0 ->
   (∀ c o,s.heap.get? c=some o->h'.get? c=some o)->Q (.ref (s.heap.objs.size+5)) { s with heap:=h' }) :
  wpAny (model prog w) A (call (.type "zip") [.ref l1,.ref l2,.ref l3]) Q E s:=by
 refine callType_new F.called_zip (by decide) (oA _ _ _) (p4 _ _ _) (fun obj=>F.initArgs_range_3 obj _ _ _) F.entry_zip_new
  (oC b1 b2 b3 l1 l2 l3 xs ys zs) ⟨hl1,hl2,hl3,?_⟩
 have z1:(DY s.heap b1 l1).objs.size=s.heap.objs.size+1:=Heap.size_push ..
 have z2:(Dj s.heap b1 b2 l1 l2).objs.size=s.heap.objs.size+2:=by rw [Heap.size_push,z1]
 have z3:(HQ s.heap b1 b2 b3 l1 l2 l3).objs.size=s.heap.objs.size+3:=by rw [Heap.size_push,z2]
 have z4:(HL s.heap b1 b2 b3 l1 l2 l3).objs.size=s.heap.objs.size+4:=by rw [Heap.size_push,z3]
 have z5:(HK s.heap b1 b2 b3 l1 l2 l3).objs.size=s.heap.objs.size+5:=by rw [Heap.size_push,z4]
 have g6:(DU s.heap b1 b2 b3 l1 l2 l3).get? (HK s.heap b1 b2 b3 l1 l2 l3).objs.size=some _:=Heap.get?_push_size _ rfl
 have g5:(DU s.heap b1 b2 b3 l1 l2 l3).get? (HL s.heap b1 b2 b3 l1 l2 l3).objs.size=some _:=Heap.get?_push_of_some _ (Heap.get?_push_size _ rfl)
 have g4:(DU s.heap b1 b2 b3 l1 l2 l3).get? (HQ s.heap b1 b2 b3 l1 l2 l3).objs.size=some _:=Heap.get?_push_of_some _ (Heap.get?_push_of_some _ (Heap.get?_push_size _ rfl))
 have g3:(DU s.heap b1 b2 b3 l1 l2 l3).get? (Dj s.heap b1 b2 l1 l2).objs.size=some _:=Heap.get?_push_of_some _ (Heap.get?_push_of_some _ (Heap.get?_push_of_some _ (Heap.get?_push_size _ rfl)))
 have g2:(DU s.heap b1 b2 b3 l1 l2 l3).get? (DY s.heap b1 l1).objs.size=some _:=Heap.get?_push_of_some _ (Heap.get?_push_of_some _ (Heap.get?_push_of_some _ (Heap.get?_push_of_some _ (Heap.get?_push_size _ rfl))))
 have g1:(DU s.heap b1 b2 b3 l1 l2 l3).get? s.heap.objs.size=some _:=Heap.get?_push_of_some _ (Heap.get?_push_of_some _ (Heap.get?_push_of_some _ (Heap.get?_push_of_some _ (Heap.get?_push_of_some _ (Heap.get?_push_size _ rfl)))))
 show _/\_
 rw [z3,z4,z5] at g6
 rw [z1,z2,z3] at g4
 rw [z4] at g5
 rw [z2] at g3
 rw [z1] at g2
 rw [z5]
 exact ⟨⟨_,g6,rfl⟩,h _ g6 g4 g5 (dW.new _ b1 _ _ g1) (dW.new _ b2 _ _ g2) (dW.new _ b3 _ _ g3) fun c o x =>
  Heap.get?_push_of_some _ (Heap.get?_push_of_some _ (Heap.get?_push_of_some _ (Heap.get?_push_of_some _ (Heap.get?_push_of_some _ (Heap.get?_push_of_some _ x)))))⟩
end
def Ip (K : PySem.W.Frag) (b1 b2 b3 : Bool) (a1 a2 a3 : Addr) : It :=
  ⟨fun i H => ∃ xs ys zs x y v, kl K H b1 a1 xs /\ kl K H b2 a2 ys /\ kl K H b3 a3 zs /\ xs[i]? = some x /\ ys[i]? = some y /\ zs[i]? = some v,
   fun i H r H' => ∃ p x y v, H p = none /\ r = .ref p /\ H' = upd H p (.tup [x, y, v]) /\ (∀ xs, kl K H b1 a1 xs -> xs[i]? = some x) /\ (∀ ys, kl K H b2 a2 ys -> ys[i]? = some y) /\ (∀ zs, kl K H b3 a3 zs -> zs[i]? = some v),
   fun i H => ∃ xs ys zs, kl K H b1 a1 xs /\ kl K H b2 a2 ys /\ kl K H b3 a3 zs /\ (xs.length <= i \/ ys.length <= i \/ zs.length <= i)⟩
theorem qU {X:Cx} {pins:List (Addr×Obj)} {σ:St} {H:Hp} {s:Shared} {b:Bool} {z TI TO i1 i2 i3 a:Addr} {xs:List V} (I:Inv X pins σ H s) (h:kl X.K H b a xs) (hf:∀ b∈[z,TO,i1,i2,i3,TI],k9 X pins H b):L3 z TO i1 i2 i3 a :=
 ⟨cA I h (hf z (by simp)),cA I h (hf TO (by simp)),cA I h (hf i1 (by simp)),cA I h (hf i2 (by simp)),cA I h (hf i3 (by simp))⟩
theorem yA {P:Program} {w:World} {K:PySem.W.Frag} {elts:List Expr} {x1:Nat} {tp:Pos} (b1 b2 b3:Bool) (a1 a2 a3 z TI TO i1 i2 i3:Addr) (D:Z3 z TI TO i1 i2 i3) :
  Turn P w K (.Tuple elts x1 tp) (Ip K b1 b2 b3 a1 a2 a3) [z,TO,i1,i2,i3,TI] z (fun i h=>IsZip h z TI TO .none/\bB h TI (.ref i1) (.ref i2) (.ref i3)/\(∃ a b c,bB h TO a b c)/\dW h b1 i1 a1 i/\dW h b2 i2 a2 i/\dW h b3 i3 a3 i) where
 mem:=by simp
 obj:=fun i h st b hb=>by
  obtain ⟨hz,hTI,⟨a,c,d,hTO⟩,h1,h2,h3⟩:=st
  simp only [List.mem_cons,List.mem_nil_iff,or_false] at hb
  rcases hb with q | q | q | q | q | q <;> subst q
  ·exact ⟨_,hz,fun v z=>by cases z⟩
  ·exact ⟨_,hTO,fun v z=>by cases z⟩
  ·obtain ⟨o,vs,e,d⟩:=h1.obj
   exact ⟨o,e,fun v z=>by rw [d] at z;cases z⟩
  ·obtain ⟨o,vs,e,d⟩:=h2.obj
   exact ⟨o,e,fun v z=>by rw [d] at z;cases z⟩
  ·obtain ⟨o,vs,e,d⟩:=h3.obj
   exact ⟨o,e,fun v z=>by rw [d] at z;cases z⟩
  ·exact ⟨_,hTI,fun v z=>by cases z⟩
 keep:=fun i h h' st k=>by
  obtain ⟨hz,hTI,⟨a,c,d,hTO⟩,h1,h2,h3⟩:=st
  exact ⟨k z (by simp) _ hz,k TI (by simp) _ hTI,⟨a,c,d,k TO (by simp) _ hTO⟩,h1.at fun o e=>k i1 (by simp) o e,h2.at fun o e=>k i2 (by simp) o e,h3.at fun o e=>k i3 (by simp) o e⟩
 item:=by
  intro X hP hw hK hc i pins s σ H E I hf st hg
  subst hP hw hK
  obtain ⟨xs,ys,zs,x,y,v,hq1,hq2,hq3,hx,hy,hv⟩:=hg
  obtain ⟨its1,rv1,p1,hz1⟩:=I.row hq1
  obtain ⟨its2,rv2,p2,hz2⟩:=I.row hq2
  obtain ⟨its3,rv3,p3,hz3'⟩:=I.row hq3
  obtain ⟨u1,hu1,ru1⟩:=rv1.get hx
  obtain ⟨u2,hu2,ru2⟩:=rv2.get hy
  obtain ⟨u3,hu3,ru3⟩:=rv3.get hv
  obtain ⟨hz,hTI,⟨a,c,d,hTO⟩,h1,h2,h3⟩:=st
  obtain ⟨oi1,vs1,ei1,di1⟩:=h1.obj
  obtain ⟨oi2,vs2,ei2,di2⟩:=h2.obj
  obtain ⟨oi3,vs3,ei3,di3⟩:=h3.obj
  refine mh D (qU I hq1 hf) (qU I hq2 hf) (qU I hq3 hf) hz hTI hTO h1 h2 h3 p1 p2 p3 (x:=u1) (y:=u2) (v:=u3) (by simpa using hu1) (by simpa using hu2) (by simpa using hu3) fun h' g1 g2 g3 g4 g4' g5 g6 g7=>⟨_,rfl,?_⟩
  refine wpAny_letOwnedTupleGo_zip (s:={ s with heap:=h' }) g1 fun hN hz3 hs3=>?_
  have hnew:H s.heap.objs.size=none:=I.bu.fresh (Nat.le_refl _)
  have lt:∀ {c:Addr} {o:Obj},s.heap.get? c=some o->c≠s.heap.objs.size:=fun e=>Nat.ne_of_lt (Heap.lt_size e)
  have keep3:∀ b o,b ∉ [z,TO,i1,i2,i3,TI]->s.heap.get? b=some o->hN.get? b=some o:=fun b o hb q=>by
   simp only [List.mem_cons,List.mem_nil_iff,or_false,not_or] at hb
   exact (hs3.2 b hb.1).trans (g7 b o hb.1 hb.2.1 hb.2.2.1 hb.2.2.2.1 hb.2.2.2.2.1 q)
  have hT3:hN.get? s.heap.objs.size=some { cls:=.type "tuple", data:=.seq #[u1,u2,u3] }:=(hs3.2 _ (lt hz).symm).trans g5
  have I3:Inv X pins σ (upd H s.heap.objs.size (.tup [x,y,v])) { s with heap:=hN,toks:=s.toks } :=
   I.mj (ch:=[z,TO,i1,i2,i3,TI]) keep3 hf (Nat.le_refl _) (fun b hb=>by
    simp only [List.mem_cons,List.mem_nil_iff,or_false] at hb
    rcases hb with q | q | q | q | q | q <;> subst q
    ·exact ⟨_,hz⟩
    ·exact ⟨_,hTO⟩
    ·exact ⟨_,ei1⟩
    ·exact ⟨_,ei2⟩
    ·exact ⟨_,ei3⟩
    ·exact ⟨_,hTI⟩)
    ⟨by show 3<=sizeLine;decide,[u1,u2,u3],.cons ru1 (.cons ru2 (.cons ru3 .nil)),⟨_,hT3,rfl,_,rfl⟩⟩
  refine ⟨.ref s.heap.objs.size,_,I3,rfl,⟨_,x,y,v,hnew,rfl,rfl,fun zs' hzs=>by rw [I.lJ hzs hq1];exact hx,fun zs' hzs=>by rw [I.lJ hzs hq2];exact hy,fun zs' hzs=>by rw [I.lJ hzs hq3];exact hv⟩,
   ⟨hz3,(hs3.2 TI D.TIz).trans (g7 TI _ D.TIz D.TITO D.TIi1 D.TIi2 D.ME hTI),⟨_,_,_,(hs3.2 TO D.TOz).trans g2⟩,g3.at fun o e=>(hs3.2 i1 D.i1z).trans e,g4.at fun o e=>(hs3.2 i2 D.i2z).trans e,g4'.at fun o e=>(hs3.2 i3 D.FY).trans e⟩,fun b hb=>?_⟩
  have nb:b≠s.heap.objs.size:=by
   simp only [List.mem_cons,List.mem_nil_iff,or_false] at hb
   rcases hb with q | q | q | q | q | q <;> subst q
   ·exact lt hz
   ·exact lt hTO
   ·exact lt ei1
   ·exact lt ei2
   ·exact lt ei3
   ·exact lt hTI
  rw [aw nb]
  exact (hf b hb).1
 done:=by
  intro X hP hw hK hc i pins s σ H E I hf st hg
  subst hP hw hK
  obtain ⟨xs,ys,zs,hq1,hq2,hq3,hend⟩:=hg
  obtain ⟨its1,rv1,p1,hz1⟩:=I.row hq1
  obtain ⟨its2,rv2,p2,hz2⟩:=I.row hq2
  obtain ⟨its3,rv3,p3,hz3'⟩:=I.row hq3
  obtain ⟨hz,hTI,⟨a,c,d,hTO⟩,h1,h2,h3⟩:=st
  have l1:=rv1.length
  have l2:=rv2.length
  have l3:=rv3.length
  refine nA (I.ok.hd hc) D (qU I hq1 hf) (qU I hq2 hf) (qU I hq3 hf) hz hTI hTO h1 h2 h3 p1 p2 p3 ?_ fun h' k=>⟨rfl,?_⟩
  ·rcases hend with q | q | q
   ·exact .inl (by simp;omega)
   ·exact .inr (.inl (by simp;omega))
   ·exact .inr (.inr (by simp;omega))
  ·exact I.wO (t':=s.toks) (ch:=[z,TO,i1,i2,i3,TI]) (fun b u hb e=>by
    simp only [List.mem_cons,List.mem_nil_iff,or_false,not_or] at hb
    exact k b u hb.1 hb.2.1 hb.2.2.1 hb.2.2.2.1 hb.2.2.2.2.1 e) hf
 self:=fun _ _ _ _ _ st h=>by
  obtain ⟨hz,_⟩:=st
  exact wpAny_pyIter_zip hz h
theorem Ce (n:Nat):Z3 (n+5) (n+3) (n+4) n (n+1) (n+2):=by
 refine ⟨?_,?_,?_,?_,?_,?_,?_,?_,?_,?_,?_,?_,?_,?_,?_⟩ <;> (show @Ne Nat _ _;omega)
section
variable {X:Cx}
def Dr (K:PySem.W.Frag) (tl:TA):TI:=fun σ H R=>tl σ H fun vs H1=>∃ b1 b2 b3 a1 a2 a3,vs=[.ref a1,.ref a2,.ref a3]/\(∃ xs,kl K H1 b1 a1 xs)/\(∃ ys,kl K H1 b2 a2 ys)/\(∃ zs,kl K H1 b3 a3 zs)/\R (Ip K b1 b2 b3 a1 a2 a3) H1
theorem CF {elts:List Expr} {x1:Nat} {tp:Pos} {l1 l2 l3:Expr} {tl:TA} {p pos:Pos} (hg:Gl X "zip") (hm:X.mg "zip" = none) (hl:PA X [l1,l2,l3] tl) (hs:starEach [l1,l2,l3] X.env=[(false,eval l1 X.env),(false,eval l2 X.env),(false,eval l3 X.env)]:=by rfl) (hs2:starEach [l2,l3] X.env=[(false,eval l2 X.env),(false,eval l3 X.env)]:=by rfl) :
  PI X (.Tuple elts x1 tp) (.Call (.Name "zip" p) [l1,l2,l3] [] pos) (Dr X.K tl):=by
 intro pins s σ H R I h
 refine Call_ (gX I hg hm PyProof.Rows.boot_zip (PyProof.Rows.callWith_type1 (cF (hl pos pins s σ H _ I h) fun us s1 ⟨vs,H1,I1,r1,q1⟩=>?_) (by rw [hs,hs2]) (by rw [hs2];rfl)))
 obtain ⟨b1,b2,b3,a1,a2,a3,e,⟨xs,hq1⟩,⟨ys,hq2⟩,⟨zs,hq3⟩,q⟩:=q1
 subst e
 cases r1 with
 | cons r rr =>
  cases rr with
  | cons r' rr =>
   cases rr with
   | cons r'' rr =>
    cases rr
    cases (show _=Value.ref a1 from r)
    cases (show _=Value.ref a2 from r')
    cases (show _=Value.ref a3 from r'')
    obtain ⟨its1,rv1,p1,hz1⟩:=I1.row hq1
    obtain ⟨its2,rv2,p2,hz2⟩:=I1.row hq2
    obtain ⟨its3,rv3,p3,hz3⟩:=I1.row hq3
    refine xH p1 p2 p3 fun h' g1 g2 g3 g4 g5 g6 g7=>?_
    have I2:Inv X pins σ H1 { s1 with heap:=h' }:=I1.kept (t':=s1.toks) g7
    refine wpAny_pyIter_zip (s:={ s1 with heap:=h' }) g1 ?_
    refine ⟨s1.heap.objs.size+5,[s1.heap.objs.size+5,s1.heap.objs.size+4,s1.heap.objs.size,s1.heap.objs.size+1,s1.heap.objs.size+2,s1.heap.objs.size+3],_,_,H1,rfl,I2,
     yA b1 b2 b3 a1 a2 a3 _ _ _ _ _ _ (Ce s1.heap.objs.size),⟨g1,g2,⟨_,_,_,g3⟩,g4,g5,g6⟩,fun b hb=>?_,q⟩
    have hle:s1.heap.objs.size<=b:=by
     simp only [List.mem_cons,List.mem_nil_iff,or_false] at hb
     rcases hb with q | q | q | q | q | q
     ·rw [q];exact Nat.le_add_right _ 5
     ·rw [q];exact Nat.le_add_right _ 4
     ·rw [q];exact Nat.le_refl _
     ·rw [q];exact Nat.le_add_right _ 1
     ·rw [q];exact Nat.le_add_right _ 2
     ·rw [q];exact Nat.le_add_right _ 3
    exact I1.pS hle (I1.bu.fresh hle)
end
end L2
namespace L2
open PySem PySem.Spec PyProof.Rows
section
variable {M:Model} {A:Around} {E:Value->Shared->Prop} {s:Shared}
theorem qV {base:Heap} {env:Env} {outer:List Env} {L e:Addr} {oe:Obj} {vs:Array Value} {head:Value} {hadNext:Bool} {Q:Unit->Shared->Prop}
  (hfr:A.frames=some (env::outer)) (hl:s.heap.FunFrames base (env::outer)) (hf:env.frame=some L)
  (he:s.heap.get? e=some oe) (hd:oe.data=.fields vs) (hsz:1<vs.size)
  (h:∀ h' T oT ts,h'.get? e=some (Obj.mapFields (·.setIfInBounds 1 (.ref T)) oe)->s.heap.objs.size<=T->T≠e->h'.get? T=some oT->oT.data=.fields ts->ts[3]?=some (rawInt L) ->
   (∀ b o,b≠e->b ∉ uY (env::outer)->s.heap.get? b=some o->h'.get? b=some o)->(∀ b o,b≠e->s.heap.get? b=some o->∃ sl,h'.get? b=some { o with slots:=sl })->Q () { s with heap:=h' }) :
  wpAny M A (do let a ← frameOf env;let pl ← entryPlaceOf L hadNext;let b ← EntryCells.newEntry head a .none (rawInt L) .none pl;setField (.ref e) 1 b) Q E s:=by
 have hene:e ∉ (env::outer).filterMap (·.frame):=fun hm=>by
  obtain ⟨_,o,ho,hnf⟩:=hl.mem hm
  rw [he] at ho;injection ho with ho;subst ho;exact hnf vs hd
 refine wpAny_bind (wpAny_frameOf_fun hfr hl hf fun h₁ hs₁=>?_)
 refine wpAny_bind (wpAny_entryPlaceOf fun pl hpl=>?_)
 unfold EntryCells.newEntry newFields
 refine wpAny_bind (wpAny_newObj_type ?_ (hpl.sizeOk5 _ _ _ _ _))
 have he₁:h₁.get? e=some oe:=(hs₁.2.1 e hene).trans he
 have he₂:=Heap.get?_push_of_some (h:=h₁) { cls:=.type "traceback", dict:=none,data:=.fields ([head,.ref L,.none,rawInt L,.none]++(if pl.isEmpty then List.replicate 6 Value.none else pl)).toArray } he₁
 have hTe:h₁.objs.size≠e:=Nat.ne_of_gt (Heap.lt_size he₁)
 have hd₃:=Obj.data_mapFields hd (·.setIfInBounds 1 (Value.ref h₁.objs.size))
 have he₃:=Heap.get?_update_self (Obj.mapFields (·.setIfInBounds 1 (Value.ref h₁.objs.size))) he₂ (Obj.isFreed_of_fields hd₃)
 have hT₃:=(Heap.get?_update_other (h₁.push { cls:=.type "traceback", dict:=none,data:=.fields ([head,.ref L,.none,rawInt L,.none]++(if pl.isEmpty then List.replicate 6 Value.none else pl)).toArray })
  (Obj.mapFields (·.setIfInBounds 1 (Value.ref h₁.objs.size))) (Ne.symm hTe)).trans (Heap.get?_push_size h₁ rfl)
 have keep:∀ b o,b≠e->h₁.get? b=some o ->
   ((h₁.push { cls:=.type "traceback", dict:=none,data:=.fields ([head,.ref L,.none,rawInt L,.none]++(if pl.isEmpty then List.replicate 6 Value.none else pl)).toArray }).update e (Obj.mapFields (·.setIfInBounds 1 (Value.ref h₁.objs.size)))).get? b=some o:=fun b o hbe hb=>by
  rw [Heap.get?_update_other _ _ (Ne.symm hbe)]
  exact Heap.get?_push_of_some _ hb
 refine wpAny_setField he₂ hd hsz (h _ h₁.objs.size _ _ he₃ ?_ hTe hT₃ rfl (by first | (simp;done) | (rcases hpl with rfl | ⟨_,_,_,_,_,_,_,rfl⟩ <;> simp)) ?_ ?_)
 ·exact Nat.le_of_eq hs₁.1.symm
 ·intro b o hbe hbf hb
  exact keep b o hbe ((hs₁.2.1 b hbf).trans hb)
 ·intro b o hbe hb
  obtain ⟨sl,hs⟩:=hs₁.2.2 b o hb
  exact ⟨sl,keep b _ hbe hs⟩
def Lies (h:Heap) (e:Addr) (vs:Array Value) (to:Option Addr):Prop:=match to with
 | none=>vs[1]?=some .none
 | some T=>vs[1]?=some (.ref T)/\T≠e/\∃ oT ts,h.get? T=some oT/\oT.data=.fields ts/\ts[3]?=some .none
theorem xw {base:Heap} {env:Env} {outer:List Env} {L e:Addr} {oe:Obj} {vs:Array Value} {to:Option Addr} {Q:Unit->Shared->Prop}
  (hfr:A.frames=some (env::outer)) (hl:s.heap.FunFrames base (env::outer)) (hf:env.frame=some L)
  (he:s.heap.get? e=some oe) (hd:oe.data=.fields vs) (hto:Lies s.heap e vs to)
  (h:∀ h' T oT ts,h'.get? e=some (Obj.mapFields (·.setIfInBounds 1 (.ref T)) oe)->s.heap.objs.size<=T->T≠e->h'.get? T=some oT->oT.data=.fields ts->ts[3]?=some (rawInt L) ->
   (∀ b o,b≠e->(∀ T,to=some T->b≠T)->b ∉ uY (env::outer)->s.heap.get? b=some o->h'.get? b=some o) ->
   (∀ b o,b≠e->(∀ T,to=some T->b≠T)->s.heap.get? b=some o->∃ sl,h'.get? b=some { o with slots:=sl })->(∀ b o,s.heap.get? b=some o->∃ o',h'.get? b=some o')->Q () { s with heap:=h' }) :
  wpAny M A (noteFrame (.ref e) env) Q E s:=by
 unfold noteFrame
 simp only [hf]
 cases to with
 | none =>
  have h1:vs[1]?=some .none:=hto
  refine wpAny_bind (wpAny_field he hd h1 ?_)
  rw [if_neg (by decide)]
  refine qV hfr hl hf he hd (Array.getElem?_eq_some_iff.mp h1).1 fun h' T oT ts a1 a2 a3 a4 a5 a6 a7 a8=>?_
  refine h h' T oT ts a1 a2 a3 a4 a5 a6 (fun b o n1 _ n2 q=>a7 b o n1 n2 q) (fun b o n1 _ q=>a8 b o n1 q) fun b o q=>?_
  by_cases z:b=e
  ·subst z;exact ⟨_,a1⟩
  ·obtain ⟨sl,r⟩:=a8 b o z q;exact ⟨_,r⟩
 | some T0 =>
  obtain ⟨h1,hTe,oT,ts,hT,hdT,h3⟩:=hto
  refine wpAny_bind (wpAny_field he hd h1 ?_)
  rw [if_pos (show (Value.ref T0 != Value.none)=true from by simp)]
  refine wpAny_bind (wpAny_field hT hdT h3 ?_)
  rw [if_neg (show ¬ ((Value.none==rawInt L)=true) from by simp [rawInt])]
  refine wpAny_bind (wpAny_setField hT hdT (Array.getElem?_eq_some_iff.mp h3).1 ?_)
  have other:∀ b,b≠T0->(s.heap.update T0 (Obj.mapFields (·.setIfInBounds 3 Value.none))).get? b=s.heap.get? b:=fun b hb=>Heap.get?_update_other _ _ (Ne.symm hb)
  have noRecord:∀ b o,s.heap.get? b=some o->(∀ vs,o.data≠.fields vs)->b≠T0:=fun b o hb hnf q=>by
   rw [q,hT] at hb;injection hb with hb;subst hb;exact hnf ts hdT
  have hT2:=Heap.get?_update_self (Obj.mapFields (·.setIfInBounds 3 Value.none)) hT (Obj.isFreed_of_fields (Obj.data_mapFields hdT _))
  refine qV hfr (hl.of_keeps fun b o hb hnf=>⟨o,(other b (noRecord b o hb hnf)).trans hb,rfl⟩) hf ((other e (Ne.symm hTe)).trans he) hd (Array.getElem?_eq_some_iff.mp h1).1 fun h' T oT' ts' a1 a2 a3 a4 a5 a6 a7 a8=>?_
  refine h h' T oT' ts' a1 (by simpa [Heap.update] using a2) a3 a4 a5 a6 (fun b o n1 n2 n3 q=>a7 b o n1 n3 ((other b (n2 T0 rfl)).trans q)) (fun b o n1 n2 q=>a8 b o n1 ((other b (n2 T0 rfl)).trans q)) fun b o q=>?_
  by_cases z:b=e
  ·subst z;exact ⟨_,a1⟩
  ·by_cases z2:b=T0
   ·subst z2
    obtain ⟨sl,r⟩:=a8 b _ z hT2;exact ⟨_,r⟩
   ·obtain ⟨sl,r⟩:=a8 b o z ((other b z2).trans q);exact ⟨_,r⟩
end
end L2
namespace L2
open PySem PySem.Spec PyProof.Rows
def kq (C:Addr) (dd:Option Addr) (e:Addr):HO:=.ext fun h=>∃ t,h.get? e=some ⟨.ref C,dd,.fields #[.ref t,.none,.none,.none,.bool false,.none],#[]⟩
def F4 (C:Addr) (dd:Option Addr) (e T:Addr):HO:=.ext fun h=>∃ vs,h.get? e=some ⟨.ref C,dd,.fields vs,#[]⟩/\vs[1]?=some (.ref T)
def Rh (fl:Value) (T:Addr):HO:=.ext fun h=>∃ oT ts,h.get? T=some oT/\oT.data=.fields ts/\ts[3]?=some fl
def oU (Hc:Hp) (e T C:Addr) (dd:Option Addr) (fl:Value):Hp:=upd (upd Hc T (Rh fl T)) e (F4 C dd e T)
theorem ug {Hc:Hp} {e T C:Addr} {dd:Option Addr} {fl:Value}:oU Hc e T C dd fl e=some (F4 C dd e T):=aE
theorem qQ {Hc:Hp} {e T C:Addr} {dd:Option Addr} {fl:Value} (n:T≠e):oU Hc e T C dd fl T=some (Rh fl T):=by unfold oU;rw [aw n,aE]
theorem mH {Hc:Hp} {e T C b:Addr} {dd:Option Addr} {fl:Value} (n:b≠e) (n2:b≠T):oU Hc e T C dd fl b=Hc b:=by unfold oU;rw [aw n,aw n2]
section
variable {X:Cx} {pins:List (Addr×Obj)} {σ:St} {H:Hp} {s:Shared}
theorem Inv.note {Hc:Hp} {e C:Addr} {dd:Option Addr} {to:Option Addr} {vs:Array Value} {φ:Heap->Prop} {Q:Unit->Shared->Prop} {E:Value->Shared->Prop} (I:Inv X pins σ H s) (hst:X.stack=X.env::X.outer) (hf:X.env.frame=some X.env.locals)
  (he:H e=some (.ext φ)) (hx:s.heap.get? e=some ⟨.ref C,dd,.fields vs,#[]⟩) (lies:Lies s.heap e vs to) (hT:∀ T,to=some T->(∃ ψ,H T=some (.ext ψ))/\Hc T=none) (hc:∀ b,b≠e->(∀ T,to=some T->b≠T)->Hc b=H b)
  (h:∀ h' T,Hc T=none->T≠e->Inv X pins σ (oU Hc e T C dd (rawInt X.env.locals)) { s with heap:=h' }->Q () { s with heap:=h' }) :
  wpAny (model X.prog X.w) X.A (noteFrame (.ref e) X.env) Q E s:=by
 have hl:=I.stack
 have hfr:=I.ok.frames
 have sf:=I.nR
 rw [hst] at hl hfr sf
 refine xw (base:=X.base) hfr hl hf hx rfl lies fun h' T oT ts a1 a2 a3 a4 a5 a6 a7 a8 a9=>?_
 have hTn:H T=none:=I.bu.fresh a2
 have nT:∀ b u,H b=some u->b≠T:=fun b u q z=>by rw [z,hTn] at q;cases q
 have ext_ne:∀ b u,H b=some u->(∀ ψ,u≠.ext ψ)->b≠e/\∀ T0,to=some T0->b≠T0:=by
  intro b u q hu
  refine ⟨fun z=>?_,fun T0 z w=>?_⟩
  ·rw [z,he] at q;exact hu _ (Option.some.inj q).symm
  ·obtain ⟨⟨ψ,q2⟩,_⟩:=hT T0 z
   rw [w,q2] at q;exact hu _ (Option.some.inj q).symm
 have old:∀ b u,H b=some u->(∀ ψ,u≠.ext ψ)->oU Hc e T C dd (rawInt X.env.locals) b=some u:=fun b u q hu=>by
  obtain ⟨n1,n2⟩:=ext_ne b u q hu
  rw [mH n1 (nT b u q),hc b n1 n2];exact q
 have hcT:Hc T=none:=by
  by_cases z:∃ T0,to=some T0/\T=T0
  ·obtain ⟨T0,z1,z2⟩:=z;rw [z2];exact (hT T0 z1).2
  ·rw [hc T a3 fun T0 z1 z2=>z ⟨T0,z1,z2⟩];exact hTn
 have un:∀ b o,s.heap.get? b=some o->H b=none->b≠e/\(∀ T0,to=some T0->b≠T0)/\b≠T:=by
  intro b o q n
  refine ⟨fun z=>?_,fun T0 z w=>?_,Nat.ne_of_lt (Nat.lt_of_lt_of_le (Heap.lt_size q) a2)⟩
  ·rw [z,he] at n;cases n
  ·obtain ⟨⟨ψ,q2⟩,_⟩:=hT T0 z
   rw [w,q2] at n;cases n
 refine h h' T hcT a3 ?_
 have U:Un (uY X.stack) [] H (oU Hc e T C dd (rawInt X.env.locals)) s.heap h':=by
  rw [hst]
  refine ⟨fun b o q n nf _=>?_,fun b o q n _ _=>?_,fun b o q n _=>?_,fun b o q _=>a9 b o q,fun b xs q=>old b _ q (fun _ z=>nomatch z),fun b ob u q=>old b _ q (fun _ z=>nomatch z),fun b ps q=>⟨#[],?_⟩⟩
  ·obtain ⟨n1,n2,_⟩:=un b o q n;exact a7 b o n1 n2 nf q
  ·obtain ⟨n1,n2,_⟩:=un b o q n;exact a8 b o n1 n2 q
  ·obtain ⟨n1,n2,n3⟩:=un b o q n
   rw [mH n1 n3,hc b n1 n2];exact n
  ·rw [old b _ q (fun _ z=>nomatch z)];simp
 have ok:m5 X.prog X.w (oU Hc e T C dd (rawInt X.env.locals)) h':=fun b u q=>by
  by_cases z:b=e
  ·subst z
   rw [ug] at q;cases q
   refine ⟨⟨_,a1,?_⟩,⟨_,a1⟩,fun h1 h2 ⟨ws,q1,q2⟩ k=>⟨ws,k _ q1,q2⟩⟩
   have hsz:1<vs.size:=by
    cases to with
    | none=>exact (Array.getElem?_eq_some_iff.mp (show vs[1]?=some .none from lies)).1
    | some T0=>exact (Array.getElem?_eq_some_iff.mp lies.1).1
   simp [hsz]
  ·by_cases z2:b=T
   ·subst z2
    rw [qQ a3] at q;cases q
    exact ⟨⟨oT,ts,a4,a5,a6⟩,⟨_,a4⟩,fun h1 h2 ⟨o1,t1,q1,q2,q3⟩ k=>⟨o1,t1,k _ q1,q2,q3⟩⟩
   ·rw [mH z z2] at q
    have z3:∀ T0,to=some T0->b≠T0:=fun T0 w w2=>by rw [w2,(hT T0 w).2] at q;cases q
    rw [hc b z z3] at q
    have nf:∀ c u',H c=some u'->c ∉ uY (X.env::X.outer):=fun c u' q' hm=>by have:=sf c hm;rw [q'] at this;cases this
    refine (I.bu b u q).mG (fun c v hc' q'=>?_) (fun c q'=>old c _ q' (fun _ z=>nomatch z)) fun c xs q'=>old c _ q' (fun _ z=>nomatch z)
    rcases hc' with rfl | hc'
    ·exact a7 c v z z3 (nf c u q) q'
    ·obtain ⟨n1,n2⟩:=ext_ne c _ hc' (fun _ z=>nomatch z)
     exact a7 c v n1 n2 (nf c _ hc') q'
 exact I.call (ch:=[]) U ok I.bare (fun b z=>absurd z (by simp))
theorem Inv.EB {Hc:Hp} {e T C:Addr} {dd:Option Addr} {fl:Value} (I:Inv X pins σ (oU Hc e T C dd fl) s) (n:T≠e):∃ vs oT ts,s.heap.get? e=some ⟨.ref C,dd,.fields vs,#[]⟩/\vs[1]?=some (.ref T)/\s.heap.get? T=some oT/\oT.data=.fields ts/\ts[3]?=some fl:=by
 obtain ⟨vs,h1,h2⟩:=(I.bu e _ ug).1
 obtain ⟨oT,ts,q⟩:=(I.bu T _ (qQ n)).1
 exact ⟨vs,oT,ts,h1,h2,q⟩
theorem Inv.GW {Hc:Hp} {e T C:Addr} {dd:Option Addr} {fl:Value} {Q:Unit->Shared->Prop} {E:Value->Shared->Prop} (I:Inv X pins σ (oU Hc e T C dd fl) s) (hfl:fl=.none\/fl=rawInt X.env.locals) (n:T≠e) (hcT:Hc T=none) (hst:X.stack=X.env::X.outer) (hf:X.env.frame=some X.env.locals)
  (h:∀ h' T,Hc T=none->T≠e->Inv X pins σ (oU Hc e T C dd (rawInt X.env.locals)) { s with heap:=h' }->Q () { s with heap:=h' }) :
  wpAny (model X.prog X.w) X.A (noteFrame (.ref e) X.env) Q E s:=by
 obtain ⟨vs,oT,ts,hx,h1,hT,hd,h3⟩:=I.EB n
 rcases hfl with rfl | rfl
 ·refine I.note (Hc:=Hc) (to:=some T) hst hf ug hx ⟨h1,n,oT,ts,hT,hd,h3⟩ (fun T0 z=>?_) (fun b n1 n2=>(mH n1 (n2 T rfl)).symm) h
  cases z
  exact ⟨⟨_,qQ n⟩,hcT⟩
 ·unfold noteFrame
  simp only [hf]
  refine wpAny_bind (wpAny_field hx rfl h1 ?_)
  rw [if_pos (show (Value.ref T != Value.none)=true from by simp)]
  refine wpAny_bind (wpAny_field hT hd h3 ?_)
  rw [if_pos (show (rawInt X.env.locals==rawInt X.env.locals)=true from by simp)]
  exact wpAny_pure (h s.heap T hcT n I)
theorem Inv.F1 {e C:Addr} {dd:Option Addr} {Q:Unit->Shared->Prop} {E:Value->Shared->Prop} (I:Inv X pins σ H s) (he:H e=some (kq C dd e)) (hst:X.stack=X.env::X.outer) (hf:X.env.frame=some X.env.locals)
  (h:∀ h' T,upd H e (i6 C dd e) T=none->T≠e->Inv X pins σ (oU (upd H e (i6 C dd e)) e T C dd (rawInt X.env.locals)) { s with heap:=h' }->Q () { s with heap:=h' }) :
  wpAny (model X.prog X.w) X.A (noteFrame (.ref e) X.env) Q E s:=by
 obtain ⟨t,hx⟩:=(I.bu e _ he).1
 exact I.note (Hc:=upd H e (i6 C dd e)) (to:=none) hst hf he hx rfl (fun _ z=>by cases z) (fun b n1 _=>aw n1) h
theorem Inv.AE {Hc:Hp} {e T C:Addr} {dd:Option Addr} {fl:Value} {fr:Option Addr} {Q:Unit->Shared->Prop} {E:Value->Shared->Prop} (I:Inv X pins σ (oU Hc e T C dd fl) s) (n:T≠e)
  (h:∀ h',Inv X pins σ (oU Hc e T C dd (fr.elim .none fun f=>rawInt f)) { s with heap:=h' }->Q () { s with heap:=h' }) :
  wpAny (model X.prog X.w) X.A (setFlight (.ref e) fr) Q E s:=by
 obtain ⟨vs,oT,ts,hx,h1,hT,hd,h3⟩:=I.EB n
 unfold setFlight
 refine wpAny_bind (wpAny_field hx rfl h1 ?_)
 rw [if_pos (show (Value.ref T != Value.none)=true from by simp)]
 have hsz:3<ts.size:=(Array.getElem?_eq_some_iff.mp h3).1
 refine wpAny_setField hT hd hsz (h _ ?_)
 have other:∀ b,b≠T->(s.heap.update T (Obj.mapFields (·.setIfInBounds 3 (fr.elim Value.none fun f=>rawInt f)))).get? b=s.heap.get? b:=fun b hb=>Heap.get?_update_other _ _ (Ne.symm hb)
 have hT2:=Heap.get?_update_self (Obj.mapFields (·.setIfInBounds 3 (fr.elim Value.none fun f=>rawInt f))) hT (Obj.isFreed_of_fields (Obj.data_mapFields hd _))
 have nT:∀ b,oU Hc e T C dd fl b=none->b≠T:=fun b q z=>by rw [z,qQ n] at q;cases q
 have same:∀ b,b≠T->oU Hc e T C dd (fr.elim .none fun f=>rawInt f) b=oU Hc e T C dd fl b:=fun b z=>by
  by_cases w:b=e
  ·subst w;rw [ug,ug]
  ·rw [mH w z,mH w z]
 have ne:∀ b u,oU Hc e T C dd fl b=some u->(∀ ψ,u≠.ext ψ)->b≠T:=fun b u q hu z=>by rw [z,qQ n] at q;exact hu _ (Option.some.inj q).symm
 refine I.un (t':=s.toks) ⟨fun b o q z _ _=>(other b (nT b z)).trans q,fun b o q z _ _=>⟨o.slots,(other b (nT b z)).trans q⟩,fun b o q z _=>by rw [same b (nT b z)];exact z,fun b o q _=>?_,fun b xs q=>?_,fun b ob u q=>?_,fun b ps q=>⟨#[],?_⟩⟩ fun b u q=>?_
 ·by_cases z:b=T
  ·subst z;exact ⟨_,hT2⟩
  ·exact ⟨o,(other b z).trans q⟩
 ·rw [same b (ne b _ q fun _ z=>nomatch z)];exact q
 ·rw [same b (ne b _ q fun _ z=>nomatch z)];exact q
 ·rw [same b (ne b _ q fun _ z=>nomatch z),q];simp
 ·by_cases z:b=T
  ·subst z
   rw [qQ n] at q;cases q
   refine ⟨⟨_,_,hT2,Obj.data_mapFields hd _,?_⟩,⟨_,hT2⟩,fun h1 h2 ⟨o1,t1,q1,q2,q3⟩ k=>⟨o1,t1,k _ q1,q2,q3⟩⟩
   simp [hsz]
  ·rw [same b z] at q
   refine (I.bu b u q).mG (fun c v hc q'=>(other c ?_).trans q') (fun c q'=>?_) fun c xs q'=>?_
   ·rcases hc with rfl | hc
    ·exact z
    ·exact ne c _ hc fun _ z=>nomatch z
   ·rw [same c (ne c _ q' fun _ z=>nomatch z)];exact q'
   ·rw [same c (ne c _ q' fun _ z=>nomatch z)];exact q'
end
def b_ (P:Program) (w:World):BK:=fun outer H s E e s'=>∃ (ea T C:Addr) (dd:Option Addr) (Hc:Hp),e=.ref ea/\s'.os=s.os/\AllBare s'.gens/\Un (uY outer) [] H (oU Hc ea T C dd .none) s.heap s'.heap/\m5 P w (oU Hc ea T C dd .none) s'.heap ∧
 Hc ea=some (i6 C dd ea)/\Hc T=none/\T≠ea/\E (.ref ea) none Hc
def Zx (X : Cx) (E : St -> XK) (e : Value) (s : Shared) : Prop := ∃ (ea C : Addr) (dd : Option Addr) (pins : List (Addr × Obj)) (σ : St), e = .ref ea ∧
  ((∃ H, Inv X pins σ H s /\ H ea = some (kq C dd ea) /\ E σ (.ref ea) none (upd H ea (i6 C dd ea))) ∨
   (∃ Hc T fl, Inv X pins σ (oU Hc ea T C dd fl) s /\ (fl = .none \/ fl = rawInt X.env.locals) /\ Hc ea = some (i6 C dd ea) /\ Hc T = none /\ T ≠ ea /\ E σ (.ref ea) none Hc))
theorem Zx.note {X:Cx} {E:St->XK} {e:Value} {s:Shared} {Q:Unit->Shared->Prop} {F:Value->Shared->Prop} (z:Zx X E e s) (hst:X.stack=X.env::X.outer) (hf:X.env.frame=some X.env.locals)
  (h:∀ s' ea C dd pins σ Hc T,e=.ref ea->Inv X pins σ (oU Hc ea T C dd (rawInt X.env.locals)) s'->Hc ea=some (i6 C dd ea)->Hc T=none->T≠ea->E σ (.ref ea) none Hc->Q () s') :
  wpAny (model X.prog X.w) X.A (noteFrame e X.env) Q F s:=by
 obtain ⟨ea,C,dd,pins,σ,rfl,⟨H,I,h1,h2⟩ | ⟨Hc,T,fl,I,h1,h2,h3,h4,h5⟩⟩:=z
 ·exact I.F1 h1 hst hf fun h' T q1 q2 I2=>h _ ea C dd pins σ _ T rfl I2 aE q1 q2 h2
 ·exact I.GW h1 h4 h3 hst hf fun h' T q1 q2 I2=>h _ ea C dd pins σ _ T rfl I2 h2 q1 q2 h5
theorem Zx.E_ {X:Cx} {E:XK} {e:Value} {s:Shared} {F:Value->Shared->Prop} (z:Zx X (fun _=>E) e s) (hst:X.stack=X.env::X.outer) (hf:X.env.frame=some X.env.locals) (hex:X.ex=[]) :
  wpAny (model X.prog X.w) X.A (leaving X.env e) (fun _ s'=>b_ X.prog X.w X.outer X.H₀ X.s₀ E e s') F s:=by
 unfold leaving
 refine wpAny_bind (z.note hst hf fun s' ea C dd pins σ Hc T he I h1 h2 h3 h4=>?_)
 subst he
 refine I.AE h3 fun h' I2=>⟨ea,T,C,dd,Hc,rfl,I2.os,I2.bare,?_,I2.bu,h1,h2,h3,h4⟩
 have:=I2.base
 rw [hex] at this
 exact this
theorem Zx.own {X:Cx} {E:St->XK} (hst:X.stack=X.env::X.outer) (hf:X.env.frame=some X.env.locals):PassesOwn (model X.prog X.w) X.A X.env (Zx X E):=by
 intro e s z
 refine z.note hst hf fun s' ea C dd pins σ Hc T he I h1 h2 h3 h4=>?_
 subst he
 obtain ⟨vs,oT,ts,hx,q1,_⟩:=I.EB h3
 show wpAny _ _ _ _ _ _
 refine wpAny_bind (wpAny_field hx rfl q1 ?_)
 rw [if_neg (show ¬ ((Value.ref T==Value.none)=true) from by simp)]
 rw [hf]
 refine I.AE h3 fun h' I2=>⟨ea,C,dd,pins,σ,rfl,.inr ⟨Hc,T,_,I2,.inr rfl,h1,h2,h3,h4⟩⟩
structure eH (X:Cx) (E:St->XK):Prop where
 pass:∀ (pins:List (Addr×Obj)) (σ:St) (H:Hp) (s:Shared) (e:Value) (s':Shared),Inv X pins σ H s->b_ X.prog X.w X.stack H s (E σ) e s'->X.xe e s'
 new:∀ (pins:List (Addr×Obj)) (σ:St) (H:Hp) (s:Shared) (e C:Addr) (dd:Option Addr),Inv X pins σ H s->H e=some (kq C dd e)->E σ (.ref e) none (upd H e (i6 C dd e))->X.xe (.ref e) s
 own:PassesOwn (model X.prog X.w) X.A X.env X.xe
abbrev Cx.out (X:Cx) (E:St->XK):Cx:=X.pV (Zx X E)
theorem zu {X:Cx} {E:St->XK} (hst:X.stack=X.env::X.outer) (hf:X.env.frame=some X.env.locals):eH (X.out E) E where
 pass:=by
  intro pins σ H s e s' I h
  obtain ⟨ea,T,C,dd,Hc,rfl,os,bare,un,bu,h1,h2,h3,hE⟩:=h
  have I':=I.iu.wt (ch:=[]) os un bu bare (fun b z=>absurd z (by simp))
  exact ⟨ea,C,dd,pins,σ,rfl,.inr ⟨Hc,T,.none,I',.inl rfl,h1,h2,h3,hE⟩⟩
 new:=fun pins σ H s e C dd I he hE=>⟨e,C,dd,pins,σ,rfl,.inl ⟨H,I.iu,he,hE⟩⟩
 own:=Zx.own hst hf
theorem r_ {P:Program} {w:World} {K:PySem.W.Frag} {mg:Str->Option Value} {base:Heap} {k:Nat} {f:Addr} {name qual:Str} {params:Arguments} {body:List Stmt} {scope:Scope} {dV kV doc pm cdv ct oc:Value} {an od:Option Addr}
  {osl:Array (Option Value)} {N ps:List Str} {sp:Sp} (lk:K.lookup f=some ⟨oc,od,.func (PySem.W.fnOf name qual params body scope dV kV doc pm an cdv ct),osl⟩) (hcd:PySem.W.codeIn K cdv qual=true) (S:aH N ps scope)
  (len:∀ vs H Q E,sp vs H Q E->vs.length=ps.length)
  (hbody:∀ (A:Around) (outer:List Env) (s:Shared) (H:Hp) (vs:List V) (Q:VK) (E:XK),cy k (A.deeper (envOfC qual scope s.heap.objs.size f cdv))->sp vs H Q E ->
   ∃ t,nM ((kK (b_ P w) P w K mg base N qual scope f cdv A outer s H E).out fun _=>E) body t/\t { nx:=fun _ H'=>Q .c8 H',rt:=Q } (start N vs) H) :
  aY P w K mg base (b_ P w) (k+1) f (PySem.W.fnOf name qual params body scope dV kV doc pm an cdv ct) ps sp:=by
 refine Gq lk hcd S len fun A outer s H vs Q E hr hs=>?_
 obtain ⟨t,h1,h2⟩:=hbody A outer s H vs Q E hr hs
 refine ⟨t,fun pins s1 σ H1 D I q=>?_,h2⟩
 refine wpAny_mono (h1 pins s1 σ H1 D (I.pV _) q) (fun f s' z=>z.iu) fun e s' z=>?_
 exact z.E_ rfl rfl rfl
end L2
namespace L2
open PySem PySem.Spec PyProof.Rows
open PySem.Builtin.ObjectAttr (storeInOwnDict storeTaker? setByDescriptor)
theorem rO {P:Program} {w:World} {H:Hp} {h:Heap} {C e t:Addr} {dd:Option Addr} (he:h.get? e=some ⟨.ref C,dd,.fields #[.ref t,.none,.none,.none,.bool false,.none],#[]⟩):bY P w H h e (kq C dd e) :=
 ⟨⟨t,he⟩,⟨_,he⟩,fun _ _ ⟨t,q⟩ k=>⟨t,k _ q⟩⟩
section
variable {X:Cx} {C f:Addr} {fd:FuncData} {ps:List Str} {sp:Sp} {x:Str} {p pos:Pos} {e:Expr} {es:List Expr} {t:TA} {k:Nat}
def Hm (C:Addr) (t:TA):TE:=fun σ H Q=>t σ H fun vs H1=>vs.length<=sizeLine/\∀ a,H1 a=none->Q (.ref a) (upd H1 a (kq C none a))
theorem Cc (hc:PySem.W.excIn X.K C dO "ValueError.__new__" = true) (kp:PySem.W.keepIn X.K (.ref C)=true) (hg:Gl X x) (hm:X.mg x=some (.ref C))
  (ha:PA X (e::es) t) (hdb:(x==("__debug__" : Str))=false:=by decide) (he:starEach (e::es) X.env=(false,eval e X.env)::starEach es X.env:=by rfl) (hpl:(backTo pos (starEach es X.env)).any (·.1)=false:=by rfl) :
  PE X (.Call (.Name x p) (e::es) [] pos) (Hm C t):=by
 intro pins s σ H Q I h
 refine wpAny_Call_Name_kw (lW I hg hm ?_ hdb)
 refine PySem.W.callWith_K (h₀:=X.base) I.ok.mod.Dq kp (cF (ha pos pins s σ H _ I h) fun us s1 ⟨vs,H1,I1,r,hl,q⟩=>⟨I1.jO,?_⟩) he hpl
 obtain ⟨bm,N,nm,qn,bs,hdct,sn,sub,ab,col,dd,k0,k1,k2,k3,k5,mN,hC,hN,hni,T⟩:=BB I1.jO hc
 obtain ⟨hp,g,d,tk,os⟩:=s1
 refine wpAny_call_exc_subT PySem.F.excBase_ValueError T hC hN hni (fun h' a M=>?_) (by show us.length<=sizeLine;rw [← r.length];exact hl)
 obtain ⟨t',e1,_,_⟩:=M.there
 have I2:Inv X pins σ (upd H1 a (kq C none a)) ⟨h',g,d,tk,os⟩:=I1.Dw (t':=tk) M.keeps M.new (rO e1)
 have hn:H1 a=none:=I1.sF M.new
 exact ⟨.ref a,_,I2,rfl,q a hn⟩
def E3 (C:Addr) (sp:Sp) (t:TA):TE:=fun σ H Q=>t σ H fun vs H1=>vs.length<=sizeLine/\∀ a,H1 a=none->sp (.ref a::vs) (upd H1 a (kq C none a)) (fun v H2=>v=.c8/\Q (.ref a) H2) E0
theorem zA (hc:jF X.K C "ValueError.__new__" f=true) (hf:PySem.W.isFn X.K (.ref f)=true) (kp:PySem.W.keepIn X.K (.ref C)=true) (F:aY X.prog X.w X.K X.mg X.base (b_ X.prog X.w) k f fd ps sp) (hr:cy (k+1) X.A) (hb:Binds X.K fd ps []) (hg:Gl X x) (hm:X.mg x=some (.ref C))
  (ha:PA X (e::es) t) (hdb:(x==("__debug__" : Str))=false:=by decide) (he:starEach (e::es) X.env=(false,eval e X.env)::starEach es X.env:=by rfl) (hpl:(backTo pos (starEach es X.env)).any (·.1)=false:=by rfl) :
  PE X (.Call (.Name x p) (e::es) [] pos) (E3 C sp t):=by
 intro pins s σ H Q I h
 refine wpAny_Call_Name_kw (lW I hg hm ?_ hdb)
 refine PySem.W.callWith_K (h₀:=X.base) I.ok.mod.Dq kp (cF (ha pos pins s σ H _ I h) fun us s1 ⟨vs,H1,I1,r,hl,q⟩=>⟨I1.jO,?_⟩) he hpl
 have X1:=I1.jO
 obtain ⟨bm,N,nm,qn,bs,hdct,sn,sub,ab,col,dd,k0,k1,k2,k3,k5,mN,hC,hN,hni,T⟩:=AL X1 hc
 obtain ⟨hp,g,d,tk,os⟩:=s1
 have f1:=tc_lookup
 have f2:=tc_bind (.ref C)
 have hT:(⟨hp,g,d,tk,os⟩:Shared).TypeIs (.ref C) "type" := ⟨_,hC,rfl⟩
 refine wpAny_call (codeAny_of_tree ?_)
 show wpAny _ _ (callAny (.ref C) _) _ _ _
 repeat (any_goals (first | assumption | with_reducible refine wpAny_loadPart_at hC ?_ | wp_step))
 refine ⟨rfl,?_⟩
 refine codeAny_call_builtin_at (Code.quiet_builtin _ (by decide +kernel)) entry_typeCall (wpAny_check_type_call_sub hC (oR PySem.F.excBase_ValueError T hC hN hni
  (fun h' kk self=>PySem.W.bind_fn (fun b o z=>kk b o (X1 b o z)) self (beq_iff_eq.mp hf)) (fun h' kk ht hx hz=>?_) (by show us.length<=sizeLine;rw [← r.length];exact hl)))
 have I2:Inv X pins σ (upd H1 (hp.objs.size+1) (kq C none (hp.objs.size+1))) ⟨h',g,d,tk,os⟩:=I1.Dw (t':=tk) kk (Heap.get?_none_of_le (Nat.le_succ _)) (rO hx)
 have hq:=q (hp.objs.size+1) (I1.sF (Heap.get?_none_of_le (Nat.le_succ _)))
 have r2:Vals (V.ref (hp.objs.size+1)::vs) (Value.ref (hp.objs.size+1)::us):=.cons rfl r
 have hlen:(Value.ref (hp.objs.size+1)::us++[]).length=ps.length:=by
  rw [List.append_nil,← r2.length]
  exact F.len _ _ _ _ hq
 refine wpAny_call (codeAny_mono (F.run _ X.stack _ _ ⟨Value.ref (hp.objs.size+1)::us,[]⟩ (Value.ref (hp.objs.size+1)::us) _ _ E0 (hr.make C us []) (I2.i8.make C us []) (by have:=hb _ (Value.ref (hp.objs.size+1)::us) I2.jO hlen;rwa [List.append_nil] at this) r2 hq) fun r s' hq'=>?_)
 cases r with
 | error e =>
  obtain ⟨_,_,_,_,_,_,_,_,_,_,_,_,_,z⟩:=hq'
  exact z.elim
 | ok fl =>
  cases fl with
  | ret u =>
   obtain ⟨v,H',I3,rv,ev,q3⟩:=I2.after hq'
   subst ev
   exact ⟨rv,⟨V.ref (hp.objs.size+1),H',I3,rfl,q3⟩⟩
  | next=>exact False.elim hq'
  | brk=>exact False.elim hq'
  | cont=>exact False.elim hq'
def Ec (K:PySem.W.Frag) (ta tv:TE) (f:Str):TS:=fun D σ H=>tv σ H fun y H1=>ta σ H1 fun x H2=>∃ a C,x=.ref a/\H2 a=some (kq C none a)/\i_ K C/\((PySem.W.clsIn K C).any fun cd=>gy cd.mro)=true/\bT K C f ∧
 ∀ d,H2 d=none->d≠a->D.nx σ (upd (upd H2 d (.xd [(f,y)])) a (kq C (some d) a))
theorem Bg {o value:Expr} {ta tv:TE} {n:Str} {pos':Pos} (ha:PE X o ta) (hv:PE X value tv) (hs:swapsWith value (some (.Attribute o n pos')) pos.line X.env=pure false):PS X (.Assign [.Attribute o n pos'] value pos) (Ec X.K ta tv n):=by
 intro pins s σ H D I h
 refine plainObj_wpAny_Assign_Attribute (cF (hv pins s σ H _ I h) fun u s1 ⟨y,H1,I1,ry,q⟩=>cF (ha pins s1 σ H1 _ I1 q) fun ov s2 ⟨x,H2,I2,rx,a,C,ex,ea,c,po,na,q2⟩=>?_) hs
 subst ex
 obtain rfl:ov=Value.ref a:=rx
 obtain ⟨tt,hx⟩:=(I2.bu a _ ea).1
 refine Ba po c I2.jO hx na.De fun h' tk d e1 e2 e3 e4=>?_
 have hd:H2 d=none:=I2.sF e2
 have nda:d≠a:=fun z=>by rw [z,ea] at hd;cases hd
 refine ⟨σ,_,?_,q2 d hd nda⟩
 have up:∀ b,b≠a->b≠d->upd (upd H2 d (.xd [(n,y)])) a (kq C (some d) a) b=H2 b:=fun b h1 h2=>by rw [aw h1,aw h2]
 have nd:∀ b u,s2.heap.get? b=some u->b≠d:=fun b u e z=>by rw [z,e2] at e;cases e
 have nH:∀ b u,H2 b=some u->b≠d:=fun b u e z=>by rw [z,hd] at e;cases e
 have nE:∀ b u,H2 b=some u->(∀ C dd,u≠kq C dd a)->b≠a:=fun b u e hu z=>by
  rw [z,ea] at e
  exact hu C none (Option.some.inj e).symm
 refine I2.un (t':=tk) ⟨fun b u e z _ _=>e4 b u (fun w=>by rw [w,ea] at z;cases z) e,fun b u e z _ _=>⟨u.slots,e4 b u (fun w=>by rw [w,ea] at z;cases z) e⟩,fun b u e z _=>?_,fun b u e _=>?_,fun b xs e=>?_,fun b ob u e=>?_,fun b ps e=>?_⟩ fun b u e=>?_
 ·rw [up b (fun w=>by rw [w,ea] at z;cases z) (nd b u e)];exact z
 ·by_cases w:b=a
  ·rw [w];exact ⟨_,e1⟩
  ·exact ⟨u,e4 b u w e⟩
 ·rw [up b (nE b _ e fun _ _ z=>by cases z) (nH b _ e)];exact e
 ·rw [up b (nE b _ e fun _ _ z=>by cases z) (nH b _ e)];exact e
 ·exact ⟨#[],by rw [up b (nE b _ e fun _ _ z=>by cases z) (nH b _ e),e];simp⟩
 ·by_cases w:b=a
  ·subst w
   rw [aE] at e
   cases e
   exact rO e1
  ·rw [aw w] at e
   by_cases w2:b=d
   ·subst w2
    rw [aE] at e
    cases e
    refine ⟨_,e3,fun g=>?_⟩
    show my (List.lookup g [(n,y)]) (if g=n then some _ else none)
    rw [List.lookup_cons]
    by_cases z:g=n
    ·rw [if_pos z,show (g==n)=true from by simp [z]];exact ry
    ·rw [if_neg z,show (g==n)=false from by simp [z]];exact True.intro
   ·rw [aw w2] at e
    refine (I2.bu b u e).mG (fun c v hc z=>e4 c v ?_ z) (fun c z=>?_) fun c ys z=>?_
    ·rcases hc with z' | z'
     ·rw [z'];exact w
     ·exact nE c _ z' fun _ _ z=>by cases z
    ·rw [up c (nE c _ z fun _ _ z=>by cases z) (nH c _ z)];exact z
    ·rw [up c (nE c _ z fun _ _ z=>by cases z) (nH c _ z)];exact z
end
end L2
namespace L2
open PySem PySem.Spec PyProof.Rows
section
variable {M:Model} {A:Around} {E:Value->Shared->Prop} {s:Shared}
theorem DC {e:Addr} {o:Obj} {Q:Value->Shared->Prop} (hx:s.heap.get? e=some o) (h:Q o.cls s):wpAny M A (typeOf (.ref e)) Q E s:=by
 unfold typeOf
 exact wpAny_bind (wpAny_loadPart hx (wpAny_pure h))
theorem wN {e:Addr} {o:Obj} {vs:Array Value} {Q:Bool->Shared->Prop} (hx:s.heap.get? e=some o) (hd:o.data=.fields vs) (h:Q false s):wpAny M A (isType (.ref e)) Q E s:=by
 unfold isType loadHead
 refine wpAny_bind (wpAny_loadPart hx (wpAny_pure ?_))
 rw [hd];exact h
end
section
variable {X:Cx} {pins:List (Addr×Obj)} {σ:St} {H:Hp} {s:Shared}
def Ef (K:PySem.W.Frag) (E:St->XK) (te:TE):TS:=fun D σ H=>te σ H fun v H1=>∃ e C dd,v=.ref e/\H1 e=some (kq C dd e)/\i_ K C/\PySem.W.typeIn K (.ref C)=some (.type "type")/\E σ (.ref e) none (upd H1 e (i6 C dd e))
theorem tV {exc:Expr} {te:TE} {pos:Pos} {E:St->XK} (O:eH X E) (hcalm:X.calm=true) (he:PE X exc te):PS X (.Raise (some exc) none pos) (Ef X.K E te):=by
 intro pins s σ H D I h
 rw [arm_exec_Raise]
 refine wpAny_bind (wpAny_standAt ?_)
 unfold raiseStmt
 dsimp only [evalOpt,Option.map]
 refine wpAny_bind (wpAny_bind (cF (he pins s σ H _ I h) fun u s1 hq=>wpAny_bind (wpAny_standAt (wpAny_pure ?_))))
 obtain ⟨v,H1,I1,rv,e,C,dd,ev,hN,c,ht,hE⟩:=hq
 subst ev
 obtain rfl:u=Value.ref e:=rv
 obtain ⟨t,hx⟩:=(I1.bu e _ hN).1
 have X1:=I1.jO
 refine wpAny_bind (wpAny_pure ?_)
 refine wpAny_bind (wpAny_holding ?_)
 unfold excFromValue isExcClass
 refine wpAny_bind (wpAny_bind (wN hx rfl ?_))
 refine wpAny_pure ?_
 refine wpAny_bind ?_
 unfold isInstance
 refine wpAny_bind (DC hx ((PySem.W.looks_mroIn X1 c.mb).here ?_))
 refine wpAny_pure ?_
 dsimp only
 refine wpAny_bind (wN hx rfl ?_)
 unfold raisedInstance
 refine wpAny_bind (wpAny_bind (DC hx (wpAny_bind ((PySem.W.looks_typeIn X1 ht).here ?_))))
 refine wpAny_pure ?_
 unfold setFlight
 refine wpAny_bind (wpAny_bind (wpAny_field hx rfl (x:=.none) rfl ?_))
 refine wpAny_pure ?_
 exact wpAny_raiseNew_none (I1.ok.hd hcalm) (O.new pins σ H1 s1 e C dd I1 hN hE)
end
end L2
namespace L2
open PySem PySem.Spec PyProof.Rows
inductive PV where
 | c8 | bl (b:Bool) | int (i:Int) | str (x:Str)
 | tup (xs:List PV) | lst (xs:List PV)
 | jo (xs:List PV)
 | obj (C:Addr) (fs:List (Str×PV))
 | exc (C:Addr) (fo:Option (List (Str×PV)))
 | emp
 deriving Inhabited
mutual
inductive Rep (H:Hp):PV->V->Prop where
 | c8:Rep H .c8 .c8
 | bl (b:Bool):Rep H (.bl b) (.bl b)
 | int (i:Int):Rep H (.int i) (.int i)
 | str (x:Str):Rep H (.str x) (.str x)
 | tup {a:Addr} {xs:List PV} {vs:List V}:H a=some (.tup vs)->aT H xs vs->Rep H (.tup xs) (.ref a)
 | lst {a:Addr} {xs:List PV} {vs:List V}:H a=some (.lst vs)->aT H xs vs->Rep H (.lst xs) (.ref a)
 | jo {a:Addr} {o:Obj} {xs:List PV} {vs:List V}:H a=some (.pU o (.lst vs))->aT H xs vs->Rep H (.jo xs) (.ref a)
 | obj {a C dx:Addr} {fs:List (Str×PV)} {vs:List (Str×V)}:H a=some (.ins C dx vs)->iH H fs vs->Rep H (.obj C fs) (.ref a)
 | xP {a C:Addr}:H a=some (i6 C none a)->Rep H (.exc C none) (.ref a)
 | yg {a C d:Addr} {fs:List (Str×PV)} {vs:List (Str×V)}:H a=some (i6 C (some d) a)->H d=some (.xd vs)->iH H fs vs->Rep H (.exc C (some fs)) (.ref a)
 | emp {a:Addr}:H a=some (.dK [])->Rep H .emp (.ref a)
inductive aT (H:Hp):List PV->List V->Prop where
 | nil:aT H [] []
 | cons {p:PV} {v:V} {ps:List PV} {vs:List V}:Rep H p v->aT H ps vs->aT H (p::ps) (v::vs)
inductive iH (H:Hp):List (Str×PV)->List (Str×V)->Prop where
 | nil:iH H [] []
 | cons {n:Str} {p:PV} {v:V} {ps:List (Str×PV)} {vs:List (Str×V)}:Rep H p v->iH H ps vs->iH H ((n,p)::ps) ((n,v)::vs)
end
mutual
theorem Rep.mono {H H':Hp} (s:bp H H'):∀ {p:PV} {v:V},Rep H p v->Rep H' p v
 | _,_,.c8=>.c8
 | _,_,.bl b=>.bl b
 | _,_,.int i=>.int i
 | _,_,.str x=>.str x
 | _,_,.tup h r=>.tup (s _ _ h) (r.mono s)
 | _,_,.lst h r=>.lst (s _ _ h) (r.mono s)
 | _,_,.jo h r=>.jo (s _ _ h) (r.mono s)
 | _,_,.obj h r=>.obj (s _ _ h) (r.mono s)
 | _,_,.xP h=>.xP (s _ _ h)
 | _,_,.yg h h2 r=>.yg (s _ _ h) (s _ _ h2) (r.mono s)
 | _,_,.emp h=>.emp (s _ _ h)
theorem aT.mono {H H':Hp} (s:bp H H'):∀ {p:List PV} {v:List V},aT H p v->aT H' p v
 | _,_,.nil=>.nil
 | _,_,.cons h r=>.cons (h.mono s) (r.mono s)
theorem iH.mono {H H':Hp} (s:bp H H'):∀ {p:List (Str×PV)} {v:List (Str×V)},iH H p v->iH H' p v
 | _,_,.nil=>.nil
 | _,_,.cons h r=>.cons (h.mono s) (r.mono s)
end
theorem aT.length {H:Hp}:∀ {p:List PV} {v:List V},aT H p v->p.length=v.length
 | _,_,.nil=>rfl
 | _,_,.cons _ r=>by simp [r.length]
theorem aT.get {H:Hp}:∀ {p:List PV} {v:List V} {i:Nat} {x:PV},aT H p v->p[i]?=some x->∃ u,v[i]?=some u/\Rep H x u
 | _,_,_,_,.nil,e=>by simp at e
 | _,_,0,_,.cons h _,e=>by simp at e;subst e;exact ⟨_,rfl,h⟩
 | _,_,i+1,x,.cons _ r,e=>by
  obtain ⟨u,h1,h2⟩:=aT.get (i:=i) (x:=x) r (by simpa using e)
  exact ⟨u,by simpa using h1,h2⟩
theorem aT.append {H:Hp}:∀ {p q:List PV} {v u:List V},aT H p v->aT H q u->aT H (p++q) (v++u)
 | _,_,_,_,.nil,s=>s
 | _,_,_,_,.cons h r,s=>.cons h (r.append s)
theorem aT.take {H:Hp}:∀ {p:List PV} {v:List V} (n:Nat),aT H p v->aT H (p.take n) (v.take n)
 | _,_,0,_=>.nil
 | _,_,_+1,.nil=>.nil
 | _,_,n+1,.cons h r=>.cons h (r.take n)
theorem aT.drop {H:Hp}:∀ {p:List PV} {v:List V} (n:Nat),aT H p v->aT H (p.drop n) (v.drop n)
 | _,_,0,r=>r
 | _,_,_+1,.nil=>.nil
 | _,_,n+1,.cons _ r=>r.drop n
theorem aT.snoc {H:Hp} {p:List PV} {v:List V} {x:PV} {u:V} (r:aT H p v) (h:Rep H x u):aT H (p++[x]) (v++[u]):=r.append (.cons h .nil)
theorem iH.look {H:Hp} {f:Str}:∀ {p:List (Str×PV)} {v:List (Str×V)} {x:PV},iH H p v->p.lookup f=some x->∃ u,v.lookup f=some u/\Rep H x u
 | _,_,_,.nil,e=>by simp at e
 | (n,_)::_,_,x,.cons h r,e=>by
  rw [List.lookup_cons] at e ⊢
  cases q:f==n with
  | true=>rw [q] at e;cases e;exact ⟨_,rfl,h⟩
  | false=>rw [q] at e;exact r.look e
theorem iH.none {H:Hp} {f:Str}:∀ {p:List (Str×PV)} {v:List (Str×V)},iH H p v->p.lookup f=none->v.lookup f=none
 | _,_,.nil,_=>rfl
 | (n,_)::_,_,.cons h r,e=>by
  rw [List.lookup_cons] at e ⊢
  cases q:f==n with
  | true=>rw [q] at e;cases e
  | false=>rw [q] at e;exact r.none e
theorem aT.QR {H:Hp}:∀ {ns:List Bool} {v:List V},aT H (ns.map PV.bl) v->v=ns.map V.bl
 | [],_,.nil=>rfl
 | _::_,_,.cons (.bl i) r=>by rw [r.QR];rfl
structure bD (Hs H Hs' H':Hp):Prop where
 st:bp Hs Hs'
 al:bp H H'
 sub:bp Hs' H'
 nw:∀ a o,Hs a=none->H a=some o->Hs' a=none
theorem bD.refl {Hs H:Hp} (s:bp Hs H):bD Hs H Hs H:=⟨fun _ _ e=>e,fun _ _ e=>e,s,fun _ _ e _=>e⟩
theorem bD.trans {Hs H Hs1 H1 Hs2 H2:Hp} (a:bD Hs H Hs1 H1) (b:bD Hs1 H1 Hs2 H2):bD Hs H Hs2 H2 :=
 ⟨fun c o e=>b.st c o (a.st c o e),fun c o e=>b.al c o (a.al c o e),b.sub,fun c o e q=>b.nw c o (a.nw c o e q) (a.al c o q)⟩
theorem bD.new {Hs H:Hp} {p:Addr} {o:HO} (s:bp Hs H) (n:H p=none):bD Hs H (upd Hs p o) (upd H p o):=by
 have ne:∀ c u,H c=some u->c≠p:=fun c u e z=>by rw [z,n] at e;cases e
 refine ⟨fun c u e=>?_,fun c u e=>?_,fun c u e=>?_,fun c u e q=>?_⟩
 ·rw [aw (ne c u (s c u e))];exact e
 ·rw [aw (ne c u e)];exact e
 ·by_cases z:c=p
  ·subst z;rw [aE] at e ⊢;exact e
  ·rw [aw z] at e ⊢;exact s c u e
 ·rw [aw (ne c u q)];exact e
inductive SV where
 | sh (p:PV)
 | ow (xs:List PV)
 | bd (a C:Addr) (fs:List (Str×PV))
abbrev ai:=List (Option SV)
structure SR (B H₀ Hs H:Hp) (σ:St) (env:ai):Prop where
 gr:bD B H₀ Hs H
 len:σ.length=env.length
 sh:∀ (i:Nat) (p:PV),env[i]?=some (some (.sh p))->∃ v,σ[i]?=some (some v)/\Rep Hs p v
 ow:∀ (i:Nat) (xs:List PV),env[i]?=some (some (.ow xs))->∃ a vs,σ[i]?=some (some (.ref a))/\H a=some (.lst vs)/\Hs a=none/\H₀ a=none/\aT Hs xs vs
 sep:∀ (i j:Nat) (xs ys:List PV) (a:Addr),i≠j->env[i]?=some (some (.ow xs))->env[j]?=some (some (.ow ys))->σ[i]?=some (some (.ref a))->σ[j]?≠some (some (.ref a))
 bd:∀ (i:Nat) (a C:Addr) (fs:List (Str×PV)),env[i]?=some (some (.bd a C fs))->∃ dx vs,σ[i]?=some (some (.ref a))/\H a=some (.ins C dx vs)/\Hs a=none/\H₀ a=none/\iH Hs fs vs
 one:∀ (i j:Nat) (a b C D:Addr) (fs gs:List (Str×PV)),env[i]?=some (some (.bd a C fs))->env[j]?=some (some (.bd b D gs))->i=j
theorem SR.grow {B H₀ Hs H Hs' H':Hp} {σ:St} {env:ai} (r:SR B H₀ Hs H σ env) (g:bD Hs H Hs' H'):SR B H₀ Hs' H' σ env where
 gr:=r.gr.trans g
 len:=r.len
 sh:=fun i p e=>let ⟨v,h1,h2⟩:=r.sh i p e;⟨v,h1,h2.mono g.st⟩
 ow:=fun i xs e=>let ⟨a,vs,h1,h2,h3,h4,h5⟩:=r.ow i xs e;⟨a,vs,h1,g.al _ _ h2,g.nw _ _ h3 h2,h4,h5.mono g.st⟩
 sep:=r.sep
 bd:=fun i a C fs e=>let ⟨dx,vs,h1,h2,h3,h4,h5⟩:=r.bd i a C fs e;⟨dx,vs,h1,g.al _ _ h2,g.nw _ _ h3 h2,h4,h5.mono g.st⟩
 one:=r.one
abbrev EX:=Addr×Option (List (Str×PV))
abbrev M (α:Type):=Option (Except EX α)
def M.ok {α:Type} (a:α):M α:=some (.ok a)
def M.bind {α β:Type} (x:M α) (f:α->M β):M β:=match x with
 | some (.ok a)=>f a
 | some (.error e)=>some (.error e)
 | none=>none
instance:Monad M where
 pure:=M.ok
 bind:=M.bind
def aC {α:Type} (r:M α) (Q:α->Prop) (E:EX->Prop):Prop:=match r with
 | some (.ok a)=>Q a
 | some (.error e)=>E e
 | none=>False
theorem aC.imp {α:Type} {r:M α} {Q Q':α->Prop} {E E':EX->Prop} (h:aC r Q E) (hq:∀ a,Q a->Q' a) (he:∀ e,E e->E' e):aC r Q' E':=by
 cases r with
 | none=>exact h
 | some x=>cases x with
  | ok a=>exact hq a h
  | error e=>exact he e h
theorem aC.bind {α β:Type} {x:M α} {f:α->M β} {Q:β->Prop} {E:EX->Prop} (h:aC (x.bind f) Q E):aC x (fun a=>aC (f a) Q E) E:=by
 cases x with
 | none=>exact h
 | some x=>cases x with
  | ok a=>exact h
  | error e=>exact h
def XW (E:XK) (Hs H:Hp) (x:EX):Prop:=∀ ea Hs' H',bD Hs H Hs' H'->Rep Hs' (.exc x.1 x.2) (.ref ea)->E (.ref ea) none H'
theorem XW.grow {E:XK} {Hs H Hs' H':Hp} {x:EX} (h:XW E Hs H x) (g:bD Hs H Hs' H'):XW E Hs' H' x:=fun ea Hs2 H2 g2 r=>h ea Hs2 H2 (g.trans g2) r
def tE (E:St->XK) (f:ai->M PV):TE:=fun σ H Q=>∃ B H₀ Hs env,SR B H₀ Hs H σ env/\aC (f env) (fun p=>∀ v Hs' H',bD Hs H Hs' H'->Rep Hs' p v->Q v H') (XW (E σ) Hs H)
theorem PE.imp {X:Cx} {e:Expr} {t t':TE} (h:PE X e t) (i:∀ σ H Q,t' σ H Q->t σ H Q):PE X e t':=fun pins s σ H Q I q=>h pins s σ H Q I (i σ H Q q)
theorem wu {E:St->XK} {f:ai->M PV} {g:ai->PV->M PV} {σ:St} {H:Hp} {Q R:VK} (h:tE E (fun env=>(f env).bind (g env)) σ H Q)
  (k:∀ B H₀ Hs H1 env p v,SR B H₀ Hs H1 σ env->Rep Hs p v->aC (g env p) (fun q=>∀ u Hs' H',bD Hs H1 Hs' H'->Rep Hs' q u->Q u H') (XW (E σ) Hs H1)->R v H1):tE E f σ H R:=by
 obtain ⟨B,H₀,Hs,env,sr,h⟩:=h
 refine ⟨B,H₀,Hs,env,sr,(aC.bind h).imp (fun p hp v Hs' H' g r=>?_) fun e he=>he⟩
 exact k B H₀ Hs' H' env p v (sr.grow g) r (hp.imp (fun q hq u Hs2 H2 g2 r2=>hq u Hs2 H2 (g.trans g2) r2) fun e he=>he.grow g)
theorem wG {E:St->XK} {f g:ai->M PV} {op:PV->PV->M PV} {r:R2} {σ:St} {H:Hp} {Q:VK} (h:tE E (fun env=>(f env).bind fun p=>(g env).bind fun q=>op p q) σ H Q)
  (k:∀ Hs H1 p q v u,bp Hs H1->Rep Hs p v->Rep Hs q u->aC (op p q) (fun z=>∀ w Hs' H',bD Hs H1 Hs' H'->Rep Hs' z w->Q w H') (XW (E σ) Hs H1)->r v u H1 Q):Hu r (tE E f) (tE E g) σ H Q:=by
 refine wu h fun B H₀ Hs H1 env p v sr rp hp=>?_
 refine ⟨B,H₀,Hs,env,sr,(aC.bind hp).imp (fun q hq u Hs' H' g ru=>?_) fun e he=>he⟩
 exact k Hs' H' p q v u (sr.grow g).gr.sub (rp.mono g.st) ru (hq.imp (fun z hz w Hs2 H2 g2 r2=>hz w Hs2 H2 (g.trans g2) r2) fun e he=>he.grow g)
theorem Gs {E:St->XK} {f:ai->M PV} {op:PV->M PV} {r:V->Hp->VK->Prop} {σ:St} {H:Hp} {Q:VK} (h:tE E (fun env=>(f env).bind op) σ H Q)
  (k:∀ Hs H1 p v,bp Hs H1->Rep Hs p v->aC (op p) (fun z=>∀ w Hs' H',bD Hs H1 Hs' H'->Rep Hs' z w->Q w H') (XW (E σ) Hs H1)->r v H1 Q):QW r (tE E f) σ H Q :=
 wu h fun B H₀ Hs H1 env p v sr rp hp=>k Hs H1 p v sr.gr.sub rp hp
end L2
namespace L2
open PySem PySem.Spec PyProof.Rows
def Ei (sp:Sp) (dvs:List V) (E:St->XK) (t:TA):TE:=fun σ H Q=>t σ H fun vs H1=>sp (vs++dvs) H1 Q (E σ)
def zX (C:Addr) (m:Str) (sp:Sp) (dvs:List V) (E:St->XK) (ta:TE) (t:TA):TE:=fun σ H Q=>ta σ H fun x H1=>∃ a dx fs,x=.ref a/\H1 a=some (.ins C dx fs)/\fs.lookup m=none ∧
 t σ H1 fun vs H2=>sp (x::(vs++dvs)) H2 Q (E σ)
def Eo (C:Addr) (sp:Sp) (dvs:List V) (E:St->XK) (t:TA):TE:=fun σ H Q=>t σ H fun vs H1=>∀ x dx,H1 x=none->H1 dx=none->dx≠x ->
 sp (.ref x::(vs++dvs)) (upd (upd H1 dx (.own x)) x (.ins C dx [])) (fun v H2=>v=.c8/\Q (.ref x) H2) (E σ)
section
variable {X:Cx} {k:Nat} {f C:Addr} {fd:FuncData} {ps:List Str} {sp:Sp} {dvs:List V} {ds:List Value} {E:St->XK} {x m:Str} {p pos apos:Pos} {e o:Expr} {es:List Expr} {ta:TE} {t:TA}
theorem rW {pins:List (Addr×Obj)} {σ:St} {H:Hp} {s:Shared} {Q:VK} {us:List Value} {vs:List V} (F:aY X.prog X.w X.K X.mg X.base (b_ X.prog X.w) k f fd ps sp) (hr:cy k X.A) (hb:Binds X.K fd ps ds) (hd:Vals dvs ds) (hx:eH X E)
  (I:Inv X pins σ H s) (r:Vals vs us) (h:sp (vs++dvs) H Q (E σ)):wpAny (model X.prog X.w) X.A (call (.ref f) us) (EP X pins σ Q) X.xe s:=by
 have r2:Vals (vs++dvs) (us++ds):=r.append hd
 have hl:(us++ds).length=ps.length:=by rw [← r2.length];exact F.len _ _ _ _ h
 refine wpAny_call (codeAny_mono (F.run X.A X.stack s H ⟨us,[]⟩ (us++ds) (vs++dvs) Q (E σ) hr I.i8 (hb s us I.jO hl) r2 h) fun r s' hq=>?_)
 cases r with
 | error e=>exact hx.pass pins σ H s e s' I hq
 | ok fl =>
  cases fl with
  | ret u=>exact I.after hq
  | next=>exact False.elim hq
  | brk=>exact False.elim hq
  | cont=>exact False.elim hq
theorem zT (F:aY X.prog X.w X.K X.mg X.base (b_ X.prog X.w) k f fd ps sp) (hr:cy k X.A) (hg:Gl X x) (hm:X.mg x=some (.ref f)) (hk:PySem.W.keepIn X.K (.ref f)=true) (hb:Binds X.K fd ps ds) (hd:Vals dvs ds) (hx:eH X E)
  (ha:PA X (e::es) t) (hdb:(x==("__debug__" : Str))=false:=by decide) (he:starEach (e::es) X.env=(false,eval e X.env)::starEach es X.env:=by rfl) (hpl:(backTo pos (starEach es X.env)).any (·.1)=false:=by rfl) :
  PE X (.Call (.Name x p) (e::es) [] pos) (Ei sp dvs E t):=by
 intro pins s σ H Q I h
 refine wpAny_Call_Name_kw (lW I hg hm ?_ hdb)
 refine PySem.W.callWith_K (h₀:=X.base) I.ok.mod.Dq hk (cF (ha pos pins s σ H _ I h) fun us s1 ⟨vs,H1,I1,r,q⟩=>⟨I1.jO,?_⟩) he hpl
 exact rW F hr hb hd hx I1 r q
theorem zH {pl:Sem Bool} (he:PE X o ta) (c:lM X.K C) (hm:Meth X.K C m f) (F:aY X.prog X.w X.K X.mg X.base (b_ X.prog X.w) k f fd ps sp) (hr:cy k X.A) (hb:Binds X.K fd ps ds) (hd:Vals dvs ds) (hx:eH X E) (ha:PA X (e::es) t)
  (hst:starEach (e::es) X.env=(false,eval e X.env)::starEach es X.env:=by rfl) (hpl:(backTo pos (starEach es X.env)).any (·.1)=false:=by rfl)
  (ht:eval (.Call (.Attribute o m apos) (e::es) [] pos) X.env=(do
   let ov ← eval o X.env
   standAt apos.atName
   let (f,first) ← holding [ov] (getMethod ov m pl)
   callWith pos f first (backTo pos (starEach (e::es) X.env)) (backToKw pos (keywordEach [] X.env))):=by rfl) :
  PE X (.Call (.Attribute o m apos) (e::es) [] pos) (zX C m sp dvs E ta t):=by
 intro pins s σ H Q I h
 refine PySem.W.methodCall_KW (pl:=pl) (cF (he pins s σ H _ I h) fun u s1 ⟨x,H1,I1,rx,a,dx,fs,ex,ea,l,q⟩=>?_) ht
 subst ex
 obtain rfl:u=Value.ref a:=rx
 refine ou I1 ea c hm l ?_
 refine PySem.W.callWith_K (first:=[.ref a]) (h₀:=X.base) I.ok.mod.Dq hm.kp (cF (ha pos pins s1 σ H1 _ I1 q) fun us s2 ⟨vs,H2,I2,r,q2⟩=>⟨I2.jO,?_⟩) hst hpl
 exact rW (us:=.ref a::us) (vs:=.ref a::vs) F hr hb hd hx I2 (.cons rfl r) q2
theorem qC {pl:Sem Bool} (he:PE X o ta) (c:lM X.K C) (hm:Meth X.K C m f) (F:aY X.prog X.w X.K X.mg X.base (b_ X.prog X.w) k f fd ps sp) (hr:cy k X.A) (hb:Binds X.K fd ps ds) (hd:Vals dvs ds) (hx:eH X E)
  (ht:eval (.Call (.Attribute o m apos) [] [] pos) X.env=(do
   let ov ← eval o X.env
   standAt apos.atName
   let (f,first) ← holding [ov] (getMethod ov m pl)
   callWith pos f first (backTo pos (starEach [] X.env)) (backToKw pos (keywordEach [] X.env))):=by rfl) :
  PE X (.Call (.Attribute o m apos) [] [] pos) (zX C m sp dvs E ta C1):=by
 intro pins s σ H Q I h
 refine PySem.W.methodCall_KW (pl:=pl) (cF (he pins s σ H _ I h) fun u s1 ⟨x,H1,I1,rx,a,dx,fs,ex,ea,l,q⟩=>?_) ht
 subst ex
 obtain rfl:u=Value.ref a:=rx
 refine ou I1 ea c hm l ?_
 exact PySem.W.callWith_K0 (first:=[.ref a]) I1.jO hm.kp (rW (us:=[.ref a]) (vs:=[.ref a]) F hr hb hd hx I1 (.cons rfl .nil) q)
theorem yu {pins:List (Addr×Obj)} {σ:St} {H:Hp} {s:Shared} {Q:VK} {us:List Value} {vs:List V} (M:Mk X.K C f) (F:aY X.prog X.w X.K X.mg X.base (b_ X.prog X.w) k f fd ps sp) (hr:cy (k+1) X.A) (hb:Binds X.K fd ps ds) (hd:Vals dvs ds)
  (hx:eH X E) (I:Inv X pins σ H s) (r:Vals vs us)
  (h:∀ x dx,H x=none->H dx=none->dx≠x->sp (.ref x::(vs++dvs)) (upd (upd H dx (.own x)) x (.ins C dx [])) (fun v H2=>v=.c8/\Q (.ref x) H2) (E σ)) :
  wpAny (model X.prog X.w) X.A (call (.ref C) us) (EP X pins σ Q) X.xe s:=by
 have hq:=h (s.heap.objs.size+1) s.heap.objs.size (I.bu.fresh (Nat.le_succ _)) (I.bu.fresh (Nat.le_refl _)) (Nat.ne_of_lt (Nat.lt_succ_self _))
 have I2:=Inv.made (C:=C) I
 have r2:Vals (V.ref (s.heap.objs.size+1)::(vs++dvs)) (Value.ref (s.heap.objs.size+1)::(us++ds)):=.cons rfl (r.append hd)
 have hl:(Value.ref (s.heap.objs.size+1)::us++ds).length=ps.length:=by
  have e:=r2.length
  rw [F.len _ _ _ _ hq] at e
  exact e.symm
 refine wpAny_call (Bk (f:=f) I.jO M.makes M.init (beq_iff_eq.mp M.fn) (codeAny_mono (F.run _ X.stack _ _ ⟨Value.ref (s.heap.objs.size+1)::us,[]⟩ (Value.ref (s.heap.objs.size+1)::(us++ds)) _ _ (E σ) (hr.make C us [])
  (I2.i8.make C us []) (hb _ (Value.ref (s.heap.objs.size+1)::us) I2.jO hl) r2 hq) fun r s' hq'=>?_))
 cases r with
 | error e=>exact hx.pass pins σ _ _ e s' I2 hq'
 | ok fl =>
  cases fl with
  | ret u =>
   obtain ⟨v,H',I3,rv,ev,q3⟩:=I2.after hq'
   subst ev
   exact ⟨rv,⟨V.ref (s.heap.objs.size+1),H',I3,rfl,q3⟩⟩
  | next=>exact False.elim hq'
  | brk=>exact False.elim hq'
  | cont=>exact False.elim hq'
theorem A5 (M:Mk X.K C f) (F:aY X.prog X.w X.K X.mg X.base (b_ X.prog X.w) k f fd ps sp) (hr:cy (k+1) X.A) (hg:Gl X x) (hm:X.mg x=some (.ref C)) (hb:Binds X.K fd ps ds) (hd:Vals dvs ds) (hx:eH X E)
  (ha:PA X (e::es) t) (hdb:(x==("__debug__" : Str))=false:=by decide) (he:starEach (e::es) X.env=(false,eval e X.env)::starEach es X.env:=by rfl) (hpl:(backTo pos (starEach es X.env)).any (·.1)=false:=by rfl) :
  PE X (.Call (.Name x p) (e::es) [] pos) (Eo C sp dvs E t):=by
 intro pins s σ H Q I h
 refine wpAny_Call_Name_kw (lW I hg hm ?_ hdb)
 refine PySem.W.callWith_K (h₀:=X.base) I.ok.mod.Dq M.kp (cF (ha pos pins s σ H _ I h) fun us s1 ⟨vs,H1,I1,r,q⟩=>⟨I1.jO,?_⟩) he hpl
 exact yu M F hr hb hd hx I1 r q
end
end L2
namespace L2
open PySem PySem.Spec PyProof.Rows
abbrev e8 (Hs H:Hp) (Q:VK):PV->Prop:=fun z=>∀ w Hs' H',bD Hs H Hs' H'->Rep Hs' z w->Q w H'
theorem e8.flat {Hs H:Hp} {Q:VK} {p:PV} {v:V} (h:e8 Hs H Q p) (s:bp Hs H) (r:Rep Hs p v):Q v H:=h v Hs H (.refl s) r
theorem e8.tup {Hs H:Hp} {Q:VK} {xs:List PV} {vs:List V} (h:e8 Hs H Q (.tup xs)) (s:bp Hs H) (r:aT Hs xs vs):∀ p,H p=none->Q (.ref p) (upd H p (.tup vs)) :=
 fun p n=>h _ (upd Hs p (.tup vs)) _ (bD.new s n) (.tup aE (r.mono (bD.new s n).st))
theorem e8.lst {Hs H:Hp} {Q:VK} {xs:List PV} {vs:List V} (h:e8 Hs H Q (.lst xs)) (s:bp Hs H) (r:aT Hs xs vs):∀ p,H p=none->Q (.ref p) (upd H p (.lst vs)) :=
 fun p n=>h _ (upd Hs p (.lst vs)) _ (bD.new s n) (.lst aE (r.mono (bD.new s n).st))
namespace HT
theorem Ay {prog:Program} {w:World} {A:Around} {E:Value->Shared->Prop} {s:Shared} {t b:Addr} {ws:List Value} {Q:Value->Shared->Prop} (ht:IsTup s.heap t #[]) (hb:IsTup s.heap b ws.toArray)
  (h1:Q (.ref b) s):wpAny (model prog w) A (binaryOp .Add (.ref t) (.ref b)) Q E s:=by
 obtain ⟨⟨cls,dd,data,sl⟩,ho,hc,n,hd⟩:=id ht
 obtain ⟨⟨cls2,dd2,data2,sl2⟩,ho2,hc2,n2,hd2⟩:=id hb
 simp only at hc hd hc2 hd2
 subst hc hd hc2 hd2
 exact concat_meets ⟨_,ho,rfl⟩ ⟨_,ho2,rfl⟩ noFill_tuple_add seq_tuple_add PySem.F.slot_tuple_add PySem.F.entry_tuple_add (PySem.F.args_tuple_add_2 _ _)
   (tuple_addW0 t b #[] ws.toArray n n2 dd dd2 sl sl2 rfl) ⟨ho,ho2,h1⟩
end HT
def zQ (K:PySem.W.Frag):R2:=fun x y H Q=>∃ a b ys,x=.ref a/\y=.ref b/\ji K H a []/\ji K H b ys/\Q (.ref b) H
theorem Aw {X:Cx}:hX X (binaryOp .Add) (zQ X.K):=by
 intro pins s σ H x y v u Q I rx ry h
 obtain ⟨a,b,ys,rfl,rfl,ha,hb,q1⟩:=h
 cases rx
 cases ry
 obtain ⟨its,r1,p1,_⟩:=I.tuple ha
 obtain ⟨its2,r2,p2,_⟩:=I.tuple hb
 have e:its=[]:=r1.lN.mpr rfl
 subst e
 exact HT.Ay p1 p2 ⟨.ref b,H,I,rfl,q1⟩
def cw {α:Type} (c:Prop) [Decidable c] (x:M α):M α:=if c then x else none
theorem aC.cw {α:Type} {c:Prop} [Decidable c] {x:M α} {Q:α->Prop} {E:EX->Prop} (h:aC (L2.cw c x) Q E):c/\aC x Q E:=by
 unfold L2.cw at h
 by_cases hc:c
 ·rw [if_pos hc] at h;exact ⟨hc,h⟩
 ·rw [if_neg hc] at h;exact h.elim
def e6 (o:Option PV):M PV:=match o with
 | some x=>M.ok x
 | none=>none
theorem aC.opt {o:Option PV} {Q:PV->Prop} {E:EX->Prop} (h:aC (e6 o) Q E):∃ x,o=some x/\Q x:=by
 cases o with
 | none=>exact h.elim
 | some x=>exact ⟨x,rfl,h⟩
section
variable {X:Cx} {E:St->XK} {a b c e:Expr} {pos:Pos} {f g h:ai->M PV}
def af (i:Nat) (env:ai):M PV:=match env[i]? with
 | some (some (.sh p))=>M.ok p
 | _=>none
theorem Fp {i:Nat} {x:Str} (hN:X.N[i]?=some x) (hv:Bv X.env.scope x) (hd:(x==("__debug__" : Str))=false:=by decide) (hcd:(x==("__classdict__" : Str))=false:=by decide):PE X (.Name x pos) (tE E (af i)):=by
 refine (ph hN hv hd hcd).imp fun σ H Q q=>?_
 obtain ⟨B,H₀,Hs,env,sr,q⟩:=q
 unfold af at q
 split at q
 ·rename_i p e
  obtain ⟨v,h1,h2⟩:=sr.sh i p e
  exact ⟨v,h1,e8.flat q sr.gr.sub h2⟩
 ·exact q.elim
theorem eK {p:PV} {v:V} (he:PE X e (tC v)) (r:∀ H,Rep H p v):PE X e (tE E fun _=>M.ok p):=by
 refine he.imp fun σ H Q q=>?_
 obtain ⟨B,H₀,Hs,env,sr,q⟩:=q
 exact e8.flat q sr.gr.sub (r Hs)
theorem ar {i:Int} {j:Nat}:PE X (.Constant (.int i) j pos) (tE E fun _=>M.ok (.int i)):=eK FN fun _=>.int i
theorem qW {i:Bool} {j:Nat}:PE X (.Constant (.bool i) j pos) (tE E fun _=>M.ok (.bl i)):=eK Hi fun _=>.bl i
theorem sC {j:Nat}:PE X (.Constant .none j pos) (tE E fun _=>M.ok .c8):=eK D7 fun _=>.c8
theorem wj {i:Str} {j:Nat}:PE X (.Constant (.str i) j pos) (tE E fun _=>M.ok (.str i)):=eK Fh fun _=>.str i
def av (op:PV->PV->M PV) (f g:ai->M PV):ai->M PV:=fun env=>(f env).bind fun p=>(g env).bind fun q=>op p q
def mI (E:St->XK) (r:R2) (op:PV->PV->M PV):Prop:=∀ (σ:St) (Hs H:Hp) (p q:PV) (v u:V) (Q:VK),bp Hs H->Rep Hs p v->Rep Hs q u->aC (op p q) (e8 Hs H Q) (XW (E σ) Hs H)->r v u H Q
theorem ax {op:Operator} {r:R2} {o:PV->PV->M PV} (ho:hX X (binaryOp op) r) (hv:mI E r o) (ha:PE X a (tE E f)) (hb:PE X b (tE E g)):PE X (.BinOp a op b pos) (tE E (av o f g)) :=
 (GD ho ha hb).imp fun σ H Q q=>wG q fun Hs H1 p q v u s rp rq h=>hv σ Hs H1 p q v u Q s rp rq h
theorem Ft {op:CmpOp} {r:R2} {o:PV->PV->M PV} (ho:hX X (compareOp op) r) (hv:mI E r o) (ha:PE X a (tE E f)) (hb:PE X b (tE E g)) (hm:behindInMarks op b=false):PE X (.Compare a [op] [b] pos) (tE E (av o f g)) :=
 (BM ho ha hb hm).imp fun σ H Q q=>wG q fun Hs H1 p q v u s rp rq h=>hv σ Hs H1 p q v u Q s rp rq h
def iw:PV->PV->M PV
 | .int i,.int j=>M.ok (.int (i+j))
 | .str x,.str y=>cw (x.length+y.length<=sizeLine) (M.ok (.str (x++y)))
 | .tup xs,.tup ys=>cw (xs.length+ys.length<=sizeLine) (M.ok (.tup (xs++ys)))
 | .lst xs,.lst ys=>cw (xs.length+ys.length<=sizeLine) (M.ok (.lst (xs++ys)))
 | _,_=>none
def Dc (K:PySem.W.Frag):R2:=fun x y H Q=>(∃ i j,x=.int i/\y=.int j/\Q (.int (i+j)) H)\/(∃ i j,x=.str i/\y=.str j/\i.length+j.length<=sizeLine/\Q (.str (i++j)) H)\/Dh K x y H Q\/Ht x y H Q\/zQ K x y H Q
theorem dt:hX X (binaryOp .Add) (Dc X.K):=hX.or Fw (hX.or vB (hX.or Cu (hX.or Ee Aw)))
theorem eZ {K:PySem.W.Frag}:mI E (Dc K) iw:=by
 intro σ Hs H p q v u Q s rp rq h
 cases rp with
 | int i=>cases rq with
  | int j=>exact .inl ⟨i,j,rfl,rfl,e8.flat h s (.int _)⟩
  | _=>exact h.elim
 | str i=>cases rq with
  | str j =>
   obtain ⟨hz,h⟩:=aC.cw h
   exact .inr (.inl ⟨i,j,rfl,rfl,hz,e8.flat h s (.str _)⟩)
  | _=>exact h.elim
 | @tup a xs vs ha hx=>cases rq with
  | @tup b ys us hb hy =>
   obtain ⟨hz,h⟩:=aC.cw h
   cases hx with
   | nil=>exact .inr (.inr (.inr (.inr ⟨a,b,us,rfl,rfl,ji.of (s _ _ ha),ji.of (s _ _ hb),e8.flat h s (.tup hb hy)⟩)))
   | cons hx1 hx2 =>
    have hx:=aT.cons hx1 hx2
    refine .inr (.inr (.inl ⟨a,b,_,us,rfl,rfl,ji.of (s _ _ ha),ji.of (s _ _ hb),(fun z=>nomatch z),by rw [← hx.length,← hy.length];exact hz,fun z=>?_,fun z=>e8.tup h s (hx.append hy)⟩))
    have e:ys=[]:=by cases hy with | nil=>rfl | cons _ _=>cases z
    subst e
    rw [List.append_nil] at h
    exact e8.flat h s (.tup ha hx)
  | _=>exact h.elim
 | @lst a xs vs ha hx=>cases rq with
  | @lst b ys us hb hy =>
   obtain ⟨hz,h⟩:=aC.cw h
   exact .inr (.inr (.inr (.inl ⟨a,b,vs,us,rfl,rfl,s _ _ ha,s _ _ hb,by rw [← hx.length,← hy.length];exact hz,e8.lst h s (hx.append hy)⟩)))
  | _=>exact h.elim
 | _=>exact h.elim
def vo (c:Int->Int->Bool) (o:Int->Int->Int):PV->PV->M PV
 | .int i,.int j=>cw (c i j=true) (M.ok (.int (o i j)))
 | _,_=>none
theorem wk {C:Int->Int->Prop} {c:Int->Int->Bool} {o:Int->Int->Int} (hc:∀ i j,c i j=true->C i j):mI E (rI C fun i j=>.int (o i j)) (vo c o):=by
 intro σ Hs H p q v u Q s rp rq h
 cases rp with
 | int i=>cases rq with
  | int j =>
   obtain ⟨hz,h⟩:=aC.cw h
   exact ⟨i,j,rfl,rfl,hc i j hz,e8.flat h s (.int _)⟩
  | _=>exact h.elim
 | _=>exact h.elim
def g_:PV->PV->M PV
 | .int i,.int j=>M.ok (.int (i-j))
 | _,_=>none
theorem fg:mI E (wz fun i j=>.int (i-j)) g_:=by
 intro σ Hs H p q v u Q s rp rq h
 cases rp with
 | int i=>cases rq with
  | int j=>exact ⟨i,j,rfl,rfl,e8.flat h s (.int _)⟩
  | _=>exact h.elim
 | _=>exact h.elim
def yX (o:Int->Int->Bool):PV->PV->M PV
 | .int i,.int j=>M.ok (.bl (o i j))
 | _,_=>none
theorem rN {o:Int->Int->Bool}:mI E (wz fun i j=>.bl (o i j)) (yX o):=by
 intro σ Hs H p q v u Q s rp rq h
 cases rp with
 | int i=>cases rq with
  | int j=>exact ⟨i,j,rfl,rfl,e8.flat h s (.bl _)⟩
  | _=>exact h.elim
 | _=>exact h.elim
def aX:PV->PV->M PV
 | .tup xs,.int i=>e6 (tH xs i)
 | .lst xs,.int i=>e6 (tH xs i)
 | .jo xs,.int i=>e6 (tH xs i)
 | .str z,.int i=>cw (z.length<=sizeLine) (e6 ((tH z.cps.toList i).map fun c=>.str ⟨#[c]⟩))
 | _,_=>none
theorem aT.tH {H:Hp} {xs:List PV} {vs:List V} {i:Int} {x:PV} (r:aT H xs vs) (e:L2.tH xs i=some x):∃ v,L2.tH vs i=some v/\Rep H x v:=by
 unfold L2.tH at e ⊢
 rw [← r.length]
 obtain ⟨j,h1,h2⟩:=Option.bind_eq_some_iff.mp e
 obtain ⟨v,h3,h4⟩:=r.get h2
 exact ⟨v,by rw [h1];exact h3,h4⟩
theorem DK {K:PySem.W.Frag}:mI E (Rj K) aX:=by
 intro σ Hs H p q v u Q s rp rq h
 cases rp with
 | @tup a xs vs ha hx=>cases rq with
  | int i =>
   obtain ⟨x,ex,h⟩:=aC.opt h
   obtain ⟨v,h1,h2⟩:=hx.tH ex
   exact .inr (.inl ⟨a,vs,i,v,rfl,rfl,ji.of (s _ _ ha),h1,e8.flat h s h2⟩)
  | _=>exact h.elim
 | @lst a xs vs ha hx=>cases rq with
  | int i =>
   obtain ⟨x,ex,h⟩:=aC.opt h
   obtain ⟨v,h1,h2⟩:=hx.tH ex
   exact .inl ⟨a,vs,i,v,rfl,rfl,iM.of (s _ _ ha),h1,e8.flat h s h2⟩
  | _=>exact h.elim
 | @jo a o xs vs ha hx=>cases rq with
  | int i =>
   obtain ⟨x,ex,h⟩:=aC.opt h
   obtain ⟨v,h1,h2⟩:=hx.tH ex
   exact .inl ⟨a,vs,i,v,rfl,rfl,.inl (.inr ⟨o,s _ _ ha⟩),h1,e8.flat h s h2⟩
  | _=>exact h.elim
 | str z=>cases rq with
  | int i =>
   obtain ⟨hz,h⟩:=aC.cw h
   obtain ⟨x,ex,h⟩:=aC.opt h
   obtain ⟨c,ec,rfl⟩:=Option.map_eq_some_iff.mp ex
   exact .inr (.inr ⟨z,i,c,rfl,rfl,hz,ec,e8.flat h s (.str _)⟩)
  | _=>exact h.elim
 | _=>exact h.elim
theorem aN (ha:PE X a (tE E f)) (hb:PE X b (tE E g)) (hs:wQ b):PE X (.Subscript a b pos) (tE E (av aX f g)) :=
 (Gj EM ha hb hs).imp fun σ H Q q=>wG q fun Hs H1 p q v u s rp rq h=>DK σ Hs H1 p q v u Q s rp rq h
end
end L2
namespace L2
open PySem PySem.Spec PyProof.Rows
def tG {α:Type} (E:St->XK) (f:ai->M α) (K:Hp->Hp->α->Prop):St->Hp->Prop:=fun σ H=>∃ B H₀ Hs env,SR B H₀ Hs H σ env/\aC (f env) (K Hs H) (XW (E σ) Hs H)
def KG {α:Type} (K:Hp->Hp->α->Prop):Prop:=∀ Hs H Hs' H' b,K Hs H b->bD Hs H Hs' H'->K Hs' H' b
abbrev KB (Q:Bool->Hp->Prop):Hp->Hp->Bool->Prop:=fun Hs H k=>∀ Hs' H',bD Hs H Hs' H'->Q k H'
abbrev ky (Q:VK):Hp->Hp->PV->Prop:=fun Hs H p=>e8 Hs H Q p
abbrev KL (Q:List V->Hp->Prop):Hp->Hp->List PV->Prop:=fun Hs H ps=>∀ vs Hs' H',bD Hs H Hs' H'->aT Hs' ps vs->Q vs H'
theorem KB.g {Q:Bool->Hp->Prop}:KG (KB Q):=fun Hs H Hs' H' b k g Hs2 H2 g2=>k Hs2 H2 (g.trans g2)
theorem ky.g {Q:VK}:KG (ky Q):=fun Hs H Hs' H' b k g w Hs2 H2 g2 r=>k w Hs2 H2 (g.trans g2) r
theorem KL.g {Q:List V->Hp->Prop}:KG (KL Q):=fun Hs H Hs' H' b k g w Hs2 H2 g2 r=>k w Hs2 H2 (g.trans g2) r
def tT (E:St->XK) (f:ai->M Bool):TT:=fun σ H Q=>tG E f (KB Q) σ H
def tL (E:St->XK) (f:ai->M (List PV)):TA:=fun σ H Q=>tG E f (KL Q) σ H
theorem PT.imp {X:Cx} {e:Expr} {t t':TT} (h:PT X e t) (i:∀ σ H Q,t' σ H Q->t σ H Q):PT X e t':=fun pins s σ H Q I q=>h pins s σ H Q I (i σ H Q q)
theorem PW.imp {X:Cx} {e:Expr} {t t':TT} (h:PW X e t) (i:∀ σ H Q,t' σ H Q->t σ H Q):PW X e t':=fun w pins s σ H Q I q=>h w pins s σ H Q I (i σ H Q q)
theorem PA.imp {X:Cx} {e:List Expr} {t t':TA} (h:PA X e t) (i:∀ σ H Q,t' σ H Q->t σ H Q):PA X e t':=fun w pins s σ H Q I q=>h w pins s σ H Q I (i σ H Q q)
section
variable {β:Type} {E:St->XK} {K:Hp->Hp->β->Prop} {σ:St} {H:Hp}
theorem bW {f:ai->M PV} {g:ai->PV->M β} {R:VK} (kg:KG K) (h:tG E (fun env=>(f env).bind (g env)) K σ H)
  (k:∀ B H₀ Hs H1 env p v,SR B H₀ Hs H1 σ env->Rep Hs p v->aC (g env p) (K Hs H1) (XW (E σ) Hs H1)->R v H1):tE E f σ H R:=by
 obtain ⟨B,H₀,Hs,env,sr,h⟩:=h
 refine ⟨B,H₀,Hs,env,sr,(aC.bind h).imp (fun p hp v Hs' H' g r=>?_) fun e he=>he⟩
 exact k B H₀ Hs' H' env p v (sr.grow g) r (hp.imp (fun q hq=>kg _ _ _ _ q hq g) fun e he=>he.grow g)
theorem oj {f:ai->M Bool} {g:ai->Bool->M β} {R:Bool->Hp->Prop} (kg:KG K) (h:tG E (fun env=>(f env).bind (g env)) K σ H)
  (k:∀ B H₀ Hs H1 env p,SR B H₀ Hs H1 σ env->aC (g env p) (K Hs H1) (XW (E σ) Hs H1)->R p H1):tT E f σ H R:=by
 obtain ⟨B,H₀,Hs,env,sr,h⟩:=h
 refine ⟨B,H₀,Hs,env,sr,(aC.bind h).imp (fun p hp Hs' H' g=>?_) fun e he=>he⟩
 exact k B H₀ Hs' H' env p (sr.grow g) (hp.imp (fun q hq=>kg _ _ _ _ q hq g) fun e he=>he.grow g)
theorem cX {f:ai->M (List PV)} {g:ai->List PV->M β} {R:List V->Hp->Prop} (kg:KG K) (h:tG E (fun env=>(f env).bind (g env)) K σ H)
  (k:∀ B H₀ Hs H1 env p v,SR B H₀ Hs H1 σ env->aT Hs p v->aC (g env p) (K Hs H1) (XW (E σ) Hs H1)->R v H1):tL E f σ H R:=by
 obtain ⟨B,H₀,Hs,env,sr,h⟩:=h
 refine ⟨B,H₀,Hs,env,sr,(aC.bind h).imp (fun p hp v Hs' H' g r=>?_) fun e he=>he⟩
 exact k B H₀ Hs' H' env p v (sr.grow g) r (hp.imp (fun q hq=>kg _ _ _ _ q hq g) fun e he=>he.grow g)
end
def va:PV->M Bool
 | .bl b=>M.ok b
 | _=>none
def jh (f:ai->M PV):ai->M Bool:=fun env=>(f env).bind va
theorem aC.HC {p:PV} {Q:Bool->Prop} {E:EX->Prop} (h:aC (va p) Q E):∃ b,p=.bl b/\Q b:=by
 cases p with
 | bl b=>exact ⟨b,rfl,h⟩
 | _=>exact h.elim
section
variable {X:Cx} {E:St->XK} {a b c e:Expr} {pos:Pos} {f g h:ai->M PV} {u v:ai->M Bool} {rest:List Expr}
theorem uR {σ:St} {H:Hp} {Q:Bool->Hp->Prop} (q:tT E (jh f) σ H Q):tB (tE E f) σ H Q:=by
 refine bW KB.g q fun B H₀ Hs H1 env p v sr rp hp=>?_
 obtain ⟨k,rfl,hp⟩:=aC.HC hp
 cases rp
 exact ⟨k,rfl,hp Hs H1 (.refl sr.gr.sub)⟩
theorem kU (he:PE X e (tE E f)) (hw:∀ whole,isTrue e X.env whole=(do let v ← whole;standAt e.pos;holding [v] (truthy v)):=by intro _;rfl):PT X e (tT E (jh f)) :=
 (Ex he hw).imp fun σ H Q q=>uR q
theorem bQ {op:CmpOp} {r:R2} {o:PV->PV->M PV} (ho:hX X (compareOp op) r) (hv:mI E r o) (ha:PE X a (tE E f)) (hb:PE X b (tE E g)) (hm:behindInMarks op b=false):PT X (.Compare a [op] [b] pos) (tT E (jh (av o f g))):=by
 refine (BP ho ha hb hm).imp fun σ H Q q=>?_
 have q':=uR q
 exact wG q' fun Hs H1 p q v u s rp rq h=>hv σ Hs H1 p q v u _ s rp rq h
def sv (u:ai->M Bool):ai->M Bool:=fun env=>(u env).bind fun b=>M.ok (!b)
def OU (u v:ai->M Bool):ai->M Bool:=fun env=>(u env).bind fun b=>if b=true then v env else M.ok false
def FX (u v:ai->M Bool):ai->M Bool:=fun env=>(u env).bind fun b=>if b=true then M.ok true else v env
theorem kW (ha:PT X a (tT E u)):PT X (.UnaryOp .Not a pos) (tT E (sv u)) :=
 (E8 ha).imp fun σ H Q q=>oj KB.g q fun B H₀ Hs H1 env p sr hp=>hp Hs H1 (.refl sr.gr.sub)
theorem sD (ha:PT X a (tT E u)):PW X (.BoolOp .Or [a] pos) (tT E u):=pw_or1 ha
theorem w_ (ha:PT X a (tT E u)) (hb:PW X (.BoolOp .Or (b::rest) pos) (tT E v)):PW X (.BoolOp .Or (a::b::rest) pos) (tT E (FX u v)):=by
 refine (pw_or ha hb).imp fun σ H Q q=>oj KB.g q fun B H₀ Hs H1 env p sr hp=>?_
 cases p with
 | true=>exact hp Hs H1 (.refl sr.gr.sub)
 | false=>exact ⟨B,H₀,Hs,env,sr,hp⟩
def EE (f:ai->M PV):ai->M PV:=fun env=>(f env).bind fun p=>(va p).bind fun b=>M.ok (.bl (!b))
def C7 (f g:ai->M PV):ai->M PV:=fun env=>(f env).bind fun p=>(va p).bind fun b=>if b=true then g env else M.ok (.bl false)
def Tw (f g:ai->M PV):ai->M PV:=fun env=>(f env).bind fun p=>(va p).bind fun b=>if b=true then M.ok (.bl true) else g env
theorem Fi (ha:PE X a (tE E f)):PE X (.UnaryOp .Not a pos) (tE E (EE f)):=by
 refine (ES ha).imp fun σ H Q q=>bW (K:=ky Q) ky.g q fun B H₀ Hs H1 env p v sr rp hp=>?_
 obtain ⟨k,rfl,hp⟩:=aC.HC (aC.bind hp)
 cases rp
 exact ⟨k,rfl,e8.flat hp sr.gr.sub (.bl _)⟩
theorem AH (ha:PE X a (tE E f)) (hb:PE X (.BoolOp .And (b::rest) pos) (tE E g)):PE X (.BoolOp .And (a::b::rest) pos) (tE E (C7 f g)):=by
 refine (Ey ha hb).imp fun σ H Q q=>bW (K:=ky Q) ky.g q fun B H₀ Hs H1 env p v sr rp hp=>?_
 obtain ⟨k,rfl,hp⟩:=aC.HC (aC.bind hp)
 cases rp
 refine ⟨k,rfl,?_⟩
 cases k with
 | true=>exact ⟨B,H₀,Hs,env,sr,hp⟩
 | false=>exact e8.flat hp sr.gr.sub (.bl _)
def zk (u:ai->M Bool) (f g:ai->M PV):ai->M PV:=fun env=>(u env).bind fun b=>if b=true then f env else g env
theorem yU (hc:PT X c (tT E u)) (ha:PE X a (tE E f)) (hb:PE X b (tE E g)):PE X (.IfExp c a b pos) (tE E (zk u f g)):=by
 refine (A0 hc ha hb).imp fun σ H Q q=>oj (K:=ky Q) ky.g q fun B H₀ Hs H1 env p sr hp=>?_
 cases p with
 | true=>exact ⟨B,H₀,Hs,env,sr,hp⟩
 | false=>exact ⟨B,H₀,Hs,env,sr,hp⟩
def az:ai->M (List PV):=fun _=>M.ok []
def ah (f:ai->M PV) (fs:ai->M (List PV)):ai->M (List PV):=fun env=>(f env).bind fun p=>(fs env).bind fun ps=>M.ok (p::ps)
variable {fs:ai->M (List PV)} {es:List Expr}
theorem ao:PA X [] (tL E az):=by
 refine kP.imp fun σ H Q q=>?_
 obtain ⟨B,H₀,Hs,env,sr,q⟩:=q
 exact q [] Hs H (.refl sr.gr.sub) .nil
theorem aa (ha:PE X e (tE E f)) (hr:PA X es (tL E fs)) (hs:starEach (e::es) X.env=(false,eval e X.env)::starEach es X.env:=by rfl):PA X (e::es) (tL E (ah f fs)):=by
 refine (fF ha hr hs).imp fun σ H Q q=>bW (K:=KL Q) KL.g q fun B H₀ Hs H1 env p v sr rp hp=>?_
 refine ⟨B,H₀,Hs,env,sr,(aC.bind hp).imp (fun ps hps vs Hs' H' g r=>?_) fun e he=>he⟩
 exact hps (v::vs) Hs' H' g (.cons (rp.mono g.st) r)
def lQ (fs:ai->M (List PV)):ai->M PV:=fun env=>(fs env).bind fun ps=>cw (ps.length<=sizeLine) (M.ok (.tup ps))
def wb (fs:ai->M (List PV)):ai->M PV:=fun env=>(fs env).bind fun ps=>cw (ps.length<=sizeLine) (M.ok (.lst ps))
theorem gS {x1:Nat} (hr:PA X es (tL E fs)):PE X (.Tuple es x1 pos) (tE E (lQ fs)):=by
 refine (zL hr).imp fun σ H Q q=>cX (K:=ky Q) ky.g q fun B H₀ Hs H1 env p v sr rp hp=>?_
 obtain ⟨hz,hp⟩:=aC.cw hp
 exact ⟨by rw [← rp.length];exact hz,e8.tup hp sr.gr.sub rp⟩
theorem oZ (hr:PA X es (tL E fs)):PE X (.List es pos) (tE E (wb fs)):=by
 refine (zY hr).imp fun σ H Q q=>cX (K:=ky Q) ky.g q fun B H₀ Hs H1 env p v sr rp hp=>?_
 obtain ⟨hz,hp⟩:=aC.cw hp
 exact ⟨by rw [← rp.length];exact hz,e8.lst hp sr.gr.sub rp⟩
def au (o:List PV->M PV) (fs:ai->M (List PV)):ai->M PV:=fun env=>(fs env).bind o
def mZ (E:St->XK) (r:List V->Hp->VK->Prop) (o:List PV->M PV):Prop:=∀ (σ:St) (Hs H:Hp) (ps:List PV) (vs:List V) (Q:VK),bp Hs H->aT Hs ps vs->aC (o ps) (e8 Hs H Q) (XW (E σ) Hs H)->r vs H Q
theorem zK {r:List V->Hp->VK->Prop} {o:List PV->M PV} {σ:St} {H:Hp} {Q:VK} (hv:mZ E r o) (q:tE E (au o fs) σ H Q):LZ r (tL E fs) σ H Q :=
 cX (K:=ky Q) ky.g q fun B H₀ Hs H1 env p v sr rp hp=>hv σ Hs H1 p v Q sr.gr.sub rp hp
variable {x:Str} {p:Pos} {id T:String}
theorem aU {r:List V->Hp->VK->Prop} {o:List PV->M PV} (hc:dP X (.builtin id) r) (hv:mZ E r o) (hg:Gl X x) (hm:X.mg x=none) (hx:bootBuiltins x=some (.builtin id)) (ha:PA X (e::es) (tL E fs)) (hn:x ≠ "__name__" := by decide) (hdb:(x==("__debug__" : Str))=false:=by decide)
  (he:starEach (e::es) X.env=(false,eval e X.env)::starEach es X.env:=by rfl) (hpl:(backTo pos (starEach es X.env)).any (·.1)=false:=by rfl):PE X (.Call (.Name x p) (e::es) [] pos) (tE E (au o fs)) :=
 (n9 hc hg hm hx ha hn hdb he hpl).imp fun σ H Q q=>zK hv q
theorem bC {r:List V->Hp->VK->Prop} {o:List PV->M PV} (hc:dP X (.type T) r) (hv:mZ E r o) (hg:Gl X x) (hm:X.mg x=none) (hx:bootBuiltins x=some (.type T)) (ha:PA X (e::es) (tL E fs)) (hn:x ≠ "__name__" := by decide) (hdb:(x==("__debug__" : Str))=false:=by decide)
  (he:starEach (e::es) X.env=(false,eval e X.env)::starEach es X.env:=by rfl) (hpl:(backTo pos (starEach es X.env)).any (·.1)=false:=by rfl):PE X (.Call (.Name x p) (e::es) [] pos) (tE E (au o fs)) :=
 (ro hc hg hm hx ha hn hdb he hpl).imp fun σ H Q q=>zK hv q
end
end L2
namespace L2
open PySem PySem.Spec PyProof.Rows
section
variable {E:St->XK}
def cx:PV->Option (List PV)
 | .tup xs=>some xs
 | .lst xs=>some xs
 | .jo xs=>some xs
 | _=>none
theorem vy {K:PySem.W.Frag} {Hs H:Hp} {p:PV} {v:V} {xs:List PV} (s:bp Hs H) (r:Rep Hs p v) (e:cx p=some xs):∃ a vs,v=.ref a/\(iM K H a vs\/ji K H a vs)/\aT Hs xs vs:=by
 cases r with
 | tup h r=>cases e;exact ⟨_,_,rfl,.inr (ji.of (s _ _ h)),r⟩
 | lst h r=>cases e;exact ⟨_,_,rfl,.inl (iM.of (s _ _ h)),r⟩
 | jo h r=>cases e;exact ⟨_,_,rfl,.inl (.inl (.inr ⟨_,s _ _ h⟩)),r⟩
 | _=>cases e
def uF:PV->M PV
 | .str z=>cw (z.length<=sizeLine) (M.ok (.int z.length))
 | p=>e6 ((cx p).map fun xs=>.int xs.length)
def eW:List PV->M PV
 | [p]=>uF p
 | _=>none
theorem aT.one {H:Hp} {p:PV} {vs:List V} (r:aT H [p] vs):∃ v,vs=[v]/\Rep H p v:=by
 cases r with
 | cons h r=>cases r;exact ⟨_,rfl,h⟩
theorem aT.two {H:Hp} {p q:PV} {vs:List V} (r:aT H [p,q] vs):∃ v u,vs=[v,u]/\Rep H p v/\Rep H q u:=by
 cases r with
 | cons h r=>obtain ⟨u,rfl,h2⟩:=r.one;exact ⟨_,_,rfl,h,h2⟩
def Dz (K:PySem.W.Frag):List V->Hp->VK->Prop:=fun xs H Q=>(∃ p ys,xs=[.ref p]/\(iM K H p ys\/ji K H p ys)/\Q (.int ys.length) H)\/∃ z,xs=[.str z]/\z.length<=sizeLine/\Q (.int z.length) H
theorem aS {X:Cx}:dP X (.builtin "len") (Dz X.K):=dP.or sy rS
theorem bP {K:PySem.W.Frag}:mZ E (Dz K) eW:=by
 intro σ Hs H ps vs Q s r h
 match ps,r with
 | [],_=>exact h.elim
 | _::_::_,_=>exact h.elim
 | [p],r =>
  obtain ⟨v,rfl,rp⟩:=r.one
  cases hp:cx p with
  | none =>
   cases p with
   | str z =>
    cases rp
    obtain ⟨hz,h⟩:=aC.cw h
    exact .inr ⟨z,rfl,hz,e8.flat h s (.int _)⟩
   | tup _=>cases hp
   | lst _=>cases hp
   | jo _=>cases hp
   | _=>exact h.elim
  | some xs =>
   obtain ⟨a,us,rfl,hq,hx⟩:=vy (K:=K) s rp hp
   have h':aC (e6 ((cx p).map fun xs=>PV.int xs.length)) (e8 Hs H Q) (XW (E σ) Hs H):=by
    cases p with
    | str z=>cases hp
    | _=>exact h
   rw [hp] at h'
   refine .inl ⟨a,us,rfl,hq,?_⟩
   rw [← hx.length]
   exact e8.flat h' s (.int _)
def tN:List PV->M PV
 | [p]=>e6 ((cx p).map .lst)
 | _=>none
theorem si {K:PySem.W.Frag}:mZ E (fun xs H Q=>∃ p ys,xs=[.ref p]/\(iM K H p ys\/ji K H p ys)/\∀ l,H l=none->Q (.ref l) (upd H l (.lst ys))) tN:=by
 intro σ Hs H ps vs Q s r h
 match ps,r with
 | [],_=>exact h.elim
 | _::_::_,_=>exact h.elim
 | [p],r =>
  obtain ⟨v,rfl,rp⟩:=r.one
  obtain ⟨x,ex,h⟩:=aC.opt h
  obtain ⟨xs,hp,rfl⟩:=Option.map_eq_some_iff.mp ex
  obtain ⟨a,us,rfl,hq,hx⟩:=vy (K:=K) s rp hp
  exact ⟨a,us,rfl,hq,e8.lst h s hx⟩
def eG:List PV->M PV
 | [p]=>e6 ((cx p).map .tup)
 | _=>none
theorem cW {K:PySem.W.Frag}:mZ E (fun xs H Q=>∃ p ys,xs=[.ref p]/\((iM K H p ys/\∀ l,H l=none->Q (.ref l) (upd H l (.tup ys)))\/(ji K H p ys/\Q (.ref p) H))) eG:=by
 intro σ Hs H ps vs Q s r h
 match ps,r with
 | [],_=>exact h.elim
 | _::_::_,_=>exact h.elim
 | [p],r =>
  obtain ⟨v,rfl,rp⟩:=r.one
  obtain ⟨x,ex,h⟩:=aC.opt h
  obtain ⟨xs,hp,rfl⟩:=Option.map_eq_some_iff.mp ex
  cases rp with
  | tup ha hx=>cases hp;exact ⟨_,_,rfl,.inr ⟨ji.of (s _ _ ha),e8.flat h s (.tup ha hx)⟩⟩
  | lst ha hx=>cases hp;exact ⟨_,_,rfl,.inl ⟨iM.of (s _ _ ha),e8.tup h s hx⟩⟩
  | jo ha hx=>cases hp;exact ⟨_,_,rfl,.inl ⟨.inl (.inr ⟨_,s _ _ ha⟩),e8.tup h s hx⟩⟩
  | _=>cases hp
def wx:List PV->Option (List Int)
 | []=>some []
 | .int i::r=>(wx r).map (i::·)
 | _=>none
def AS:List PV->Option (List Bool)
 | []=>some []
 | .bl i::r=>(AS r).map (i::·)
 | _=>none
theorem yK:∀ {ps:List PV} {ns:List Bool},AS ps=some ns->ps=ns.map PV.bl
 | [],_,e=>by cases e;rfl
 | .bl i::r,_,e=>by
  obtain ⟨ms,h1,rfl⟩:=Option.map_eq_some_iff.mp e
  rw [yK h1];rfl
theorem ri:∀ (ns:List Int),wx (ns.map PV.int)=some ns
 | []=>rfl
 | n::r=>by show (wx (r.map PV.int)).map (n::·)=_;rw [ri r];rfl
theorem tQ:∀ (ns:List Bool),AS (ns.map PV.bl)=some ns
 | []=>rfl
 | n::r=>by show (AS (r.map PV.bl)).map (n::·)=_;rw [tQ r];rfl
def G0:PV->M PV
 | .lst xs=>e6 ((wx xs).map fun ns=>.int ns.sum)
 | _=>none
def Gr:List PV->M PV
 | [p]=>G0 p
 | _=>none
def all1:PV->M PV
 | .lst xs=>e6 ((AS xs).map fun ns=>.bl (ns.all id))
 | _=>none
def vP:List PV->M PV
 | [p]=>all1 p
 | _=>none
theorem yS {K:PySem.W.Frag}:mZ E (fun xs H Q=>∃ (a:Addr) (bs:List Bool),xs=[.ref a]/\iM K H a (bs.map V.bl)/\Q (.bl (bs.all id)) H) vP:=by
 intro σ Hs H ps vs Q s r h
 match ps,r with
 | [],_=>exact h.elim
 | _::_::_,_=>exact h.elim
 | [p],r =>
  obtain ⟨v,rfl,rp⟩:=r.one
  cases rp with
  | lst ha hx =>
   obtain ⟨x,ex,h⟩:=aC.opt h
   obtain ⟨ns,hn,rfl⟩:=Option.map_eq_some_iff.mp ex
   rw [yK hn] at hx
   exact ⟨_,ns,rfl,hx.QR▸iM.of (s _ _ ha),e8.flat h s (.bl _)⟩
  | _=>exact h.elim
def P8 (o:Int->Int->Int):PV->PV->M PV
 | .int i,.int j=>M.ok (.int (o i j))
 | _,_=>none
def Dt (o:Int->Int->Int):List PV->M PV
 | [p,q]=>P8 o p q
 | _=>none
theorem B8 {o:Int->Int->Int}:mZ E (fun xs H Q=>∃ i j,xs=[.int i,.int j]/\Q (.int (o i j)) H) (Dt o):=by
 intro σ Hs H ps vs Q s r h
 match ps,r with
 | [],_=>exact h.elim
 | [_],_=>exact h.elim
 | _::_::_::_,_=>exact h.elim
 | [p,q],r =>
  obtain ⟨v,u,rfl,rp,rq⟩:=r.two
  cases rp with
  | int i=>cases rq with
   | int j=>exact ⟨i,j,rfl,e8.flat h s (.int _)⟩
   | _=>exact h.elim
  | _=>exact h.elim
end
def f7 (n:Nat) (sem:List PV->M PV):Sp:=fun vs H Q E=>vs.length=n/\∃ Hs ps,bp Hs H/\aT Hs ps vs/\aC (sem ps) (e8 Hs H Q) (XW E Hs H)
section
variable {X:Cx} {E:St->XK} {k n:Nat} {f C:Addr} {fd:FuncData} {ps:List Str} {sem:List PV->M PV} {x m:Str} {p pos apos:Pos} {e o:Expr} {es:List Expr} {fs:ai->M (List PV)} {g:ai->M PV}
theorem BX {ds:List Value} {dvs:List V} {dps:List PV} (F:aY X.prog X.w X.K X.mg X.base (b_ X.prog X.w) k f fd ps (f7 n sem)) (hr:cy k X.A) (hg:Gl X x) (hm:X.mg x=some (.ref f)) (hk:PySem.W.keepIn X.K (.ref f)=true) (hb:Binds X.K fd ps ds) (hd:Vals dvs ds) (hdp:∀ H,aT H dps dvs) (O:eH X E)
  (hl:∀ ps,sem (ps++dps)≠none->ps.length+dps.length=n)
  (ha:PA X (e::es) (tL E fs)) (hdb:(x==("__debug__" : Str))=false:=by decide) (he:starEach (e::es) X.env=(false,eval e X.env)::starEach es X.env:=by rfl) (hpl:(backTo pos (starEach es X.env)).any (·.1)=false:=by rfl) :
  PE X (.Call (.Name x p) (e::es) [] pos) (tE E (au (fun ps=>sem (ps++dps)) fs)):=by
 refine (zT F hr hg hm hk hb hd O ha hdb he hpl).imp fun σ H Q q=>cX (K:=ky Q) ky.g q fun B H₀ Hs H1 env ps' v sr rp hp=>?_
 have r2:aT Hs (ps'++dps) (v++dvs):=rp.append (hdp Hs)
 have hn:sem (ps'++dps)≠none:=fun z=>by rw [z] at hp;exact hp
 refine ⟨?_,Hs,ps'++dps,sr.gr.sub,r2,hp⟩
 rw [← r2.length,List.length_append]
 exact hl ps' hn
def hG (ok:Addr->Bool) (f:Str) (g:ai->M PV):ai->M PV:=fun env=>(g env).bind fun p=>match p with
 | .obj C fs=>cw (ok C=true) (e6 (fs.lookup f))
 | _=>none
theorem g8 {ok:Addr->Bool} {fl:Str} (he:PE X e (tE E g)) (bu:∀ C,ok C=true->lM X.K C/\bT X.K C fl) (hb:attributeBase e fl X.env (eval e X.env)=eval e X.env):PE X (.Attribute e fl pos) (tE E (hG ok fl g)):=by
 refine (D5 he hb).imp fun σ H Q q=>bW (K:=ky Q) ky.g q fun B H₀ Hs H1 env p v sr rp hp=>?_
 cases rp with
 | obj ha hx =>
  obtain ⟨hc,hp⟩:=aC.cw hp
  obtain ⟨x,ex,hp⟩:=aC.opt hp
  obtain ⟨u,h1,h2⟩:=hx.look ex
  exact ⟨_,_,_,_,u,rfl,sr.gr.sub _ _ ha,(bu _ hc).1,(bu _ hc).2,h1,e8.flat hp sr.gr.sub h2⟩
 | _=>exact hp.elim
def dB (C:Addr) (m:Str) (sem:List PV->M PV) (g:ai->M PV) (fs:ai->M (List PV)):ai->M PV:=fun env=>(g env).bind fun p=>match p with
 | .obj C' fl=>cw (C'=C/\fl.lookup m=none) ((fs env).bind fun ps=>sem (.obj C' fl::ps))
 | _=>none
theorem BY {pl:Sem Bool} (he:PE X o (tE E g)) (c:lM X.K C) (hm:Meth X.K C m f) (F:aY X.prog X.w X.K X.mg X.base (b_ X.prog X.w) k f fd ps (f7 n sem)) (hr:cy k X.A) (hb:Binds X.K fd ps []) (O:eH X E) (hl:∀ ps,sem ps≠none->ps.length=n) (ha:PA X (e::es) (tL E fs))
  (hst:starEach (e::es) X.env=(false,eval e X.env)::starEach es X.env:=by rfl) (hpl:(backTo pos (starEach es X.env)).any (·.1)=false:=by rfl)
  (ht:eval (.Call (.Attribute o m apos) (e::es) [] pos) X.env=(do
   let ov ← eval o X.env
   standAt apos.atName
   let (f,first) ← holding [ov] (getMethod ov m pl)
   callWith pos f first (backTo pos (starEach (e::es) X.env)) (backToKw pos (keywordEach [] X.env))):=by rfl) :
  PE X (.Call (.Attribute o m apos) (e::es) [] pos) (tE E (dB C m sem g fs)):=by
 refine (zH he c hm F hr hb .nil O ha hst hpl ht).imp fun σ H Q q=>bW (K:=ky Q) ky.g q fun B H₀ Hs H1 env p v sr rp hp=>?_
 cases rp with
 | @obj a C' dx fl fvs ho hx =>
  obtain ⟨⟨e1,hn⟩,Bu⟩:=aC.cw hp
  subst e1
  refine ⟨a,dx,fvs,rfl,sr.gr.sub _ _ ho,hx.none hn,B,H₀,Hs,env,sr,(aC.bind Bu).imp (fun ps' hps vs Hs' H' g' r=>?_) fun e he=>he⟩
  have r2:aT Hs' (.obj C' fl::ps') (V.ref a::(vs++[])):=by rw [List.append_nil];exact .cons ((Rep.obj ho hx).mono g'.st) r
  have hn:sem (.obj C' fl::ps')≠none:=fun z=>by rw [z] at hps;exact hps
  refine ⟨by rw [← r2.length];exact hl _ hn,Hs',_,g'.sub,r2,hps.imp (fun z hz w Hs2 H2 g2 r2=>hz w Hs2 H2 (g'.trans g2) r2) fun e he=>he.grow g'⟩
 | _=>exact hp.elim
theorem Ap {pl:Sem Bool} (he:PE X o (tE E g)) (c:lM X.K C) (hm:Meth X.K C m f) (F:aY X.prog X.w X.K X.mg X.base (b_ X.prog X.w) k f fd ps (f7 n sem)) (hr:cy k X.A) (hb:Binds X.K fd ps []) (O:eH X E) (hl:∀ ps,sem ps≠none->ps.length=n)
  (ht:eval (.Call (.Attribute o m apos) [] [] pos) X.env=(do
   let ov ← eval o X.env
   standAt apos.atName
   let (f,first) ← holding [ov] (getMethod ov m pl)
   callWith pos f first (backTo pos (starEach [] X.env)) (backToKw pos (keywordEach [] X.env))):=by rfl) :
  PE X (.Call (.Attribute o m apos) [] [] pos) (tE E (dB C m sem g az)):=by
 refine (qC he c hm F hr hb .nil O ht).imp fun σ H Q q=>bW (K:=ky Q) ky.g q fun B H₀ Hs H1 env p v sr rp hp=>?_
 cases rp with
 | @obj a C' dx fl fvs ho hx =>
  obtain ⟨⟨e1,hn⟩,Bu⟩:=aC.cw hp
  subst e1
  have r2:aT Hs [.obj C' fl] [V.ref a]:=.cons (Rep.obj ho hx) .nil
  have hn':sem [.obj C' fl]≠none:=fun z=>by
   have hp':aC (sem [.obj C' fl]) (e8 Hs H1 Q) (XW (E σ) Hs H1):=Bu
   rw [z] at hp';exact hp'
  exact ⟨a,dx,fvs,rfl,sr.gr.sub _ _ ho,hx.none hn,by rw [show ([]:List V)++[]=[] from rfl];exact r2.length▸hl _ hn',Hs,_,sr.gr.sub,r2,Bu⟩
 | _=>exact hp.elim
end
end L2
namespace L2
open PySem PySem.Spec PyProof.Rows
inductive Out where
 | nx (env:ai) | rt (p:PV) | bk (env:ai) | ct (env:ai)
def KS (D:Ends) (B H₀:Hp):Out->Prop
 | .nx env=>∀ σ Hs H,SR B H₀ Hs H σ env->D.nx σ H
 | .rt p=>∀ v Hs H,bD B H₀ Hs H->Rep Hs p v->D.rt v H
 | .bk env=>∀ σ Hs H,SR B H₀ Hs H σ env->D.bk σ H
 | .ct env=>∀ σ Hs H,SR B H₀ Hs H σ env->D.ct σ H
def tS (E:XK) (f:ai->M Out):TS:=fun D σ H=>∃ B H₀ Hs env,SR B H₀ Hs H σ env/\aC (f env) (KS D B H₀) (XW E B H₀)
theorem PS.imp {X:Cx} {st:Stmt} {t t':TS} (h:PS X st t) (i:∀ D σ H,t' D σ H->t D σ H):PS X st t':=fun pins s σ H D I q=>h pins s σ H D I (i D σ H q)
theorem nM.imp {X:Cx} {st:List Stmt} {t t':TS} (h:nM X st t) (i:∀ D σ H,t' D σ H->t D σ H):nM X st t':=fun pins s σ H D I q=>h pins s σ H D I (i D σ H q)
def aB:ai->M Out:=fun env=>M.ok (.nx env)
def Bt (g:ai->M Out):Out->M Out
 | .nx env=>g env
 | o=>M.ok o
def ay (f g:ai->M Out):ai->M Out:=fun env=>(f env).bind (Bt g)
theorem la {E:XK} {f:ai->M PV} {g:ai->PV->M Out} {D:Ends} {σ:St} {H:Hp} {R:VK} (h:tS E (fun env=>(f env).bind (g env)) D σ H)
  (k:∀ B H₀ Hs H1 env p v,SR B H₀ Hs H1 σ env->Rep Hs p v->aC (g env p) (KS D B H₀) (XW E B H₀)->R v H1):tE (fun _=>E) f σ H R:=by
 obtain ⟨B,H₀,Hs,env,sr,h⟩:=h
 refine ⟨B,H₀,Hs,env,sr,(aC.bind h).imp (fun p hp v Hs' H' g r=>?_) fun e he=>he.grow sr.gr⟩
 exact k B H₀ Hs' H' env p v (sr.grow g) r hp
theorem yF {E:XK} {f:ai->M Bool} {g:ai->Bool->M Out} {D:Ends} {σ:St} {H:Hp} {R:Bool->Hp->Prop} (h:tS E (fun env=>(f env).bind (g env)) D σ H)
  (k:∀ B H₀ Hs H1 env p,SR B H₀ Hs H1 σ env->aC (g env p) (KS D B H₀) (XW E B H₀)->R p H1):tT (fun _=>E) f σ H R:=by
 obtain ⟨B,H₀,Hs,env,sr,h⟩:=h
 refine ⟨B,H₀,Hs,env,sr,(aC.bind h).imp (fun p hp Hs' H' g=>?_) fun e he=>he.grow sr.gr⟩
 exact k B H₀ Hs' H' env p (sr.grow g) hp
theorem ub {E:XK} {f:ai->M (List PV)} {g:ai->List PV->M Out} {D:Ends} {σ:St} {H:Hp} {R:List V->Hp->Prop} (h:tS E (fun env=>(f env).bind (g env)) D σ H)
  (k:∀ B H₀ Hs H1 env p v,SR B H₀ Hs H1 σ env->aT Hs p v->aC (g env p) (KS D B H₀) (XW E B H₀)->R v H1):tL (fun _=>E) f σ H R:=by
 obtain ⟨B,H₀,Hs,env,sr,h⟩:=h
 refine ⟨B,H₀,Hs,env,sr,(aC.bind h).imp (fun p hp v Hs' H' g r=>?_) fun e he=>he.grow sr.gr⟩
 exact k B H₀ Hs' H' env p v (sr.grow g) r hp
theorem SR.set {B H₀ Hs H:Hp} {σ:St} {env:ai} {p:PV} {v:V} {i:Nat} (r:SR B H₀ Hs H σ env) (h:Rep Hs p v):SR B H₀ Hs H (σ.set i (some v)) (env.set i (some (.sh p))) where
 gr:=r.gr
 len:=by rw [List.length_set,List.length_set];exact r.len
 sh:=fun j q e=>by
  rw [List.getElem?_set] at e ⊢
  by_cases z:i=j
  ·subst z
   rw [if_pos rfl] at e ⊢
   split at e
   ·cases e
    rw [if_pos (by rw [r.len];assumption)]
    exact ⟨v,rfl,h⟩
   ·cases e
  ·rw [if_neg z] at e ⊢
   exact r.sh j q e
 ow:=fun j xs e=>by
  rw [List.getElem?_set] at e ⊢
  by_cases z:i=j
  ·subst z
   rw [if_pos rfl] at e
   split at e <;> cases e
  ·rw [if_neg z] at e ⊢
   exact r.ow j xs e
 sep:=fun j k xs ys a n e1 e2 e3 e4=>by
  rw [List.getElem?_set] at e1 e2 e3 e4
  by_cases z:i=j
  ·subst z
   rw [if_pos rfl] at e1
   split at e1 <;> cases e1
  ·by_cases z2:i=k
   ·subst z2
    rw [if_pos rfl] at e2
    split at e2 <;> cases e2
   ·rw [if_neg z] at e1 e3
    rw [if_neg z2] at e2 e4
    exact r.sep j k xs ys a n e1 e2 e3 e4
 bd:=fun j a C fs e=>by
  rw [List.getElem?_set] at e ⊢
  by_cases z:i=j
  ·subst z
   rw [if_pos rfl] at e
   split at e <;> cases e
  ·rw [if_neg z] at e ⊢
   exact r.bd j a C fs e
 one:=fun j k a b C D fs gs e1 e2=>by
  rw [List.getElem?_set] at e1 e2
  by_cases z:i=j
  ·subst z
   rw [if_pos rfl] at e1
   split at e1 <;> cases e1
  ·by_cases z2:i=k
   ·subst z2
    rw [if_pos rfl] at e2
    split at e2 <;> cases e2
   ·rw [if_neg z] at e1
    rw [if_neg z2] at e2
    exact r.one j k _ _ C D fs gs e1 e2
theorem SR.own {B H₀ Hs H:Hp} {σ:St} {env:ai} {xs:List PV} {vs:List V} {i:Nat} {p:Addr} (r:SR B H₀ Hs H σ env) (h:aT Hs xs vs) (n:H p=none):SR B H₀ Hs (upd H p (.lst vs)) (σ.set i (some (.ref p))) (env.set i (some (.ow xs))):=by
 have ne:∀ c u,H c=some u->c≠p:=fun c u e z=>by rw [z,n] at e;cases e
 have hs:Hs p=none:=by
  cases q:Hs p with
  | none=>rfl
  | some o=>have:=r.gr.sub _ _ q;rw [n] at this;cases this
 have h0:H₀ p=none:=by
  cases q:H₀ p with
  | none=>rfl
  | some o=>have:=r.gr.al _ _ q;rw [n] at this;cases this
 refine ⟨⟨r.gr.st,fun c u e=>by rw [aw (ne c u (r.gr.al c u e))];exact r.gr.al c u e,fun c u e=>by rw [aw (ne c u (r.gr.sub c u e))];exact r.gr.sub c u e,r.gr.nw⟩,by rw [List.length_set,List.length_set];exact r.len,fun j q e=>?_,fun j ys e=>?_,fun j k ys zs a nj e1 e2 e3 e4=>?_,fun j ba C fs e=>?_,fun j k _ _ C D fs gs e1 e2=>?_⟩
 ·rw [List.getElem?_set] at e ⊢
  by_cases z:i=j
  ·subst z
   rw [if_pos rfl] at e
   split at e <;> cases e
  ·rw [if_neg z] at e ⊢
   exact r.sh j q e
 ·rw [List.getElem?_set] at e ⊢
  by_cases z:i=j
  ·subst z
   rw [if_pos rfl] at e ⊢
   split at e
   ·cases e
    rw [if_pos (by rw [r.len];assumption)]
    exact ⟨p,vs,rfl,aE,hs,h0,h⟩
   ·cases e
  ·rw [if_neg z] at e ⊢
   obtain ⟨a,us,h1,h2,h3,h4,h5⟩:=r.ow j ys e
   exact ⟨a,us,h1,by rw [aw (ne a _ h2)];exact h2,h3,h4,h5⟩
 ·rw [List.getElem?_set] at e1 e2 e3 e4
  by_cases z:i=j
  ·subst z
   rw [if_pos rfl] at e3
   split at e3
   ·cases e3
    rw [if_neg nj] at e2 e4
    obtain ⟨a',us,h1,h2,_⟩:=r.ow k zs e2
    rw [e4] at h1;cases h1
    rw [n] at h2;cases h2
   ·cases e3
  ·rw [if_neg z] at e1 e3
   by_cases z2:i=k
   ·subst z2
    rw [if_pos rfl] at e4
    split at e4
    ·cases e4
     obtain ⟨a',us,h1,h2,_⟩:=r.ow j ys e1
     rw [e3] at h1;cases h1
     rw [n] at h2;cases h2
    ·cases e4
   ·rw [if_neg z2] at e2 e4
    exact r.sep j k ys zs a nj e1 e2 e3 e4
 ·rw [List.getElem?_set] at e ⊢
  by_cases z:i=j
  ·subst z
   rw [if_pos rfl] at e
   split at e <;> cases e
  ·rw [if_neg z] at e ⊢
   obtain ⟨dx,us,h1,h2,h3,h4,h5⟩:=r.bd j ba C fs e
   exact ⟨dx,us,h1,by rw [aw (ne ba _ h2)];exact h2,h3,h4,h5⟩
 ·rw [List.getElem?_set] at e1 e2
  by_cases z:i=j
  ·subst z
   rw [if_pos rfl] at e1
   split at e1 <;> cases e1
  ·by_cases z2:i=k
   ·subst z2
    rw [if_pos rfl] at e2
    split at e2 <;> cases e2
   ·rw [if_neg z] at e1
    rw [if_neg z2] at e2
    exact r.one j k _ _ C D fs gs e1 e2
def t6 (i:Nat) (env:ai):ai:=match env[i]? with
 | some (some (.ow xs))=>env.set i (some (.sh (.lst xs)))
 | _=>env
theorem SR.pU {B H₀ Hs H:Hp} {σ:St} {env:ai} (i:Nat) (r:SR B H₀ Hs H σ env):∃ Hs',SR B H₀ Hs' H σ (t6 i env)/\bp Hs Hs':=by
 unfold t6
 split
 ·rename_i xs e
  obtain ⟨a,vs,h1,h2,h3,h4,h5⟩:=r.ow i xs e
  have ne:∀ c u,Hs c=some u->c≠a:=fun c u q z=>by rw [z,h3] at q;cases q
  have hst:bp Hs (upd Hs a (.lst vs)):=fun c u q=>by rw [aw (ne c u q)];exact q
  refine ⟨upd Hs a (.lst vs),⟨⟨fun c u q=>hst c u (r.gr.st c u q),r.gr.al,fun c u q=>?_,fun c u q1 q2=>?_⟩,by rw [List.length_set];exact r.len,fun j q ej=>?_,fun j ys ej=>?_,fun j k ys zs b nj e1 e2 e3 e4=>?_,fun j ba C fs ej=>?_,fun j k _ _ C D fs gs e1 e2=>?_⟩,hst⟩
  ·by_cases z:c=a
   ·subst z;rw [aE] at q;cases q;exact h2
   ·rw [aw z] at q;exact r.gr.sub c u q
  ·have z:c≠a:=fun z=>by rw [z,h4] at q2;cases q2
   rw [aw z];exact r.gr.nw c u q1 q2
  ·rw [List.getElem?_set] at ej
   by_cases z:i=j
   ·subst z
    rw [if_pos rfl] at ej
    split at ej
    ·cases ej
     exact ⟨.ref a,h1,.lst aE (h5.mono hst)⟩
    ·cases ej
   ·rw [if_neg z] at ej
    obtain ⟨v,q1,q2⟩:=r.sh j q ej
    exact ⟨v,q1,q2.mono hst⟩
  ·rw [List.getElem?_set] at ej
   by_cases z:i=j
   ·subst z
    rw [if_pos rfl] at ej
    split at ej <;> cases ej
   ·rw [if_neg z] at ej
    obtain ⟨b,us,q1,q2,q3,q4,q5⟩:=r.ow j ys ej
    have nb:b≠a:=fun w=>by subst w;exact r.sep i j xs ys b z e ej h1 q1
    exact ⟨b,us,q1,q2,by rw [aw nb];exact q3,q4,q5.mono hst⟩
  ·rw [List.getElem?_set] at e1 e2
   by_cases z:i=j
   ·subst z
    rw [if_pos rfl] at e1
    split at e1 <;> cases e1
   ·by_cases z2:i=k
    ·subst z2
     rw [if_pos rfl] at e2
     split at e2 <;> cases e2
    ·rw [if_neg z] at e1
     rw [if_neg z2] at e2
     exact r.sep j k ys zs b nj e1 e2 e3 e4
  ·rw [List.getElem?_set] at ej
   by_cases z:i=j
   ·subst z
    rw [if_pos rfl] at ej
    split at ej <;> cases ej
   ·rw [if_neg z] at ej
    obtain ⟨dx,us,q1,q2,q3,q4,q5⟩:=r.bd j ba C fs ej
    have nb:ba≠a:=fun w=>by subst w;rw [h2] at q2;cases q2
    exact ⟨dx,us,q1,q2,by rw [aw nb];exact q3,q4,q5.mono hst⟩
  ·rw [List.getElem?_set] at e1 e2
   by_cases z:i=j
   ·subst z
    rw [if_pos rfl] at e1
    split at e1 <;> cases e1
   ·by_cases z2:i=k
    ·subst z2
     rw [if_pos rfl] at e2
     split at e2 <;> cases e2
    ·rw [if_neg z] at e1
     rw [if_neg z2] at e2
     exact r.one j k _ _ C D fs gs e1 e2
 ·exact ⟨Hs,r,fun _ _ q=>q⟩
def pT (is:List Nat) (f:ai->M Out):ai->M Out:=fun env=>f (is.foldl (fun e i=>t6 i e) env)
theorem SR.lU {B H₀ H:Hp} {σ:St}:∀ {is:List Nat} {Hs:Hp} {env:ai},SR B H₀ Hs H σ env->∃ Hs',SR B H₀ Hs' H σ (is.foldl (fun e i=>t6 i e) env)/\bp Hs Hs'
 | [],Hs,_,r=>⟨Hs,r,fun _ _ q=>q⟩
 | i::is,_,_,r=>by
  obtain ⟨Hs1,r1,s1⟩:=r.pU i
  obtain ⟨Hs2,r2,s2⟩:=SR.lU (is:=is) r1
  exact ⟨Hs2,r2,fun c u q=>s2 c u (s1 c u q)⟩
section
variable {X:Cx} {E:XK} {e:Expr} {pos pos':Pos} {f:ai->M PV} {st:Stmt} {sts rest:List Stmt} {u:ai->M Bool} {g h:ai->M Out} {i:Nat} {x:Str}
theorem jV (is:List Nat) (hs:PS X st (tS E g)):PS X st (tS E (pT is g)):=hs.imp fun D σ H q=>by
 obtain ⟨B,H₀,Hs,env,sr,q⟩:=q
 obtain ⟨Hs',r,_⟩:=sr.lU (is:=is)
 exact ⟨B,H₀,Hs',_,r,q⟩
theorem aq:nM X [] (tS E aB):=Cv.imp fun D σ H q=>by
 obtain ⟨B,H₀,Hs,env,sr,q⟩:=q
 exact q σ Hs H sr
theorem ae (h1:PS X st (tS E g)) (h2:nM X rest (tS E h)):nM X (st::rest) (tS E (ay g h)):=by
 refine (yP h1 h2).imp fun D σ H q=>?_
 obtain ⟨B,H₀,Hs,env,sr,q⟩:=q
 refine ⟨B,H₀,Hs,env,sr,(aC.bind q).imp (fun o ho=>?_) fun e he=>he⟩
 cases o with
 | nx env'=>exact fun σ' Hs' H' sr'=>⟨B,H₀,Hs',env',sr',ho⟩
 | rt p=>exact ho
 | bk env'=>exact ho
 | ct env'=>exact ho
def bA (i:Nat) (f:ai->M PV):ai->M Out:=fun env=>(f env).bind fun p=>M.ok (.nx (env.set i (some (.sh p))))
theorem aR {pos':Pos} (hN:X.N.Nodup) (hi:X.N[i]?=some x) (hx:Loc X.env.scope x) (he:PE X e (tE (fun _=>E) f)) (hs:swapsWith e (some (.Name x pos')) pos.line X.env=pure false:=by rfl) (hf:X.fn x=true\/X.env.scope.names.lookup x=some .local:=by first | exact .inl rfl | exact .inr rfl | assumption) :
  PS X (.Assign [.Name x pos'] e pos) (tS E (bA i f)) :=
 (Ah hN hi hx he hs hf).imp fun D σ H q=>la q fun B H₀ Hs H1 env p v sr rp hp=>hp _ Hs H1 (sr.set rp)
def retS (f:ai->M PV):ai->M Out:=fun env=>(f env).bind fun p=>M.ok (.rt p)
theorem aO (he:PE X e (tE (fun _=>E) f)):PS X (.Return (some e) pos) (tS E (retS f)) :=
 (za he).imp fun D σ H q=>la q fun B H₀ Hs H1 env p v sr rp hp=>hp v Hs H1 sr.gr rp
def qX (f:ai->M PV):ai->M Out:=fun env=>(f env).bind fun _=>M.ok (.nx env)
theorem nZ (he:PE X e (tE (fun _=>E) f)) (hs:swapsWith e none pos.line X.env=pure false:=by rfl):PS X (.Expr e pos) (tS E (qX f)) :=
 (wF he hs).imp fun D σ H q=>la q fun B H₀ Hs H1 env p v sr rp hp=>hp σ Hs H1 sr
def mB (u:ai->M Bool) (g h:ai->M Out):ai->M Out:=fun env=>(u env).bind fun b=>if b=true then g env else h env
theorem cU {c:Expr} {a b:List Stmt} (hc:PT X c (tT (fun _=>E) u)) (ha:nM X a (tS E g)) (hb:nM X b (tS E h)):PS X (.If c a b pos) (tS E (mB u g h)):=by
 refine (Gg hc ha hb).imp fun D σ H q=>yF q fun B H₀ Hs H1 env p sr hp=>?_
 cases p with
 | true=>exact ⟨B,H₀,Hs,env,sr,hp⟩
 | false=>exact ⟨B,H₀,Hs,env,sr,hp⟩
end
end L2
namespace L2
open PySem PySem.Spec PyProof.Rows
def ov (Hs H₀:Hp):Hp:=fun a=>match Hs a with
 | some o=>some o
 | none=>H₀ a
theorem nY {Hs H₀:Hp} {a:Addr} {o:HO} (h:Hs a=some o):ov Hs H₀ a=some o:=by unfold ov;rw [h]
theorem jd {Hs H₀:Hp} {a:Addr} (h:Hs a=none):ov Hs H₀ a=H₀ a:=by unfold ov;rw [h]
theorem BE {Hs H₀ H:Hp} (s:bp Hs H) (t:bp H₀ H):bp (ov Hs H₀) H:=fun a o e=>by
 cases q:Hs a with
 | some o'=>rw [nY q] at e;cases e;exact s _ _ q
 | none=>rw [jd q] at e;exact t _ _ e
theorem SR.rebase {B H₀ Hs H:Hp} {σ:St} {env:ai} (r:SR B H₀ Hs H σ env):SR Hs (ov Hs H₀) Hs H σ env where
 gr:=⟨fun _ _ e=>e,BE r.gr.sub r.gr.al,r.gr.sub,fun _ _ e _=>e⟩
 len:=r.len
 sh:=r.sh
 ow:=fun i xs e=>let ⟨a,vs,h1,h2,h3,h4,h5⟩:=r.ow i xs e;⟨a,vs,h1,h2,h3,by rw [jd h3];exact h4,h5⟩
 sep:=r.sep
 bd:=fun i a C fs e=>let ⟨dx,vs,h1,h2,h3,h4,h5⟩:=r.bd i a C fs e;⟨dx,vs,h1,h2,h3,by rw [jd h3];exact h4,h5⟩
 one:=r.one
theorem bD.kQ {B H₀ Hs H Hs2 H2:Hp} (g:bD B H₀ Hs H) (g2:bD Hs (ov Hs H₀) Hs2 H2):bD B H₀ Hs2 H2 where
 st:=fun a o e=>g2.st a o (g.st a o e)
 al:=fun a o e=>by
  cases q:Hs a with
  | some o' =>
   have h1:=g.sub a o' q
   have h2:=g.al a o e
   rw [h1] at h2;cases h2
   exact g2.al a _ (nY q)
  | none=>exact g2.al a o (by rw [jd q];exact e)
 sub:=g2.sub
 nw:=fun a o e q=>by
  have h1:=g.nw a o e q
  exact g2.nw a o h1 (by rw [jd h1];exact q)
theorem SR.kQ {B H₀ Hs H Hs2 H2:Hp} {σ:St} {env:ai} (g:bD B H₀ Hs H) (r:SR Hs (ov Hs H₀) Hs2 H2 σ env):SR B H₀ Hs2 H2 σ env where
 gr:=g.kQ r.gr
 len:=r.len
 sh:=r.sh
 ow:=fun i xs e=>by
  obtain ⟨a,vs,h1,h2,h3,h4,h5⟩:=r.ow i xs e
  refine ⟨a,vs,h1,h2,h3,?_,h5⟩
  cases q:Hs a with
  | some o=>rw [nY q] at h4;cases h4
  | none=>rw [jd q] at h4;exact h4
 sep:=r.sep
 bd:=fun i a C fs e=>by
  obtain ⟨dx,vs,h1,h2,h3,h4,h5⟩:=r.bd i a C fs e
  refine ⟨dx,vs,h1,h2,h3,?_,h5⟩
  cases q:Hs a with
  | some o=>rw [nY q] at h4;cases h4
  | none=>rw [jd q] at h4;exact h4
 one:=r.one
theorem XW.rebase {E:XK} {B H₀ Hs H:Hp} (g:bD B H₀ Hs H) {x:EX} (h:XW E B H₀ x):XW E Hs (ov Hs H₀) x:=fun ea Hs2 H2 r q=>h ea Hs2 H2 (g.kQ r) q
def Gz (k:ai->M Out):Out->M Out
 | .nx env=>k env
 | .ct env=>k env
 | .bk env=>M.ok (.nx env)
 | .rt p=>M.ok (.rt p)
def iK (set:PV->ai->M ai) (body:ai->M Out):List PV->ai->M Out
 | [],env=>M.ok (.nx env)
 | x::xs,env=>(set x env).bind fun env'=>(body env').bind (Gz (iK set body xs))
def Df (E:XK) (g:TG) (set:PV->ai->M ai):Prop:=∀ (B H₀ Hs H:Hp) (σ:St) (env:ai) (p:PV) (v:V) (Q:St->Hp->Prop) (Z:EX->Prop),SR B H₀ Hs H σ env->Rep Hs p v->aC (set p env) (fun env'=>∀ σ',SR B H₀ Hs H σ' env'->Q σ' H) Z->g v σ H Q
def da (i:Nat) (p:PV) (env:ai):M ai:=M.ok (env.set i (some (.sh p)))
theorem bM {E:XK} {i:Nat}:Df E (aV i) (da i):=fun B H₀ Hs H σ env p v Q Z sr r h=>h _ (sr.set r)
def cT (i j:Nat):PV->ai->M ai
 | .tup [p,q],env=>M.ok ((env.set i (some (.sh p))).set j (some (.sh q)))
 | _,_=>none
theorem dM {E:XK} {K:PySem.W.Frag} {i j:Nat}:Df E (kA K 2 (bS (aV i) (bS (aV j) ku))) (cT i j):=by
 intro B H₀ Hs H σ env p v Q Z sr r h
 cases r with
 | @tup a xs vs ha hx =>
  match xs,hx with
  | [p,q],hx =>
   obtain ⟨v,u,rfl,rp,rq⟩:=hx.two
   exact ⟨a,[v,u],rfl,ji.of (sr.gr.sub _ _ ha),rfl,v,[u],rfl,u,[],rfl,rfl,h _ ((sr.set rp).set rq)⟩
  | [],_=>exact h.elim
  | [_],_=>exact h.elim
  | _::_::_::_,_=>exact h.elim
 | _=>exact h.elim
section
variable {E:XK} {g:TG} {set:PV->ai->M ai} {body:ai->M Out} {D:Ends} {B H₀ Hs1:Hp} {xs:List PV}
def Jv (E:XK) (set:PV->ai->M ai) (body:ai->M Out) (D:Ends) (B H₀ Hs1:Hp) (xs:List PV) (i:Nat) (σ:St) (H:Hp):Prop:=∃ Hs env,SR B H₀ Hs H σ env/\bp Hs1 Hs/\aC (iK set body (xs.drop i) env) (KS D B H₀) (XW E B H₀)
theorem Jv.done {n:Nat} {σ:St} {H:Hp} (j:Jv E set body D B H₀ Hs1 xs n σ H) (hn:xs.length<=n):D.nx σ H:=by
 obtain ⟨Hs,env,sr,_,h⟩:=j
 rw [List.drop_eq_nil_of_le hn] at h
 exact h σ Hs H sr
theorem Jv.turn {i:Nat} {σ:St} {H H1 Hx:Hp} {x:PV} {v:V} (tg:Df E g set) (hx:xs[i]?=some x) {Hs:Hp} {env:ai} (sr:SR B H₀ Hs H σ env) (s1:bp Hs1 Hs) (h:aC (iK set body (xs.drop i) env) (KS D B H₀) (XW E B H₀)) {Hs2 H2:Hp} (gr:bD Hs H Hs2 H2) (rv:Rep Hs2 x v) :
  g v σ H2 fun σ2 H3=>tS E body { D with nx:=Jv E set body D B H₀ Hs1 xs (i+1),ct:=Jv E set body D B H₀ Hs1 xs (i+1),bk:=D.nx } σ2 H3:=by
 have hlt:i<xs.length:=(List.getElem?_eq_some_iff.mp hx).1
 have hd:xs.drop i=x::xs.drop (i+1):=by
  rw [List.drop_eq_getElem_cons hlt]
  rw [List.getElem?_eq_getElem hlt] at hx
  rw [Option.some.inj hx]
 rw [hd] at h
 have sr2:=sr.grow gr
 refine tg B H₀ Hs2 H2 σ env x v _ _ sr2 rv ((aC.bind h).imp (fun env' h' σ' sr'=>?_) fun _ z=>z)
 refine ⟨Hs2,ov Hs2 H₀,Hs2,env',sr'.rebase,(aC.bind h').imp (fun o ho=>?_) fun e he=>he.rebase sr'.gr⟩
 cases o with
 | nx e2=>exact fun σ3 Hs3 H3 r=>⟨Hs3,e2,r.kQ sr'.gr,fun a o z=>r.gr.st a o (gr.st a o (s1 a o z)),ho⟩
 | ct e2=>exact fun σ3 Hs3 H3 r=>⟨Hs3,e2,r.kQ sr'.gr,fun a o z=>r.gr.st a o (gr.st a o (s1 a o z)),ho⟩
 | bk e2=>exact fun σ3 Hs3 H3 r=>ho σ3 Hs3 H3 (r.kQ sr'.gr)
 | rt p=>exact fun v3 Hs3 H3 r q=>ho v3 Hs3 H3 (sr'.gr.kQ r) q
end
def iV (it:ai->M (List PV)) (set:PV->ai->M ai) (body:ai->M Out):ai->M Out:=fun env=>(it env).bind fun xs=>iK set body xs env
def itemsOf (f:ai->M PV):ai->M (List PV):=fun env=>(f env).bind fun p=>match cx p with | some xs=>M.ok xs | none=>none
theorem jZ {K:PySem.W.Frag} {Hs H:Hp} {p:PV} {v:V} {xs:List PV} (s:bp Hs H) (r:Rep Hs p v) (e:cx p=some xs):∃ b a vs,v=.ref a/\(∀ Hs' H',bp Hs Hs'->bp Hs' H'->kl K H' b a vs)/\aT Hs xs vs:=by
 cases r with
 | tup h r=>cases e;exact ⟨false,_,_,rfl,fun Hs' H' s1 s2=>ji.of (s2 _ _ (s1 _ _ h)),r⟩
 | lst h r=>cases e;exact ⟨true,_,_,rfl,fun Hs' H' s1 s2=>iM.of (s2 _ _ (s1 _ _ h)),r⟩
 | jo h r=>cases e;exact ⟨true,_,_,rfl,fun Hs' H' s1 s2=>.inl (.inr ⟨_,s2 _ _ (s1 _ _ h)⟩),r⟩
 | _=>cases e
section
variable {X:Cx} {E:XK} {tg iter:Expr} {pos p:Pos} {f f2:ai->M PV} {g:TG} {set:PV->ai->M ai} {body:ai->M Out} {bd:List Stmt}
end
end L2
namespace L2
open PySem PySem.Spec PyProof.Rows
def Oe:PV->M (List PV)
 | .int n=>cw (-(2^62)<=n/\n<2^62) (M.ok ((List.range n.toNat).map fun (i:Nat)=>.int (0+(i:Int))))
 | _=>none
def OT:PV->PV->M (List PV)
 | .int a,.int b=>cw (-(2^62)<=a/\a<2^62/\-(2^62)<=b/\b<2^62) (M.ok ((List.range (b-a).toNat).map fun (i:Nat)=>.int (a+(i:Int))))
 | _,_=>none
def rJ:List PV->M (List PV)
 | [p]=>Oe p
 | _=>none
def yb:List PV->M (List PV)
 | [p,q]=>OT p q
 | _=>none
theorem yB {ps:List PV} {α:Type} {k:List PV->M α} {Q:α->Prop} {Z:EX->Prop} (h:aC ((rJ ps).bind k) Q Z):∃ n:Int,ps=[.int n]/\-(2^62)<=n/\n<2^62/\aC (k ((List.range n.toNat).map fun (i:Nat)=>.int (0+(i:Int)))) Q Z:=by
 match ps with
 | []=>exact h.elim
 | _::_::_=>exact h.elim
 | [p] =>
  cases p with
  | int n =>
   obtain ⟨hc,h⟩:=aC.cw (aC.bind h)
   exact ⟨n,rfl,hc.1,hc.2,h⟩
  | _=>exact h.elim
theorem xS {ps:List PV} {α:Type} {k:List PV->M α} {Q:α->Prop} {Z:EX->Prop} (h:aC ((yb ps).bind k) Q Z):∃ a b:Int,ps=[.int a,.int b]/\(-(2^62)<=a/\a<2^62/\-(2^62)<=b/\b<2^62)/\aC (k ((List.range (b-a).toNat).map fun (i:Nat)=>.int (a+(i:Int)))) Q Z:=by
 match ps with
 | []=>exact h.elim
 | [_]=>exact h.elim
 | _::_::_::_=>exact h.elim
 | [p,q] =>
  cases p with
  | int a=>cases q with
   | int b =>
    obtain ⟨hc,h⟩:=aC.cw (aC.bind h)
    exact ⟨a,b,rfl,hc,h⟩
   | _=>exact h.elim
  | _=>exact h.elim
def zip2:List PV->M (List PV)
 | [p,q]=>match cx p,cx q with
  | some xs,some ys=>M.ok (List.zipWith (fun a b=>.tup [a,b]) xs ys)
  | _,_=>none
 | _=>none
theorem yk {ps:List PV} {α:Type} {k:List PV->M α} {Q:α->Prop} {Z:EX->Prop} (h:aC ((zip2 ps).bind k) Q Z):∃ p q xs ys,ps=[p,q]/\cx p=some xs/\cx q=some ys/\aC (k (List.zipWith (fun a b=>.tup [a,b]) xs ys)) Q Z:=by
 match ps with
 | []=>exact h.elim
 | [_]=>exact h.elim
 | _::_::_::_=>exact h.elim
 | [p,q] =>
  unfold zip2 at h
  dsimp only at h
  cases e1:cx p with
  | none=>rw [e1] at h;exact h.elim
  | some xs =>
   cases e2:cx q with
   | none=>rw [e1,e2] at h;exact h.elim
   | some ys=>rw [e1,e2] at h;exact ⟨p,q,xs,ys,rfl,e1,e2,h⟩
theorem x_ {n i:Nat} {f:Nat->PV} (h:i<n):((List.range n).map f)[i]?=some (f i):=by
 rw [List.getElem?_map,List.getElem?_range h];rfl
section
variable {X:Cx} {E:XK} {tg a b l l1 l2:Expr} {pos p tp:Pos} {fs:ai->M (List PV)} {g:TG} {set:PV->ai->M ai} {body:ai->M Out} {bd:List Stmt}
end
def KO (Q:VK):Hp->Hp->List PV->Prop:=fun Hs H ps=>∀ vs p Hs' H',bD Hs H Hs' H'->aT Hs' ps vs->H' p=none->Q (.ref p) (upd H' p (.lst vs))
def tO (E:St->XK) (f:ai->M (List PV)):TE:=fun σ H Q=>tG E f (KO Q) σ H
section
variable {X:Cx} {E:XK} {e:Expr} {es:List Expr} {pos pos':Pos} {fs:ai->M (List PV)} {f:ai->M PV} {i:Nat} {x:Str}
def pR (i:Nat) (f:ai->M (List PV)):ai->M Out:=fun env=>(f env).bind fun ps=>M.ok (.nx (env.set i (some (.ow ps))))
theorem iq {pos':Pos} (hN:X.N.Nodup) (hi:X.N[i]?=some x) (hx:Loc X.env.scope x) (he:PE X e (tO (fun _=>E) fs)) (hs:swapsWith e (some (.Name x pos')) pos.line X.env=pure false:=by rfl) (hf:X.fn x=true\/X.env.scope.names.lookup x=some .local:=by first | exact .inl rfl | exact .inr rfl | assumption) :
  PS X (.Assign [.Name x pos'] e pos) (tS E (pR i fs)):=by
 refine (Ah hN hi hx he hs hf).imp fun D σ H q=>?_
 obtain ⟨B,H₀,Hs,env,sr,q⟩:=q
 refine ⟨B,H₀,Hs,env,sr,(aC.bind q).imp (fun ps hp vs p Hs' H' g r n=>?_) fun e he=>he.grow sr.gr⟩
 exact hp _ Hs' _ ((sr.grow g).own r n)
def ju (fs:ai->M (List PV)):ai->M (List PV):=fun env=>(fs env).bind fun ps=>if ps.length<=sizeLine then M.ok ps else none
theorem jN {E:St->XK} (hr:PA X es (tL E fs)):PE X (.List es pos) (tO E (ju fs)):=by
 refine (zY hr).imp fun σ H Q q=>?_
 obtain ⟨B,H₀,Hs,env,sr,q⟩:=q
 refine ⟨B,H₀,Hs,env,sr,(aC.bind q).imp (fun ps hp vs Hs' H' g r=>?_) fun e he=>he⟩
 by_cases hz:ps.length<=sizeLine
 ·rw [if_pos hz] at hp
  exact ⟨by rw [← r.length];exact hz,fun p n=>hp vs p Hs' H' g r n⟩
 ·rw [if_neg hz] at hp;exact hp.elim
def zp (f:ai->M PV):ai->M (List PV):=itemsOf f
def iR (i:Nat) (f:ai->M PV):ai->M Out:=fun env=>match env[i]? with
 | some (some (.ow xs))=>(f env).bind fun p=>if xs.length<sizeLine then M.ok (.nx (env.set i (some (.ow (xs++[p]))))) else none
 | _=>none
theorem SR.put {B H₀ Hs H:Hp} {σ:St} {env:ai} {i:Nat} {a:Addr} {xs ys:List PV} {us:List V} (r:SR B H₀ Hs H σ env) (e:env[i]?=some (some (.ow xs))) (hi:σ[i]?=some (some (.ref a))) (h:aT Hs ys us):SR B H₀ Hs (upd H a (.lst us)) σ (env.set i (some (.ow ys))):=by
 obtain ⟨a',vs,h1,h2,h3,h4,h5⟩:=r.ow i xs e
 rw [hi] at h1;cases h1
 have nS:∀ c u,Hs c=some u->c≠a:=fun c u q z=>by rw [z,h3] at q;cases q
 have n0:∀ c u,H₀ c=some u->c≠a:=fun c u q z=>by rw [z,h4] at q;cases q
 refine ⟨⟨r.gr.st,fun c u q=>by rw [aw (n0 c u q)];exact r.gr.al c u q,fun c u q=>by rw [aw (nS c u q)];exact r.gr.sub c u q,r.gr.nw⟩,by rw [List.length_set];exact r.len,fun j q ej=>?_,fun j zs ej=>?_,fun j k y1 y2 b nj e1 e2 e3 e4=>?_,fun j ba C fs ej=>?_,fun j k _ _ C D fs gs e1 e2=>?_⟩
 ·rw [List.getElem?_set] at ej
  by_cases z:i=j
  ·subst z
   rw [if_pos rfl] at ej
   split at ej <;> cases ej
  ·rw [if_neg z] at ej;exact r.sh j q ej
 ·rw [List.getElem?_set] at ej
  by_cases z:i=j
  ·subst z
   rw [if_pos rfl] at ej
   split at ej
   ·cases ej;exact ⟨a,us,hi,aE,h3,h4,h⟩
   ·cases ej
  ·rw [if_neg z] at ej
   obtain ⟨b,ws,q1,q2,q3,q4,q5⟩:=r.ow j zs ej
   have nb:b≠a:=fun w=>by subst w;exact r.sep i j xs zs b z e ej hi q1
   exact ⟨b,ws,q1,by rw [aw nb];exact q2,q3,q4,q5⟩
 ·have o1:∃ w,env[j]?=some (some (.ow w)):=by
   rw [List.getElem?_set] at e1
   by_cases z:i=j
   ·subst z;exact ⟨xs,e⟩
   ·rw [if_neg z] at e1;exact ⟨_,e1⟩
  have o2:∃ w,env[k]?=some (some (.ow w)):=by
   rw [List.getElem?_set] at e2
   by_cases z:i=k
   ·subst z;exact ⟨xs,e⟩
   ·rw [if_neg z] at e2;exact ⟨_,e2⟩
  obtain ⟨w1,o1⟩:=o1
  obtain ⟨w2,o2⟩:=o2
  exact r.sep j k w1 w2 b nj o1 o2 e3 e4
 ·rw [List.getElem?_set] at ej
  by_cases z:i=j
  ·subst z
   rw [if_pos rfl] at ej
   split at ej <;> cases ej
  ·rw [if_neg z] at ej
   obtain ⟨dx,ws,q1,q2,q3,q4,q5⟩:=r.bd j ba C fs ej
   have nb:ba≠a:=fun w=>by subst w;rw [h2] at q2;cases q2
   exact ⟨dx,ws,q1,by rw [aw nb];exact q2,q3,q4,q5⟩
 ·rw [List.getElem?_set] at e1 e2
  by_cases z:i=j
  ·subst z
   rw [if_pos rfl] at e1
   split at e1 <;> cases e1
  ·by_cases z2:i=k
   ·subst z2
    rw [if_pos rfl] at e2
    split at e2 <;> cases e2
   ·rw [if_neg z] at e1
    rw [if_neg z2] at e2
    exact r.one j k _ _ C D fs gs e1 e2
theorem cj {apos cpos px:Pos} (hi:X.N[i]?=some x) (hv:Bv X.env.scope x) (he:PE X e (tE (fun _=>E) f)) (hd:(x==("__debug__" : Str))=false:=by decide) (hcd:(x==("__classdict__" : Str))=false:=by decide)
  (hbase:attributeBase (.Name x px) "append" X.env (eval (.Name x px) X.env)=eval (.Name x px) X.env:=by rfl)
  (hfew:((backTo cpos (starEach [e] X.env)).all (fun x=>!x.1)&&(backToKw cpos (keywordEach [] X.env)).all (fun x=>x.1.isSome)
   && decide (([e]:List Expr).length+([]:List Keyword).length+(if ([]:List Keyword).isEmpty then 0 else 1)<30))=true:=by rfl)
  (hline:(apos.endLine==cpos.line)=true:=by rfl) (hst:starEach [e] X.env=(false,eval e X.env)::starEach [] X.env:=by rfl) (hplain:(backTo cpos (starEach [] X.env)).any (·.1)=false:=by rfl)
  (hs:swapsWith (.Call (.Attribute (.Name x px) "append" apos) [e] [] cpos) none pos.line X.env=pure false:=by rfl) :
  PS X (.Expr (.Call (.Attribute (.Name x px) "append" apos) [e] [] cpos) pos) (tS E (iR i f)):=by
 refine (wF (Hq PySem.F.plainAttrs_list PySem.F.slot_list_append PySem.F.type_list_append mf (ph hi hv hd hcd) (fF he kP hst) hbase hfew hline hst hplain) hs).imp fun D σ H q=>?_
 obtain ⟨B,H₀,Hs,env,sr,q⟩:=q
 unfold iR at q
 split at q
 ·rename_i xs ex
  obtain ⟨a,vs,h1,h2,h3,h4,h5⟩:=sr.ow i xs ex
  refine ⟨.ref a,h1,.inl ⟨rfl,vs,iM.of h2⟩,B,H₀,Hs,env,sr,(aC.bind q).imp (fun p hp v Hs' H' g r=>?_) fun e he=>he.grow sr.gr⟩
  by_cases hz:xs.length<sizeLine
  ·rw [if_pos hz] at hp
   have sr':=sr.grow g
   have r5:aT Hs' (xs++[p]) (vs++[v]):=(h5.mono g.st).snoc r
   exact ⟨a,vs,v,rfl,rfl,g.al _ _ h2,by rw [← h5.length];exact hz,hp σ Hs' _ (sr'.put ex h1 r5)⟩
  ·rw [if_neg hz] at hp;exact hp.elim
 ·exact q.elim
end
end L2
namespace L2
open PySem PySem.Spec PyProof.Rows
def Em:Out->M PV
 | .rt p=>M.ok p
 | .nx _=>M.ok .c8
 | _=>none
def i8 (m:Nat) (ps:List PV):ai:=ps.map (fun p=>some (.sh p))++List.replicate (m-ps.length) none
def aF (m:Nat) (g:ai->M Out) (ps:List PV):M PV:=(g (i8 m ps)).bind Em
theorem SR.start {Hs H:Hp} {N:List Str} {ps:List PV} {vs:List V} (s:bp Hs H) (r:aT Hs ps vs):SR Hs H Hs H (start N vs) (i8 N.length ps) where
 gr:=.refl s
 len:=by unfold L2.start i8;simp [r.length]
 sh:=fun i p e=>by
  unfold i8 at e
  unfold L2.start
  by_cases hi:i<ps.length
  ·rw [List.getElem?_append_left (by simpa using hi),List.getElem?_map,List.getElem?_eq_getElem hi] at e
   cases e
   obtain ⟨v,h1,h2⟩:=r.get (List.getElem?_eq_getElem hi)
   exact ⟨v,by rw [List.getElem?_append_left (by simpa using (r.length▸hi)),List.getElem?_map,h1];rfl,h2⟩
  ·rw [List.getElem?_append_right (by simpa using hi),List.getElem?_replicate] at e
   split at e <;> cases e
 ow:=fun i xs e=>by
  unfold i8 at e
  by_cases hi:i<ps.length
  ·rw [List.getElem?_append_left (by simpa using hi),List.getElem?_map,List.getElem?_eq_getElem hi] at e
   cases e
  ·rw [List.getElem?_append_right (by simpa using hi),List.getElem?_replicate] at e
   split at e <;> cases e
 sep:=fun i j xs ys a _ e=>by
  unfold i8 at e
  by_cases hi:i<ps.length
  ·rw [List.getElem?_append_left (by simpa using hi),List.getElem?_map,List.getElem?_eq_getElem hi] at e
   cases e
  ·rw [List.getElem?_append_right (by simpa using hi),List.getElem?_replicate] at e
   split at e <;> cases e
 bd:=fun i a C fs e=>by
  unfold i8 at e
  by_cases hi:i<ps.length
  ·rw [List.getElem?_append_left (by simpa using hi),List.getElem?_map,List.getElem?_eq_getElem hi] at e
   cases e
  ·rw [List.getElem?_append_right (by simpa using hi),List.getElem?_replicate] at e
   split at e <;> cases e
 one:=fun i j a b C D fs gs e=>by
  unfold i8 at e
  by_cases hi:i<ps.length
  ·rw [List.getElem?_append_left (by simpa using hi),List.getElem?_map,List.getElem?_eq_getElem hi] at e
   cases e
  ·rw [List.getElem?_append_right (by simpa using hi),List.getElem?_replicate] at e
   split at e <;> cases e
theorem DN {P:Program} {w:World} {K:PySem.W.Frag} {mg:Str->Option Value} {base:Heap} {k:Nat} {f:Addr} {name qual:Str} {params:Arguments} {body:List Stmt} {scope:Scope} {dV kV doc pm cdv ct oc:Value} {an od:Option Addr}
  {osl:Array (Option Value)} {N ps:List Str} {g:ai->M Out} (lk:K.lookup f=some ⟨oc,od,.func (PySem.W.fnOf name qual params body scope dV kV doc pm an cdv ct),osl⟩) (hcd:PySem.W.codeIn K cdv qual=true) (S:aH N ps scope)
  (hb:∀ (A:Around) (outer:List Env) (s:Shared) (H:Hp) (E:XK),cy k (A.deeper (envOfC qual scope s.heap.objs.size f cdv))->nM ((kK (b_ P w) P w K mg base N qual scope f cdv A outer s H E).out fun _=>E) body (tS E g)) :
  aY P w K mg base (b_ P w) (k+1) f (PySem.W.fnOf name qual params body scope dV kV doc pm an cdv ct) ps (f7 ps.length (aF N.length g)):=by
 refine r_ lk hcd S (fun vs H Q E h=>h.1) fun A outer s H vs Q E hr hs=>⟨_,hb A outer s H E hr,?_⟩
 obtain ⟨_,Hs,ps',sm,r,h⟩:=hs
 refine ⟨Hs,H,Hs,_,SR.start sm r,(aC.bind h).imp (fun o ho=>?_) fun e he=>he⟩
 cases o with
 | rt p=>exact fun v Hs' H' gr rv=>ho v Hs' H' gr rv
 | nx env=>exact fun σ Hs' H' sr=>ho .c8 Hs' H' sr.gr .c8
 | bk env=>exact ho.elim
 | ct env=>exact ho.elim
section
variable {X:Cx} {E:XK} {e:Expr} {es:List Expr} {pos p cpos:Pos} {x:Str} {C f:Addr} {k:Nat} {fd:FuncData} {ps:List Str} {fs:ai->M (List PV)}
def n6 (C:Addr) (fs:ai->M (List PV)):ai->M Out:=fun env=>(fs env).bind fun ps=>cw (ps.length<=sizeLine) (some (.error (C,none)))
theorem yt (O:eH X fun _=>E) (hcalm:X.calm=true) (hc:PySem.W.excIn X.K C dO "ValueError.__new__" = true) (c:i_ X.K C) (ht:PySem.W.typeIn X.K (.ref C)=some (.type "type")) (kp:PySem.W.keepIn X.K (.ref C)=true) (hg:Gl X x) (hm:X.mg x=some (.ref C)) (ha:PA X (e::es) (tL (fun _=>E) fs))
  (hdb:(x==("__debug__" : Str))=false:=by decide) (he:starEach (e::es) X.env=(false,eval e X.env)::starEach es X.env:=by rfl) (hpl:(backTo cpos (starEach es X.env)).any (·.1)=false:=by rfl) :
  PS X (.Raise (some (.Call (.Name x p) (e::es) [] cpos)) none pos) (tS E (n6 C fs)):=by
 refine (tV O hcalm (Cc hc kp hg hm ha hdb he hpl)).imp fun D σ H q=>ub q fun B H₀ Hs H1 env ps' v sr rp hp=>?_
 obtain ⟨hz,hp⟩:=aC.cw hp
 refine ⟨by rw [← rp.length];exact hz,fun a n=>⟨a,C,none,rfl,aE,c,ht,?_⟩⟩
 rw [r0]
 exact hp a (upd Hs a (i6 C none a)) _ (sr.gr.trans (bD.new sr.gr.sub n)) (.xP aE)
def xf (K:PySem.W.Frag) (C:Addr) (fl:Str):Sp:=fun vs H Q _=>∃ a y,vs=[.ref a,y]/\H a=some (kq C none a)/\∀ d,H d=none->d≠a->Q .c8 (upd (upd H d (.xd [(fl,y)])) a (kq C (some d) a))
def kR (C:Addr) (fl:Str) (fs:ai->M (List PV)):ai->M Out:=fun env=>(fs env).bind fun ps=>match ps with
 | [p]=>some (.error (C,some [(fl,p)]))
 | _=>none
theorem xR {fl:Str} (O:eH X fun _=>E) (hcalm:X.calm=true) (hc:jF X.K C "ValueError.__new__" f=true) (hf:PySem.W.isFn X.K (.ref f)=true) (c:i_ X.K C) (ht:PySem.W.typeIn X.K (.ref C)=some (.type "type")) (kp:PySem.W.keepIn X.K (.ref C)=true) (F:aY X.prog X.w X.K X.mg X.base (b_ X.prog X.w) k f fd ps (xf X.K C fl)) (hr:cy (k+1) X.A) (hb:Binds X.K fd ps [])
  (hg:Gl X x) (hm:X.mg x=some (.ref C)) (ha:PA X [e] (tL (fun _=>E) fs))
  (hdb:(x==("__debug__" : Str))=false:=by decide) (he:starEach [e] X.env=(false,eval e X.env)::starEach [] X.env:=by rfl) (hpl:(backTo cpos (starEach [] X.env)).any (·.1)=false:=by rfl) :
  PS X (.Raise (some (.Call (.Name x p) [e] [] cpos)) none pos) (tS E (kR C fl fs)):=by
 refine (tV O hcalm (zA hc hf kp F hr hb hg hm ha hdb he hpl)).imp fun D σ H q=>ub q fun B H₀ Hs H1 env ps' v sr rp hp=>?_
 match ps',rp,hp with
 | [],_,hp=>exact hp.elim
 | _::_::_,_,hp=>exact hp.elim
 | [y],rp,hp =>
  obtain ⟨v,rfl,ry⟩:=rp.one
  refine ⟨by show 1<=sizeLine;decide,fun a n=>⟨a,v,rfl,aE,fun d hd hda=>⟨rfl,a,C,some d,rfl,aE,c,ht,?_⟩⟩⟩
  rw [r0]
  have hd1:H1 d=none:=by rw [aw hda] at hd;exact hd
  have g1:=bD.new (o:=.xd [(fl,v)]) sr.gr.sub hd1
  have hn2:upd H1 d (.xd [(fl,v)]) a=none:=by rw [aw (Ne.symm hda)];exact n
  have g2:=bD.new (o:=i6 C (some d) a) g1.sub hn2
  have hH:upd (upd (upd H1 a (kq C none a)) d (.xd [(fl,v)])) a (i6 C (some d) a)=upd (upd H1 d (.xd [(fl,v)])) a (i6 C (some d) a):=by
   funext b
   by_cases z:b=a
   ·subst z;rw [aE,aE]
   ·rw [aw z,aw z]
    by_cases z2:b=d
    ·subst z2;rw [aE,aE]
    ·rw [aw z2,aw z2,aw z]
  rw [hH]
  refine hp a (upd (upd Hs d (.xd [(fl,v)])) a (i6 C (some d) a)) _ ((sr.gr.trans g1).trans g2) ?_
  exact .yg aE (by rw [aw hda];exact aE) (.cons ((ry.mono g1.st).mono g2.st) .nil)
theorem pB {P:Program} {w:World} {K:PySem.W.Frag} {mg:Str->Option Value} {base:Heap} {f:Addr} {name qual:Str} {params:Arguments} {scope:Scope} {dV kV doc pm cdv ct oc:Value} {an od:Option Addr}
  {osl:Array (Option Value)} {n0 n1 fl:Str} {p0 p1 p2 p3:Pos} (lk:K.lookup f=some ⟨oc,od,.func (PySem.W.fnOf name qual params [.Assign [.Attribute (.Name n0 p0) fl p1] (.Name n1 p2) p3] scope dV kV doc pm an cdv ct),osl⟩) (hcd:PySem.W.codeIn K cdv qual=true) (S:aH [n0,n1] [n0,n1] scope)
  (c:i_ K C) (ho:((PySem.W.clsIn K C).any fun cd=>gy cd.mro)=true) (na:bT K C fl) (v0:Bv scope n0) (v1:Bv scope n1) (d0:(n0==("__debug__" : Str))=false) (d1:(n1==("__debug__" : Str))=false) (c0:(n0==("__classdict__" : Str))=false) (c1:(n1==("__classdict__" : Str))=false)
  (hs:∀ env,swapsWith (.Name n1 p2) (some (.Attribute (.Name n0 p0) fl p1)) p3.line env=pure false) :
  aY P w K mg base (b_ P w) 1 f (PySem.W.fnOf name qual params [.Assign [.Attribute (.Name n0 p0) fl p1] (.Name n1 p2) p3] scope dV kV doc pm an cdv ct) [n0,n1] (xf K C fl):=by
 refine r_ (k:=0) lk hcd S (fun vs H Q E h=>by obtain ⟨a,y,rfl,_⟩:=h;rfl) fun A outer s H vs Q E hr h=>?_
 obtain ⟨a,y,rfl,ha,hq⟩:=h
 refine ⟨_,wU (Bg (ph (i:=0) rfl v0 d0 c0) (ph (i:=1) rfl v1 d1 c1) (hs _)),?_⟩
 exact ⟨y,rfl,.ref a,rfl,a,C,rfl,ha,c,ho,na,hq⟩
end
end L2
namespace L2
open PySem PySem.Spec PyProof.Rows
structure jW (J:It) (Hs1:Hp) (xs:List PV):Prop where
 stop:∀ (i:Nat) (Hs H:Hp),bp Hs1 Hs->bp Hs H->xs.length<=i->J.stop i H
 go:∀ (i:Nat) (Hs H:Hp),bp Hs1 Hs->bp Hs H->i<xs.length->J.go i H
 uZ:∀ (i:Nat) (Hs H:Hp) (x:V) (H2:Hp),bp Hs1 Hs->bp Hs H->i<xs.length->J.uZ i H x H2->∃ p Hs2,xs[i]?=some p/\bD Hs H Hs2 H2/\Rep Hs2 p x
def KI (R:It->Hp->Prop):Hp->Hp->List PV->Prop:=fun Hs H xs=>∀ J Hs' H',bD Hs H Hs' H'->jW J Hs' xs->R J H'
def yD (E:St->XK) (wi:TI) (it:ai->M (List PV)):Prop:=∀ (σ:St) (H:Hp) (R:It->Hp->Prop),tG E it (KI R) σ H->wi σ H R
theorem KI.g {R:It->Hp->Prop}:KG (KI R):=fun Hs H Hs' H' b k g J Hs2 H2 g2 o=>k J Hs2 H2 (g.trans g2) o
section
variable {E:St->XK} {K:PySem.W.Frag} {f:ai->M PV} {fs:ai->M (List PV)}
theorem zE {b:Bool} {a:Addr} {Hs1:Hp} {xs:List PV} {vs:List V} (hq:∀ Hs' H',bp Hs1 Hs'->bp Hs' H'->kl K H' b a vs) (hr:aT Hs1 xs vs):jW (Lp K b a) Hs1 xs where
 stop:=fun i Hs H s1 s2 hi=>by
  have q:=hq Hs H s1 s2
  cases b with
  | true=>exact ⟨vs,q,by rw [← hr.length];exact hi⟩
  | false=>exact ⟨vs,q,by rw [← hr.length];exact hi⟩
 go:=fun i Hs H s1 s2 hi=>by
  have q:=hq Hs H s1 s2
  obtain ⟨v,e,_⟩:=hr.get (List.getElem?_eq_getElem hi)
  cases b with
  | true=>exact ⟨vs,v,q,e⟩
  | false=>exact ⟨vs,v,q,e⟩
 uZ:=fun i Hs H x H2 s1 s2 hi y=>by
  have q:=hq Hs H s1 s2
  obtain ⟨v,e,r⟩:=hr.get (List.getElem?_eq_getElem hi)
  have z:H2=H/\vs[i]?=some x:=by
   cases b with
   | true=>exact ⟨y.1,y.2 vs q⟩
   | false=>exact ⟨y.1,y.2 vs q⟩
  obtain ⟨rfl,z⟩:=z
  rw [e] at z;cases z
  exact ⟨xs[i],Hs,List.getElem?_eq_getElem hi,.refl s2,r.mono s1⟩
theorem dG:yD E (Hg K (tE E f)) (itemsOf f):=by
 intro σ H R q
 refine bW (K:=KI R) KI.g q fun B H₀ Hs H1 env p v sr rp hp=>?_
 cases e:cx p with
 | none=>rw [e] at hp;exact hp.elim
 | some xs =>
  rw [e] at hp
  obtain ⟨b,a,vs,rfl,hq,hr⟩:=jZ (K:=K) sr.gr.sub rp e
  exact ⟨b,a,rfl,⟨vs,hq Hs H1 (fun _ _ z=>z) sr.gr.sub⟩,hp (Lp K b a) Hs H1 (.refl sr.gr.sub) (zE hq hr)⟩
def lZ (o:List PV->M (List PV)) (fs:ai->M (List PV)):ai->M (List PV):=fun env=>(fs env).bind o
theorem tW {lo:Int} {n:Nat} {Hs1:Hp}:jW (GU lo n) Hs1 ((List.range n).map fun (i:Nat)=>PV.int (lo+(i:Int))) where
 stop:=fun i Hs H s1 s2 hi=>show n<=i by simpa using hi
 go:=fun i Hs H s1 s2 hi=>show i<n by simpa using hi
 uZ:=fun i Hs H x H2 s1 s2 hi y=>by
  obtain ⟨rfl,rfl⟩:=y
  exact ⟨_,Hs,x_ (by simpa using hi),.refl s2,.int _⟩
theorem aP {α:Type} (x:M α):x.bind M.ok=x:=by
 cases x with
 | none=>rfl
 | some x=>cases x <;> rfl
theorem jM:yD E (C9 (tL E fs)) (lZ rJ fs):=by
 intro σ H R q
 refine cX (K:=KI R) KI.g q fun B H₀ Hs H1 env ps v sr rp hp=>?_
 rw [← aP (rJ ps)] at hp
 obtain ⟨n,rfl,h1,h2,hp⟩:=yB hp
 obtain ⟨w,rfl,rw'⟩:=rp.one
 cases rw'
 exact ⟨n,rfl,h1,h2,hp _ Hs H1 (.refl sr.gr.sub) tW⟩
theorem Am:yD E (Du (tL E fs)) (lZ yb fs):=by
 intro σ H R q
 refine cX (K:=KI R) KI.g q fun B H₀ Hs H1 env ps v sr rp hp=>?_
 rw [← aP (yb ps)] at hp
 obtain ⟨n,m,rfl,h1,hp⟩:=xS hp
 obtain ⟨w,u,rfl,rw',ru⟩:=rp.two
 cases rw'
 cases ru
 exact ⟨n,m,rfl,h1,hp _ Hs H1 (.refl sr.gr.sub) tW⟩
theorem Ab {xs ys:List PV} {i:Nat} (h1:i<xs.length) (h2:i<ys.length):(List.zipWith (fun a b=>PV.tup [a,b]) xs ys)[i]?=some (.tup [xs[i],ys[i]]):=by
 rw [List.getElem?_zipWith,List.getElem?_eq_getElem h1,List.getElem?_eq_getElem h2]
theorem z8 {b1 b2:Bool} {a1 a2:Addr} {Hs1:Hp} {xs ys:List PV} {vs us:List V} (hq1:∀ Hs' H',bp Hs1 Hs'->bp Hs' H'->kl K H' b1 a1 vs) (hr1:aT Hs1 xs vs) (hq2:∀ Hs' H',bp Hs1 Hs'->bp Hs' H'->kl K H' b2 a2 us) (hr2:aT Hs1 ys us) :
  jW (Lg K b1 b2 a1 a2) Hs1 (List.zipWith (fun a b=>PV.tup [a,b]) xs ys) where
 stop:=fun i Hs H s1 s2 hi=>by
  rw [List.length_zipWith,hr1.length,hr2.length] at hi
  exact ⟨vs,us,hq1 Hs H s1 s2,hq2 Hs H s1 s2,by omega⟩
 go:=fun i Hs H s1 s2 hi=>by
  rw [List.length_zipWith] at hi
  obtain ⟨v,e,_⟩:=hr1.get (List.getElem?_eq_getElem (show i<xs.length by omega))
  obtain ⟨u,e',_⟩:=hr2.get (List.getElem?_eq_getElem (show i<ys.length by omega))
  exact ⟨vs,us,v,u,hq1 Hs H s1 s2,hq2 Hs H s1 s2,e,e'⟩
 uZ:=fun i Hs H x H2 s1 s2 hi y=>by
  rw [List.length_zipWith] at hi
  have l1:i<xs.length:=by omega
  have l2:i<ys.length:=by omega
  obtain ⟨v,e,r⟩:=hr1.get (List.getElem?_eq_getElem l1)
  obtain ⟨u,e',r'⟩:=hr2.get (List.getElem?_eq_getElem l2)
  obtain ⟨pa,v',u',hn,rfl,rfl,y1,y2⟩:=y
  have z1:=y1 vs (hq1 Hs H s1 s2)
  have z2:=y2 us (hq2 Hs H s1 s2)
  rw [e] at z1;cases z1
  rw [e'] at z2;cases z2
  have gr:=bD.new (o:=.tup [v,u]) s2 hn
  exact ⟨_,_,Ab l1 l2,gr,.tup aE (.cons ((r.mono s1).mono gr.st) (.cons ((r'.mono s1).mono gr.st) .nil))⟩
theorem iT:yD E (GY K (tL E fs)) (lZ zip2 fs):=by
 intro σ H R q
 refine cX (K:=KI R) KI.g q fun B H₀ Hs H1 env ps v sr rp hp=>?_
 rw [← aP (zip2 ps)] at hp
 obtain ⟨p,q,xs,ys,rfl,e1,e2,hp⟩:=yk hp
 obtain ⟨w,u,rfl,rw',ru⟩:=rp.two
 obtain ⟨b1,a1,vs,rfl,hq1,hr1⟩:=jZ (K:=K) sr.gr.sub rw' e1
 obtain ⟨b2,a2,us,rfl,hq2,hr2⟩:=jZ (K:=K) sr.gr.sub ru e2
 exact ⟨b1,b2,a1,a2,rfl,⟨vs,hq1 Hs H1 (fun _ _ z=>z) sr.gr.sub⟩,⟨us,hq2 Hs H1 (fun _ _ z=>z) sr.gr.sub⟩,hp _ Hs H1 (.refl sr.gr.sub) (z8 hq1 hr1 hq2 hr2)⟩
end
theorem cu {X:Cx} {E:XK} {tg iter:Expr} {pos:Pos} {g:TG} {set:PV->ai->M ai} {body:ai->M Out} {bd:List Stmt} {wi:TI} {it:ai->M (List PV)} (O:eH X fun _=>E) (hc:X.calm=true) (hi:PI X tg iter wi) (hv:yD (fun _=>E) wi it) (hg:PG X tg g) (tgv:Df E g set) (hb:nM X bd (tS E body)) (hs:∀ x,foldedSetIterable iter X.env x=pure x:=by intro _;rfl) :
  PS X (.For tg iter bd [] pos) (tS E (iV it set body)):=by
 refine (EL O.own hc hi hg hb hs).imp fun D σ H q=>hv σ H _ ?_
 obtain ⟨B,H₀,Hs,env,sr,q⟩:=q
 refine ⟨B,H₀,Hs,env,sr,(aC.bind q).imp (fun xs hp J Hs' H' gr ok=>?_) fun e he=>he.grow sr.gr⟩
 have sr':=sr.grow gr
 refine ⟨fun i m σ H=>m=xs.length-i/\i<=xs.length/\Jv E set body D B H₀ Hs' xs i σ H,⟨xs.length,by simp,Nat.zero_le _,Hs',env,sr',fun _ _ z=>z,hp⟩,?_⟩
 rintro i m σ' H2 ⟨rfl,hi,Hs2,env2,sr2,s2,h2⟩
 by_cases hlt:i<xs.length
 ·refine .inr ⟨ok.go i Hs2 H2 s2 sr2.gr.sub hlt,Jv E set body D B H₀ Hs' xs (i+1),fun σ3 H3 j=>⟨xs.length-(i+1),by omega,rfl,hlt,j⟩,fun x H3 y=>?_⟩
  obtain ⟨p,Hs3,ep,g3,r3⟩:=ok.uZ i Hs2 H2 x H3 s2 sr2.gr.sub hlt y
  exact Jv.turn (Hx:=H2) (H1:=H2) tgv ep sr2 s2 h2 g3 r3
 ·have e:i=xs.length:=by omega
  refine .inl ⟨ok.stop i Hs2 H2 s2 sr2.gr.sub (by omega),?_⟩
  exact Jv.done (E:=E) (set:=set) (body:=body) (xs:=xs) (B:=B) (H₀:=H₀) (Hs1:=Hs') (n:=i) ⟨Hs2,env2,sr2,s2,h2⟩ (by omega)
end L2
namespace L2
open PySem PySem.Spec PyProof.Rows
abbrev EF:St->XK:=fun _ _ _ _=>False
def nO (env:ai):Prop:=∀ (i:Nat) (x:SV),env[i]?=some (some x)->∃ p,x=.sh p
theorem nO.ow {env:ai} (n:nO env) {i:Nat} {xs:List PV} (e:env[i]?=some (some (.ow xs))):False:=by obtain ⟨p,z⟩:=n i _ e;cases z
theorem nO.bd {env:ai} (n:nO env) {i:Nat} {a C:Addr} {fs:List (Str×PV)} (e:env[i]?=some (some (.bd a C fs))):False:=by obtain ⟨p,z⟩:=n i _ e;cases z
def FU {α:Type}:M α->M α
 | some (.ok a)=>some (.ok a)
 | _=>none
theorem aC.FU {α:Type} {x:M α} {Q:α->Prop} {E:EX->Prop} (h:aC (L2.FU x) Q E):aC x Q (fun _=>False):=by
 cases x with
 | none=>exact h
 | some x=>cases x with
  | ok a=>exact h
  | error e=>exact h
def kN (n:Nat) (js:List Nat) (env:ai):ai:=List.replicate n none++js.map fun j=>match env[j]? with
 | some (some (.sh p))=>some (.sh p)
 | _=>none
theorem rf {n:Nat} {js:List Nat} {env:ai} {i:Nat} {x:SV} (h:(kN n js env)[i]?=some (some x)):∃ j p,n<=i/\js[i-n]?=some j/\env[j]?=some (some (.sh p))/\x=.sh p:=by
 unfold kN at h
 by_cases hi:i<n
 ·rw [List.getElem?_append_left (by simpa using hi),List.getElem?_replicate] at h
  split at h <;> cases h
 ·rw [List.getElem?_append_right (by simpa using hi),List.getElem?_map,List.length_replicate] at h
  cases hj:js[i-n]? with
  | none=>rw [hj] at h;cases h
  | some j =>
   rw [hj] at h
   have h':(match env[j]? with | some (some (.sh p))=>some (SV.sh p) | _=>none)=some x:=Option.some.inj h
   split at h'
   ·rename_i p e
    cases h'
    exact ⟨j,p,by omega,rfl,e,rfl⟩
   ·cases h'
theorem ff {n:Nat} {js:List Nat} {env:ai}:nO (kN n js env):=fun i xs e=>by
 obtain ⟨_,p,_,_,_,z⟩:=rf e
 exact ⟨p,z⟩
theorem SR.block {B H₀ Hs H:Hp} {σ:St} {env:ai} {ts:List Str} {js:List Nat} {D:Addr} (r:SR B H₀ Hs H σ env) (hD:H D=none):SR Hs H Hs (upd H D (.lst [])) (du ts js σ) (kN ts.length js env) where
 gr:=by
  have ne:∀ c u,H c=some u->c≠D:=fun c u q z=>by rw [z,hD] at q;cases q
  exact ⟨fun _ _ e=>e,fun c u e=>by rw [aw (ne c u e)];exact e,fun c u e=>by rw [aw (ne c u (r.gr.sub c u e))];exact r.gr.sub c u e,fun _ _ e _=>e⟩
 len:=by unfold du kN;simp
 sh:=fun i p e=>by
  obtain ⟨j,q,hn,hj,he,z⟩:=rf e
  cases z
  obtain ⟨v,h1,h2⟩:=r.sh j p he
  refine ⟨v,?_,h2⟩
  unfold du
  rw [List.getElem?_append_right (by simpa using hn),List.getElem?_map,List.length_map,hj]
  show some (σ[j]?).join=_
  rw [h1];rfl
 ow:=fun i xs e=>(ff.ow e).elim
 sep:=fun i j xs ys a _ e=>(ff.ow e).elim
 bd:=fun i a C fs e=>(ff.bd e).elim
 one:=fun i j a b C D fs gs e=>(ff.bd e).elim
theorem SR.FD {B H₀ Hs H:Hp} {σ:St} {env:ai} {D:Addr} {o:HO} (r:SR B H₀ Hs H σ env) (n:nO env) (h1:Hs D=none) (h2:H₀ D=none):SR B H₀ Hs (upd H D o) σ env where
 gr:=⟨r.gr.st,fun c u q=>by rw [aw (fun z=>by rw [z,h2] at q;cases q)];exact r.gr.al c u q,fun c u q=>by rw [aw (fun z=>by rw [z,h1] at q;cases q)];exact r.gr.sub c u q,r.gr.nw⟩
 len:=r.len
 sh:=r.sh
 ow:=fun i xs e=>(n.ow e).elim
 sep:=fun i j xs ys a _ e=>(n.ow e).elim
 bd:=fun i a C fs e=>(n.bd e).elim
 one:=fun i j a b C D fs gs e=>(n.bd e).elim
def cO (set:PV->ai->M ai) (t:Option (ai->M Bool)) (f:ai->M PV):List PV->ai->M (List PV)
 | [],_=>M.ok []
 | x::xs,env=>(set x env).bind fun e=>match t with
  | none=>(f e).bind fun y=>(cO set t f xs e).bind fun ys=>M.ok (y::ys)
  | some t'=>(t' e).bind fun b=>if b=true then (f e).bind fun y=>(cO set t f xs e).bind fun ys=>M.ok (y::ys) else cO set t f xs e
def dR (it:ai->M (List PV)) (set:PV->ai->M ai) (t:Option (ai->M Bool)) (f:ai->M PV) (n:Nat) (js:List Nat):ai->M (List PV):=fun env=>(it env).bind fun xs=>cw (xs.length<=sizeLine) (FU (cO set t f xs (kN n js env)))
def qO (set:PV->ai->M ai):Prop:=∀ p env e,set p env=some (.ok e)->nO env->nO e
theorem ka {i:Nat} {env:ai} {p:PV} (n:nO env):nO (env.set i (some (.sh p))):=fun j xs e=>by
 rw [List.getElem?_set] at e
 by_cases z:i=j
 ·rw [if_pos z] at e
  split at e
  ·cases e;exact ⟨p,rfl⟩
  ·cases e
 ·rw [if_neg z] at e;exact n j xs e
theorem cQ {i:Nat}:qO (da i):=fun p env e h n=>by
 cases h
 exact ka n
theorem e9 {i j:Nat}:qO (cT i j):=fun p env e h n=>by
 unfold cT at h
 split at h
 ·cases h;exact ka (ka n)
 ·cases h
section
variable {set:PV->ai->M ai} {t:Option (ai->M Bool)} {f:ai->M PV} {Q:VK} {Hs1 H1:Hp} {D:Addr} {xs:List PV}
def Jc (set:PV->ai->M ai) (t:Option (ai->M Bool)) (f:ai->M PV) (Q:VK) (Hs1 H1:Hp) (D:Addr) (xs:List PV) (i:Nat) (σ:St) (H:Hp):Prop:=∃ Hs env ys vs,SR Hs1 H1 Hs H σ env/\nO env/\H D=some (.lst vs)/\Hs D=none/\aT Hs ys vs/\ys.length<=i ∧
 aC (cO set t f (xs.drop i) env) (fun zs=>KO Q Hs1 H1 (ys++zs)) (fun _=>False)
def rem (H:Hp) (D:Addr):Hp:=fun a=>if a=D then none else H a
theorem Ax {H:Hp} {D:Addr}:rem H D D=none:=by unfold rem;rw [if_pos rfl]
theorem wo {H:Hp} {D a:Addr} (n:a≠D):rem H D a=H a:=by unfold rem;rw [if_neg n]
theorem Cy {H:Hp} {D:Addr} {o:HO} (h:H D=some o):upd (rem H D) D o=H:=by
 funext a
 by_cases z:a=D
 ·subst z;rw [aE,h]
 ·rw [aw z,wo z]
theorem Jc.done {i:Nat} {σ:St} {H:Hp} (hD:H1 D=none) (j:Jc set t f Q Hs1 H1 D xs i σ H) (hi:xs.length<=i):Q (.ref D) H:=by
 obtain ⟨Hs,env,ys,vs,sr,n,h1,h2,r,_,h⟩:=j
 rw [List.drop_eq_nil_of_le hi] at h
 have h':KO Q Hs1 H1 (ys++[]):=h
 rw [List.append_nil] at h'
 have gr:bD Hs1 H1 Hs (rem H D):=by
  refine ⟨sr.gr.st,fun c u q=>?_,fun c u q=>?_,sr.gr.nw⟩
  ·rw [wo (fun z=>by rw [z,hD] at q;cases q)];exact sr.gr.al c u q
  ·rw [wo (fun z=>by rw [z,h2] at q;cases q)];exact sr.gr.sub c u q
 have:=h' vs D Hs (rem H D) gr r Ax
 rw [Cy h1] at this
 exact this
theorem Jc.put {i:Nat} {σ:St} {Hs H:Hp} {env:ai} {ys:List PV} {vs:List V} {y:PV} {v:V} (hD:H1 D=none) (sr:SR Hs1 H1 Hs H σ env) (n:nO env) (h1:H D=some (.lst vs)) (h2:Hs D=none) (r:aT Hs ys vs) (hy:ys.length<=i) (hi:i<sizeLine) (rv:Rep Hs y v)
  (h:aC ((cO set t f (xs.drop (i+1)) env).bind fun zs=>M.ok (y::zs)) (fun zs=>KO Q Hs1 H1 (ys++zs)) (fun _=>False)) :
  ∃ us,H D=some (.lst us)/\us.length<sizeLine/\Jc set t f Q Hs1 H1 D xs (i+1) σ (upd H D (.lst (us++[v]))):=by
 refine ⟨vs,h1,by rw [← r.length];omega,Hs,env,ys++[y],vs++[v],sr.FD n h2 hD,n,aE,h2,r.snoc rv,by rw [List.length_append];show ys.length+1<=i+1;omega,(aC.bind h).imp (fun zs hz=>?_) fun _ z=>z⟩
 have hz':KO Q Hs1 H1 (ys++(y::zs)):=hz
 rw [List.append_assoc]
 exact hz'
end
section
variable {X:Cx} {E:St->XK} {tg elt iter c:Expr} {scope:Scope} {cl:List (Str×Addr)} {pos:Pos} {wi:TI} {it:ai->M (List PV)} {g:TG} {set:PV->ai->M ai} {f:ai->M PV} {u:ai->M Bool} {ts fs:List Str} {js:List Nat}
theorem uT {C:Addr} {s₀:Shared} {H₀:Hp} {ex:List Addr} {pins:List (Addr×Obj)} {N:List Str}:eH (ui X scope cl N C s₀ H₀ ex pins) EF where
 pass:=fun _ _ _ _ _ _ _ h=>by
  obtain ⟨_,_,_,_,_,_,_,_,_,_,_,_,_,z⟩:=h
  exact z.elim
 new:=fun _ _ _ _ _ _ _ _ _ z=>z.elim
 own:=PassesOwn.never
theorem ck (hcalm:X.calm=true)
  (hclos:closureFor scope X.env=pure cl) (hk:scope.kind=.function) (nc:iy scope.names=true) (lo:j3 scope.names=true) (fh:ki cl scope.names=true) (ag:f_ X cl) (fr:iB X scope cl fs js)
  (hi:PI X tg iter wi) (hv:yD E wi it) (hg:∀ C s₀ H₀ ex pins,PG (ui X scope cl (ts++fs) C s₀ H₀ ex pins) tg g) (tgv:∀ E,Df E g set) (so:qO set) (he:∀ C s₀ H₀ ex pins,PE (ui X scope cl (ts++fs) C s₀ H₀ ex pins) elt (tE EF f))
  (hs:∀ x,foldedSetIterable iter X.env x=pure x:=by intro _;rfl):PE X (.ListComp elt [⟨tg,iter,[],0⟩] scope pos) (tO E (dR it set none f ts.length js)):=by
 refine (zh hcalm hclos hk nc lo fh ag fr hi hg he hs).imp fun σ H Q q=>hv σ H _ ?_
 obtain ⟨B,H₀,Hs,env,sr,q⟩:=q
 refine ⟨B,H₀,Hs,env,sr,(aC.bind q).imp (fun xs hp J Hs1 H1 gr ok D hD=>?_) fun e he=>he⟩
 obtain ⟨hz,hp⟩:=aC.cw hp
 have hp:=aC.FU hp
 have sr1:=sr.grow gr
 refine ⟨fun i m σ H=>m=xs.length-i/\i<=xs.length/\Jc set none f Q Hs1 H1 D xs i σ H,⟨xs.length,by simp,Nat.zero_le _,Hs1,_,[],[],sr1.block hD,ff,aE,?_,.nil,Nat.le_refl _,hp.imp (fun zs hz vs p Hs2 H2 g2 r n=>hz vs p Hs2 H2 (gr.trans g2) r n) fun _ z=>z⟩,?_⟩
 ·cases z:Hs1 D with
  | none=>rfl
  | some o=>have:=gr.sub _ _ z;rw [hD] at this;cases this
 rintro i m σ' H2 ⟨rfl,hi,Hs2,env2,ys,vs,sr2,n2,d1,d2,r2,l2,h2⟩
 by_cases hlt:i<xs.length
 ·refine .inr ⟨ok.go i Hs2 H2 sr2.gr.st sr2.gr.sub hlt,Jc set none f Q Hs1 H1 D xs (i+1),fun σ3 H3 j=>⟨xs.length-(i+1),by omega,rfl,hlt,j⟩,fun x H3 y=>?_⟩
  obtain ⟨p,Hs3,ep,g3,r3⟩:=ok.uZ i Hs2 H2 x H3 sr2.gr.st sr2.gr.sub hlt y
  have hd:xs.drop i=p::xs.drop (i+1):=by
   rw [List.drop_eq_getElem_cons hlt]
   rw [List.getElem?_eq_getElem hlt] at ep
   rw [Option.some.inj ep]
  rw [hd] at h2
  have h3:=aC.bind h2
  have sr3:=sr2.grow g3
  refine tgv (fun _ _ _=>False) Hs1 H1 Hs3 H3 σ' env2 p x _ (fun _=>False) sr3 r3 ?_
  cases hset:set p env2 with
  | none=>rw [hset] at h3;exact h3
  | some z=>cases z with
   | error e=>rw [hset] at h3;exact h3
   | ok e3 =>
    rw [hset] at h3
    intro σ4 sr4
    have n4:=so p env2 e3 hset n2
    refine ⟨Hs1,H1,Hs3,e3,sr4,(aC.bind h3).imp (fun y hy v Hs5 H5 g5 r5=>?_) fun _ z=>z.elim⟩
    exact Jc.put (set:=set) (t:=none) (f:=f) hD (sr4.grow g5) n4 (g5.al _ _ (g3.al _ _ d1)) (g5.nw _ _ (g3.nw _ _ d2 d1) (g3.al _ _ d1)) ((r2.mono g3.st).mono g5.st) l2 (by omega) r5 hy
 ·refine .inl ⟨ok.stop i Hs2 H2 sr2.gr.st sr2.gr.sub (by omega),?_⟩
  exact Jc.done (set:=set) (t:=none) (f:=f) (xs:=xs) (Hs1:=Hs1) (H1:=H1) (i:=i) hD ⟨Hs2,env2,ys,vs,sr2,n2,d1,d2,r2,l2,h2⟩ (by omega)
def ef (fo:ai->M (List PV)):ai->M PV:=fun env=>(fo env).bind fun ps=>M.ok (.lst ps)
theorem eh {fo:ai->M (List PV)} {e:Expr} (he:PE X e (tO E fo)):PE X e (tE E (ef fo)):=he.imp fun σ H Q q=>by
 obtain ⟨B,H₀,Hs,env,sr,q⟩:=q
 refine ⟨B,H₀,Hs,env,sr,(aC.bind q).imp (fun ps hp vs p Hs' H' g r n=>?_) fun e he=>he⟩
 have gn:=bD.new (o:=.lst vs) g.sub n
 exact hp _ _ _ (g.trans gn) (.lst aE (r.mono gn.st))
end
end L2
namespace L2
open PySem PySem.Spec PyProof.Rows
def se (f:Str) (v:PV):List (Str×PV)->List (Str×PV)
 | []=>[(f,v)]
 | (g,x)::r=>if g=f then (g,v)::r else (g,x)::se f v r
theorem iH.put {H:Hp} {f:Str} {p:PV} {v:V} (h:Rep H p v):∀ {fs:List (Str×PV)} {vs:List (Str×V)},iH H fs vs->iH H (se f p fs) (jn f v vs)
 | _,_,.nil=>.cons h .nil
 | (g,x)::r,_,.cons hx hr=>by
  unfold se jn
  by_cases z:g=f
  ·rw [if_pos z,if_pos z];exact .cons h hr
  ·rw [if_neg z,if_neg z];exact .cons hx (hr.put h)
theorem iH.length {H:Hp}:∀ {fs:List (Str×PV)} {vs:List (Str×V)},iH H fs vs->fs.length=vs.length
 | _,_,.nil=>rfl
 | _,_,.cons _ r=>by simp [r.length]
theorem SR.LN {B H₀ Hs H:Hp} {σ:St} {env:ai} {i:Nat} {a C dx:Addr} {fs gs:List (Str×PV)} {us:List (Str×V)} (r:SR B H₀ Hs H σ env) (e:env[i]?=some (some (.bd a C fs))) (h:iH Hs gs us):SR B H₀ Hs (upd H a (.ins C dx us)) σ (env.set i (some (.bd a C gs))):=by
 obtain ⟨dx0,vs,h1,h2,h3,h4,h5⟩:=r.bd i a C fs e
 have nS:∀ c u,Hs c=some u->c≠a:=fun c u q z=>by rw [z,h3] at q;cases q
 have n0:∀ c u,H₀ c=some u->c≠a:=fun c u q z=>by rw [z,h4] at q;cases q
 refine ⟨⟨r.gr.st,fun c u q=>by rw [aw (n0 c u q)];exact r.gr.al c u q,fun c u q=>by rw [aw (nS c u q)];exact r.gr.sub c u q,r.gr.nw⟩,by rw [List.length_set];exact r.len,fun j q ej=>?_,fun j zs ej=>?_,fun j k y1 y2 b nj e1 e2 e3 e4=>?_,fun j ba D fs' ej=>?_,fun j k _ _ C' D fs' gs' e1 e2=>?_⟩
 ·rw [List.getElem?_set] at ej
  by_cases z:i=j
  ·subst z
   rw [if_pos rfl] at ej
   split at ej <;> cases ej
  ·rw [if_neg z] at ej;exact r.sh j q ej
 ·rw [List.getElem?_set] at ej
  by_cases z:i=j
  ·subst z
   rw [if_pos rfl] at ej
   split at ej <;> cases ej
  ·rw [if_neg z] at ej
   obtain ⟨b,ws,q1,q2,q3,q4,q5⟩:=r.ow j zs ej
   have nb:b≠a:=fun w=>by subst w;rw [h2] at q2;cases q2
   exact ⟨b,ws,q1,by rw [aw nb];exact q2,q3,q4,q5⟩
 ·rw [List.getElem?_set] at e1 e2
  by_cases z:i=j
  ·subst z
   rw [if_pos rfl] at e1
   split at e1 <;> cases e1
  ·by_cases z2:i=k
   ·subst z2
    rw [if_pos rfl] at e2
    split at e2 <;> cases e2
   ·rw [if_neg z] at e1
    rw [if_neg z2] at e2
    exact r.sep j k y1 y2 b nj e1 e2 e3 e4
 ·rw [List.getElem?_set] at ej
  by_cases z:i=j
  ·subst z
   rw [if_pos rfl] at ej
   split at ej
   ·cases ej;exact ⟨dx,us,h1,aE,h3,h4,h⟩
   ·cases ej
  ·rw [if_neg z] at ej
   exact absurd (r.one i j _ _ _ _ _ _ e ej) z
 ·have o1:∃ b D w,env[j]?=some (some (.bd b D w)):=by
   rw [List.getElem?_set] at e1
   by_cases z:i=j
   ·subst z;exact ⟨_,_,_,e⟩
   ·rw [if_neg z] at e1;exact ⟨_,_,_,e1⟩
  have o2:∃ b D w,env[k]?=some (some (.bd b D w)):=by
   rw [List.getElem?_set] at e2
   by_cases z:i=k
   ·subst z;exact ⟨_,_,_,e⟩
   ·rw [if_neg z] at e2;exact ⟨_,_,_,e2⟩
  obtain ⟨_,_,w1,o1⟩:=o1
  obtain ⟨_,_,w2,o2⟩:=o2
  exact r.one j k _ _ _ _ _ _ o1 o2
def zg (i:Nat) (C:Addr) (f:Str) (p:PV) (env:ai):M Out:=match env[i]? with
 | some (some (.bd a C' fs))=>cw (C'=C/\fs.length<1000) (M.ok (.nx (env.set i (some (.bd a C (se f p fs))))))
 | _=>none
def kJ (i:Nat) (C:Addr) (fl:Str) (f:ai->M PV):ai->M Out:=fun env=>(f env).bind fun p=>zg i C fl p env
section
variable {X:Cx} {E:XK} {e:Expr} {pos pos' px:Pos} {f:ai->M PV} {i:Nat} {x fl:Str} {C:Addr}
theorem kT (hi:X.N[i]?=some x) (hv:Bv X.env.scope x) (c:lM X.K C) (na:bT X.K C fl) (he:PE X e (tE (fun _=>E) f)) (hd:(x==("__debug__" : Str))=false:=by decide) (hcd:(x==("__classdict__" : Str))=false:=by decide)
  (hs:swapsWith e (some (.Attribute (.Name x px) fl pos')) pos.line X.env=pure false:=by rfl):PS X (.Assign [.Attribute (.Name x px) fl pos'] e pos) (tS E (kJ i C fl f)):=by
 refine (Ea (ph hi hv hd hcd) he hs).imp fun D σ H q=>la q fun B H₀ Hs H1 env p v sr rp hp=>?_
 unfold zg at hp
 split at hp
 ·rename_i a C' fs ex
  obtain ⟨⟨rfl,hz⟩,hp⟩:=aC.cw hp
  obtain ⟨dx,vs,h1,h2,h3,h4,h5⟩:=sr.bd i a _ fs ex
  exact ⟨.ref a,h1,a,_,dx,vs,rfl,h2,c,na,by rw [← h5.length];exact hz,hp σ Hs _ (sr.LN ex (h5.put rp))⟩
 ·exact hp.elim
end
def xX (m:Nat) (a C:Addr) (ps:List PV):ai:=some (.bd a C [])::i8 (m-1) ps
def yR (a C:Addr) (env:ai):M (List (Str×PV)):=match (env[0]?:Option (Option SV)) with
 | some (some (.bd b D fs))=>cw (b=a/\D=C) (M.ok fs)
 | _=>none
def outI (a C:Addr):Out->M (List (Str×PV))
 | .nx env=>yR a C env
 | _=>none
def xQ (m:Nat) (g:ai->M Out) (C a:Addr) (ps:List PV):M (List (Str×PV)):=(g (xX m a C ps)).bind (outI a C)
noncomputable def Ed {α:Type} (s:Addr->M α):M α:=open Classical in if h:∃ r,∀ a,s a=r then h.choose else none
theorem yW {α:Type} {s:Addr->M α} {r:M α} (h:∀ a,s a=r):Ed s=r:=by
 have hx:∃ r,∀ a,s a=r:=⟨r,h⟩
 unfold Ed
 rw [dif_pos hx,← hx.choose_spec 0,h 0]
theorem aC.Ed {α:Type} {s:Addr->M α} {Q:α->Prop} {E:EX->Prop} (h:aC (L2.Ed s) Q E) (a:Addr):aC (s a) Q E:=by
 unfold L2.Ed at h
 split at h
 ·rename_i hx
  rw [hx.choose_spec a];exact h
 ·exact h.elim
def Dm (n:Nat) (C:Addr) (sem:Addr->List PV->M (List (Str×PV))):Sp:=fun vs H Q E=>vs.length=n/\∃ a dx us Hs H1 ps,vs=.ref a::us/\H1 a=none/\H1 dx=none/\dx≠a/\H=upd (upd H1 dx (.own a)) a (.ins C dx [])/\bp Hs H1/\aT Hs ps us ∧
 aC (sem a ps) (fun fs=>∀ dx' ws Hs' H',bD Hs H1 Hs' H'->H' a=some (.ins C dx' ws)->Hs' a=none->iH Hs' fs ws->Q .c8 H') (XW E Hs H1)
theorem SR.Fc {Hs H₀ H:Hp} {N:List Str} {a C dx:Addr} {ps:List PV} {vs:List V} (s:bp Hs H₀) (hN:0<N.length) (ha:H₀ a=none) (r:aT Hs ps vs) (hH:H=upd H₀ a (.ins C dx [])):SR Hs H₀ Hs H (L2.start N (.ref a::vs)) (xX N.length a C ps):=by
 have hs:Hs a=none:=by
  cases q:Hs a with
  | none=>rfl
  | some o=>have:=s _ _ q;rw [ha] at this;cases this
 have ne:∀ c u,H₀ c=some u->c≠a:=fun c u e z=>by rw [z,ha] at e;cases e
 have s0:=SR.start (N:=N.tail) s r
 have e1:L2.start N (.ref a::vs)=some (.ref a)::L2.start N.tail vs:=by
  unfold L2.start
  simp only [List.map_cons,List.cons_append,List.length_cons,List.length_tail]
  rw [Nat.sub_sub,Nat.add_comm]
 have e2:xX N.length a C ps=some (.bd a C [])::i8 N.tail.length ps:=by unfold xX;rw [List.length_tail]
 have al:bp H₀ H:=fun c u q=>by rw [hH,aw (ne c u q)];exact q
 rw [e1,e2]
 refine ⟨⟨fun _ _ e=>e,al,fun c u q=>al c u (s c u q),fun c u q _=>q⟩,by simp [s0.len],fun j q ej=>?_,fun j zs ej=>?_,fun j k y1 y2 b nj e1 e2 e3 e4=>?_,fun j ba D fs' ej=>?_,fun j k a1 a2 C' D fs' gs' e1 e2=>?_⟩
 ·cases j with
  | zero=>cases ej
  | succ j=>exact s0.sh j q (by simpa using ej)
 ·cases j with
  | zero=>cases ej
  | succ j=>exact absurd (s0.ow j zs (by simpa using ej)) (fun ⟨b,ws,q1,q2,q3,q4,q5⟩=>by rw [q4] at q2;cases q2)
 ·cases j with
  | zero=>cases e1
  | succ j=>exact absurd (s0.ow j y1 (by simpa using e1)) (fun ⟨b,ws,q1,q2,q3,q4,q5⟩=>by rw [q4] at q2;cases q2)
 ·cases j with
  | zero=>cases ej;exact ⟨dx,[],rfl,by rw [hH];exact aE,hs,ha,.nil⟩
  | succ j=>exact absurd (s0.bd j ba D fs' (by simpa using ej)) (fun ⟨b,ws,q1,q2,q3,q4,q5⟩=>by rw [q4] at q2;cases q2)
 ·cases j with
  | zero=>cases k with
   | zero=>rfl
   | succ k=>exact absurd (s0.bd k a2 D gs' (by simpa using e2)) (fun ⟨b,ws,q1,q2,q3,q4,q5⟩=>by rw [q4] at q2;cases q2)
  | succ j=>exact absurd (s0.bd j a1 C' fs' (by simpa using e1)) (fun ⟨b,ws,q1,q2,q3,q4,q5⟩=>by rw [q4] at q2;cases q2)
theorem CN {P:Program} {w:World} {K:PySem.W.Frag} {mg:Str->Option Value} {base:Heap} {k:Nat} {f C:Addr} {name qual:Str} {params:Arguments} {body:List Stmt} {scope:Scope} {dV kV doc pm cdv ct oc:Value} {an od:Option Addr}
  {osl:Array (Option Value)} {N ps:List Str} {g:ai->M Out} (lk:K.lookup f=some ⟨oc,od,.func (PySem.W.fnOf name qual params body scope dV kV doc pm an cdv ct),osl⟩) (hcd:PySem.W.codeIn K cdv qual=true) (S:aH N ps scope) (hN:0<N.length)
  (hb:∀ (A:Around) (outer:List Env) (s:Shared) (H:Hp) (E:XK),cy k (A.deeper (envOfC qual scope s.heap.objs.size f cdv))->nM ((kK (b_ P w) P w K mg base N qual scope f cdv A outer s H E).out fun _=>E) body (tS E g)) :
  aY P w K mg base (b_ P w) (k+1) f (PySem.W.fnOf name qual params body scope dV kV doc pm an cdv ct) ps (Dm ps.length C (xQ N.length g C)):=by
 refine r_ lk hcd S (fun vs H Q E h=>h.1) fun A outer s H vs Q E hr hs=>⟨_,hb A outer s H E hr,?_⟩
 obtain ⟨_,a,dx,us,Hs,H1,ps',rfl,ha,hdx,hne,hH,sm,r,h⟩:=hs
 have ne:∀ c u,H1 c=some u->c≠dx:=fun c u e z=>by rw [z,hdx] at e;cases e
 have s0:bp H1 (upd H1 dx (.own a)):=fun c u q=>by rw [aw (ne c u q)];exact q
 have g0:bD Hs H1 Hs (upd H1 dx (.own a)):=⟨fun _ _ e=>e,s0,fun c u q=>s0 c u (sm c u q),fun _ _ e _=>e⟩
 refine ⟨Hs,_,Hs,_,SR.Fc (dx:=dx) g0.sub hN (by rw [aw (Ne.symm hne)];exact ha) r hH,(aC.bind h).imp (fun o ho=>?_) fun e he=>he.grow g0⟩
 cases o with
 | rt p=>exact ho.elim
 | bk env=>exact ho.elim
 | ct env=>exact ho.elim
 | nx env =>
  intro σ Hs' H' sr
  have ho':aC (yR a C env) _ _:=ho
  unfold yR at ho'
  split at ho'
  ·rename_i b D fs ex
   obtain ⟨⟨rfl,rfl⟩,hp⟩:=aC.cw ho'
   obtain ⟨dx',ws,h1,h2,h3,h4,h5⟩:=sr.bd 0 _ _ fs ex
   exact hp dx' ws Hs' H' (g0.trans sr.gr) h2 h3 h5
  ·exact ho'.elim
noncomputable def mU (C:Addr) (sem:Addr->List PV->M (List (Str×PV))) (dps:List PV) (ps:List PV):M PV:=(Ed fun a=>sem a (ps++dps)).bind fun fs=>M.ok (.obj C fs)
section
variable {X:Cx} {E:St->XK} {k n:Nat} {f C:Addr} {fd:FuncData} {ns:List Str} {sem:Addr->List PV->M (List (Str×PV))} {x:Str} {p pos:Pos} {e:Expr} {es:List Expr} {fs:ai->M (List PV)}
theorem CD {ds:List Value} {dvs:List V} {dps:List PV} (Mk:Mk X.K C f) (F:aY X.prog X.w X.K X.mg X.base (b_ X.prog X.w) k f fd ns (Dm n C sem)) (hr:cy (k+1) X.A) (hg:Gl X x) (hm:X.mg x=some (.ref C)) (hb:Binds X.K fd ns ds) (hd:Vals dvs ds) (hdp:∀ H,aT H dps dvs) (O:eH X E)
  (hl:∀ a ps,sem a (ps++dps)≠none->ps.length+dps.length+1=n)
  (ha:PA X (e::es) (tL E fs)) (hdb:(x==("__debug__" : Str))=false:=by decide) (he:starEach (e::es) X.env=(false,eval e X.env)::starEach es X.env:=by rfl) (hpl:(backTo pos (starEach es X.env)).any (·.1)=false:=by rfl) :
  PE X (.Call (.Name x p) (e::es) [] pos) (tE E (au (mU C sem dps) fs)):=by
 refine (A5 Mk F hr hg hm hb hd O ha hdb he hpl).imp fun σ H Q q=>cX (K:=ky Q) ky.g q fun B H₀ Hs H1 env ps' v sr rp hp=>?_
 intro a dx ha hdx hne
 have r2:aT Hs (ps'++dps) (v++dvs):=rp.append (hdp Hs)
 have hp':=(aC.bind hp).Ed a
 have hn:sem a (ps'++dps)≠none:=fun z=>by
  rw [z] at hp';exact hp'
 refine ⟨?_,a,dx,v++dvs,Hs,H1,ps'++dps,rfl,ha,hdx,hne,rfl,sr.gr.sub,r2,hp'.imp (fun fl hfl dx' ws Hs' H' g hw hsw rw'=>⟨rfl,?_⟩) fun e he=>he⟩
 ·show (v++dvs).length+1=n
  rw [← r2.length,List.length_append]
  exact hl a ps' hn
 ·have ne:∀ c u,Hs' c=some u->c≠a:=fun c u q z=>by rw [z,hsw] at q;cases q
  have hst:bp Hs' (upd Hs' a (.ins C dx' ws)):=fun c u q=>by rw [aw (ne c u q)];exact q
  refine hfl (.ref a) (upd Hs' a (.ins C dx' ws)) H' ⟨fun c u q=>hst c u (g.st c u q),g.al,fun c u q=>?_,fun c u q1 q2=>?_⟩ (.obj aE (rw'.mono hst))
  ·by_cases z:c=a
   ·subst z;rw [aE] at q;cases q;exact hw
   ·rw [aw z] at q;exact g.sub c u q
  ·have z:c≠a:=fun z=>by rw [z,ha] at q2;cases q2
   rw [aw z];exact g.nw c u q1 q2
end
end L2
namespace L2
open PySem PySem.Spec PyProof.Rows
section
variable {X:Cx} {E:St->XK} {a b c e:Expr} {pos:Pos} {f g h:ai->M PV}
theorem mR {n m:Nat} (h:n.log2<m):n<2^m:=by
 by_cases z:n=0
 ·subst z;exact Nat.two_pow_pos m
 ·exact (Nat.log2_lt z).mp h
theorem aT.rep {H:Hp} {xs:List PV} {vs:List V} (r:aT H xs vs):∀ k:Nat,aT H (List.replicate k xs).flatten (List.replicate k vs).flatten
 | 0=>.nil
 | k+1=>by rw [List.replicate_succ,List.replicate_succ,List.flatten_cons,List.flatten_cons];exact r.append (r.rep k)
def c_:PV->PV->M PV
 | .int i,.int j=>cw (i.natAbs.log2<67108864/\j.natAbs.log2<67108864) (M.ok (.int (i*j)))
 | .tup xs,.int k=>cw (xs.isEmpty=false/\-(2^63)<=k/\k<2^63/\xs.length*k.toNat<=sizeLine) (M.ok (.tup (List.replicate k.toNat xs).flatten))
 | .lst xs,.int k=>cw (-(2^63)<=k/\k<2^63/\xs.length*k.toNat<=sizeLine) (M.ok (.lst (List.replicate k.toNat xs).flatten))
 | _,_=>none
def DB (K:PySem.W.Frag):R2:=fun x y H Q=>(rI (fun i j=>IntMulOk i j) fun i j=>.int (i*j)) x y H Q\/Dk K x y H Q\/Gv x y H Q
theorem bx:hX X (binaryOp .Mult) (DB X.K):=hX.or Bx (hX.or BI ED)
theorem bZ {K:PySem.W.Frag}:mI E (DB K) c_:=by
 intro σ Hs H p q v u Q s rp rq h
 cases rp with
 | int i=>cases rq with
  | int j =>
   obtain ⟨hz,h⟩:=aC.cw h
   exact .inl ⟨i,j,rfl,rfl,yT (mR hz.1) (mR hz.2) (Nat.le_refl _),e8.flat h s (.int _)⟩
  | _=>exact h.elim
 | @tup a xs vs ha hx=>cases rq with
  | int k =>
   obtain ⟨⟨h0,h1,h2,h3⟩,h⟩:=aC.cw h
   have n1:vs≠[]:=fun z=>by
    have:=hx.length
    rw [z] at this
    cases xs with
    | nil=>cases h0
    | cons _ _=>cases this
   refine .inr (.inl ⟨a,k,vs,rfl,rfl,ji.of (s _ _ ha),n1,h1,h2,by rw [← hx.length];exact h3,fun z=>?_,fun z=>e8.tup h s (hx.rep _)⟩)
   subst z
   rw [show (1:Int).toNat=1 from rfl,List.replicate_succ,List.replicate_zero,List.flatten_cons,List.flatten_nil,List.append_nil] at h
   exact e8.flat h s (.tup ha hx)
  | _=>exact h.elim
 | @lst a xs vs ha hx=>cases rq with
  | int k =>
   obtain ⟨⟨h1,h2,h3⟩,h⟩:=aC.cw h
   exact .inr (.inr ⟨a,k,vs,rfl,rfl,s _ _ ha,h1,h2,by rw [← hx.length];exact h3,e8.lst h s (hx.rep _)⟩)
  | _=>exact h.elim
 | _=>exact h.elim
theorem C5:mI E (rI AI fun i j=>.int (i.fdiv j)) (vo (fun _ j=>decide (j≠0/\j.natAbs.log2<9000)) fun i j=>i.fdiv j):=wk fun i j z=>(of_decide_eq_true z:j≠0/\j.natAbs.log2<9000)
theorem EI:mI E (rI (fun _ j=>j≠0) fun i j=>.int (i.fmod j)) (vo (fun _ j=>decide (j≠0)) fun i j=>i.fmod j):=wk fun i j z=>of_decide_eq_true z
theorem DG:mI E (rI EO fun i j=>.int (i^j.toNat)) (vo (fun i j=>decide (0<=j/\j<=1000000/\i.natAbs<2^64)) fun i j=>i^j.toNat):=wk fun i j z=>(of_decide_eq_true z:0<=j/\j<=1000000/\i.natAbs<2^64)
def GI:PV->M PV
 | .int i=>M.ok (.int (-i))
 | _=>none
def ny (f:ai->M PV):ai->M PV:=fun env=>(f env).bind GI
theorem i0 (ha:PE X a (tE E f)):PE X (.UnaryOp .USub a pos) (tE E (ny f)) :=
 (Gf DX ha).imp fun σ H Q q=>Gs q fun Hs H1 p v s rp h=>by
  cases rp with
  | int i=>exact ⟨i,rfl,e8.flat h s (.int _)⟩
  | _=>exact h.elim
def wJ:PV->Bool
 | .c8=>true
 | _=>false
theorem Al {H:Hp} {p:PV} {v:V} (r:Rep H p v):decide (v=.c8)=wJ p:=by
 cases r <;> rfl
def AN:PV->PV->M PV
 | p,.c8=>M.ok (.bl (wJ p))
 | _,_=>none
theorem Bl:mI E (fun x y H Q=>y=.c8/\Q (.bl (decide (x=.c8))) H) AN:=by
 intro σ Hs H p q v u Q s rp rq h
 cases rq with
 | c8 =>
  have h':aC (M.ok (PV.bl (wJ p))) (e8 Hs H Q) (XW (E σ) Hs H):=by cases p <;> exact h
  exact ⟨rfl,by rw [Al rp];exact e8.flat h' s (.bl _)⟩
 | _=>cases p <;> exact h.elim
def kM (o o':PV->PV->M PV) (f g h:ai->M PV):ai->M PV:=fun env=>(f env).bind fun p=>(g env).bind fun q=>(o p q).bind fun z=>(va z).bind fun k=>if k=true then (h env).bind fun r=>o' q r else M.ok (.bl false)
theorem AM {r r':R2} {o o':PV->PV->M PV} (hv:mI E r o) (hv':mI E r' o') {σ:St} {H:Hp} {Q:VK} (q:tE E (kM o o' f g h) σ H Q):Aq r r' (tE E f) (tE E g) (tE E h) σ H Q:=by
 refine bW (K:=ky Q) ky.g q fun B H₀ Hs H1 env p v sr rp hp=>?_
 refine ⟨B,H₀,Hs,env,sr,(aC.bind hp).imp (fun q hq u Hs2 H2 g2 ru=>?_) fun e he=>he⟩
 have sr2:=sr.grow g2
 refine hv σ Hs2 H2 p q v u _ sr2.gr.sub (rp.mono g2.st) ru ((aC.bind hq).imp (fun z hz w Hs3 H3 g3 rw'=>?_) fun e he=>he.grow g2)
 obtain ⟨k,ek,hk⟩:=aC.HC (aC.bind hz)
 subst ek
 cases rw'
 refine ⟨k,rfl,?_⟩
 have sr3:=sr2.grow g3
 cases k with
 | false=>exact hk _ _ _ (g2.trans g3) (.bl _)
 | true =>
  have hk':aC ((h env).bind fun r=>o' q r) (ky Q Hs H1) (XW (E σ) Hs H1):=hk
  refine ⟨B,H₀,Hs3,env,sr3,(aC.bind hk').imp (fun r hr w Hs4 H4 g4 rw4=>?_) fun e he=>he.grow (g2.trans g3)⟩
  exact hv' σ Hs4 H4 q r u w Q (sr3.grow g4).gr.sub ((ru.mono g3.st).mono g4.st) rw4 (hr.imp (fun z hz w' Hs5 H5 g5 r5=>hz w' Hs5 H5 ((g2.trans g3).trans (g4.trans g5)) r5) fun e he=>he.grow ((g2.trans g3).trans g4))
theorem uK {op op':CmpOp} {r r':R2} {o o':PV->PV->M PV} (ho:hX X (compareOp op) r) (hv:mI E r o) (ho':hX X (compareOp op') r') (hv':mI E r' o') (ha:PE X a (tE E f)) (hb:PE X b (tE E g)) (hc:PE X c (tE E h))
  (hm:lastMarks [op,op'] [b,c]=false:=by with_unfolding_all rfl):PE X (.Compare a [op,op'] [b,c] pos) (tE E (kM o o' f g h)) :=
 (Bf ho ho' ha hb hc hm).imp fun σ H Q q=>AM hv hv' q
def cL (u:ai->M Bool) (b:ai->M Out):Nat->ai->M Out
 | 0,_=>none
 | n+1,env=>(u env).bind fun t=>if t=true then (b env).bind fun o=>match o with
   | .nx env'=>cL u b n env'
   | .ct env'=>cL u b n env'
   | .bk env'=>M.ok (.nx env')
   | .rt p=>M.ok (.rt p)
  else M.ok (.nx env)
theorem xr {E:XK} {u:ai->M Bool} {g:ai->M Out} {body:List Stmt} (n:ai->Nat) (O:eH X fun _=>E) (hc:PT X c (tT (fun _=>E) u)) (hb:nM X body (tS E g)):PS X (.While c body [] pos) (tS E fun env=>cL u g (n env) env):=by
 refine (Bq O.own hc hb).imp fun D σ H q=>?_
 obtain ⟨B,H₀,Hs,env,sr,q⟩:=q
 refine ⟨fun m σ H=>∃ Hs env,SR B H₀ Hs H σ env/\aC (cL u g m env) (KS D B H₀) (XW E B H₀),⟨n env,Hs,env,sr,q⟩,?_⟩
 rintro m σ1 H1 ⟨Hs1,env1,sr1,q1⟩
 cases m with
 | zero=>exact q1.elim
 | succ m =>
  refine ⟨B,H₀,Hs1,env1,sr1,(aC.bind q1).imp (fun t ht Hs2 H2 g2=>?_) fun e he=>he.grow sr1.gr⟩
  have sr2:=sr1.grow g2
  cases t with
  | false=>exact ht σ1 Hs2 H2 sr2
  | true =>
   refine ⟨fun σ' H'=>∃ Hs' env',SR B H₀ Hs' H' σ' env'/\aC (cL u g m env') (KS D B H₀) (XW E B H₀),fun σ' H' z=>⟨m,Nat.lt_succ_self m,z⟩,B,H₀,Hs2,env1,sr2,(aC.bind ht).imp (fun o ho=>?_) fun e he=>he⟩
   cases o with
   | nx env'=>exact fun σ' Hs' H' sr'=>⟨Hs',env',sr',ho⟩
   | ct env'=>exact fun σ' Hs' H' sr'=>⟨Hs',env',sr',ho⟩
   | bk env'=>exact ho
   | rt p=>exact ho
theorem i9 {u:ai->M Bool} {g:ai->M Out}:∀ (n k:Nat) (env:ai),cL u g n env≠none->cL u g (n+k) env=cL u g n env
 | 0,_,_,h=>(h rfl).elim
 | n+1,k,env,h=>by
  rw [show n+1+k=(n+k)+1 by omega]
  unfold cL at h ⊢
  cases hu:u env with
  | none=>rfl
  | some z =>
   cases z with
   | error e=>rfl
   | ok t =>
    rw [hu] at h
    cases t with
    | false=>rfl
    | true =>
     show M.bind (g env) _=M.bind (g env) _
     have h':M.bind (g env) (fun o=>match o with
      | .nx env'=>cL u g n env'
      | .ct env'=>cL u g n env'
      | .bk env'=>M.ok (.nx env')
      | .rt p=>M.ok (.rt p))≠none:=h
     cases hg:g env with
     | none=>rfl
     | some z =>
      cases z with
      | error e=>rfl
      | ok o =>
       rw [hg] at h'
       cases o with
       | nx env'=>exact i9 n k env' h'
       | ct env'=>exact i9 n k env' h'
       | bk env'=>rfl
       | rt p=>rfl
noncomputable def mL (u:ai->M Bool) (b:ai->M Out) (env:ai):M Out:=open Classical in cL u b (if h:∃ n,cL u b n env≠none then h.choose else 0) env
theorem xK {u:ai->M Bool} {b:ai->M Out} {n:Nat} {env:ai} (h:cL u b n env≠none):mL u b env=cL u b n env:=by
 have hx:∃ n,cL u b n env≠none:=⟨n,h⟩
 unfold mL
 rw [dif_pos hx]
 have h1:=hx.choose_spec
 rw [← i9 _ n env h1,← i9 n hx.choose env h,Nat.add_comm]
theorem zv {E:XK} {u:ai->M Bool} {g:ai->M Out} {body:List Stmt} (O:eH X fun _=>E) (hc:PT X c (tT (fun _=>E) u)) (hb:nM X body (tS E g)):PS X (.While c body [] pos) (tS E (mL u g)) :=
 xr (fun env=>open Classical in if h:∃ n,cL u g n env≠none then h.choose else 0) O hc hb
end
end L2
namespace L2
open PySem PySem.Spec PyProof.Rows
def G2:PV->Option String
 | .c8=>some "NoneType"
 | .bl _=>some "bool"
 | .int _=>some "int"
 | .str _=>some "str"
 | .lst _=>some "list"
 | .jo _=>some "list"
 | .tup _=>some "tuple"
 | .emp=>some "dict"
 | _=>none
def qo (a t:String):Bool:=a==t||(a == "bool" && t == "int")
theorem ni (K:PySem.W.Frag):PySem.W.kitOne K (.type "NoneType") (.type "int")=some false:=by with_unfolding_all kernel_rfl
theorem tJ (K:PySem.W.Frag):PySem.W.kitOne K (.type "bool") (.type "int")=some true:=by with_unfolding_all kernel_rfl
def tys:List String:=["int", "bool", "str", "list", "tuple"]
theorem GX (K:PySem.W.Frag) {p:PV} {a t:String} (ha:G2 p=some a) (ht:t∈tys):PySem.W.kitOne K (.type a) (.type t)=some (qo a t):=by
 have ht2:t = "int" \/ t = "bool" \/ t = "str" \/ t = "list" \/ t = "tuple" := by simpa [tys] using ht
 cases p <;> cases ha <;> rcases ht2 with rfl | rfl | rfl | rfl | rfl <;> first
  | exact ni K
  | exact kt_NoneType_bool K
  | exact kt_NoneType_str K
  | exact kt_NoneType_list K
  | exact kt_NoneType_tuple K
  | exact tJ K
  | exact kt_bool_bool K
  | exact kt_bool_str K
  | exact kt_bool_list K
  | exact kt_bool_tuple K
  | exact kt_int_int K
  | exact kt_int_bool K
  | exact kt_int_str K
  | exact kt_int_list K
  | exact kt_int_tuple K
  | exact kt_str_int K
  | exact kt_str_bool K
  | exact kt_str_str K
  | exact kt_str_list K
  | exact kt_str_tuple K
  | exact kt_list_int K
  | exact kt_list_bool K
  | exact kt_list_str K
  | exact kt_list_list K
  | exact kt_list_tuple K
  | exact kt_tuple_int K
  | exact kt_tuple_bool K
  | exact kt_tuple_str K
  | exact kt_tuple_list K
  | exact kt_tuple_tuple K
  | exact kt_dict_int K
  | exact kt_dict_bool K
  | exact kt_dict_str K
  | exact kt_dict_list K
  | exact kt_dict_tuple K
theorem yY {K:PySem.W.Frag} {Hs H:Hp} {p:PV} {v:V} {a:String} (s:bp Hs H) (r:Rep Hs p v) (ha:G2 p=some a):jy K H v (.type a):=by
 cases r with
 | c8=>cases ha;exact .c8
 | bl b=>cases ha;exact .bl b
 | int i=>cases ha;exact .int i
 | str x=>cases ha;exact .str x
 | tup h _=>cases ha;exact .tup (s _ _ h)
 | lst h _=>cases ha;exact .lst (s _ _ h)
 | jo h _=>cases ha;exact .pU (s _ _ h)
 | emp h=>cases ha;exact .dK (s _ _ h)
 | _=>cases ha
theorem wI (K:PySem.W.Frag) {p:PV} {a:String} (ha:G2 p=some a):∀ {Ts:List String},(∀ t∈Ts,t∈tys)->PySem.W.kitAny K (.type a) (Ts.map Value.type)=some (Ts.any fun t=>qo a t)
 | [],_=>rfl
 | t::r,h=>by
  have h1:=GX K ha (h t List.mem_cons_self)
  have h2:=wI K ha (Ts:=r) fun t q=>h t (List.mem_cons_of_mem _ q)
  simp only [List.map_cons,PySem.W.kitAny,h1,List.any_cons]
  cases qo a t with
  | true=>rfl
  | false=>exact h2
structure D8 (K:PySem.W.Frag) (C:Addr):Prop where
 cls:lM K C
 ha:PySem.W.findIn K (.ref C) "__class__" = some (some (.builtin "object.__class__"))
 hn:PySem.W.specialIn K (.builtin "object.__class__") "__get__" = some (some (.builtin "getset_descriptor.__get__"))
 FW:PySem.W.takesIn K (.builtin "object.__class__")=some true
 hm:PySem.W.mroIn K C (.type "object")=some true
def Bo (b:String->Bool) (ob oe:Addr->Option Bool):PV->M PV
 | .obj C _=>e6 ((ob C).map .bl)
 | .exc C _=>e6 ((oe C).map .bl)
 | p=>e6 ((G2 p).map fun a=>.bl (b a))
section
variable {X:Cx} {E:St->XK} {e:Expr} {pos p px pt:Pos} {f:ai->M PV} {T:String} {x:Str} {C:Addr} {ob oe:Addr->Option Bool}
theorem FK {H:Hp} {C:Addr} {fo:Option (List (Str×PV))} {Hs:Hp} {v:V} (s:bp Hs H) (r:Rep Hs (.exc C fo) v):∃ a fo',v=.ref a/\ExcAt H a C fo':=by
 cases r with
 | @xP a _ h=>exact ⟨a,none,rfl,s _ _ h⟩
 | @yg a _ d _ vs h h2 _=>exact ⟨a,some vs,rfl,d,s _ _ h,s _ _ h2⟩
def FJ (b:String->Bool) (ob oe:Addr->Option Bool) (f:ai->M PV):ai->M PV:=fun env=>(f env).bind (Bo b ob oe)
theorem t4 {b:String->Bool} {p:PV} {Q:PV->Prop} {F:EX->Prop} (h:aC (Bo b ob oe p) Q F):(∃ a,G2 p=some a/\Q (.bl (b a)))\/(∃ C fs k,p=.obj C fs/\ob C=some k/\Q (.bl k))\/∃ C fo k,p=.exc C fo/\oe C=some k/\Q (.bl k):=by
 cases p with
 | obj C fs =>
  obtain ⟨z,e,q⟩:=aC.opt h
  obtain ⟨k,e2,rfl⟩:=Option.map_eq_some_iff.mp e
  exact .inr (.inl ⟨C,fs,k,rfl,e2,q⟩)
 | exc C fo =>
  obtain ⟨z,e,q⟩:=aC.opt h
  obtain ⟨k,e2,rfl⟩:=Option.map_eq_some_iff.mp e
  exact .inr (.inr ⟨C,fo,k,rfl,e2,q⟩)
 | c8=>exact .inl ⟨_,rfl,h⟩
 | bl _=>exact .inl ⟨_,rfl,h⟩
 | int _=>exact .inl ⟨_,rfl,h⟩
 | str _=>exact .inl ⟨_,rfl,h⟩
 | tup _=>exact .inl ⟨_,rfl,h⟩
 | lst _=>exact .inl ⟨_,rfl,h⟩
 | jo _=>exact .inl ⟨_,rfl,h⟩
 | emp=>exact .inl ⟨_,rfl,h⟩
theorem AK {K:PySem.W.Frag} {Hs H:Hp} {C:Addr} {fs:List (Str×PV)} {v:V} (s:bp Hs H) (r:Rep Hs (.obj C fs) v) (c:D8 K C):jy K H v (.ref C):=by
 cases r with
 | obj h _=>exact .ins (s _ _ h) c.cls c.ha c.hn c.FW c.hm
theorem we (hg:Gl X "isinstance") (hm:X.mg "isinstance" = none) (hT:PE X (.Name x pt) (tC (.ty T))) (ht:T∈tys) (hob:∀ C b,ob C=some b->D8 X.K C/\PySem.W.kitOne X.K (.ref C) (.type T)=some b) (hoe:∀ C b,oe C=some b->i_ X.K C/\PySem.W.kitOne X.K (.ref C) (.type T)=some b) (he:PE X e (tE E f))
  (h1:starEach [e,.Name x pt] X.env=(false,eval e X.env)::starEach [.Name x pt] X.env:=by rfl) (h2:starEach [.Name x pt] X.env=(false,eval (.Name x pt) X.env)::starEach [] X.env:=by rfl) (hpl:(backTo pos (starEach [.Name x pt] X.env)).any (·.1)=false:=by rfl) :
  PE X (.Call (.Name "isinstance" p) [e,.Name x pt] [] pos) (tE E (FJ (fun a=>qo a T) ob oe f)):=by
 refine (n9 (dP.or yZ yQ) hg hm zm (fF he (fF hT kP h2) h1) (by decide) (by decide) h1 hpl).imp fun σ H Q q=>bW (K:=ky Q) ky.g q fun B H₀ Hs H1 env p v sr rp hp=>?_
 rcases t4 hp with ⟨a,ha,q⟩ | ⟨C,fs,k,rfl,e,q⟩ | ⟨C,fo,k,rfl,e,q⟩
 ·exact .inl ⟨v,T,_,_,rfl,yY sr.gr.sub rp ha,GX X.K ha ht,e8.flat q sr.gr.sub (.bl _)⟩
 ·exact .inl ⟨v,T,_,_,rfl,AK sr.gr.sub rp (hob C k e).1,(hob C k e).2,e8.flat q sr.gr.sub (.bl _)⟩
 ·obtain ⟨a,fo',rfl,hx⟩:=FK sr.gr.sub rp
  exact .inr ⟨a,C,fo',k,(hoe C k e).1,hx,.inl ⟨T,rfl,(hoe C k e).2⟩,e8.flat q sr.gr.sub (.bl _)⟩
theorem BD {e2:Expr} {t2:TE} {Ts:List String} (hg:Gl X "isinstance") (hm:X.mg "isinstance" = none) (hT:PE X e2 t2) (ht2:∀ σ H R,(∀ p,H p=none->R (.ref p) (upd H p (.tup (Ts.map V.ty))))->t2 σ H R) (ht:∀ t∈Ts,t∈tys) (hob:∀ C b,ob C=some b->D8 X.K C/\PySem.W.kitAny X.K (.ref C) (Ts.map Value.type)=some b) (he:PE X e (tE E f))
  (h1:starEach [e,e2] X.env=(false,eval e X.env)::starEach [e2] X.env:=by rfl) (h2:starEach [e2] X.env=(false,eval e2 X.env)::starEach [] X.env:=by rfl) (hpl:(backTo pos (starEach [e2] X.env)).any (·.1)=false:=by rfl) :
  PE X (.Call (.Name "isinstance" p) [e,e2] [] pos) (tE E (FJ (fun a=>Ts.any fun t=>qo a t) ob (fun _=>none) f)):=by
 refine (n9 xB hg hm zm (fF he (fF hT kP h2) h1) (by decide) (by decide) h1 hpl).imp fun σ H Q q=>bW (K:=ky Q) ky.g q fun B H₀ Hs H1 env p v sr rp hp=>?_
 refine ht2 σ H1 _ fun tp hn=>?_
 have g:=bD.new (o:=.tup (Ts.map V.ty)) sr.gr.sub hn
 rcases t4 hp with ⟨a,ha,q⟩ | ⟨C,fs,k,rfl,e,q⟩ | ⟨C,fo,k,rfl,e,q⟩
 ·exact ⟨v,tp,Ts,_,_,rfl,aE,yY g.sub (rp.mono g.st) ha,wI X.K ha ht,q _ _ _ g (.bl _)⟩
 ·exact ⟨v,tp,Ts,_,_,rfl,aE,AK g.sub (rp.mono g.st) (hob C k e).1,(hob C k e).2,q _ _ _ g (.bl _)⟩
 ·cases e
end
end L2
namespace L2
open PySem PySem.Spec PyProof.Rows
open PySem.SeqAt (shaped noMix noMixAll)
mutual
def dat:PV->Option PyData
 | .c8=>some .none
 | .bl b=>some (.bool b)
 | .int i=>some (.int i)
 | .str x=>some (.str x)
 | .tup xs=>(mM xs).map .tuple
 | .lst xs=>(mM xs).map .list
 | .jo xs=>(mM xs).map .list
 | .obj _ _=>none
 | .exc _ _=>none
 | .emp=>none
def mM:List PV->Option (List PyData)
 | []=>some []
 | p::r=>(dat p).bind fun d=>(mM r).map (d::·)
end
section
variable {X:Cx} {pins:List (Addr×Obj)} {σ:St} {H:Hp} {s:Shared}
mutual
theorem Rep.reads {Hs:Hp} (I:Inv X pins σ H s) (sm:bp Hs H):∀ {p:PV} {v:V} {u:Value} {d:PyData},Rep Hs p v->RelV v u->dat p=some d->∃ as,Reads s.heap u d as
 | _,_,u,d,.c8,r,e=>by
  cases e;cases (show u=Value.none from r);exact ⟨_,.none⟩
 | _,_,u,d,.bl b,r,e=>by
  cases e;cases (show u=Value.bool b from r);exact ⟨_,.bool b⟩
 | _,_,u,d,.int i,r,e=>by
  cases e;obtain ⟨t,rfl⟩:=(show ∃ t,u=Value.int i t from r);exact ⟨_,.int i t⟩
 | _,_,u,d,.str i,r,e=>by
  cases e;obtain ⟨t,rfl⟩:=(show ∃ t,u=Value.str i t from r);exact ⟨_,.str i t⟩
 | _,_,u,d,.tup (a:=a) ha hx,r,e=>by
  obtain ⟨ds,e2,rfl⟩:=Option.map_eq_some_iff.mp (show (mM _).map PyData.tuple=some d from e)
  cases (show u=Value.ref a from r)
  obtain ⟨its,r1,⟨o,ho,hc,n,hd⟩,_⟩:=I.tuple (ji.of (sm _ _ ha))
  obtain ⟨as,ra⟩:=aT.reads I sm hx r1 e2
  exact ⟨_,.tuple ho hc hd (by simpa using ra)⟩
 | _,_,u,d,.lst (a:=a) ha hx,r,e=>by
  obtain ⟨ds,e2,rfl⟩:=Option.map_eq_some_iff.mp (show (mM _).map PyData.list=some d from e)
  cases (show u=Value.ref a from r)
  obtain ⟨its,r1,⟨o,n,ho,hc,_,hd⟩,_⟩:=I.list (iM.of (sm _ _ ha))
  obtain ⟨as,ra⟩:=aT.reads I sm hx r1 e2
  exact ⟨_,.list ho hc hd (by simpa using ra)⟩
 | _,_,u,d,.jo (a:=a) (o:=ob) ha hx,r,e=>by
  obtain ⟨ds,e2,rfl⟩:=Option.map_eq_some_iff.mp (show (mM _).map PyData.list=some d from e)
  cases (show u=Value.ref a from r)
  obtain ⟨its,r1,⟨o,n,ho,hc,_,hd⟩,_⟩:=I.list (.inl (.inr ⟨ob,sm _ _ ha⟩))
  obtain ⟨as,ra⟩:=aT.reads I sm hx r1 e2
  exact ⟨_,.list ho hc hd (by simpa using ra)⟩
 | _,_,u,d,.obj _ _,r,e=>by cases e
 | _,_,u,d,.xP _,r,e=>by cases e
 | _,_,u,d,.yg _ _ _,r,e=>by cases e
 | _,_,u,d,.emp _,r,e=>by cases e
theorem aT.reads {Hs:Hp} (I:Inv X pins σ H s) (sm:bp Hs H):∀ {p:List PV} {v:List V} {u:List Value} {d:List PyData},aT Hs p v->Vals v u->mM p=some d->∃ as,ReadsAll s.heap u d as
 | _,_,_,_,.nil,.nil,e=>by cases e;exact ⟨_,.nil⟩
 | _,_,_,d,.cons (p:=p) (ps:=ps) h hr,.cons r rr,e=>by
  obtain ⟨d1,e1,e2⟩:=Option.bind_eq_some_iff.mp (show (dat p).bind (fun d=>(mM ps).map (d::·))=some d from e)
  obtain ⟨ds,e3,rfl⟩:=Option.map_eq_some_iff.mp e2
  obtain ⟨as,ra⟩:=Rep.reads I sm h r e1
  obtain ⟨bs,rb⟩:=aT.reads I sm hr rr e3
  exact ⟨_,.cons ra rb⟩
end
end
def Bi (d e:PyData):M Bool:=cw (shaped d=true/\shaped e=true/\noMix d e=true) (M.ok (same d e))
def lX (o:Bool->PV) (p q:PV):M PV:=match dat p,dat q with
 | some d,some e=>(Bi d e).bind fun b=>M.ok (o b)
 | _,_=>none
def n5:PV->PV->M PV:=lX fun b=>.bl b
def tD:PV->PV->M PV:=lX fun b=>.bl (!b)
def AO (o:Bool->Bool):R2:=fun x y H Q=>∃ Hs p q d e,bp Hs H/\Rep Hs p x/\Rep Hs q y/\dat p=some d/\dat q=some e/\shaped d=true/\shaped e=true/\noMix d e=true/\Q (.bl (o (same d e))) H
section
variable {X:Cx} {E:St->XK}
theorem iv (hu:X.A.units+64<cLine):hX X (compareOp .Eq) (AO id):=by
 intro pins s σ H x y v u Q I rx ry h
 obtain ⟨Hs,p,q,d,e,sm,rp,rq,hd,he,h1,h2,h3,hq⟩:=h
 obtain ⟨as,ra⟩:=Rep.reads I sm rp rx hd
 obtain ⟨bs,rb⟩:=Rep.reads I sm rq ry he
 exact eq_dataH_same ra rb h1 h2 hu h3 (vY I hq rfl)
theorem jB (hu:X.A.units+64<cLine):hX X (compareOp .NotEq) (AO not):=by
 intro pins s σ H x y v u Q I rx ry h
 obtain ⟨Hs,p,q,d,e,sm,rp,rq,hd,he,h1,h2,h3,hq⟩:=h
 obtain ⟨as,ra⟩:=Rep.reads I sm rp rx hd
 obtain ⟨bs,rb⟩:=Rep.reads I sm rq ry he
 exact ne_dataH_same ra rb h1 h2 hu h3 (vY I hq rfl)
theorem AX {o:Bool->Bool}:mI E (AO o) (lX fun b=>.bl (o b)):=by
 intro σ Hs H p q v u Q s rp rq h
 unfold lX at h
 split at h
 ·rename_i d e hd he
  have h':=aC.bind h
  obtain ⟨⟨h1,h2,h3⟩,h⟩:=aC.cw h'
  exact ⟨Hs,p,q,d,e,s,rp,rq,hd,he,h1,h2,h3,e8.flat h s (.bl _)⟩
 ·exact h.elim
theorem kF:mI E (AO id) n5:=AX
theorem mQ:mI E (AO not) tD:=AX
end
def vW (xs:List PV) (lo hi:Option Int):List PV:=(xs.drop (HT.dU xs.length 0 lo)).take (HT.dU xs.length xs.length hi-HT.dU xs.length 0 lo)
theorem aT.cut {H:Hp} {xs:List PV} {vs:List V} (r:aT H xs vs) (lo hi:Option Int):aT H (vW xs lo hi) (tZ vs lo hi):=by
 unfold vW tZ
 rw [r.length]
 exact (r.drop _).take _
def sT (p:PV) (lo hi:Option Int):M PV:=match p with
 | .tup xs=>cw (¬ (HT.dU xs.length 0 lo=0/\HT.dU xs.length xs.length hi=xs.length)) (M.ok (.tup (vW xs lo hi)))
 | .lst xs=>M.ok (.lst (vW xs lo hi))
 | .jo xs=>M.ok (.lst (vW xs lo hi))
 | _=>none
abbrev Gp (Q:Option Int->Hp->Prop):Hp->Hp->Option Int->Prop:=fun Hs H k=>∀ Hs' H',bD Hs H Hs' H'->Q k H'
def Po (E:St->XK) (g:ai->M (Option Int)):TO:=fun σ H Q=>tG E g (Gp Q) σ H
theorem PO.imp {X:Cx} {e:Option Expr} {t t':TO} (h:PO X e t) (i:∀ σ H Q,t' σ H Q->t σ H Q):PO X e t':=fun pins s σ H Q I q=>h pins s σ H Q I (i σ H Q q)
def F3:PV->M (Option Int)
 | .int i=>M.ok (some i)
 | _=>none
def sZ (f:ai->M PV):ai->M (Option Int):=fun env=>(f env).bind F3
def vg (f:ai->M PV) (lo hi:ai->M (Option Int)):ai->M PV:=fun env=>(f env).bind fun p=>(lo env).bind fun l=>(hi env).bind fun h=>sT p l h
section
variable {X:Cx} {E:St->XK} {e:Expr} {lo hi:Option Expr} {pos p2:Pos} {f:ai->M PV} {gl gh:ai->M (Option Int)}
theorem Gp.g {Q:Option Int->Hp->Prop}:KG (Gp Q):=fun Hs H Hs' H' b k g Hs2 H2 g2=>k Hs2 H2 (g.trans g2)
theorem wq (he:PE X e (tE E f)):PO X (some e) (Po E (sZ f)):=(CP he).imp fun σ H Q q=>bW (K:=Gp Q) Gp.g q fun B H₀ Hs H1 env p v sr rp hp=>by
 cases rp with
 | int i=>exact ⟨i,rfl,hp Hs H1 (.refl sr.gr.sub)⟩
 | _=>exact hp.elim
theorem z7 (he:PE X e (tE E f)) (hl:PO X lo (Po E gl)) (hh:PO X hi (Po E gh)):PE X (.Subscript e (.Slice lo hi none p2) pos) (tE E (vg f gl gh)):=by
 refine (zj (Dl.or DM C2) he hl hh).imp fun σ H Q q=>bW (K:=ky Q) ky.g q fun B H₀ Hs H1 env p v sr rp hp=>?_
 refine ⟨B,H₀,Hs,env,sr,(aC.bind hp).imp (fun l hl Hs2 H2 g2=>?_) fun e he=>he⟩
 have sr2:=sr.grow g2
 refine ⟨B,H₀,Hs2,env,sr2,(aC.bind hl).imp (fun h hh Hs3 H3 g3=>?_) fun e he=>he.grow g2⟩
 have sr3:=sr2.grow g3
 have hz:aC (sT p l h) (e8 Hs3 H3 Q) (fun _=>True):=hh.imp (fun z hz w Hs4 H4 g4 r=>hz w Hs4 H4 ((g2.trans g3).trans g4) r) fun _ _=>trivial
 have rp3:=(rp.mono g2.st).mono g3.st
 cases rp3 with
 | tup ha hx =>
  obtain ⟨hn,hz⟩:=aC.cw hz
  refine .inl ⟨_,_,rfl,ji.of (sr3.gr.sub _ _ ha),by rw [← hx.length];exact hn,e8.tup hz sr3.gr.sub (hx.cut l h)⟩
 | lst ha hx=>exact .inr ⟨_,_,rfl,iM.of (sr3.gr.sub _ _ ha),e8.lst hz sr3.gr.sub (hx.cut l h)⟩
 | jo ha hx=>exact .inr ⟨_,_,rfl,.inl (.inr ⟨_,sr3.gr.sub _ _ ha⟩),e8.lst hz sr3.gr.sub (hx.cut l h)⟩
 | _=>exact hz.elim
end
def jz (xs:List PV):List PV:=xs.mapIdx fun i x=>.tup [.int (i:Nat),x]
def k4:List PV->M (List PV)
 | [.lst xs]=>M.ok (jz xs)
 | [.jo xs]=>M.ok (jz xs)
 | _=>none
section
variable {E:St->XK} {K:PySem.W.Frag} {fs:ai->M (List PV)}
theorem qP {a:Addr} {Hs1:Hp} {xs:List PV} {vs:List V} (hq:∀ Hs' H',bp Hs1 Hs'->bp Hs' H'->iM K H' a vs) (hr:aT Hs1 xs vs):jW (EW K a) Hs1 (jz xs) where
 stop:=fun i Hs H s1 s2 hi=>by
  unfold jz at hi
  rw [List.length_mapIdx,hr.length] at hi
  exact ⟨vs,hq Hs H s1 s2,hi⟩
 go:=fun i Hs H s1 s2 hi=>by
  unfold jz at hi
  rw [List.length_mapIdx] at hi
  obtain ⟨v,e,_⟩:=hr.get (List.getElem?_eq_getElem hi)
  exact ⟨vs,v,hq Hs H s1 s2,e⟩
 uZ:=fun i Hs H x H2 s1 s2 hi y=>by
  unfold jz at hi
  rw [List.length_mapIdx] at hi
  obtain ⟨v,e,r⟩:=hr.get (List.getElem?_eq_getElem hi)
  obtain ⟨pa,v',hn,rfl,rfl,y1⟩:=y
  have z1:=y1 vs (hq Hs H s1 s2)
  rw [e] at z1;cases z1
  have gr:=bD.new (o:=.tup [.int (i:Nat),v]) s2 hn
  refine ⟨.tup [.int (i:Nat),xs[i]],_,?_,gr,.tup aE (.cons (.int _) (.cons ((r.mono s1).mono gr.st) .nil))⟩
  unfold jz
  rw [List.getElem?_mapIdx,List.getElem?_eq_getElem hi]
  rfl
theorem jE:yD E (C_ K (tL E fs)) (lZ k4 fs):=by
 intro σ H R q
 refine cX (K:=KI R) KI.g q fun B H₀ Hs H1 env ps v sr rp hp=>?_
 match ps,rp,hp with
 | [.lst xs],rp,hp =>
  obtain ⟨w,rfl,rw'⟩:=rp.one
  cases rw' with
  | lst ha hx=>exact ⟨_,rfl,⟨_,iM.of (sr.gr.sub _ _ ha)⟩,hp _ Hs H1 (.refl sr.gr.sub) (qP (fun Hs' H' s1 s2=>iM.of (s2 _ _ (s1 _ _ ha))) hx)⟩
 | [.jo xs],rp,hp =>
  obtain ⟨w,rfl,rw'⟩:=rp.one
  cases rw' with
  | jo ha hx=>exact ⟨_,rfl,⟨_,.inl (.inr ⟨_,sr.gr.sub _ _ ha⟩)⟩,hp _ Hs H1 (.refl sr.gr.sub) (qP (fun Hs' H' s1 s2=>.inl (.inr ⟨_,s2 _ _ (s1 _ _ ha)⟩)) hx)⟩
 | [],_,hp=>exact hp.elim
 | [.c8],_,hp=>exact hp.elim
 | [.bl _],_,hp=>exact hp.elim
 | [.int _],_,hp=>exact hp.elim
 | [.str _],_,hp=>exact hp.elim
 | [.tup _],_,hp=>exact hp.elim
 | [.obj _ _],_,hp=>exact hp.elim
 | [.exc _ _],_,hp=>exact hp.elim
 | _::_::_,_,hp =>
  have hp':aC (none:M (List PV)) (KI R Hs H1) (XW (E σ) Hs H1):=by
   unfold k4 at hp
   split at hp <;> first | exact hp | simp at *
  exact hp'.elim
end
end L2
namespace L2
open PySem PySem.Spec PyProof.Rows
def yi (lo st:Int) (n:Nat):It:=⟨fun i _=>i<n,fun i H x H'=>H'=H/\x=.int (lo+(i:Nat)*st),fun i _=>n<=i⟩
theorem mS {P:Program} {w:World} {K:PySem.W.Frag} {tg:Expr} (it:Addr) (lo st:Int) (n:Nat):Turn P w K tg (yi lo st n) [it] it (fun i h=>IsRangeIter h it (lo+(i:Nat)*st) ((n:Int)-(i:Nat)) st) where
 mem:=by simp
 obj:=fun i h st b hb=>by
  have e:b=it:=by simpa using hb
  subst e
  exact ⟨_,st,fun v z=>by
   have z':Data.fields _=Data.cell v:=z
   cases z'⟩
 keep:=fun i h h' st k=>k it (by simp) _ st
 item:=by
  intro X hP hw hK hc i pins s σ H E I hf st' hg
  subst hP hw hK
  obtain ⟨f0,f1,f2,f3,f4,f5⟩:=hf it (by simp)
  have W:=Walks.range (prog:=X.prog) (w:=X.w) (I.ok.hd hc) it lo st n
  refine W.item i s _ _ hg st' fun v h' tk hv st'' kk=>?_
  obtain ⟨t,rfl⟩:=hv
  have I1:Inv X pins σ H { s with heap:=h',toks:=tk }:=I.turned (fun b o hb e=>kk b o (by simpa using hb) e) f0 f1 f3 f4 f5
  exact ⟨_,rfl,wC (s:={ s with heap:=h',toks:=tk }) (n := "range_iterator") st'' rfl rfl (by decide) ⟨.int (lo+(i:Nat)*st),H,I1,⟨t,rfl⟩,⟨rfl,rfl⟩,st'',fun b hb=>(hf b hb).1⟩⟩
 done:=by
  intro X hP hw hK hc i pins s σ H E I hf st' hg
  subst hP hw hK
  obtain ⟨f0,f1,f2,f3,f4,f5⟩:=hf it (by simp)
  exact wpAny_pyNext_range_end (I.ok.hd hc) st' (by have:n<=i:=hg;omega) fun h' eb=>⟨rfl,I.turned (t':=s.toks) (fun b o hb e=>eb b o hb e) f0 f1 f3 f4 f5⟩
 self:=fun _ _ _ _ _ st h=>wpAny_pyIter_rangeiter st h
theorem lB (a b c:Int):0<=Builtin.Range.rangeSize a b c:=by
 unfold Builtin.Range.rangeSize
 split
 ·split
  ·have:=Int.ediv_nonneg (a:=b-a-1) (b:=c) (by omega) (by omega);omega
  ·omega
 ·split
  ·have:=Int.ediv_nonneg (a:=a-b-1) (b:=-c) (by omega) (by omega);omega
  ·omega
section
variable {X:Cx} {tg:Expr}
theorem xO {pins:List (Addr×Obj)} {σ:St} {H:Hp} {s:Shared} {R:It->Hp->Prop} {E:Value->Shared->Prop} {lo hi st:Int} {t u v:Tok} {tk:Nat} (I:Inv X pins σ H s) (hsm:Builtin.Range.small lo hi st=true)
  (q:R (yi lo st (Builtin.Range.rangeSize lo hi st).toNat) H):wpAny (model X.prog X.w) X.A (pyIter (.ref s.heap.objs.size)) (Kb X pins σ tg R) E { s with heap:=s.heap.push { cls:=.type "range", data:=.fields #[.int lo t,.int hi u,.int st v] },toks:=tk }:=by
 refine wpAny_pyIter_range (IsRange.new ..) hsm ?_
 have I1:Inv X pins σ H { s with heap:=s.heap.push { cls:=.type "range", data:=.fields #[.int lo t,.int hi u,.int st v] },toks:=tk }:=I.kept fun b o e=>Heap.get?_push_of_some _ e
 refine ⟨(s.heap.push { cls:=.type "range", data:=.fields #[.int lo t,.int hi u,.int st v] }).objs.size,[(s.heap.push { cls:=.type "range", data:=.fields #[.int lo t,.int hi u,.int st v] }).objs.size],_,_,H,rfl,
  I1.kept (t':=tk) fun b o e=>Heap.get?_push_of_some _ e,mS _ lo st (Builtin.Range.rangeSize lo hi st).toNat,?_,fun b hb=>?_,q⟩
 ·have e1:lo+((0:Nat):Int)*st=lo:=by simp
  have e2:(((Builtin.Range.rangeSize lo hi st).toNat:Nat):Int)-((0:Nat):Int)=Builtin.Range.rangeSize lo hi st:=by have:=lB lo hi st;omega
  show IsRangeIter _ _ (lo+((0:Nat):Int)*st) ((((Builtin.Range.rangeSize lo hi st).toNat:Nat):Int)-((0:Nat):Int)) st
  rw [e1,e2]
  exact Heap.get?_push_size _ rfl
 ·have e:b=(s.heap.push { cls:=.type "range", data:=.fields #[.int lo t,.int hi u,.int st v] }).objs.size:=by simpa using hb
  subst e
  exact I1.pS (Nat.le_refl _) (I1.bu.fresh (Nat.le_refl _))
def C3 (i j k:Int):Bool:=decide (k≠0)&&decide (k.natAbs<1073741824)&&Builtin.Range.small i j k
def Dp (ta:TA):TI:=fun σ H R=>ta σ H fun vs H1=>∃ i j k:Int,vs=[.int i,.int j,.int k]/\C3 i j k=true/\R (yi i k (Builtin.Range.rangeSize i j k).toNat) H1
theorem xh {a b c:Expr} {ta:TA} {p pos:Pos} (hg:Gl X "range") (hm:X.mg "range" = none) (ha:PA X [a,b,c] ta) (hs:starEach [a,b,c] X.env=[(false,eval a X.env),(false,eval b X.env),(false,eval c X.env)]:=by rfl) (hs2:starEach [b,c] X.env=[(false,eval b X.env),(false,eval c X.env)]:=by rfl) :
  PI X tg (.Call (.Name "range" p) [a,b,c] [] pos) (Dp ta):=by
 intro pins s σ H R I h
 refine Call_ (gX I hg hm boot_range (PyProof.Rows.callWith_type1 (cF (ha pos pins s σ H _ I h) fun us s1 ⟨vs,H1,I1,r1,q1⟩=>?_) (by rw [hs,hs2]) (by rw [hs2];rfl)))
 obtain ⟨i,j,k,e,hc,q⟩:=q1
 subst e
 cases r1 with
 | cons r rr =>
  cases rr with
  | cons r' rr =>
   cases rr with
   | cons r'' rr =>
    cases rr
    obtain ⟨t,rfl⟩:=r
    obtain ⟨t',rfl⟩:=r'
    obtain ⟨t'',rfl⟩:=r''
    unfold C3 at hc
    rw [Bool.and_eq_true,Bool.and_eq_true] at hc
    exact call_range_3 (of_decide_eq_true hc.1.1) (xO I1 hc.2 q) (.inl (PyProof.noPylong_small (of_decide_eq_true hc.1.2)))
end
def zB:List PV->M (List PV)
 | [.int i,.int j,.int k]=>cw (C3 i j k=true) (M.ok ((List.range (Builtin.Range.rangeSize i j k).toNat).map fun (n:Nat)=>.int (i+n*k)))
 | _=>none
section
variable {E:St->XK} {K:PySem.W.Frag} {fs:ai->M (List PV)}
theorem yv {lo st:Int} {n:Nat} {Hs1:Hp}:jW (yi lo st n) Hs1 ((List.range n).map fun (i:Nat)=>PV.int (lo+(i:Int)*st)) where
 stop:=fun i Hs H s1 s2 hi=>show n<=i by simpa using hi
 go:=fun i Hs H s1 s2 hi=>show i<n by simpa using hi
 uZ:=fun i Hs H x H2 s1 s2 hi y=>by
  obtain ⟨rfl,rfl⟩:=y
  have hi':i<n:=by simpa using hi
  exact ⟨.int (lo+(i:Int)*st),Hs,by simp [hi'],.refl s2,.int _⟩
theorem xW {ps:List PV} {Q:List PV->Prop} {F:EX->Prop} (h:aC (zB ps) Q F):∃ i j k,ps=[.int i,.int j,.int k]/\C3 i j k=true/\Q ((List.range (Builtin.Range.rangeSize i j k).toNat).map fun (n:Nat)=>.int (i+n*k)):=by
 unfold zB at h
 split at h
 ·obtain ⟨hc,h⟩:=aC.cw h
  exact ⟨_,_,_,rfl,hc,h⟩
 ·exact h.elim
theorem aT.three {H:Hp} {p q r:PV} {vs:List V} (h:aT H [p,q,r] vs):∃ v u w,vs=[v,u,w]/\Rep H p v/\Rep H q u/\Rep H r w:=by
 cases h with
 | cons h r=>obtain ⟨u,w,rfl,h2,h3⟩:=r.two;exact ⟨_,_,_,rfl,h,h2,h3⟩
theorem Aj:yD E (Dp (tL E fs)) (lZ zB fs):=by
 intro σ H R q
 refine cX (K:=KI R) KI.g q fun B H₀ Hs H1 env ps v sr rp hp=>?_
 obtain ⟨i,j,k,rfl,hc,hp⟩:=xW hp
 obtain ⟨w,u,z,rfl,rw',ru,rz⟩:=rp.three
 cases rw'
 cases ru
 cases rz
 exact ⟨i,j,k,rfl,hc,hp _ Hs H1 (.refl sr.gr.sub) yv⟩
end
end L2
namespace L2
open PySem PySem.Spec PyProof.Rows
def je:List PV->List PV->List PV->List PV
 | x::xs,y::ys,z::zs=>.tup [x,y,z]::je xs ys zs
 | _,_,_=>[]
theorem qI:∀ {xs ys zs:List PV} {i:Nat} (h1:i<xs.length) (h2:i<ys.length) (h3:i<zs.length),(je xs ys zs)[i]?=some (.tup [xs[i],ys[i],zs[i]])
 | x::xs,y::ys,z::zs,0,_,_,_=>rfl
 | x::xs,y::ys,z::zs,i+1,h1,h2,h3=>by
  show (je xs ys zs)[i]?=_
  exact qI (xs:=xs) (ys:=ys) (zs:=zs) (i:=i) (by simpa using h1) (by simpa using h2) (by simpa using h3)
 | [],_,_,_,h1,_,_=>by simp at h1
 | _::_,[],_,_,_,h2,_=>by simp at h2
 | _::_,_::_,[],_,_,_,h3=>by simp at h3
theorem j9:∀ {xs ys zs:List PV},(je xs ys zs).length=min xs.length (min ys.length zs.length)
 | x::xs,y::ys,z::zs=>by
  show (je xs ys zs).length+1=_
  rw [j9]
  simp only [List.length_cons]
  omega
 | [],_,_=>by simp [je]
 | _::_,[],_=>by simp [je]
 | _::_,_::_,[]=>by simp [je]
def yo:List PV->M (List PV)
 | [p,q,r]=>match cx p,cx q,cx r with
  | some xs,some ys,some zs=>M.ok (je xs ys zs)
  | _,_,_=>none
 | _=>none
section
variable {E:St->XK} {K:PySem.W.Frag} {fs:ai->M (List PV)}
theorem xt {b1 b2 b3:Bool} {a1 a2 a3:Addr} {Hs1:Hp} {xs ys zs:List PV} {vs us ws:List V} (hq1:∀ Hs' H',bp Hs1 Hs'->bp Hs' H'->kl K H' b1 a1 vs) (hr1:aT Hs1 xs vs) (hq2:∀ Hs' H',bp Hs1 Hs'->bp Hs' H'->kl K H' b2 a2 us) (hr2:aT Hs1 ys us)
  (hq3:∀ Hs' H',bp Hs1 Hs'->bp Hs' H'->kl K H' b3 a3 ws) (hr3:aT Hs1 zs ws):jW (Ip K b1 b2 b3 a1 a2 a3) Hs1 (je xs ys zs) where
 stop:=fun i Hs H s1 s2 hi=>by
  rw [j9,hr1.length,hr2.length,hr3.length] at hi
  exact ⟨vs,us,ws,hq1 Hs H s1 s2,hq2 Hs H s1 s2,hq3 Hs H s1 s2,by omega⟩
 go:=fun i Hs H s1 s2 hi=>by
  rw [j9] at hi
  obtain ⟨v,e,_⟩:=hr1.get (List.getElem?_eq_getElem (show i<xs.length by omega))
  obtain ⟨u,e',_⟩:=hr2.get (List.getElem?_eq_getElem (show i<ys.length by omega))
  obtain ⟨w,e'',_⟩:=hr3.get (List.getElem?_eq_getElem (show i<zs.length by omega))
  exact ⟨vs,us,ws,v,u,w,hq1 Hs H s1 s2,hq2 Hs H s1 s2,hq3 Hs H s1 s2,e,e',e''⟩
 uZ:=fun i Hs H x H2 s1 s2 hi y=>by
  rw [j9] at hi
  have l1:i<xs.length:=by omega
  have l2:i<ys.length:=by omega
  have l3:i<zs.length:=by omega
  obtain ⟨v,e,r⟩:=hr1.get (List.getElem?_eq_getElem l1)
  obtain ⟨u,e',r'⟩:=hr2.get (List.getElem?_eq_getElem l2)
  obtain ⟨w,e'',r''⟩:=hr3.get (List.getElem?_eq_getElem l3)
  obtain ⟨pa,v',u',w',hn,rfl,rfl,y1,y2,y3⟩:=y
  have z1:=y1 vs (hq1 Hs H s1 s2)
  have z2:=y2 us (hq2 Hs H s1 s2)
  have z3:=y3 ws (hq3 Hs H s1 s2)
  rw [e] at z1;cases z1
  rw [e'] at z2;cases z2
  rw [e''] at z3;cases z3
  have gr:=bD.new (o:=.tup [v,u,w]) s2 hn
  exact ⟨_,_,qI l1 l2 l3,gr,.tup aE (.cons ((r.mono s1).mono gr.st) (.cons ((r'.mono s1).mono gr.st) (.cons ((r''.mono s1).mono gr.st) .nil)))⟩
theorem xI {ps:List PV} {Q:List PV->Prop} {F:EX->Prop} (h:aC (yo ps) Q F):∃ p q r xs ys zs,ps=[p,q,r]/\cx p=some xs/\cx q=some ys/\cx r=some zs/\Q (je xs ys zs):=by
 unfold yo at h
 split at h
 ·split at h
  ·exact ⟨_,_,_,_,_,_,rfl,by assumption,by assumption,by assumption,h⟩
  ·exact h.elim
 ·exact h.elim
theorem yN:yD E (Dr K (tL E fs)) (lZ yo fs):=by
 intro σ H R q
 refine cX (K:=KI R) KI.g q fun B H₀ Hs H1 env ps v sr rp hp=>?_
 obtain ⟨p,q,r,xs,ys,zs,rfl,e1,e2,e3,hp⟩:=xI hp
 obtain ⟨w,u,z,rfl,rw',ru,rz⟩:=rp.three
 obtain ⟨b1,a1,vs,rfl,hq1,hr1⟩:=jZ (K:=K) sr.gr.sub rw' e1
 obtain ⟨b2,a2,us,rfl,hq2,hr2⟩:=jZ (K:=K) sr.gr.sub ru e2
 obtain ⟨b3,a3,ws,rfl,hq3,hr3⟩:=jZ (K:=K) sr.gr.sub rz e3
 exact ⟨b1,b2,b3,a1,a2,a3,rfl,⟨vs,hq1 Hs H1 (fun _ _ z=>z) sr.gr.sub⟩,⟨us,hq2 Hs H1 (fun _ _ z=>z) sr.gr.sub⟩,⟨ws,hq3 Hs H1 (fun _ _ z=>z) sr.gr.sub⟩,hp _ Hs H1 (.refl sr.gr.sub) (xt hq1 hr1 hq2 hr2 hq3 hr3)⟩
end
end L2
namespace L2
open PySem PySem.Spec PyProof.Rows
def qE (i j k:Nat):PV->ai->M ai
 | .tup [p,q,r],env=>M.ok (((env.set i (some (.sh p))).set j (some (.sh q))).set k (some (.sh r)))
 | _,_=>none
theorem CV {E:XK} {K:PySem.W.Frag} {i j k:Nat}:Df E (kA K 3 (bS (aV i) (bS (aV j) (bS (aV k) ku)))) (qE i j k):=by
 intro B H₀ Hs H σ env p v Q Z sr r h
 cases r with
 | @tup a xs vs ha hx =>
  match xs,hx with
  | [p,q,r],hx =>
   obtain ⟨v,u,w,rfl,rp,rq,rr⟩:=hx.three
   exact ⟨a,[v,u,w],rfl,ji.of (sr.gr.sub _ _ ha),rfl,v,[u,w],rfl,u,[w],rfl,w,[],rfl,rfl,h _ (((sr.set rp).set rq).set rr)⟩
  | [],_=>exact h.elim
  | [_],_=>exact h.elim
  | [_,_],_=>exact h.elim
  | _::_::_::_::_,_=>exact h.elim
 | _=>exact h.elim
theorem vG {i j k:Nat}:qO (qE i j k):=fun p env e h n=>by
 unfold qE at h
 split at h
 ·cases h;exact ka (ka (ka n))
 ·cases h
section
variable {X:Cx} {E:XK} {e:Expr} {es:List Expr} {pos pos' px:Pos} {fs:ai->M (List PV)} {f h:ai->M PV} {i:Nat} {x:Str}
def ownAt (i:Nat) (env:ai):M (List PV):=match env[i]? with
 | some (some (.ow xs))=>M.ok xs
 | _=>none
theorem aC.own {i:Nat} {env:ai} {Q:List PV->Prop} {F:EX->Prop} (h:aC (ownAt i env) Q F):∃ xs,env[i]?=some (some (.ow xs))/\Q xs:=by
 unfold ownAt at h
 split at h
 ·exact ⟨_,by assumption,h⟩
 ·exact h.elim
def F7 (n:Nat) (sem:List PV->M (List PV)):Sp:=fun vs H Q E=>vs.length=n/\∃ Hs ps,bp Hs H/\aT Hs ps vs/\aC (sem ps) (KO Q Hs H) (XW E Hs H)
end
theorem BW {P:Program} {w:World} {K:PySem.W.Frag} {mg:Str->Option Value} {base:Heap} {k:Nat} {f:Addr} {name qual:Str} {params:Arguments} {e:Expr} {pos:Pos} {scope:Scope} {dV kV doc pm cdv ct oc:Value} {an od:Option Addr}
  {osl:Array (Option Value)} {N ps:List Str} {g:ai->M (List PV)} (lk:K.lookup f=some ⟨oc,od,.func (PySem.W.fnOf name qual params [.Return (some e) pos] scope dV kV doc pm an cdv ct),osl⟩) (hcd:PySem.W.codeIn K cdv qual=true) (S:aH N ps scope)
  (hb:∀ (A:Around) (outer:List Env) (s:Shared) (H:Hp) (E:XK),cy k (A.deeper (envOfC qual scope s.heap.objs.size f cdv))->PE ((kK (b_ P w) P w K mg base N qual scope f cdv A outer s H E).out fun _=>E) e (tO (fun _=>E) g)) :
  aY P w K mg base (b_ P w) (k+1) f (PySem.W.fnOf name qual params [.Return (some e) pos] scope dV kV doc pm an cdv ct) ps (F7 ps.length fun ps=>g (i8 N.length ps)):=by
 refine r_ lk hcd S (fun vs H Q E h=>h.1) fun A outer s H vs Q E hr hs=>⟨_,wU (za (hb A outer s H E hr)),?_⟩
 obtain ⟨_,Hs,ps',sm,r,h⟩:=hs
 exact ⟨Hs,H,Hs,_,SR.start sm r,h⟩
theorem KO.gr {Q:VK}:KG (KO Q):=fun Hs H Hs' H' b k g vs p Hs2 H2 g2 r n=>k vs p Hs2 H2 (g.trans g2) r n
section
variable {X:Cx} {E:St->XK} {k n:Nat} {f C:Addr} {fd:FuncData} {ps:List Str} {sem:List PV->M (List PV)} {m:Str} {p pos apos cpos:Pos} {e o:Expr} {es:List Expr} {fs:ai->M (List PV)} {g:ai->M PV}
def w5 (C:Addr) (m:Str) (sem:List PV->M (List PV)) (g:ai->M PV):ai->M (List PV):=fun env=>(g env).bind fun p=>match p with
 | .obj C' fl=>cw (C'=C/\fl.lookup m=none) (sem [.obj C' fl])
 | _=>none
theorem yM {pl:Sem Bool} (he:PE X o (tE E g)) (c:lM X.K C) (hm:Meth X.K C m f) (F:aY X.prog X.w X.K X.mg X.base (b_ X.prog X.w) k f fd ps (F7 1 sem)) (hr:cy k X.A) (hb:Binds X.K fd ps []) (O:eH X E)
  (ht:eval (.Call (.Attribute o m apos) [] [] pos) X.env=(do
   let ov ← eval o X.env
   standAt apos.atName
   let (f,first) ← holding [ov] (getMethod ov m pl)
   callWith pos f first (backTo pos (starEach [] X.env)) (backToKw pos (keywordEach [] X.env))):=by rfl) :
  PE X (.Call (.Attribute o m apos) [] [] pos) (tO E (w5 C m sem g)):=by
 refine (qC he c hm F hr hb .nil O ht).imp fun σ H Q q=>bW (K:=KO Q) KO.gr q fun B H₀ Hs H1 env p v sr rp hp=>?_
 cases rp with
 | @obj a C' dx fl fvs ho hx =>
  obtain ⟨⟨e1,hn⟩,Bu⟩:=aC.cw hp
  subst e1
  exact ⟨a,dx,fvs,rfl,sr.gr.sub _ _ ho,hx.none hn,rfl,Hs,_,sr.gr.sub,.cons (Rep.obj ho hx) .nil,Bu⟩
 | _=>exact hp.elim
def vJ (g:ai->M (List PV)):ai->M PV:=fun env=>(g env).bind fun _=>M.ok .c8
theorem xg {go:ai->M (List PV)} (he:PE X o (tO E go)) (hbase:attributeBase o "clear" X.env (eval o X.env)=eval o X.env:=by rfl) (hline:(apos.endLine==cpos.line)=true:=by rfl) :
  PE X (.Call (.Attribute o "clear" apos) [] [] cpos) (tE E (vJ go)):=by
 refine (EY PySem.F.plainAttrs_list PySem.F.slot_list_clear PySem.F.type_list_clear zc he hbase hline).imp fun σ H Q q=>?_
 obtain ⟨B,H₀,Hs,env,sr,q⟩:=q
 refine ⟨B,H₀,Hs,env,sr,(aC.bind q).imp (fun ps hp vs p Hs' H' g r n=>?_) fun e he=>he⟩
 refine ⟨.inl ⟨rfl,vs,iM.of aE⟩,p,vs,rfl,rfl,aE,?_⟩
 rw [r0]
 exact hp .c8 _ _ (g.trans (bD.new (o:=.lst []) g.sub n)) .c8
end
end L2
namespace L2
open PySem PySem.Spec PyProof.Rows
mutual
def oy:PV->Bool
 | .c8=>true
 | .bl _=>true
 | .int _=>true
 | .str _=>true
 | .tup xs=>l9 xs
 | _=>false
def l9:List PV->Bool
 | []=>true
 | p::r=>oy p&&l9 r
end
mutual
theorem Rep.away {Hs:Hp} {a:Addr} {ws:List V} (ha:Hs a=some (.lst ws)):∀ {p:PV} {v:V},Rep Hs p v->oy p=true->Rep (rem Hs a) p v
 | _,_,.c8,_=>.c8
 | _,_,.bl b,_=>.bl b
 | _,_,.int b,_=>.int b
 | _,_,.str b,_=>.str b
 | _,_,.tup (a:=c) h r,n=>by
  have nc:c≠a:=fun z=>by subst z;rw [ha] at h;cases h
  exact .tup (by unfold rem;rw [if_neg nc];exact h) (r.away ha n)
 | _,_,.lst _ _,n=>by cases n
 | _,_,.jo _ _,n=>by cases n
 | _,_,.obj _ _,n=>by cases n
 | _,_,.xP _,n=>by cases n
 | _,_,.yg _ _ _,n=>by cases n
theorem aT.away {Hs:Hp} {a:Addr} {ws:List V} (ha:Hs a=some (.lst ws)):∀ {p:List PV} {v:List V},aT Hs p v->l9 p=true->aT (rem Hs a) p v
 | _,_,.nil,_=>.nil
 | _,_,.cons h r,n=>by
  have n':=Bool.and_eq_true_iff.mp (show (oy _&&l9 _)=true from n)
  exact .cons (h.away ha n'.1) (r.away ha n'.2)
end
def BA:M PV->M PV
 | some (.ok p)=>cw (oy p=true) (M.ok p)
 | _=>none
theorem aC.BA {r:M PV} {Q:PV->Prop} {E:EX->Prop} (h:aC (L2.BA r) Q E):aC r (fun p=>oy p=true/\Q p) (fun _=>False):=by
 cases r with
 | none=>exact h
 | some r=>cases r with
  | error e=>exact h
  | ok p =>
   obtain ⟨n,h⟩:=aC.cw h
   exact ⟨n,h⟩
theorem bD.back {Hs H Hs' H':Hp} {a:Addr} {ws:List V} (h1:Hs a=none) (hH:H a=some (.lst ws)) (s:bp Hs H) (g:bD (upd Hs a (.lst ws)) H Hs' H'):bD Hs H (rem Hs' a) H'/\Hs' a=some (.lst ws):=by
 have e:Hs' a=some (.lst ws):=g.st _ _ aE
 refine ⟨⟨fun c u q=>?_,g.al,fun c u q=>?_,fun c u q1 q2=>?_⟩,e⟩
 ·have nc:c≠a:=fun z=>by subst z;rw [h1] at q;cases q
  unfold rem;rw [if_neg nc]
  exact g.st c u (by rw [aw nc];exact q)
 ·unfold rem at q
  split at q
  ·cases q
  ·exact g.sub c u q
 ·unfold rem
  by_cases nc:c=a
  ·rw [if_pos nc]
  ·rw [if_neg nc]
   exact g.nw c u (by rw [aw nc];exact q1) q2
theorem SR.lend {B H₀ Hs H:Hp} {σ:St} {env:ai} {i:Nat} {xs:List PV} (r:SR B H₀ Hs H σ env) (e:env[i]?=some (some (.ow xs))):∃ a vs,Hs a=none/\H a=some (.lst vs)/\SR B H₀ (upd Hs a (.lst vs)) H σ (t6 i env):=by
 obtain ⟨a,vs,h1,h2,h3,h4,h5⟩:=r.ow i xs e
 refine ⟨a,vs,h3,h2,?_⟩
 have ne:∀ c u,Hs c=some u->c≠a:=fun c u q z=>by rw [z,h3] at q;cases q
 have hst:bp Hs (upd Hs a (.lst vs)):=fun c u q=>by rw [aw (ne c u q)];exact q
 unfold t6
 rw [e]
 refine ⟨⟨fun c u q=>hst c u (r.gr.st c u q),r.gr.al,fun c u q=>?_,fun c u q1 q2=>?_⟩,by rw [List.length_set];exact r.len,fun j q ej=>?_,fun j ys ej=>?_,fun j k ys zs b nj e1 e2 e3 e4=>?_,fun j ba C fs ej=>?_,fun j k _ _ C D fs gs e1 e2=>?_⟩
 ·by_cases z:c=a
  ·subst z;rw [aE] at q;cases q;exact h2
  ·rw [aw z] at q;exact r.gr.sub c u q
 ·have z:c≠a:=fun z=>by rw [z,h4] at q2;cases q2
  rw [aw z];exact r.gr.nw c u q1 q2
 ·rw [List.getElem?_set] at ej
  by_cases z:i=j
  ·subst z
   rw [if_pos rfl] at ej
   split at ej
   ·cases ej
    exact ⟨.ref a,h1,.lst aE (h5.mono hst)⟩
   ·cases ej
  ·rw [if_neg z] at ej
   obtain ⟨v,q1,q2⟩:=r.sh j q ej
   exact ⟨v,q1,q2.mono hst⟩
 ·rw [List.getElem?_set] at ej
  by_cases z:i=j
  ·subst z
   rw [if_pos rfl] at ej
   split at ej <;> cases ej
  ·rw [if_neg z] at ej
   obtain ⟨b,us,q1,q2,q3,q4,q5⟩:=r.ow j ys ej
   have nb:b≠a:=fun w=>by subst w;exact r.sep i j xs ys b z e ej h1 q1
   exact ⟨b,us,q1,q2,by rw [aw nb];exact q3,q4,q5.mono hst⟩
 ·rw [List.getElem?_set] at e1 e2
  by_cases z:i=j
  ·subst z
   rw [if_pos rfl] at e1
   split at e1 <;> cases e1
  ·by_cases z2:i=k
   ·subst z2
    rw [if_pos rfl] at e2
    split at e2 <;> cases e2
   ·rw [if_neg z] at e1
    rw [if_neg z2] at e2
    exact r.sep j k ys zs b nj e1 e2 e3 e4
 ·rw [List.getElem?_set] at ej
  by_cases z:i=j
  ·subst z
   rw [if_pos rfl] at ej
   split at ej <;> cases ej
  ·rw [if_neg z] at ej
   obtain ⟨dx,us,q1,q2,q3,q4,q5⟩:=r.bd j ba C fs ej
   have nb:ba≠a:=fun w=>by subst w;rw [h2] at q2;cases q2
   exact ⟨dx,us,q1,q2,by rw [aw nb];exact q3,q4,q5.mono hst⟩
 ·rw [List.getElem?_set] at e1 e2
  by_cases z:i=j
  ·subst z
   rw [if_pos rfl] at e1
   split at e1 <;> cases e1
  ·by_cases z2:i=k
   ·subst z2
    rw [if_pos rfl] at e2
    split at e2 <;> cases e2
   ·rw [if_neg z] at e1
    rw [if_neg z2] at e2
    exact r.one j k _ _ C D fs gs e1 e2
def yV (i:Nat) (f:ai->M PV):ai->M PV:=fun env=>(ownAt i env).bind fun _=>BA (f (t6 i env))
section
variable {X:Cx} {E:St->XK} {e:Expr} {f:ai->M PV} {u:ai->M Bool}
theorem CO (i:Nat) (he:PE X e (tE E f)):PE X e (tE E (yV i f)):=he.imp fun σ H Q q=>by
 obtain ⟨B,H₀,Hs,env,sr,q⟩:=q
 obtain ⟨xs,ex,q⟩:=aC.own (aC.bind q)
 obtain ⟨a,vs,h3,h2,sr2⟩:=sr.lend ex
 refine ⟨B,H₀,_,_,sr2,(aC.BA q).imp (fun p hp v Hs' H' g r=>?_) fun _ z=>z.elim⟩
 obtain ⟨g2,ea⟩:=bD.back h3 h2 sr.gr.sub g
 exact hp.2 v _ _ g2 (r.away ea hp.1)
end
end L2
namespace L2
open PySem PySem.Spec PyProof.Rows
def cD:PV->PV->M PV:=vo (fun _ j=>decide (j≠0/\j.natAbs.log2<9000)) fun i j=>i.fdiv j
def fc:PV->PV->M PV:=vo (fun _ j=>decide (j≠0)) fun i j=>i.fmod j
def vA:PV->PV->M PV:=vo (fun i j=>decide (0<=j/\j<=1000000/\i.natAbs<2^64)) fun i j=>i^j.toNat
def Fe:PV->PV->M PV:=yX fun i j=>decide (i<j)
def Ff:PV->PV->M PV:=yX fun i j=>decide (i<=j)
def HG:PV->PV->M PV:=yX fun i j=>decide (j<i)
def Hy:PV->PV->M PV:=yX fun i j=>decide (j<=i)
section
variable {E:St->XK}
theorem bg:mI E (rI AI fun i j=>.int (i.fdiv j)) cD:=C5
theorem bF:mI E (rI (fun _ j=>j≠0) fun i j=>.int (i.fmod j)) fc:=EI
theorem nV:mI E (rI EO fun i j=>.int (i^j.toNat)) vA:=DG
theorem vK:mI E (wz fun i j=>.bl (decide (i<j))) Fe:=rN
theorem vU:mI E (wz fun i j=>.bl (decide (i<=j))) Ff:=rN
theorem A3:mI E (wz fun i j=>.bl (decide (j<i))) HG:=rN
theorem zP:mI E (wz fun i j=>.bl (decide (j<=i))) Hy:=rN
end
def bL (n:Nat) (s:List PV->M PV):List PV->M PV:=fun ps=>cw (ps.length=n) (s ps)
theorem oJ {n:Nat} {s:List PV->M PV} {ps:List PV} (h:bL n s ps≠none):ps.length=n:=by
 unfold bL cw at h
 split at h
 ·assumption
 ·exact (h rfl).elim
section
variable {P:Program} {w:World} {K:PySem.W.Frag} {mg:Str->Option Value} {base:Heap}
theorem A_ {k n:Nat} {f:Addr} {fd:FuncData} {ps:List Str} {s:List PV->M PV} (F:aY P w K mg base (b_ P w) k f fd ps (f7 n s)):aY P w K mg base (b_ P w) k f fd ps (f7 n (bL n s)) where
 len:=fun vs H Q E h=>by
  obtain ⟨h0,Hs,qs,sm,r,h⟩:=h
  exact F.len vs H Q E ⟨h0,Hs,qs,sm,r,(aC.cw h).2⟩
 run:=fun A outer s H args us vs Q E hr e hb rv h=>by
  obtain ⟨h0,Hs,qs,sm,r,h⟩:=h
  exact F.run A outer s H args us vs Q E hr e hb rv ⟨h0,Hs,qs,sm,r,(aC.cw h).2⟩
structure cI (P:Program) (w:World) (K:PySem.W.Frag) (mg:Str->Option Value) (base:Heap) (n:Nat) (x:Str) (m:Nat) (sem:List PV->M PV):Prop where
 ex:∃ (f:Addr) (fd:FuncData) (ps:List Str),mg x=some (.ref f)/\PySem.W.keepIn K (.ref f)=true/\ps.length=m/\Binds K fd ps []/\aY P w K mg base (b_ P w) n f fd ps (f7 m (bL m sem))
theorem aQ.iN {x qual:Str} {st:Stmt} {dv:Value} {f:Addr} {fd:FuncData} {N ps:List Str} {k:Nat} {g:ai->M Out} (F:aQ K x qual st dv f fd) (S:aH N ps (ak st))
  (hb:∀ (cdv:Value) (A:Around) (outer:List Env) (s:Shared) (H:Hp) (E:XK),cy k (A.deeper (envOfC qual (ak st) s.heap.objs.size f cdv))->eH ((kK (b_ P w) P w K mg base N qual (ak st) f cdv A outer s H E).out fun _=>E) (fun _=>E)->nM ((kK (b_ P w) P w K mg base N qual (ak st) f cdv A outer s H E).out fun _=>E) (aJ st) (tS E g)) :
  aY P w K mg base (b_ P w) (k+1) f fd ps (f7 ps.length (bL ps.length (aF N.length g))):=by
 obtain ⟨oc,od,kV,doc,pm,an,cdv,ct,osl,rfl,lk,hcd⟩:=F.ex
 exact A_ (DN lk hcd S fun A outer s H E hr=>hb cdv A outer s H E hr (zu rfl rfl))
end
section
variable {X:Cx} {E:St->XK} {n m k:Nat} {x:Str} {sem:List PV->M PV} {e:Expr} {es:List Expr} {fs:ai->M (List PV)} {p pos:Pos}
theorem cI.call (F:cI X.prog X.w X.K X.mg X.base n x m sem) (hr:cy k X.A) (hn:n<=k) (hg:Gl X x) (O:eH X E) (ha:PA X (e::es) (tL E fs)) (hdb:(x==("__debug__" : Str))=false:=by decide) (he:starEach (e::es) X.env=(false,eval e X.env)::starEach es X.env:=by rfl) (hpl:(backTo pos (starEach es X.env)).any (·.1)=false:=by rfl) :
  PE X (.Call (.Name x p) (e::es) [] pos) (tE E (au (bL m sem) fs)):=by
 obtain ⟨f,fd,ps,h1,h2,h3,h4,h5⟩:=F.ex
 have:=BX (p:=p) (dps:=[]) h5 (hr.mono hn) hg h1 h2 h4 .nil (fun _=>.nil) O (fun ps' hp=>by rw [List.append_nil] at hp;exact oJ hp) ha hdb he hpl
 refine this.imp fun σ H Q q=>?_
 have e:(fun ps=>bL m sem (ps++[]))=bL m sem:=by funext ps;rw [List.append_nil]
 rw [e];exact q
structure pK (P:Program) (w:World) (K:PySem.W.Frag) (mg:Str->Option Value) (base:Heap) (C:Addr) (n:Nat) (x:Str) (m:Nat) (sem:List PV->M PV):Prop where
 ex:∃ (f:Addr) (fd:FuncData) (ps:List Str),lM K C/\Meth K C x f/\Binds K fd ps []/\aY P w K mg base (b_ P w) n f fd ps (f7 m (bL m sem))
theorem pK.call {C:Addr} {o:Expr} {g:ai->M PV} {apos:Pos} {pl:Sem Bool} (F:pK X.prog X.w X.K X.mg X.base C n x m sem) (hr:cy k X.A) (hn:n<=k) (O:eH X E) (ho:PE X o (tE E g)) (ha:PA X (e::es) (tL E fs))
  (hst:starEach (e::es) X.env=(false,eval e X.env)::starEach es X.env:=by rfl) (hpl:(backTo pos (starEach es X.env)).any (·.1)=false:=by rfl)
  (ht:eval (.Call (.Attribute o x apos) (e::es) [] pos) X.env=(do
   let ov ← eval o X.env
   standAt apos.atName
   let (f,first) ← holding [ov] (getMethod ov x pl)
   callWith pos f first (backTo pos (starEach (e::es) X.env)) (backToKw pos (keywordEach [] X.env))):=by rfl) :
  PE X (.Call (.Attribute o x apos) (e::es) [] pos) (tE E (dB C x (bL m sem) g fs)):=by
 obtain ⟨f,fd,ps,h1,h2,h3,h4⟩:=F.ex
 exact BY ho h1 h2 h4 (hr.mono hn) h3 O (fun ps' hp=>oJ hp) ha hst hpl ht
theorem pK.jA {C:Addr} {o:Expr} {g:ai->M PV} {apos:Pos} {pl:Sem Bool} (F:pK X.prog X.w X.K X.mg X.base C n x m sem) (hr:cy k X.A) (hn:n<=k) (O:eH X E) (ho:PE X o (tE E g))
  (ht:eval (.Call (.Attribute o x apos) [] [] pos) X.env=(do
   let ov ← eval o X.env
   standAt apos.atName
   let (f,first) ← holding [ov] (getMethod ov x pl)
   callWith pos f first (backTo pos (starEach [] X.env)) (backToKw pos (keywordEach [] X.env))):=by rfl) :
  PE X (.Call (.Attribute o x apos) [] [] pos) (tE E (dB C x (bL m sem) g az)):=by
 obtain ⟨f,fd,ps,h1,h2,h3,h4⟩:=F.ex
 exact Ap ho h1 h2 h4 (hr.mono hn) h3 O (fun ps' hp=>oJ hp) ht
end
structure FT (P:Program) (w:World) (K:PySem.W.Frag) (mg:Str->Option Value) (base:Heap) (C:Addr) (n:Nat) (x:Str) (m:Nat) (dps:List PV) (sem:Addr->List PV->M (List (Str×PV))):Prop where
 ex:∃ (f:Addr) (fd:FuncData) (ps:List Str) (ds:List Value) (dvs:List V),mg x=some (.ref C)/\Mk K C f/\Binds K fd ps ds/\Vals dvs ds/\(∀ H,aT H dps dvs)/\aY P w K mg base (b_ P w) n f fd ps (Dm m C sem)
def sJ (m:Nat) (sem:Addr->List PV->M (List (Str×PV))):Addr->List PV->M (List (Str×PV)):=fun a ps=>cw (ps.length+1=m) (sem a ps)
theorem xT {P:Program} {w:World} {K:PySem.W.Frag} {mg:Str->Option Value} {base:Heap} {k n:Nat} {f C:Addr} {fd:FuncData} {ps:List Str} {s:Addr->List PV->M (List (Str×PV))} (F:aY P w K mg base (b_ P w) k f fd ps (Dm n C s)):aY P w K mg base (b_ P w) k f fd ps (Dm n C (sJ n s)) where
 len:=fun vs H Q E h=>by
  obtain ⟨h0,a,dx,us,Hs,H1,qs,e1,e2,e3,e4,e5,sm,r,h⟩:=h
  exact F.len vs H Q E ⟨h0,a,dx,us,Hs,H1,qs,e1,e2,e3,e4,e5,sm,r,(aC.cw h).2⟩
 run:=fun A outer s H args us vs Q E hr e hb rv h=>by
  obtain ⟨h0,a,dx,us',Hs,H1,qs,e1,e2,e3,e4,e5,sm,r,h⟩:=h
  exact F.run A outer s H args us vs Q E hr e hb rv ⟨h0,a,dx,us',Hs,H1,qs,e1,e2,e3,e4,e5,sm,r,(aC.cw h).2⟩
theorem aQ.Q2 {P:Program} {w:World} {K:PySem.W.Frag} {mg:Str->Option Value} {base:Heap} {x qual:Str} {st:Stmt} {dv:Value} {f C:Addr} {fd:FuncData} {N ps:List Str} {k:Nat} {g:ai->M Out} (F:aQ K x qual st dv f fd) (S:aH N ps (ak st)) (hN:0<N.length)
  (hb:∀ (cdv:Value) (A:Around) (outer:List Env) (s:Shared) (H:Hp) (E:XK),cy k (A.deeper (envOfC qual (ak st) s.heap.objs.size f cdv))->eH ((kK (b_ P w) P w K mg base N qual (ak st) f cdv A outer s H E).out fun _=>E) (fun _=>E)->nM ((kK (b_ P w) P w K mg base N qual (ak st) f cdv A outer s H E).out fun _=>E) (aJ st) (tS E g)) :
  aY P w K mg base (b_ P w) (k+1) f fd ps (Dm ps.length C (sJ ps.length (xQ N.length g C))):=by
 obtain ⟨oc,od,kV,doc,pm,an,cdv,ct,osl,rfl,lk,hcd⟩:=F.ex
 exact xT <| CN lk hcd S hN fun A outer s H E hr=>hb cdv A outer s H E hr (zu rfl rfl)
section
variable {X:Cx} {E:St->XK} {n m k:Nat} {x:Str} {e:Expr} {es:List Expr} {fs:ai->M (List PV)} {p pos:Pos}
theorem FT.make {C:Addr} {dps:List PV} {sem:Addr->List PV->M (List (Str×PV))} (F:FT X.prog X.w X.K X.mg X.base C n x m dps (sJ m sem)) (hr:cy k X.A) (hn:n+1<=k) (hg:Gl X x) (O:eH X E) (ha:PA X (e::es) (tL E fs)) (hdb:(x==("__debug__" : Str))=false:=by decide) (he:starEach (e::es) X.env=(false,eval e X.env)::starEach es X.env:=by rfl) (hpl:(backTo pos (starEach es X.env)).any (·.1)=false:=by rfl) :
  PE X (.Call (.Name x p) (e::es) [] pos) (tE E (au (mU C (sJ m sem) dps) fs)):=by
 obtain ⟨f,fd,ps,ds,dvs,h1,h2,h4,h5,h6,h7⟩:=F.ex
 refine CD (p:=p) h2 h7 (hr.mono hn) hg h1 h4 h5 h6 O (fun a ps' hp=>?_) ha hdb he hpl
 unfold sJ cw at hp
 split at hp
 ·rename_i h;rwa [List.length_append] at h
 ·exact (hp rfl).elim
theorem By {f:ai->M PV} {e:Expr} (hg:Gl X "list") (hm:X.mg "list" = none) (he:PE X e (tE E f)) (h1:starEach [e] X.env=(false,eval e X.env)::starEach [] X.env:=by rfl) (hpl:(backTo pos (starEach [] X.env)).any (·.1)=false:=by rfl) :
  PE X (.Call (.Name "list" p) [e] [] pos) (tO E (zp f)):=by
 refine (ro gD hg hm kX (fF he kP h1) (by decide) (by decide) h1 hpl).imp fun σ H Q q=>bW (K:=KO Q) KO.gr q fun B H₀ Hs H1 env p v sr rp hp=>?_
 cases hs:cx p with
 | none=>rw [hs] at hp;exact hp.elim
 | some xs =>
  rw [hs] at hp
  obtain ⟨a,us,rfl,hq,hx⟩:=vy (K:=X.K) sr.gr.sub rp hs
  exact ⟨a,us,rfl,hq,fun l n=>hp us l Hs H1 (.refl sr.gr.sub) hx n⟩
end
def vv:Addr->Option Bool:=fun _=>none
theorem vd {P:Addr->Bool->Prop}:∀ C b,vv C=some b->P C b:=fun _ _ h=>by cases h
theorem vr {X:Cx} {E:St->XK} {x:Str} {pos:Pos} (i:Nat) (hN:X.N[i]?=some x:=by rfl) (hv:Bv X.env.scope x:=by first | exact .inl rfl | exact .inr (.inl rfl) | exact .inr (.inr rfl)) (hd:(x==("__debug__" : Str))=false:=by decide) (hcd:(x==("__classdict__" : Str))=false:=by decide):PE X (.Name x pos) (tE E (af i)):=Fp hN hv hd hcd
end L2
namespace L2
open PySem PySem.Spec PyProof.Rows
theorem aj {env:Env} {e:Expr} {es:List Expr} (h:(match e with | .Starred ..=>true | _=>false)=false):starEach (e::es) env=(false,eval e env)::starEach es env:=by
 cases e <;> first | rfl | cases h
def kc:List Expr->Option (List Int)
 | []=>some []
 | .Constant (.int i) _ _::r=>(kc r).map (i::·)
 | _=>none
section
variable {X:Cx} {E:St->XK} {pos:Pos}
theorem wK:∀ {es:List Expr} {ns:List Int},kc es=some ns->PA X es (tL E fun _=>M.ok (ns.map PV.int))
 | [],_,h=>by cases h;exact ao
 | .Constant (.int i) j p::r,ns,h=>by
  obtain ⟨ms,h1,rfl⟩:=Option.map_eq_some_iff.mp (show (kc r).map (i::·)=some ns from h)
  exact aa ar (wK h1) (aj rfl)
theorem w4 {es:List Expr} (ns:List Int) (h:kc es=some ns:=by rfl) (hz:ns.length<=1000:=by decide):PE X (.List es pos) (tE E fun _=>M.ok (.lst (ns.map PV.int))):=by
 refine (oZ (E:=E) (wK h)).imp fun σ H Q q=>?_
 have e:(wb fun _=>M.ok (ns.map PV.int))=fun _=>M.ok (.lst (ns.map PV.int)):=by
  funext env
  show cw _ _=_
  unfold cw
  rw [if_pos (by rw [List.length_map];exact Nat.le_trans hz (by decide))]
 rw [e];exact q
end
end L2
namespace L2
open PySem PySem.Spec PyProof.Rows
section
variable {X:Cx} {E:St->XK} {a b:Expr} {pos:Pos} {f g:ai->M PV}
end
end L2
namespace L2
open PySem PySem.Spec PyProof.Rows
structure Co (K:PySem.W.Frag) (mg:Str->Option Value) (C:Addr) (x:Str):Prop where
 hc:PySem.W.excIn K C dO "ValueError.__new__" = true
 c:i_ K C
 ht:PySem.W.typeIn K (.ref C)=some (.type "type")
 kp:PySem.W.keepIn K (.ref C)=true
 m:mg x=some (.ref C)
structure uI (P:Program) (w:World) (K:PySem.W.Frag) (mg:Str->Option Value) (base:Heap) (C:Addr) (x fl:Str):Prop where
 ex:∃ (f:Addr) (fd:FuncData) (ps:List Str),jF K C "ValueError.__new__" f=true/\PySem.W.isFn K (.ref f)=true/\aY P w K mg base (b_ P w) 1 f fd ps (xf K C fl)/\Binds K fd ps []
 c:i_ K C
 ht:PySem.W.typeIn K (.ref C)=some (.type "type")
 kp:PySem.W.keepIn K (.ref C)=true
 m:mg x=some (.ref C)
section
variable {X:Cx} {E:XK} {e:Expr} {es:List Expr} {pos p cpos:Pos} {x fl:Str} {C:Addr} {k:Nat} {fs:ai->M (List PV)}
theorem Co.raise (F:Co X.K X.mg C x) (O:eH X fun _=>E) (hcalm:X.calm=true) (hg:Gl X x) (ha:PA X (e::es) (tL (fun _=>E) fs))
  (hdb:(x==("__debug__" : Str))=false:=by decide) (he:starEach (e::es) X.env=(false,eval e X.env)::starEach es X.env:=by rfl) (hpl:(backTo cpos (starEach es X.env)).any (·.1)=false:=by rfl) :
  PS X (.Raise (some (.Call (.Name x p) (e::es) [] cpos)) none pos) (tS E (n6 C fs)):=yt O hcalm F.hc F.c F.ht F.kp hg F.m ha hdb he hpl
theorem uI.raise (F:uI X.prog X.w X.K X.mg X.base C x fl) (hr:cy k X.A) (hn:2<=k) (O:eH X fun _=>E) (hcalm:X.calm=true) (hg:Gl X x) (ha:PA X [e] (tL (fun _=>E) fs))
  (hdb:(x==("__debug__" : Str))=false:=by decide) (he:starEach [e] X.env=(false,eval e X.env)::starEach [] X.env:=by rfl) (hpl:(backTo cpos (starEach [] X.env)).any (·.1)=false:=by rfl) :
  PS X (.Raise (some (.Call (.Name x p) [e] [] cpos)) none pos) (tS E (kR C fl fs)):=by
 obtain ⟨f,fd,ps,h1,h2,h3,h4⟩:=F.ex
 exact xR O hcalm h1 h2 F.c F.ht F.kp h3 (hr.mono hn) h4 hg F.m ha hdb he hpl
end
end L2
namespace L2
open PySem PySem.Spec PyProof.Rows
section
variable {X:Cx} {E:St->XK}
end
end L2
namespace L2
open PySem PySem.Spec PyProof.Rows
structure Bz (P:Program) (w:World) (K:PySem.W.Frag) (mg:Str->Option Value) (base:Heap) (C:Addr) (n:Nat) (x:Str) (sem:List PV->M (List PV)):Prop where
 ex:∃ (f:Addr) (fd:FuncData) (ps:List Str),lM K C/\Meth K C x f/\Binds K fd ps []/\aY P w K mg base (b_ P w) n f fd ps (F7 1 sem)
theorem Bz.jA {X:Cx} {E:St->XK} {n k:Nat} {x:Str} {sem:List PV->M (List PV)} {pos apos:Pos} {C:Addr} {o:Expr} {g:ai->M PV} {pl:Sem Bool} (F:Bz X.prog X.w X.K X.mg X.base C n x sem) (hr:cy k X.A) (hn:n<=k) (O:eH X E) (ho:PE X o (tE E g))
  (ht:eval (.Call (.Attribute o x apos) [] [] pos) X.env=(do
   let ov ← eval o X.env
   standAt apos.atName
   let (f,first) ← holding [ov] (getMethod ov x pl)
   callWith pos f first (backTo pos (starEach [] X.env)) (backToKw pos (keywordEach [] X.env))):=by rfl) :
  PE X (.Call (.Attribute o x apos) [] [] pos) (tO E (w5 C x sem g)):=by
 obtain ⟨f,fd,ps,h1,h2,h3,h4⟩:=F.ex
 exact yM ho h1 h2 h4 (hr.mono hn) h3 O ht
theorem aQ.Th {P:Program} {w:World} {K:PySem.W.Frag} {mg:Str->Option Value} {base:Heap} {x qual:Str} {st:Stmt} {dv:Value} {f:Addr} {fd:FuncData} {N ps:List Str} {k:Nat} {e:Expr} {pos:Pos} {g:ai->M (List PV)} (F:aQ K x qual st dv f fd) (S:aH N ps (ak st)) (hbody:aJ st=[.Return (some e) pos])
  (hb:∀ (cdv:Value) (A:Around) (outer:List Env) (s:Shared) (H:Hp) (E:XK),cy k (A.deeper (envOfC qual (ak st) s.heap.objs.size f cdv))->eH ((kK (b_ P w) P w K mg base N qual (ak st) f cdv A outer s H E).out fun _=>E) (fun _=>E)->PE ((kK (b_ P w) P w K mg base N qual (ak st) f cdv A outer s H E).out fun _=>E) e (tO (fun _=>E) g)) :
  aY P w K mg base (b_ P w) (k+1) f fd ps (F7 ps.length fun ps=>g (i8 N.length ps)):=by
 obtain ⟨oc,od,kV,doc,pm,an,cdv,ct,osl,rfl,lk,hcd⟩:=F.ex
 rw [hbody] at lk ⊢
 exact BW lk hcd S fun A outer s H E hr=>hb cdv A outer s H E hr (zu rfl rfl)
end L2
namespace L2
open PySem PySem.Spec PyProof.Rows
end L2
namespace L2
open PySem PySem.Spec PyProof.Rows
section
variable {X:Cx} {E:St->XK} {pos:Pos}
end
end L2
namespace L2
open PySem PySem.Spec PyProof.Rows
section
variable {X:Cx} {tg elt iter c:Expr} {scope:Scope} {cl:List (Str×Addr)} {pos:Pos} {wi:TI} {it:ai->M (List PV)} {g:TG} {set:PV->ai->M ai} {f:ai->M PV} {ts fs:List Str} {js:List Nat}
theorem zi {E:St->XK} {σ:St} {H:Hp} {Q:VK} (hv:yD E wi it) (tgv:∀ E,Df E g set) (so:qO set) (q:tO E (dR it set none f ts.length js) σ H Q):vF wi g (tE EF f) ts js σ H Q:=by
 refine hv σ H _ ?_
 obtain ⟨B,H₀,Hs,env,sr,q⟩:=q
 refine ⟨B,H₀,Hs,env,sr,(aC.bind q).imp (fun xs hp J Hs1 H1 gr ok D hD=>?_) fun e he=>he⟩
 obtain ⟨hz,hp⟩:=aC.cw hp
 have hp:=aC.FU hp
 have sr1:=sr.grow gr
 refine ⟨fun i m σ H=>m=xs.length-i/\i<=xs.length/\Jc set none f Q Hs1 H1 D xs i σ H,⟨xs.length,by simp,Nat.zero_le _,Hs1,_,[],[],sr1.block hD,ff,aE,?_,.nil,Nat.le_refl _,hp.imp (fun zs hz vs p Hs2 H2 g2 r n=>hz vs p Hs2 H2 (gr.trans g2) r n) fun _ z=>z⟩,?_⟩
 ·cases z:Hs1 D with
  | none=>rfl
  | some o=>have:=gr.sub _ _ z;rw [hD] at this;cases this
 rintro i m σ' H2 ⟨rfl,hi,Hs2,env2,ys,vs,sr2,n2,d1,d2,r2,l2,h2⟩
 by_cases hlt:i<xs.length
 ·refine .inr ⟨ok.go i Hs2 H2 sr2.gr.st sr2.gr.sub hlt,Jc set none f Q Hs1 H1 D xs (i+1),fun σ3 H3 j=>⟨xs.length-(i+1),by omega,rfl,hlt,j⟩,fun x H3 y=>?_⟩
  obtain ⟨p,Hs3,ep,g3,r3⟩:=ok.uZ i Hs2 H2 x H3 sr2.gr.st sr2.gr.sub hlt y
  have hd:xs.drop i=p::xs.drop (i+1):=by
   rw [List.drop_eq_getElem_cons hlt]
   rw [List.getElem?_eq_getElem hlt] at ep
   rw [Option.some.inj ep]
  rw [hd] at h2
  have h3:=aC.bind h2
  have sr3:=sr2.grow g3
  refine tgv (fun _ _ _=>False) Hs1 H1 Hs3 H3 σ' env2 p x _ (fun _=>False) sr3 r3 ?_
  cases hset:set p env2 with
  | none=>rw [hset] at h3;exact h3
  | some z=>cases z with
   | error e=>rw [hset] at h3;exact h3
   | ok e3 =>
    rw [hset] at h3
    intro σ4 sr4
    have n4:=so p env2 e3 hset n2
    refine ⟨Hs1,H1,Hs3,e3,sr4,(aC.bind h3).imp (fun y hy v Hs5 H5 g5 r5=>?_) fun _ z=>z.elim⟩
    exact Jc.put (set:=set) (t:=none) (f:=f) hD (sr4.grow g5) n4 (g5.al _ _ (g3.al _ _ d1)) (g5.nw _ _ (g3.nw _ _ d2 d1) (g3.al _ _ d1)) ((r2.mono g3.st).mono g5.st) l2 (by omega) r5 hy
 ·refine .inl ⟨ok.stop i Hs2 H2 sr2.gr.st sr2.gr.sub (by omega),?_⟩
  exact Jc.done (set:=set) (t:=none) (f:=f) (xs:=xs) (Hs1:=Hs1) (H1:=H1) (i:=i) hD ⟨Hs2,env2,ys,vs,sr2,n2,d1,d2,r2,l2,h2⟩ (by omega)
variable {E:XK} {i:Nat} {y:Str} {py spos:Pos}
theorem w6 (hcalm:X.calm=true)
  (hclos:closureFor scope X.env=pure cl) (hk:scope.kind=.function) (nc:iy scope.names=true) (lo:j3 scope.names=true) (fh:ki cl scope.names=true) (ag:f_ X cl) (fr:iB X scope cl fs js)
  (hi:PI X tg iter wi) (hv:yD (fun _=>E) wi it) (hg:∀ C s₀ H₀ ex pins,PG (ui X scope cl (ts++fs) C s₀ H₀ ex pins) tg g) (tgv:∀ E,Df E g set) (so:qO set) (he:∀ C s₀ H₀ ex pins,PE (ui X scope cl (ts++fs) C s₀ H₀ ex pins) elt (tE EF f))
  (hN:X.N.Nodup) (hiy:X.N[i]?=some y) (hy:Loc X.env.scope y)
  (hs:∀ x,foldedSetIterable iter X.env x=pure x:=by intro _;rfl) (hsw:swapsWith (.ListComp elt [⟨tg,iter,[],0⟩] scope pos) (some (.Name y py)) spos.line X.env=pure true:=by rfl)
  (hf:X.fn y=true\/X.env.scope.names.lookup y=some .local:=by first | exact .inl rfl | exact .inr rfl | assumption) :
  PS X (.Assign [.Name y py] (.ListComp elt [⟨tg,iter,[],0⟩] scope pos) spos) (tS E (bA i (ef (dR it set none f ts.length js)))):=by
 refine (B7 hN hiy hy hcalm hclos hk nc lo fh ag fr hi hg he hs hsw hf).imp fun D σ H q=>?_
 refine zi hv tgv so ?_
 obtain ⟨B,H₀,Hs,env,sr,q⟩:=q
 refine ⟨B,H₀,Hs,env,sr,(aC.bind (aC.bind q)).imp (fun ps hp vs p Hs' H' g r n=>?_) fun e he=>he.grow sr.gr⟩
 have gn:=bD.new (o:=.lst vs) g.sub n
 exact hp _ _ _ ((sr.grow (g.trans gn)).set (.lst aE (r.mono gn.st)))
end
end L2
namespace L2
open PySem PySem.Spec PyProof.Rows
def fO (a b c:Int):Bool:=Builtin.Range.rangeFitsLong a&&Builtin.Range.rangeFitsLong b&&Builtin.Range.rangeFitsLong c&&Builtin.Range.rangeFitsLong (-c)&&Builtin.Range.rangeFitsLong (a-c)&&Builtin.Range.rangeFitsLong (Builtin.Range.rangeSize a b c)
abbrev h_ (a b c:Int):Obj:={ cls:=.type "range_iterator", data:=.fields #[rawInt (a+(Builtin.Range.rangeSize a b c-1)*c),rawInt (Builtin.Range.rangeSize a b c),rawInt (-c)] }
theorem jC (r:Addr) (a b c:Int) (t u v:Tok):Meets (Builtin.«range.__reversed__» { pos:=[Value.ref r] }) fun A R s =>
  IsRange s.heap r a b c t u v/\fO a b c=true/\R (.ok (.ret (.ref s.heap.objs.size))) { s with heap:=s.heap.push (h_ a b c) }:=by
 rintro prog w A R s ⟨hr,hs,h⟩
 unfold Builtin.«range.__reversed__»
 refine wpAny_bind (wpAny_of_eq (a:=Value.ref r) rfl ?_)
 refine wpAny_bind ?_
 unfold Builtin.Range.rangeFields
 refine wpAny_bind (wpAny_field hr rfl (x:=Value.int a t) rfl ?_)
 refine wpAny_bind (wpAny_of_eq (a:=some a) rfl ?_)
 refine wpAny_bind (wpAny_field hr rfl (x:=Value.int b u) rfl ?_)
 refine wpAny_bind (wpAny_of_eq (a:=some b) rfl ?_)
 refine wpAny_bind (wpAny_field hr rfl (x:=Value.int c v) rfl ?_)
 refine wpAny_bind (wpAny_of_eq (a:=some c) rfl ?_)
 refine wpAny_pure ?_
 unfold fO at hs
 simp only [hs,Bool.not_true,Bool.false_eq_true,if_false,if_true]
 refine wpAny_bind ?_
 unfold newFields
 refine wpAny_newObj_type ?_
 exact wpAny_pure h
theorem oH {prog:Program} {w:World} {A:Around} {E:Value->Shared->Prop} {s:Shared} {r:Addr} {a b c:Int} {t u v:Tok} {Q:Value->Shared->Prop} (hr:IsRange s.heap r a b c t u v) (hs:fO a b c=true)
  (h:Q (.ref s.heap.objs.size) { s with heap:=s.heap.push (h_ a b c) }):wpAny (model prog w) A (call (.builtin "range.__reversed__") [.ref r]) Q E s :=
 call_meets F.slot_range_reversed ⟨_,hr,rfl⟩ F.entry_range_reversed (F.args_range_reversed_1 _) (jC r a b c t u v) ⟨hr,hs,h⟩
theorem kr {prog:Program} {w:World} {A:Around} {E:Value->Shared->Prop} {s:Shared} {r:Addr} {a b c:Int} {t u v:Tok} {Q:Value->Shared->Prop} (hr:IsRange s.heap r a b c t u v) (hs:fO a b c=true)
  (h:Q (.ref s.heap.objs.size) { s with heap:=s.heap.push (h_ a b c) }):codeAny (model prog w) A (Code.call (Value.builtin "reversed.__new__") { pos:=[Value.type "reversed", Value.ref r] }) (wants Q E) s:=by
 refine codeAny_of_tree ?_
 show wpAny (model prog w) _ (do let _ ← checkBuiltinCall "reversed.__new__" { pos:=[Value.type "reversed", Value.ref r] };again (Code.builtin "reversed.__new__" { pos:=[Value.type "reversed", Value.ref r] })) _ _ s
 refine wpAny_bind (wpAny_of_eq (F.newCall_reversed_1 _) ?_)
 refine wpAny_pure ⟨plainId_quiet F.plain_reversed_new _,?_⟩
 refine codeAny_builtin F.entry_reversed_new ?_
 rw [Around.under_plainId F.plain_reversed_new]
 unfold Builtin.«reversed.__new__»
 refine wpAny_bind (wpAny_of_eq (newClass_reversed _) ?_)
 refine wpAny_bind (wpAny_of_eq (a:=()) rfl ?_)
 refine wpAny_bind (wpAny_of_eq (a:=()) rfl ?_)
 refine wpAny_bind (wpAny_specialOf (T := "range") ⟨_,hr,rfl⟩ F.slot_range_reversed.lookup ?_)
 refine wpAny_bind (wpAny_of_eq (F.slot_range_reversed.bind _) ?_)
 refine wpAny_bind (wpAny_rule ?_)
 refine wpAny_bind ?_
 refine oH hr hs ?_
 exact wpAny_pure h
theorem kn {prog:Program} {w:World} {A:Around} {E:Value->Shared->Prop} {s:Shared} {r:Addr} {a b c:Int} {t u v:Tok} {Q:Value->Shared->Prop} (hr:IsRange s.heap r a b c t u v) (hs:fO a b c=true)
  (h:Q (.ref s.heap.objs.size) { s with heap:=s.heap.push (h_ a b c) }):wpAny (model prog w) A (call (.type "reversed") [.ref r]) Q E s :=
 callType_other (U := "range_iterator") (Q₁:=fun o s'=>o=.ref s.heap.objs.size/\s'={ s with heap:=s.heap.push (h_ a b c) }) (by decide +kernel) F.create_reversed ⟨_,_,F.mro_reversed⟩ F.made_reversed rfl (F.typeCall_reversed_1 _)
  (kr hr hs ⟨rfl,rfl⟩) fun obj s1 e=>by
   obtain ⟨rfl,rfl⟩:=e
   exact ⟨⟨_,Heap.get?_push_size _ rfl,rfl⟩,h⟩
section
variable {X:Cx} {tg:Expr} {a:Expr} {ta:TA} {p pos:Pos}
def An (ta:TA):TE:=fun σ H Q=>ta σ H fun vs H1=>∃ j:Int,vs=[.int j]/\∀ p,H1 p=none->Q (.ref p) (upd H1 p (.kb 0 j))
theorem C0 (hg:Gl X "range") (hm:X.mg "range" = none) (ha:PA X [a] ta) (hs:starEach [a] X.env=[(false,eval a X.env)]:=by rfl):PE X (.Call (.Name "range" p) [a] [] pos) (An ta):=by
 intro pins s σ H Q I h
 refine Call_ (gX I hg hm boot_range (PyProof.Rows.callWith_type1 (cF (ha pos pins s σ H _ I h) fun us s1 ⟨vs,H1,I1,r1,q1⟩=>?_) hs rfl))
 obtain ⟨j,e,q⟩:=q1
 subst e
 cases r1 with
 | cons r rr =>
  cases rr
  obtain ⟨t,rfl⟩:=r
  refine call_range_1 ?_
  refine ⟨.ref s1.heap.objs.size,_,I1.laid (a:=s1.heap.objs.size) (o:=.kb 0 j) (fun b ob q=>Heap.get?_push_of_some _ q) (Nat.le_refl _) ?_,rfl,q _ (I1.bu.fresh (Nat.le_refl _))⟩
  exact ⟨_,_,_,Heap.get?_push_size _ rfl⟩
def FP (ta:TA):TI:=fun σ H R=>ta σ H fun vs H1=>∃ (r:Addr) (lo hi:Int),vs=[.ref r]/\H1 r=some (.kb lo hi)/\fO lo hi 1=true/\R (yi (lo+(Builtin.Range.rangeSize lo hi 1-1)*1) (-1) (Builtin.Range.rangeSize lo hi 1).toNat) H1
theorem FA (hg:Gl X "reversed") (hm:X.mg "reversed" = none) (ha:PA X [a] ta) (hs:starEach [a] X.env=[(false,eval a X.env)]:=by rfl):PI X tg (.Call (.Name "reversed" p) [a] [] pos) (FP ta):=by
 intro pins s σ H R I h
 refine Call_ (gX I hg hm boot_reversed (PyProof.Rows.callWith_type1 (cF (ha pos pins s σ H _ I h) fun us s1 ⟨vs,H1,I1,r1,q1⟩=>?_) hs rfl))
 obtain ⟨r,lo,hi,e,hr,hc,q⟩:=q1
 subst e
 cases r1 with
 | cons rr0 rr =>
  cases rr
  cases (show _=Value.ref r from rr0)
  obtain ⟨t,u,v,ho⟩:=I1.bu r _ hr
  refine kn ho hc ?_
  have st:IsRangeIter (s1.heap.push (h_ lo hi 1)) s1.heap.objs.size (lo+(Builtin.Range.rangeSize lo hi 1-1)*1) (Builtin.Range.rangeSize lo hi 1) (-1):=Heap.get?_push_size _ rfl
  refine wpAny_pyIter_rangeiter (s:={ s1 with heap:=s1.heap.push (h_ lo hi 1) }) st ?_
  have I2:Inv X pins σ H1 { s1 with heap:=s1.heap.push (h_ lo hi 1) }:=I1.kept (t':=s1.toks) fun b o e=>Heap.get?_push_of_some _ e
  refine ⟨s1.heap.objs.size,[s1.heap.objs.size],_,_,H1,rfl,I2,mS _ (lo+(Builtin.Range.rangeSize lo hi 1-1)*1) (-1) (Builtin.Range.rangeSize lo hi 1).toNat,?_,fun b hb=>?_,q⟩
  ·have e2:(((Builtin.Range.rangeSize lo hi 1).toNat:Nat):Int)-((0:Nat):Int)=Builtin.Range.rangeSize lo hi 1:=by have:=lB lo hi 1;omega
   show IsRangeIter _ _ (lo+(Builtin.Range.rangeSize lo hi 1-1)*1+((0:Nat):Int)*-1) ((((Builtin.Range.rangeSize lo hi 1).toNat:Nat):Int)-((0:Nat):Int)) (-1)
   rw [e2,show lo+(Builtin.Range.rangeSize lo hi 1-1)*1+((0:Nat):Int)*-1=lo+(Builtin.Range.rangeSize lo hi 1-1)*1 by omega]
   exact st
  ·have e:b=s1.heap.objs.size:=by simpa using hb
   subst e
   exact I1.pS (Nat.le_refl _) (I1.bu.fresh (Nat.le_refl _))
end
def Gi:PV->M (List PV)
 | .int n=>cw (0<=n/\n<2^30) (M.ok ((List.range n.toNat).map fun (i:Nat)=>.int (n-1-(i:Int))))
 | _=>none
def ya:List PV->M (List PV)
 | [p]=>Gi p
 | _=>none
theorem z_ {n:Int} (h:0<=n):Builtin.Range.rangeSize 0 n 1=n:=by
 unfold Builtin.Range.rangeSize
 rw [if_pos (by decide)]
 split
 ·rw [Int.ediv_one];omega
 ·omega
theorem xY {n:Int} (h:0<=n) (h2:n<2^30):fO 0 n 1=true:=by
 have f:∀ x:Int,-(2^40)<x->x<2^40->Builtin.Range.rangeFitsLong x=true:=fun x h1 h2=>by
  unfold Builtin.Range.rangeFitsLong
  simp only [Bool.and_eq_true,decide_eq_true_eq]
  omega
 unfold fO
 rw [z_ h,f 0 (by decide) (by decide),f n (by omega) (by omega),f 1 (by decide) (by decide),f (-1) (by decide) (by decide),f (0-1) (by decide) (by decide)]
 rfl
section
variable {E:St->XK} {X:Cx} {fs:ai->M (List PV)} {a tg:Expr} {p p2 pos pos2:Pos}
theorem xC {n:Int} {k:Nat} {Hs1:Hp}:jW (yi (n-1) (-1) k) Hs1 ((List.range k).map fun (i:Nat)=>PV.int (n-1-(i:Int))) where
 stop:=fun i Hs H s1 s2 hi=>show k<=i by simpa using hi
 go:=fun i Hs H s1 s2 hi=>show i<k by simpa using hi
 uZ:=fun i Hs H x H2 s1 s2 hi y=>by
  obtain ⟨rfl,rfl⟩:=y
  have hi':i<k:=by simpa using hi
  exact ⟨.int (n-1-(i:Int)),Hs,by simp [hi'],.refl s2,by rw [show n-1+((i:Nat):Int)*-1=n-1-(i:Int) by omega];exact .int _⟩
theorem C6 {ta:TA} (hg:Gl X "reversed") (hm:X.mg "reversed" = none) (hg2:Gl X "range") (hm2:X.mg "range" = none) (ha:PA X [a] ta) (hs2:starEach [a] X.env=[(false,eval a X.env)]:=by rfl)
  (hs:starEach [.Call (.Name "range" p2) [a] [] pos2] X.env=[(false,eval (.Call (.Name "range" p2) [a] [] pos2) X.env)]:=by rfl):PI X tg (.Call (.Name "reversed" p) [.Call (.Name "range" p2) [a] [] pos2] [] pos) (FP (Bn (An ta) C1)) :=
 FA hg hm (fF (C0 hg2 hm2 ha hs2) kP hs) hs
theorem yx {ps:List PV} {Q:List PV->Prop} {F:EX->Prop} (h:aC (ya ps) Q F):∃ n,ps=[.int n]/\0<=n/\n<2^30/\Q ((List.range n.toNat).map fun (i:Nat)=>.int (n-1-(i:Int))):=by
 match ps with
 | []=>exact h.elim
 | _::_::_=>exact h.elim
 | [p] =>
  cases p with
  | int n =>
   obtain ⟨hz,h⟩:=aC.cw (show aC (cw (0<=n/\n<2^30) _) Q F from h)
   exact ⟨n,rfl,hz.1,hz.2,h⟩
  | _=>exact h.elim
theorem C8:yD E (FP (Bn (An (tL E fs)) C1)) (lZ ya fs):=by
 intro σ H R q
 refine cX (K:=KI R) KI.g q fun B H₀ Hs H1 env ps v sr rp hp=>?_
 rw [← aP (ya ps)] at hp
 obtain ⟨n,rfl,h1,h2,hp⟩:=yx (by rwa [aP] at hp)
 obtain ⟨w,rfl,rw'⟩:=rp.one
 cases rw'
 refine ⟨n,rfl,fun p hn=>⟨p,0,n,rfl,aE,xY h1 h2,?_⟩⟩
 rw [z_ h1,show (0:Int)+(n-1)*1=n-1 by omega]
 exact hp _ (upd Hs p (.kb 0 n)) _ (bD.new sr.gr.sub hn) xC
end
end L2
namespace L2
open PySem PySem.Spec PyProof.Rows
open PySem.SeqAt (shaped noMix noMixAll)
section
variable {α β:Type}
theorem M.aP (a:α) (f:α->M β):M.bind (M.ok a) f=f a:=Eq.trans rfl rfl
theorem M.yO (e:EX) (f:α->M β):M.bind (some (Except.error e)) f=some (.error e):=Eq.trans rfl rfl
theorem M.bind_none (f:α->M β):M.bind none f=none:=Eq.trans rfl rfl
theorem M.bind_some (a:α) (f:α->M β):M.bind (some (Except.ok a)) f=f a:=Eq.trans rfl rfl
theorem M.bind_assoc {γ:Type} (x:M α) (f:α->M β) (g:β->M γ):M.bind (M.bind x f) g=M.bind x fun a=>M.bind (f a) g:=by
 cases x with
 | none=>rfl
 | some x=>cases x <;> rfl
theorem aA {c:Prop} [Decidable c] {x:M α} (h:c):cw c x=x:=if_pos h
theorem DZ (a:α):FU (M.ok a)=M.ok a:=Eq.trans rfl rfl
end
theorem xy (x:PV):e6 (some x)=M.ok x:=Eq.trans rfl rfl
theorem uB (g:ai->M Out) (env:ai):Bt g (.nx env)=g env:=Eq.trans rfl rfl
theorem uX (g:ai->M Out) (p:PV):Bt g (.rt p)=M.ok (.rt p):=Eq.trans rfl rfl
theorem Cn (b:Bool):va (.bl b)=M.ok b:=Eq.trans rfl rfl
theorem CS (p:PV):Em (.rt p)=M.ok p:=Eq.trans rfl rfl
theorem BN (e:ai):Em (.nx e)=M.ok .c8:=Eq.trans rfl rfl
def tI (xs:List Int):PV:=.tup (xs.map PV.int)
def lI (xs:List Int):PV:=.lst (xs.map PV.int)
theorem Cz (xs:List Int):cx (tI xs)=some (xs.map PV.int):=Eq.trans rfl rfl
theorem Ca (xs:List Int):cx (lI xs)=some (xs.map PV.int):=Eq.trans rfl rfl
theorem Be (xs:List PV):cx (.tup xs)=some xs:=Eq.trans rfl rfl
theorem zw (xs:List PV):cx (.lst xs)=some xs:=Eq.trans rfl rfl
theorem zJ (xs:List PV):cx (.jo xs)=some xs:=Eq.trans rfl rfl
theorem Cq (xs:List Int):uF (tI xs)=M.ok (.int xs.length):=by simp [uF,tI,cx,e6]
theorem Bw (xs:List Int):uF (lI xs)=M.ok (.int xs.length):=by simp [uF,lI,cx,e6]
theorem zV (xs:List PV):uF (.tup xs)=M.ok (.int xs.length):=Eq.trans rfl rfl
theorem Bj (xs:List PV):uF (.lst xs)=M.ok (.int xs.length):=Eq.trans rfl rfl
theorem AB (xs:List PV):uF (.jo xs)=M.ok (.int xs.length):=Eq.trans rfl rfl
theorem Ha (xs:List Int):Gr [.lst (xs.map PV.int)]=M.ok (.int xs.sum):=by simp [Gr,G0,ri,e6]
theorem t7 (xs:List Bool):vP [.lst (xs.map PV.bl)]=M.ok (.bl (xs.all id)):=by simp [vP,all1,tQ,e6]
theorem iW {α:Type} {f:ai->M PV} {inj h:α->PV} {rest:ai} {x0:Option SV} (xs:List α) (H:∀ a∈xs,f (some (.sh (inj a))::rest)=M.ok (h a)):cO (da 0) none f (xs.map inj) (x0::rest)=M.ok (xs.map h):=by
 induction xs generalizing x0 with
 | nil=>rfl
 | cons a r ih =>
  rw [List.map_cons,cO]
  show M.bind (M.ok ((x0::rest).set 0 (some (.sh (inj a))))) _=_
  rw [M.aP,List.set_cons_zero]
  show M.bind (f _) _=_
  rw [H a List.mem_cons_self,M.aP,ih fun b hb=>H b (List.mem_cons_of_mem _ hb)]
  rfl
theorem mq {α:Type} {f:ai->M PV} {p q h:α->PV} {rest:ai} {x0 x1:Option SV} (xs:List α) (H:∀ a∈xs,f (some (.sh (p a))::some (.sh (q a))::rest)=M.ok (h a)):cO (cT 0 1) none f (xs.map fun a=>.tup [p a,q a]) (x0::x1::rest)=M.ok (xs.map h):=by
 induction xs generalizing x0 x1 with
 | nil=>rfl
 | cons a r ih =>
  rw [List.map_cons,cO]
  show M.bind (M.ok (((x0::x1::rest).set 0 (some (.sh (p a)))).set 1 (some (.sh (q a))))) _=_
  rw [M.aP,List.set_cons_zero,List.set_cons_succ,List.set_cons_zero]
  show M.bind (f _) _=_
  rw [H a List.mem_cons_self,M.aP,ih fun b hb=>H b (List.mem_cons_of_mem _ hb)]
  rfl
theorem Fn {α:Type} {f:ai->M PV} {p q s h:α->PV} {rest:ai} {x0 x1 x2:Option SV} (xs:List α) (H:∀ a∈xs,f (some (.sh (p a))::some (.sh (q a))::some (.sh (s a))::rest)=M.ok (h a)):cO (qE 0 1 2) none f (xs.map fun a=>.tup [p a,q a,s a]) (x0::x1::x2::rest)=M.ok (xs.map h):=by
 induction xs generalizing x0 x1 x2 with
 | nil=>rfl
 | cons a r ih =>
  rw [List.map_cons,cO]
  show M.bind (M.ok ((((x0::x1::x2::rest).set 0 (some (.sh (p a)))).set 1 (some (.sh (q a)))).set 2 (some (.sh (s a))))) _=_
  rw [M.aP,List.set_cons_zero,List.set_cons_succ,List.set_cons_zero,List.set_cons_succ,List.set_cons_succ,List.set_cons_zero]
  show M.bind (f _) _=_
  rw [H a List.mem_cons_self,M.aP,ih fun b hb=>H b (List.mem_cons_of_mem _ hb)]
  rfl
theorem gW {α β:Type} {f:α->PV} {g:β->PV} {p q:PV} (xs:List α) (ys:List β) (hp:cx p=some (xs.map f)) (hq:cx q=some (ys.map g)):zip2 [p,q]=M.ok ((xs.zip ys).map fun z=>.tup [f z.1,g z.2]):=by
 simp only [zip2,hp,hq]
 congr 2
 rw [List.zipWith_map,List.zip_eq_zipWith,List.map_zipWith]
theorem zr {α β γ:Type} {f:α->PV} {g:β->PV} {h:γ->PV} {p q r:PV} (xs:List α) (ys:List β) (zs:List γ) (hp:cx p=some (xs.map f)) (hq:cx q=some (ys.map g)) (hr:cx r=some (zs.map h)):yo [p,q,r]=M.ok ((xs.zip (ys.zip zs)).map fun z=>.tup [f z.1,g z.2.1,h z.2.2]):=by
 simp only [yo,hp,hq,hr]
 congr 2
 clear hp hq hr
 induction xs generalizing ys zs with
 | nil=>cases ys <;> cases zs <;> rfl
 | cons a r ih =>
  cases ys with
  | nil=>rfl
  | cons b s =>
   cases zs with
   | nil=>rfl
   | cons c t=>simp only [List.map_cons,je,List.zip_cons_cons,ih]
theorem qN {α:Type} {f:α->PV} (xs:List α):jz (xs.map f)=(xs.zipIdx).map fun z=>.tup [.int (z.2:Int),f z.1]:=by
 unfold jz
 rw [List.mapIdx_eq_zipIdx_map,List.zipIdx_map,List.map_map]
 rfl
theorem lK {set:PV->ai->M ai} {body:ai->M Out} {α:Type} {inj:α->PV} (J:List α->ai->Prop)
  (H:∀ a r env,J (a::r) env->∃ e' env',set (inj a) env=M.ok e'/\body e'=M.ok (.nx env')/\J r env'):∀ (xs:List α) (env:ai),J xs env->∃ env',iK set body (xs.map inj) env=M.ok (.nx env')/\J [] env'
 | [],env,h=>⟨env,rfl,h⟩
 | a::r,env,h=>by
  obtain ⟨e',env',h1,h2,h3⟩:=H a r env h
  obtain ⟨env'',h4,h5⟩:=lK J H r env' h3
  refine ⟨env'',?_,h5⟩
  rw [List.map_cons,iK,h1,M.aP,h2,M.aP]
  exact h4
theorem q_ {u:ai->M Bool} {b:ai->M Out} (J:ai->Prop) (m:ai->Nat)
  (H:∀ env,J env->(u env=M.ok false)\/(u env=M.ok true/\∃ env',b env=M.ok (.nx env')/\J env'/\m env'<m env)) (env:ai) (h:J env):∃ env',mL u b env=M.ok (.nx env')/\J env'/\u env'=M.ok false:=by
 have key:∀ (n:Nat) (env:ai),J env->m env<n->∃ env',cL u b n env=M.ok (.nx env')/\J env'/\u env'=M.ok false:=by
  intro n
  induction n with
  | zero=>intro env _ hn;omega
  | succ n ih =>
   intro env h hn
   rcases H env h with hu | ⟨hu,env',hb,hj,hm⟩
   ·exact ⟨env,by rw [cL,hu,M.aP];rfl,h,hu⟩
   ·obtain ⟨env'',h1,h2,h3⟩:=ih env' hj (by omega)
    exact ⟨env'',by rw [cL,hu,M.aP,if_pos rfl,hb,M.aP];exact h1,h2,h3⟩
 obtain ⟨env',h1,h2,h3⟩:=key (m env+1) env h (Nat.lt_succ_self _)
 refine ⟨env',?_,h2,h3⟩
 rw [xK (n:=m env+1) (by rw [h1];exact fun z=>nomatch z),h1]
theorem log2_small {i:Int} {k:Nat} (h:i.natAbs<2^k) (hk:k<=9000):i.natAbs.log2<67108864:=by
 by_cases z:i.natAbs=0
 ·rw [z];decide
 ·have:=(Nat.log2_lt z).mpr h
  omega
theorem bI {i j:Int} {k l:Nat} (hi:i.natAbs<2^k) (hj:j.natAbs<2^l) (hk:k<=9000:=by decide) (hl:l<=9000:=by decide):c_ (.int i) (.int j)=M.ok (.int (i*j)):=by
 rw [c_,aA ⟨log2_small hi hk,log2_small hj hl⟩]
theorem mJ {i j:Int} (h0:j≠0) (h:j.natAbs<2^9000):cD (.int i) (.int j)=M.ok (.int (i.fdiv j)):=by
 show cw _ _=_
 refine aA (decide_eq_true ⟨h0,(Nat.log2_lt (by omega)).mpr h⟩)
theorem zq {i j:Int} (h0:j≠0):fc (.int i) (.int j)=M.ok (.int (i.fmod j)):=by
 show cw _ _=_
 exact aA (decide_eq_true h0)
theorem a0 {i j:Int} (h0:0<j) (h:j<2^64):cD (.int i) (.int j)=M.ok (.int (i/j)):=by
 rw [mJ (by omega) (Nat.lt_of_lt_of_le (show j.natAbs<2^64 by omega) (Nat.pow_le_pow_right (by decide) (by decide))),Int.fdiv_eq_ediv_of_nonneg _ (by omega)]
theorem bf {i j:Int} (h0:0<j):fc (.int i) (.int j)=M.ok (.int (i%j)):=by
 rw [zq (by omega),Int.fmod_eq_emod_of_nonneg _ (by omega)]
theorem cv {xs:List PV} {p:PV} {j:Nat} {x:PV} (hs:cx p=some xs) (h:xs[j]?=some x):aX p (.int (j:Int))=M.ok x:=by
 cases p with
 | tup ys=>cases hs;simp only [aX,sO h,e6]
 | lst ys=>cases hs;simp only [aX,sO h,e6]
 | jo ys=>cases hs;simp only [aX,sO h,e6]
 | _=>cases hs
section
variable {b:String->Bool} {ob oe:Addr->Option Bool}
theorem FH (xs:List Int):Bo b ob oe (tI xs)=M.ok (.bl (b "tuple")):=Eq.trans rfl rfl
theorem En (xs:List Int):Bo b ob oe (lI xs)=M.ok (.bl (b "list")):=Eq.trans rfl rfl
theorem B9 (xs:List PV):Bo b ob oe (.tup xs)=M.ok (.bl (b "tuple")):=Eq.trans rfl rfl
theorem BQ (xs:List PV):Bo b ob oe (.lst xs)=M.ok (.bl (b "list")):=Eq.trans rfl rfl
theorem Cw (i:Int):Bo b ob oe (.int i)=M.ok (.bl (b "int")):=Eq.trans rfl rfl
theorem Fs (i:Bool):Bo b ob oe (.bl i)=M.ok (.bl (b "bool")):=Eq.trans rfl rfl
theorem CW:Bo b ob oe .c8=M.ok (.bl (b "NoneType")):=Eq.trans rfl rfl
theorem BR (x:Str):Bo b ob oe (.str x)=M.ok (.bl (b "str")):=Eq.trans rfl rfl
theorem BZ:Bo b ob oe .emp=M.ok (.bl (b "dict")):=Eq.trans rfl rfl
end
theorem CL (i j:Int):tD (.int i) (.int j)=M.ok (.bl (!decide (i=j))):=by
 simp only [tD,lX,dat,Bi,shaped,PyData.canLay0,PyData.depth,noMix]
 rw [aA ⟨rfl,rfl,trivial⟩]
 unfold same
 rw [M.aP];congr
theorem BL (i j:Int):n5 (.int i) (.int j)=M.ok (.bl (decide (i=j))):=by
 simp only [n5,lX,dat,Bi,shaped,PyData.canLay0,PyData.depth,noMix]
 rw [aA ⟨rfl,rfl,trivial⟩]
 unfold same
 rw [M.aP];congr
theorem Ej (i j:Bool):tD (.bl i) (.bl j)=M.ok (.bl (!decide (i=j))):=by
 simp only [tD,lX,dat,Bi,shaped,PyData.canLay0,PyData.depth,noMix]
 rw [aA ⟨rfl,rfl,trivial⟩]
 unfold same
 rw [M.aP];congr
theorem D4 (i j:Bool):n5 (.bl i) (.bl j)=M.ok (.bl (decide (i=j))):=by
 simp only [n5,lX,dat,Bi,shaped,PyData.canLay0,PyData.depth,noMix]
 rw [aA ⟨rfl,rfl,trivial⟩]
 unfold same
 rw [M.aP];congr
theorem iL (xs:List Int):mM (xs.map PV.int)=some (xs.map PyData.int):=by
 induction xs with
 | nil=>rfl
 | cons a r ih=>simp [mM,dat,ih]
theorem fY (xs:List Int):PyData.canLayAll0 (xs.map PyData.int)=true:=by
 induction xs with
 | nil=>rfl
 | cons a r ih=>simp [PyData.canLayAll0,PyData.canLay0,ih]
theorem gY (xs:List Int):PyData.depthAll (xs.map PyData.int)=0:=by
 induction xs with
 | nil=>rfl
 | cons a r ih=>simp [PyData.depthAll,PyData.depth,ih]
theorem noMix_ints:∀ (xs ys:List Int),noMixAll (xs.map PyData.int) (ys.map PyData.int)=true
 | [],[]=>by simp [noMixAll]
 | [],_::_=>by simp [noMixAll]
 | _::_,[]=>by simp [noMixAll]
 | a::r,b::s=>by simp [noMixAll,noMix,noMix_ints r s]
theorem same_ints:∀ (xs ys:List Int),sameAll (xs.map PyData.int) (ys.map PyData.int)=decide (xs=ys)
 | [],[]=>by simp [sameAll]
 | [],_::_=>by simp [sameAll]
 | _::_,[]=>by simp [sameAll]
 | a::r,b::s=>by
  simp only [List.map_cons,sameAll,same_ints r s]
  unfold same
  rw [Bool.eq_iff_iff];simp
theorem rn (xs:List (List Int)):mM (xs.map tI)=some (xs.map fun r=>.tuple (r.map PyData.int)):=by
 induction xs with
 | nil=>rfl
 | cons a r ih=>simp [mM,dat,tI,iL] at ih ⊢;simp [ih]
theorem mX (xs:List (List Int)):PyData.canLayAll0 (xs.map fun r=>.tuple (r.map PyData.int))=true:=by
 induction xs with
 | nil=>rfl
 | cons a r ih=>simp [PyData.canLayAll0,PyData.canLay0,ih,fY]
theorem iQ (xs:List (List Int)):PyData.depthAll (xs.map fun r=>.tuple (r.map PyData.int))<=1:=by
 induction xs with
 | nil=>exact Nat.zero_le _
 | cons a r ih=>simp [PyData.depthAll,PyData.depth,gY,ih]
theorem kO:∀ (xs ys:List (List Int)),noMixAll (xs.map fun r=>.tuple (r.map PyData.int)) (ys.map fun r=>.tuple (r.map PyData.int))=true
 | [],[]=>by simp [noMixAll]
 | [],_::_=>by simp [noMixAll]
 | _::_,[]=>by simp [noMixAll]
 | a::r,b::s=>by simp [noMixAll,noMix,noMix_ints,kO r s]
theorem mD:∀ (xs ys:List (List Int)),sameAll (xs.map fun r=>.tuple (r.map PyData.int)) (ys.map fun r=>.tuple (r.map PyData.int))=decide (xs=ys)
 | [],[]=>by simp [sameAll]
 | [],_::_=>by simp [sameAll]
 | _::_,[]=>by simp [sameAll]
 | a::r,b::s=>by
  simp only [List.map_cons,sameAll,mD r s]
  unfold same
  rw [same_ints,Bool.eq_iff_iff];simp
theorem Mr (xs ys:List Int):n5 (tI xs) (tI ys)=M.ok (.bl (decide (xs=ys))):=by
 simp only [n5,lX,dat,tI,iL,Option.map_some,Bi]
 rw [aA (by simp [shaped,PyData.canLay0,PyData.depth,fY,gY,noMix,noMix_ints])]
 unfold same
 rw [same_ints];rfl
theorem Br (xs ys:List Int):tD (tI xs) (tI ys)=M.ok (.bl (!decide (xs=ys))):=by
 simp only [tD,lX,dat,tI,iL,Option.map_some,Bi]
 rw [aA (by simp [shaped,PyData.canLay0,PyData.depth,fY,gY,noMix,noMix_ints])]
 unfold same
 rw [same_ints];rfl
theorem GP (xs ys:List (List Int)):n5 (.tup (xs.map tI)) (.tup (ys.map tI))=M.ok (.bl (decide (xs=ys))):=by
 simp only [n5,lX,dat,rn,Option.map_some,Bi]
 have h1:=iQ xs
 have h2:=iQ ys
 rw [aA (by simp [shaped,PyData.canLay0,PyData.depth,mX,noMix,kO];omega)]
 unfold same
 rw [mD];rfl
theorem CI (i j:Int):Fe (.int i) (.int j)=M.ok (.bl (decide (i<j))):=Eq.trans rfl rfl
theorem BC (i j:Int):Ff (.int i) (.int j)=M.ok (.bl (decide (i<=j))):=Eq.trans rfl rfl
theorem CC (i j:Int):HG (.int i) (.int j)=M.ok (.bl (decide (j<i))):=Eq.trans rfl rfl
theorem B5 (i j:Int):Hy (.int i) (.int j)=M.ok (.bl (decide (j<=i))):=Eq.trans rfl rfl
theorem Ar (i j:Int):iw (.int i) (.int j)=M.ok (.int (i+j)):=Eq.trans rfl rfl
theorem AF (i j:Int):g_ (.int i) (.int j)=M.ok (.int (i-j)):=Eq.trans rfl rfl
theorem lq {n:Int} (h:0<=n) (h2:n<2^62):rJ [.int n]=M.ok ((List.range n.toNat).map fun (i:Nat)=>.int (i:Int)):=by
 show cw (-(2^62)<=n/\n<2^62) _=_
 rw [aA (by omega)]
 simp
theorem HB {i:Int} {n:Nat} (h:-(n:Int)<i) (h2:i<n):i.natAbs<n:=by omega
theorem eV {β:Type} {set:PV->ai->M ai} {body:ai->M Out} {α:Type} {inj:α->PV} {k:Out->M β} {r:M β} (xs:List α) (J:List α->ai->Prop) {env:ai} (h:J xs env)
  (H:∀ a r env,J (a::r) env->∃ e' env',set (inj a) env=M.ok e'/\body e'=M.ok (.nx env')/\J r env') (hk:∀ env',J [] env'->k (.nx env')=r):M.bind (iK set body (xs.map inj) env) k=r:=by
 obtain ⟨env',e,h'⟩:=lK J H xs env h
 rw [e,M.aP];exact hk env' h'
theorem EK {β:Type} {u:ai->M Bool} {b:ai->M Out} {k:Out->M β} {r:M β} (J:ai->Prop) (m:ai->Nat) {env:ai} (h:J env)
  (H:∀ env,J env->(u env=M.ok false)\/(u env=M.ok true/\∃ env',b env=M.ok (.nx env')/\J env'/\m env'<m env)) (hk:∀ env',J env'->u env'=M.ok false->k (.nx env')=r):M.bind (mL u b env) k=r:=by
 obtain ⟨env',e,h',h2⟩:=q_ J m H env h
 rw [e,M.aP];exact hk env' h' h2
theorem t9 (xs:List Int):k4 [lI xs]=M.ok (xs.zipIdx.map fun z=>.tup [.int (z.2:Int),.int z.1]):=by
 show M.ok (jz _)=_
 rw [qN]
theorem mn {α:Type} {f:α->PV} (xs:List α):k4 [.lst (xs.map f)]=M.ok (xs.zipIdx.map fun z=>.tup [.int (z.2:Int),f z.1]):=by
 show M.ok (jz _)=_
 rw [qN]
theorem aZ {n:Nat} (h:n<=1000):n<=sizeLine:=Nat.le_of_lt (mi h)
def tupK (ps:List PV):M PV:=cw (ps.length<=sizeLine) (M.ok (.tup ps))
def lstK (ps:List PV):M PV:=cw (ps.length<=sizeLine) (M.ok (.lst ps))
theorem Cb (fs:ai->M (List PV)) (env:ai):lQ fs env=(fs env).bind tupK:=rfl
theorem BS (fs:ai->M (List PV)) (env:ai):wb fs env=(fs env).bind lstK:=rfl
theorem Fo:tupK []=M.ok (.tup []):=aA (aZ (show 0<=1000 by decide))
theorem DH:lstK []=M.ok (.lst []):=aA (aZ (show 0<=1000 by decide))
theorem DL (a:PV):tupK [a]=M.ok (.tup [a]):=aA (aZ (show 1<=1000 by decide))
theorem E5 (a:PV):lstK [a]=M.ok (.lst [a]):=aA (aZ (show 1<=1000 by decide))
theorem DR (a b:PV):tupK [a,b]=M.ok (.tup [a,b]):=aA (aZ (show 2<=1000 by decide))
theorem DS (a b:PV):lstK [a,b]=M.ok (.lst [a,b]):=aA (aZ (show 2<=1000 by decide))
theorem FE (a b c:PV):tupK [a,b,c]=M.ok (.tup [a,b,c]):=aA (aZ (show 3<=1000 by decide))
theorem Fy (a b c:PV):lstK [a,b,c]=M.ok (.lst [a,b,c]):=aA (aZ (show 3<=1000 by decide))
theorem FF (a b c d:PV):tupK [a,b,c,d]=M.ok (.tup [a,b,c,d]):=aA (aZ (show 4<=1000 by decide))
theorem DO (a b c d:PV):lstK [a,b,c,d]=M.ok (.lst [a,b,c,d]):=aA (aZ (show 4<=1000 by decide))
theorem Fu (a b c d e:PV):tupK [a,b,c,d,e]=M.ok (.tup [a,b,c,d,e]):=aA (aZ (show 5<=1000 by decide))
theorem DJ (a b c d e:PV):lstK [a,b,c,d,e]=M.ok (.lst [a,b,c,d,e]):=aA (aZ (show 5<=1000 by decide))
theorem EH (a b c d e f:PV):tupK [a,b,c,d,e,f]=M.ok (.tup [a,b,c,d,e,f]):=aA (aZ (show 6<=1000 by decide))
theorem E9 (a b c d e f:PV):lstK [a,b,c,d,e,f]=M.ok (.lst [a,b,c,d,e,f]):=aA (aZ (show 6<=1000 by decide))
end L2
namespace L2
open PySem PySem.Spec PyProof.Rows
def gf {α:Type} (m:M α) (Q:α->Prop):Prop:=∃ a,m=M.ok a/\Q a
section
variable {α β γ:Type} {Q Q':α->Prop} {m:M α}
theorem gf.ok {a:α} (h:Q a):gf (M.ok a) Q:=⟨a,rfl,h⟩
theorem gf.imp (h:gf m Q) (i:∀ a,Q a->Q' a):gf m Q':=let ⟨a,e,q⟩:=h;⟨a,e,i a q⟩
theorem gf.bind {R:β->Prop} {f:α->M β} (h:gf m fun a=>gf (f a) R):gf (M.bind m f) R:=by
 obtain ⟨a,rfl,b,e,q⟩:=h
 exact ⟨b,e,q⟩
theorem gf.Ri {R:β->Prop} {f:α->M β} (h:gf m Q) (k:∀ a,Q a->gf (f a) R):gf (M.bind m f) R:=gf.bind (h.imp k)
theorem gf.eq {a:α} (h:gf m fun x=>x=a):m=M.ok a:=by obtain ⟨b,e,rfl⟩:=h;exact e
theorem gf.of {a:α} (h:m=M.ok a) (q:Q a):gf m Q:=⟨a,h,q⟩
def Tn (J:ai->Prop) (B:ai->Prop) (R:PV->Prop):Out->Prop
 | .nx e=>J e
 | .ct e=>J e
 | .bk e=>B e
 | .rt p=>R p
theorem gf.wY {set:PV->ai->M ai} {body:ai->M Out} {inj:γ->PV} {B:ai->Prop} {R:PV->Prop} (J:List γ->ai->Prop)
  (H:∀ a r env,J (a::r) env->gf (M.bind (set (inj a) env) body) (Tn (J r) B R)):∀ (xs:List γ) (env:ai),J xs env->gf (iK set body (xs.map inj) env) fun o=>(∃ e,o=.nx e/\(J [] e\/B e))\/∃ p,o=.rt p/\R p
 | [],env,h=>⟨_,rfl,.inl ⟨_,rfl,.inl h⟩⟩
 | a::r,env,h=>by
  obtain ⟨o,e,q⟩:=H a r env h
  rw [List.map_cons,iK,← M.bind_assoc,e,M.aP]
  cases o with
  | nx e'=>exact gf.wY J H r e' q
  | ct e'=>exact gf.wY J H r e' q
  | bk e'=>exact ⟨_,rfl,.inl ⟨_,rfl,.inr q⟩⟩
  | rt p=>exact ⟨_,rfl,.inr ⟨_,rfl,q⟩⟩
theorem gf.loop {R:β->Prop} {set:PV->ai->M ai} {body:ai->M Out} {inj:γ->PV} {k:Out->M β} {xs:List γ} {env:ai} (J:List γ->ai->Prop) (h:J xs env)
  (H:∀ a r env,J (a::r) env->gf (M.bind (set (inj a) env) body) (Tn (J r) (fun _=>False) fun _=>False)) (hk:∀ env',J [] env'->gf (k (.nx env')) R):gf (M.bind (iK set body (xs.map inj) env) k) R:=by
 obtain ⟨o,e,q⟩:=gf.wY J H xs env h
 rw [e,M.aP]
 rcases q with ⟨e',rfl,q | q⟩ | ⟨p,_,q⟩
 ·exact hk e' q
 ·exact q.elim
 ·exact q.elim
theorem gf.Q8 {R:β->Prop} {set:PV->ai->M ai} {body:ai->M Out} {inj:γ->PV} {k:Out->M β} {xs:List γ} {env:ai} (J:List γ->ai->Prop) (h:J xs env)
  (H:∀ a r env,J (a::r) env->gf (M.bind (set (inj a) env) body) (Tn (J r) (fun e=>gf (k (.nx e)) R) fun p=>gf (k (.rt p)) R)) (hk:∀ env',J [] env'->gf (k (.nx env')) R):gf (M.bind (iK set body (xs.map inj) env) k) R:=by
 obtain ⟨o,e,q⟩:=gf.wY J H xs env h
 rw [e,M.aP]
 rcases q with ⟨e',rfl,q | q⟩ | ⟨p,rfl,q⟩
 ·exact hk e' q
 ·exact q
 ·exact q
end
def Gb (i:Nat) (env:ai) (xs:List PV) (p:PV):M Out:=if xs.length<sizeLine then M.ok (.nx (env.set i (some (.ow (xs++[p]))))) else none
theorem gH (i:Nat) (f:ai->M PV) (env:ai):iR i f env=(ownAt i env).bind fun xs=>(f env).bind fun p=>Gb i env xs p:=by
 unfold iR ownAt
 rcases env[i]? with _ | _ | (_ | _ | _) <;> rfl
theorem gB {i:Nat} {env:ai} {xs:List PV} {p:PV} (h:xs.length<1000):Gb i env xs p=M.ok (.nx (env.set i (some (.ow (xs++[p]))))):=if_pos (mi (Nat.le_of_lt h))
def Av (C:Addr) (m:Str) (sem:List PV->M PV) (p:PV) (x:M (List PV)):M PV:=match p with
 | .obj C' fl=>cw (C'=C/\fl.lookup m=none) (x.bind fun ps=>sem (.obj C' fl::ps))
 | _=>none
theorem oS (C:Addr) (m:Str) (sem:List PV->M PV) (g:ai->M PV) (fs:ai->M (List PV)) (env:ai):dB C m sem g fs env=(g env).bind fun p=>Av C m sem p (fs env):=rfl
theorem yj {C:Addr} {m:Str} {sem:List PV->M PV} {fl:List (Str×PV)} {x:M (List PV)} (h:fl.lookup m=none):Av C m sem (.obj C fl) x=x.bind fun ps=>sem (.obj C fl::ps):=aA ⟨rfl,h⟩
def vc (C:Addr) (m:Str) (sem:List PV->M (List PV)) (p:PV):M (List PV):=match p with
 | .obj C' fl=>cw (C'=C/\fl.lookup m=none) (sem [.obj C' fl])
 | _=>none
theorem z0 (C:Addr) (m:Str) (sem:List PV->M (List PV)) (g:ai->M PV) (env:ai):w5 C m sem g env=(g env).bind (vc C m sem):=rfl
theorem vH {C:Addr} {m:Str} {sem:List PV->M (List PV)} {fl:List (Str×PV)} (h:fl.lookup m=none):vc C m sem (.obj C fl)=sem [.obj C fl]:=aA ⟨rfl,h⟩
def GF (ok:Addr->Bool) (f:Str) (p:PV):M PV:=match p with
 | .obj C fs=>cw (ok C=true) (e6 (fs.lookup f))
 | _=>none
theorem HF (ok:Addr->Bool) (f:Str) (g:ai->M PV) (env:ai):hG ok f g env=(g env).bind (GF ok f):=rfl
theorem GJ {ok:Addr->Bool} {f:Str} {C:Addr} {fs:List (Str×PV)} {x:PV} (h:ok C=true) (hl:fs.lookup f=some x):GF ok f (.obj C fs)=M.ok x:=by
 show cw _ _=_
 rw [aA h,hl];rfl
theorem Et (xs ys:List Int):tD (lI xs) (lI ys)=M.ok (.bl (!decide (xs=ys))):=by
 simp only [tD,lX,dat,lI,iL,Option.map_some,Bi]
 rw [aA (by simp [SeqAt.shaped,PyData.canLay0,PyData.depth,fY,gY,SeqAt.noMix,noMix_ints])]
 unfold same
 rw [same_ints];rfl
theorem OB (xs ys:List Int):n5 (lI xs) (lI ys)=M.ok (.bl (decide (xs=ys))):=by
 simp only [n5,lX,dat,lI,iL,Option.map_some,Bi]
 rw [aA (by simp [SeqAt.shaped,PyData.canLay0,PyData.depth,fY,gY,SeqAt.noMix,noMix_ints])]
 unfold same
 rw [same_ints];rfl
theorem yd (xs ys:List (List Int)):n5 (.lst (xs.map tI)) (.lst (ys.map tI))=M.ok (.bl (decide (xs=ys))):=by
 simp only [n5,lX,dat,rn,Option.map_some,Bi]
 have h1:=iQ xs
 have h2:=iQ ys
 rw [aA (by simp [SeqAt.shaped,PyData.canLay0,PyData.depth,mX,SeqAt.noMix,kO];omega)]
 unfold same
 rw [mD];rfl
theorem e7 (xs:List Int) (x:Int):xs.map PV.int++[.int x]=(xs++[x]).map PV.int:=by simp
end L2
namespace L2
open PySem PySem.Spec PyProof.Rows
theorem Ao {α:Type} {us:List α} (h:us.length=1):∃ a,us=[a]:=by
 cases us with
 | nil=>cases h
 | cons a t=>cases t with
  | nil=>exact ⟨a,rfl⟩
  | cons b t=>cases h
theorem ln2 {α:Type} {us:List α} (h:us.length=2):∃ a b,us=[a,b]:=by
 cases us with
 | nil=>cases h
 | cons a t=>obtain ⟨b,rfl⟩:=Ao (Nat.succ.inj h);exact ⟨a,b,rfl⟩
theorem Gn {α:Type} {us:List α} (h:us.length=3):∃ a b c,us=[a,b,c]:=by
 cases us with
 | nil=>cases h
 | cons a t=>obtain ⟨b,c,rfl⟩:=ln2 (Nat.succ.inj h);exact ⟨a,b,c,rfl⟩
theorem GG {α:Type} {us:List α} (h:us.length=4):∃ a b c d,us=[a,b,c,d]:=by
 cases us with
 | nil=>cases h
 | cons a t=>obtain ⟨b,c,d,rfl⟩:=Gn (Nat.succ.inj h);exact ⟨a,b,c,d,rfl⟩
theorem Tb {α:Type} {us:List α} (h:us.length=5):∃ a b c d e,us=[a,b,c,d,e]:=by
 cases us with
 | nil=>cases h
 | cons a t=>obtain ⟨b,c,d,e,rfl⟩:=GG (Nat.succ.inj h);exact ⟨a,b,c,d,e,rfl⟩
def wL (K:PySem.W.Frag):Bool:=K.all fun p=>match p.2.cls with
 | .type t=>t != "list"
 | _=>true
theorem AG {K:PySem.W.Frag} (h:wL K=true) {a:Addr} {o:Obj} (e:K.lookup a=some o):o.cls≠.type "list" := by
 induction K with
 | nil=>cases e
 | cons p r ih =>
  obtain ⟨b,u⟩:=p
  rw [wL,List.all_cons,Bool.and_eq_true] at h
  rw [List.lookup_cons] at e
  cases q:a==b with
  | true =>
   rw [q] at e;cases e
   intro z
   have h1:=h.1
   simp only [z] at h1
   exact absurd h1 (by decide)
  | false=>rw [q] at e;exact ih h.2 e
theorem rm {H:Hp}:∀ ns:List Int,aT H (ns.map PV.int) (ns.map V.int)
 | []=>.nil
 | i::r=>.cons (.int i) (rm r)
theorem vQ {l:PySem.W.OpenLaw} {n k:Nat} {q:Program} {loose:List Str} {XP:(Str->Option Value)->Heap->Prop} {YP:World->Heap->Prop} {d:DefRec} {K:Params->PySem.W.Frag} {sem:List PV->M PV} {x:Str}
  (hn:l.most=some n) (hn2:n<=sizeLine) (hdf:d.params.defaults=[]) (hr:cy k callerA)
  (hY:∀ (w:World) (h:Heap),YP w h->(K w.params).In h)
  (hK:∀ w:World,wL (K w.params)=true)
  (F:∀ (w:World) (mg:Str->Option Value) (fa:Addr) (h:Heap),(K w.params).In h->h.Ns mainGlobals mg->mg d.name=some (.ref fa) ->
   ∃ fd:FuncData,(∀ (s:Shared) (u:Value),BindsTo s fd ⟨[u],[]⟩ [(x,u)]) ∧
    ∀ base:Heap,(K w.params).In base->base.Ns mainGlobals mg->aY l.prog w (K w.params) mg base (b_ l.prog w) k fa fd [x] (f7 1 sem))
  (hsem:∀ ns:List Int,ns.length<=n->(∀ i∈ns,Builtin.Int.intBits i<=1048576)->sem [.jo (ns.map PV.int)]=M.ok (.bl true)) :
  PySem.W.WalkO q loose XP YP l.row.toRowW d [] (fun f vs=>PySem.call f vs):=by
 intro w s₀ s₁ mg mb G Y fa o pm cd doc dV kV ho hd hcd hD hmg hg args vals as xx hlay hrd hwl hlo
 obtain rfl:dV=.none:=PySem.W.Dflts.none hD hdf
 obtain rfl:kV=.none:=PySem.W.Dflts.noKw hD
 obtain ⟨a,vs,ns,rfl,rfl,hobj,hints,hlen⟩:=Att.xM hn xx hwl
 have hbits:∀ i∈ns,Builtin.Int.intBits i<=1048576:=fun i hi=>by
  have h1:=PySem.W.layableW_arg hlay _ (List.mem_singleton.mpr rfl)
  have h2:=PySem.W.layableW_item h1 (.int i) (List.mem_map.mpr ⟨i,hi,rfl⟩)
  exact intBits_le_of_layable h2
 have KX:=hY w _ Y
 obtain ⟨fd,hb,hF⟩:=F w mg fa _ KX G.T.g hmg
 have hs:=hsem ns hlen hbits
 refine PySem.W.enter_call (codeAny_mono (AZ KX G.T.g G.T.b G.T.builtins G.T.nolimit hg hobj hints (Nat.le_trans hlen hn2) hr hF hb (fun H hO hS=>⟨rfl,H,[.jo (ns.map PV.int)],fun _ _ e=>e,?_,?_⟩) fun H e s' z=>?_) fun r s' hq=>?_)
 ·rcases hS with (hS | ⟨ob,hS⟩) | ⟨ob,its,m,e1,e2,_⟩
  ·rcases hO a with z | ⟨ob,xs,z⟩
   ·rw [z] at hS;cases hS
   ·rw [z] at hS;cases hS
  ·exact .cons (.jo hS (rm ns)) .nil
  ·exact absurd e2 (AG (hK w) e1)
 ·rw [hs]
  intro v Hs' H' g r
  cases r;rfl
 ·obtain ⟨ea,T,C,dd,Hc,_,_,_,_,_,_,_,_,z⟩:=z;exact z
 ·obtain ⟨rfl,h2,h3,h4⟩:=hq
  exact ⟨.inl ⟨.bool true,.bool true,[],rfl,fun _=>rfl,.bool true,Att.xq l _,fun _=>⟨List.Pairwise.nil,fun _ hm=>(nomatch hm)⟩⟩,h2,h3,h4⟩
end L2
namespace HD
open PySem PySem.W L2
abbrev pw:Program:=PySem.Challenge.pw_dialvault_k26_every_idle_way
noncomputable section
def st (s:String) (t:Nat):Value:=.str (Str.ofString s) t
def en (P:Params) (s:String) (t:Nat) (v:Value):DictEntry:=⟨PyData.keyHash P (Str.ofString s),st s t,v⟩
def tu (xs:List Value):Obj:=⟨.type "tuple", none,.seq ⟨xs⟩ 0,⟨[]⟩⟩
def di (n:Nat) (es:List DictEntry):Obj:=⟨.type "dict", none,.dict ⟨es⟩ n,⟨[]⟩⟩
def tp (i:Nat):Stmt:=pw.main.body.getD i (.Pass ⟨0,0,0,0⟩)
def mp (i j:Nat):Stmt:=inClass (tp i) j
def co (a b:String) (t:Nat) (l n:Int) (x1 x2 x3 x4 x5:Nat) (u:Nat):Obj:=⟨.type "code", none,.fields ⟨[st a t,st b (t+1),st "/claim/cut.py" (t+2),.int l 0,.int n 0,.int 0 0,.int 0 0,.int 3 0,.ref x1,.bool true,.int 181 0,.ref x2,.none,.ref x3,.ref x4,.ref x5,.int u 0,.int l 0,st "/claim/cut.py" (u+1)]⟩,⟨[]⟩⟩
def ft (a b:String) (s:Stmt):Obj:=⟨.none,none,.func ⟨Str.ofString a,Str.ofString b,aK s,.stmts (aJ s),ak s,0,[],.none,.none,.none,.none,none,.none,.none,0⟩,⟨[]⟩⟩
def fo (a b:String) (s:Stmt) (df pm:Value) (cd:Nat):Obj:=⟨.type "function", none,.func ⟨Str.ofString a,Str.ofString b,aK s,.stmts (aJ s),ak s,3,[],df,.none,.none,pm,none,.ref cd,.none,0⟩,⟨[]⟩⟩
def EZ:List Obj->List Obj
 | []=>[]
 | [a]=>[a]
 | a::_::r=>a::EZ r
def bt:Nat->List Obj->BT
 | 0,_=>.nil
 | _+1,[]=>.nil
 | n+1,a::r=>.node a (bt n (EZ r)) (bt n (EZ (r.drop 1)))
def S (L:Params->List Obj) (n k:Nat) (w:World) (os:OsState):SharedT:=⟨bt 14 (L w.params),n,{},⟨[]⟩,⟨0,0,0,0⟩,k,os⟩
def F (L:Params->List Obj) (k:Nat) (w:World) (os:OsState):Shared:=⟨⟨⟨L w.params⟩,{}⟩,⟨[]⟩,⟨0,0,0,0⟩,k,os⟩
def cc (a:String) (t:Nat) (l:Int) (x y u:Nat):Obj:=⟨.type "code", none,.fields ⟨[st a t,st a (t+1),st "/claim/cut.py" (t+2),.int l 0,.int 0 0,.int 0 0,.int 0 0,.int 0 0,.ref x,.bool false,.int 181 0,.ref y,.none,.none,.none,.none,.int u 0,.int l 0,st "/claim/cut.py" (u+1)]⟩,⟨[]⟩⟩
def fr (a b:Nat) (s:String) (t:Nat):Obj:=⟨.type "frame", none,.plain,⟨[some (.ref a),some (.ref 3),some (.ref b),none,some (st s t),none,some (.ref 0)]⟩⟩
def su (a:Nat):Obj:=⟨.type "super", none,.fields ⟨[.ref a,.ref a,.ref a]⟩,⟨[]⟩⟩
def ii (a:Nat):Obj:=⟨.type "builtin_function_or_method", none,.fields ⟨[.builtin "object.__init_subclass__", .ref a]⟩,⟨[]⟩⟩
def wR:List Nat->List Value
 | a::b::c::r=>.int a 0::.int b 0::.ref c::wR r
 | _=>[]
def fi (xs:List Nat):Obj:=⟨.none,none,.fields ⟨wR xs⟩,⟨[]⟩⟩
def cl (n:Str) (bs ms:List Value) (k:Nat) (ss:List Value) (sl:List (Option Value)):Obj:=⟨.type "type", none,.cls ⟨n,bs,ms,k,n,true,[],ss,false,none,false⟩,⟨sl⟩⟩
def pt (L:List Obj) (us:List (Nat×Obj)) (ns:List Obj):List Obj:=us.foldl (fun l u=>l.set u.1 u.2) L++ns
abbrev b0:=boot_o_0
abbrev b1:=boot_o_1
abbrev b2:=boot_o_2
abbrev b3:=boot_o_3
abbrev b4:=boot_o_4
abbrev b5:=boot_o_5
abbrev b6:=boot_o_6
abbrev b7:=boot_o_7
abbrev b8:=boot_o_8
abbrev b9:=boot_o_9
abbrev Uw:=boot_o_10
def gl P:=[en P "__doc__" 166 .none,en P "__package__" 167 .none,en P "__loader__" 168 (.builtin "__main__.__loader__#opaque"),en P "__spec__" 169 .none,en P "__annotations__" 170 (.ref 6),en P "__builtins__" 171 (.ref 4),en P "__file__" 173 (st "/claim/cut.py" 172),en P "__cached__" 174 .none,en P "_wall" 193 (.ref 21),en P "VaultError" 220 (.ref 38),en P "NoDial" 252 (.ref 65),en P "NoLever" 284 (.ref 91),en P "NoPrice" 316 (.ref 117),en P "NoSetting" 339 (.ref 136),en P "TooMany" 362 (.ref 155),en P "is_whole" 371 (.ref 164),en P "is_row" 377 (.ref 169),en P "common" 389 (.ref 176),en P "multiple_of" 398 (.ref 183),en P "unit_row" 404 (.ref 188),en P "MOST_DIALS" 408 (.int 6 407),en P "LEAST_SIZE" 410 (.int 2 409),en P "MOST_SIZE" 412 (.int 360 411),en P "MOST_LEVERS" 414 (.int 8 413),en P "LEAST_PRICE" 416 (.int 1 415),en P "MOST_PRICE" 418 (.int 1000 417),en P "Vault" 476 (.ref 232),en P "is_within" 485 (.ref 243),en P "need_sizes" 494 (.ref 250),en P "need_levers" 504 (.ref 257),en P "prices_for" 513 (.ref 264),en P "rests" 519 (.ref 269),en P "nought" 526 (.ref 276),en P "is_setting" 532 (.ref 281),en P "need_setting" 540 (.ref 288),en P "mixed" 548 (.ref 293),en P "mixed_made" 560 (.ref 300),en P "unpulled" 568 (.ref 307),en P "pulled_once" 577 (.ref 314),en P "step_size" 587 (.ref 321),en P "taken_in" 602 (.ref 328),en P "lowered" 614 (.ref 335),en P "in_spans" 624 (.ref 342),en P "Rungs" 711 (.ref 411),en P "_law_cell" 721 (.ref 422),en P "_law_stream" 732 (.ref 429),en P "_law_digits" 743 (.ref 436),en P "_law_sizes" 749 (.ref 441),en P "_law_great" 756 (.ref 448),en P "_law_lever" 768 (.ref 455),en P "_law_levers" 779 (.ref 462),en P "_law_added" 785 (.ref 467),en P "_law_turned" 798 (.ref 474),en P "_law_pulls" 804 (.ref 479),en P "_law_brought_down" 810 (.ref 484),en P "law" 816 (.ref 489)]
def o0:=cc "<module>" 182 1 11 12 185
def o1:=fr 13 3 "__main__" 164
def LA (P:Params):List Obj:=[b0 P,b1 P,b2 P,b3 P,b4 P,b5 P,b6 P,b7 P,b8 P,b9 P,Uw P,b7 P,b8 P,o0,o1]
def o2 P:=di 11 (en P "__name__" 165 (st "dialvault.errors" 194)::(gl P).take 10)
def o3:=fi [1,0,20,5,0,27]
def o4:=tu [st "k" 190]
def o5:=ft "_wall" "_wall" (tp 0)
def o6:=co "_wall" "_wall" 187 1 1 15 16 17 18 19 191
def o7:=fo "_wall" "_wall" (tp 0) .none (st "__main__" 164) 20
def o8:=tu [.type "ValueError"]
def o9:Obj:=⟨.type "builtin_function_or_method", none,(.fields ⟨[.builtin "type.__prepare__", .type "type"]⟩),⟨[]⟩⟩
def Rx P:=di 5 [en P "__module__" 203 (st "dialvault.errors" 194),en P "__qualname__" 205 (st "VaultError" 204),en P "__firstlineno__" 207 (.int 5 206),en P "word" 214 (.ref 35),en P "__static_attributes__" 215 (.ref 36)]
def Td:=fi [7,4,34]
def RT:=cc "VaultError" 198 5 25 26 201
def TJ:=fr 27 24 "dialvault.errors" 194
def Ug:=tu [st "self" 211]
def Se:=ft "word" "VaultError.word" (mp 2 0)
def Sw:=co "word" "VaultError.word" 208 7 1 29 30 31 32 33 212
def UA:=fo "word" "VaultError.word" (mp 2 0) .none (st "dialvault.errors" 194) 34
def RG P:=di 3 [en P "__module__" 203 (st "dialvault.errors" 194),en P "__firstlineno__" 207 (.int 5 206),en P "word" 214 (.ref 35),en P "__static_attributes__" 215 (.ref 36),en P "__weakref__" 217 (.ref 39),en P "__doc__" 218 .none]
def Ui:=cl "VaultError" [.type "ValueError"] [.ref 38,.type "ValueError", .type "Exception", .type "BaseException", .type "object"] 37 [] [some (.ref 22),none,some (st "VaultError" 196),some (st "VaultError" 204),some (.builtin "ValueError.__new__"),some (.bool true)]
def R9:Obj:=⟨.type "getset_descriptor", none,(.fields ⟨[st "__weakref__" 216,.ref 38,.builtin "ExceptionGroup.__weakref__", .none]⟩),⟨[]⟩⟩
def Sx:=su 38
def Su:=ii 38
def L0 P:=pt (LA P) [(3,o2 P),(12,o3)] [b7 P,b8 P,o4,b7 P,o5,o6,o7,o8,o9,Rx P,b7 P,Td,RT,TJ,b7 P,b8 P,Ug,b7 P,Se,Sw,UA,b7 P,RG P,Ui,R9,Sx,Su]
def RA P:=di 12 (en P "__name__" 165 (st "dialvault.errors" 194)::(gl P).take 11)
def Tt:=fi [1,0,20,5,0,27,9,0,47]
def T2:=cl "VaultError" [.type "ValueError"] [.ref 38,.type "ValueError", .type "Exception", .type "BaseException", .type "object"] 37 [.ref 65] [some (.ref 22),none,some (st "VaultError" 196),some (st "VaultError" 204),some (.builtin "ValueError.__new__"),some (.bool true)]
def G4:=tu [.ref 38]
def RL P:=di 6 [en P "__module__" 228 (st "dialvault.errors" 194),en P "__qualname__" 230 (st "NoDial" 229),en P "__firstlineno__" 232 (.int 9 231),en P "__init__" 240 (.ref 55),en P "word" 247 (.ref 62),en P "__static_attributes__" 249 (.ref 63)]
def S3:=fi [11,4,54,14,4,61]
def S_:=cc "NoDial" 223 9 45 46 226
def SA:=fr 47 44 "dialvault.errors" 194
def TC:=tu [st "self" 236,st "dial" 237]
def T5:=ft "__init__" "NoDial.__init__" (mp 3 0)
def RH:=co "__init__" "NoDial.__init__" 233 11 2 49 50 51 52 53 238
def RC:=fo "__init__" "NoDial.__init__" (mp 3 0) .none (st "dialvault.errors" 194) 54
def S5:=tu [st "self" 244]
def Rr:=ft "word" "NoDial.word" (mp 3 1)
def S0:=co "word" "NoDial.word" 241 14 1 56 57 58 59 60 245
def Sj:=fo "word" "NoDial.word" (mp 3 1) .none (st "dialvault.errors" 194) 61
def TR:=tu [st "dial" 248]
def Uu P:=di 2 [en P "__module__" 228 (st "dialvault.errors" 194),en P "__firstlineno__" 232 (.int 9 231),en P "__init__" 240 (.ref 55),en P "word" 247 (.ref 62),en P "__static_attributes__" 249 (.ref 63),en P "__doc__" 250 .none]
def RW:=cl "NoDial" [.ref 38] [.ref 65,.ref 38,.type "ValueError", .type "Exception", .type "BaseException", .type "object"] 64 [] [some (.ref 42),none,some (st "NoDial" 221),some (st "NoDial" 229),some (.builtin "ValueError.__new__"),some (.bool true)]
def Um:=su 65
def S9:=ii 65
def L1 P:=pt (L0 P) [(3,RA P),(12,Tt),(38,T2)] [G4,o9,RL P,b7 P,S3,S_,SA,b7 P,b8 P,TC,b7 P,T5,RH,RC,b7 P,b8 P,S5,b7 P,Rr,S0,Sj,TR,Uu P,RW,Um,S9]
def Sg P:=di 13 (en P "__name__" 165 (st "dialvault.errors" 194)::(gl P).take 12)
def R0:=fi [1,0,20,5,0,27,9,0,47,16,0,73]
def Tf:=cl "VaultError" [.type "ValueError"] [.ref 38,.type "ValueError", .type "Exception", .type "BaseException", .type "object"] 37 [.ref 65,.ref 91] [some (.ref 22),none,some (st "VaultError" 196),some (st "VaultError" 204),some (.builtin "ValueError.__new__"),some (.bool true)]
def Sh P:=di 6 [en P "__module__" 260 (st "dialvault.errors" 194),en P "__qualname__" 262 (st "NoLever" 261),en P "__firstlineno__" 264 (.int 16 263),en P "__init__" 272 (.ref 81),en P "word" 279 (.ref 88),en P "__static_attributes__" 281 (.ref 89)]
def To:=fi [18,4,80,21,4,87]
def Up:=cc "NoLever" 255 16 71 72 258
def Tq:=fr 73 70 "dialvault.errors" 194
def R6:=tu [st "self" 268,st "lever" 269]
def Sv:=ft "__init__" "NoLever.__init__" (mp 4 0)
def TY:=co "__init__" "NoLever.__init__" 265 18 2 75 76 77 78 79 270
def UB:=fo "__init__" "NoLever.__init__" (mp 4 0) .none (st "dialvault.errors" 194) 80
def Ut:=tu [st "self" 276]
def RZ:=ft "word" "NoLever.word" (mp 4 1)
def SX:=co "word" "NoLever.word" 273 21 1 82 83 84 85 86 277
def Ti:=fo "word" "NoLever.word" (mp 4 1) .none (st "dialvault.errors" 194) 87
def Tj:=tu [st "lever" 280]
def Sd P:=di 2 [en P "__module__" 260 (st "dialvault.errors" 194),en P "__firstlineno__" 264 (.int 16 263),en P "__init__" 272 (.ref 81),en P "word" 279 (.ref 88),en P "__static_attributes__" 281 (.ref 89),en P "__doc__" 282 .none]
def Sl:=cl "NoLever" [.ref 38] [.ref 91,.ref 38,.type "ValueError", .type "Exception", .type "BaseException", .type "object"] 90 [] [some (.ref 68),none,some (st "NoLever" 253),some (st "NoLever" 261),some (.builtin "ValueError.__new__"),some (.bool true)]
def Sy:=su 91
def Ux:=ii 91
def L2 P:=pt (L1 P) [(3,Sg P),(12,R0),(38,Tf)] [G4,o9,Sh P,b7 P,To,Up,Tq,b7 P,b8 P,R6,b7 P,Sv,TY,UB,b7 P,b8 P,Ut,b7 P,RZ,SX,Ti,Tj,Sd P,Sl,Sy,Ux]
def RM P:=di 14 (en P "__name__" 165 (st "dialvault.errors" 194)::(gl P).take 13)
def Uk:=fi [1,0,20,5,0,27,9,0,47,16,0,73,23,0,99]
def Si:=cl "VaultError" [.type "ValueError"] [.ref 38,.type "ValueError", .type "Exception", .type "BaseException", .type "object"] 37 [.ref 65,.ref 91,.ref 117] [some (.ref 22),none,some (st "VaultError" 196),some (st "VaultError" 204),some (.builtin "ValueError.__new__"),some (.bool true)]
def Tp P:=di 6 [en P "__module__" 292 (st "dialvault.errors" 194),en P "__qualname__" 294 (st "NoPrice" 293),en P "__firstlineno__" 296 (.int 23 295),en P "__init__" 304 (.ref 107),en P "word" 311 (.ref 114),en P "__static_attributes__" 313 (.ref 115)]
def SM:=fi [25,4,106,28,4,113]
def SQ:=cc "NoPrice" 287 23 97 98 290
def SK:=fr 99 96 "dialvault.errors" 194
def Tv:=tu [st "self" 300,st "lever" 301]
def Rv:=ft "__init__" "NoPrice.__init__" (mp 5 0)
def Sn:=co "__init__" "NoPrice.__init__" 297 25 2 101 102 103 104 105 302
def Tu:=fo "__init__" "NoPrice.__init__" (mp 5 0) .none (st "dialvault.errors" 194) 106
def S1:=tu [st "self" 308]
def T9:=ft "word" "NoPrice.word" (mp 5 1)
def RU:=co "word" "NoPrice.word" 305 28 1 108 109 110 111 112 309
def TH:=fo "word" "NoPrice.word" (mp 5 1) .none (st "dialvault.errors" 194) 113
def Sf:=tu [st "lever" 312]
def T_ P:=di 2 [en P "__module__" 292 (st "dialvault.errors" 194),en P "__firstlineno__" 296 (.int 23 295),en P "__init__" 304 (.ref 107),en P "word" 311 (.ref 114),en P "__static_attributes__" 313 (.ref 115),en P "__doc__" 314 .none]
def RP:=cl "NoPrice" [.ref 38] [.ref 117,.ref 38,.type "ValueError", .type "Exception", .type "BaseException", .type "object"] 116 [] [some (.ref 94),none,some (st "NoPrice" 285),some (st "NoPrice" 293),some (.builtin "ValueError.__new__"),some (.bool true)]
def TZ:=su 117
def Ta:=ii 117
def L3 P:=pt (L2 P) [(3,RM P),(12,Uk),(38,Si)] [G4,o9,Tp P,b7 P,SM,SQ,SK,b7 P,b8 P,Tv,b7 P,Rv,Sn,Tu,b7 P,b8 P,S1,b7 P,T9,RU,TH,Sf,T_ P,RP,TZ,Ta]
def TX P:=di 15 (en P "__name__" 165 (st "dialvault.errors" 194)::(gl P).take 14)
def T1:=fi [1,0,20,5,0,27,9,0,47,16,0,73,23,0,99,30,0,125]
def SJ:=cl "VaultError" [.type "ValueError"] [.ref 38,.type "ValueError", .type "Exception", .type "BaseException", .type "object"] 37 [.ref 65,.ref 91,.ref 117,.ref 136] [some (.ref 22),none,some (st "VaultError" 196),some (st "VaultError" 204),some (.builtin "ValueError.__new__"),some (.bool true)]
def RO P:=di 5 [en P "__module__" 324 (st "dialvault.errors" 194),en P "__qualname__" 326 (st "NoSetting" 325),en P "__firstlineno__" 328 (.int 30 327),en P "word" 335 (.ref 133),en P "__static_attributes__" 336 (.ref 134)]
def TF:=fi [32,4,132]
def Tz:=cc "NoSetting" 319 30 123 124 322
def T3:=fr 125 122 "dialvault.errors" 194
def Rw:=tu [st "self" 332]
def R8:=ft "word" "NoSetting.word" (mp 6 0)
def TB:=co "word" "NoSetting.word" 329 32 1 127 128 129 130 131 333
def TU:=fo "word" "NoSetting.word" (mp 6 0) .none (st "dialvault.errors" 194) 132
def TM P:=di 2 [en P "__module__" 324 (st "dialvault.errors" 194),en P "__firstlineno__" 328 (.int 30 327),en P "word" 335 (.ref 133),en P "__static_attributes__" 336 (.ref 134),en P "__doc__" 337 .none]
def Uc:=cl "NoSetting" [.ref 38] [.ref 136,.ref 38,.type "ValueError", .type "Exception", .type "BaseException", .type "object"] 135 [] [some (.ref 120),none,some (st "NoSetting" 317),some (st "NoSetting" 325),some (.builtin "ValueError.__new__"),some (.bool true)]
def RX:=su 136
def S7:=ii 136
def L4 P:=pt (L3 P) [(3,TX P),(12,T1),(38,SJ)] [G4,o9,RO P,b7 P,TF,Tz,T3,b7 P,b8 P,Rw,b7 P,R8,TB,TU,b7 P,TM P,Uc,RX,S7]
def Ub P:=di 21 (en P "__name__" 165 (st "dialvault.wholes" 363)::(gl P).take 20)
def Jb:=fi [1,0,20,5,0,27,9,0,47,16,0,73,23,0,99,30,0,125,34,0,144,39,0,163,41,0,168,45,0,175,56,0,182,61,0,187]
def Qn:=cl "VaultError" [.type "ValueError"] [.ref 38,.type "ValueError", .type "Exception", .type "BaseException", .type "object"] 37 [.ref 65,.ref 91,.ref 117,.ref 136,.ref 155] [some (.ref 22),none,some (st "VaultError" 196),some (st "VaultError" 204),some (.builtin "ValueError.__new__"),some (.bool true)]
def OP P:=di 5 [en P "__module__" 347 (st "dialvault.errors" 194),en P "__qualname__" 349 (st "TooMany" 348),en P "__firstlineno__" 351 (.int 34 350),en P "word" 358 (.ref 152),en P "__static_attributes__" 359 (.ref 153)]
def OR:=fi [36,4,151]
def K3:=cc "TooMany" 342 34 142 143 345
def IG:=fr 144 141 "dialvault.errors" 194
def ML:=tu [st "self" 355]
def Ib:=ft "word" "TooMany.word" (mp 7 0)
def LG:=co "word" "TooMany.word" 352 36 1 146 147 148 149 150 356
def NL:=fo "word" "TooMany.word" (mp 7 0) .none (st "dialvault.errors" 194) 151
def MS P:=di 2 [en P "__module__" 347 (st "dialvault.errors" 194),en P "__firstlineno__" 351 (.int 34 350),en P "word" 358 (.ref 152),en P "__static_attributes__" 359 (.ref 153),en P "__doc__" 360 .none]
def Lr:=cl "TooMany" [.ref 38] [.ref 155,.ref 38,.type "ValueError", .type "Exception", .type "BaseException", .type "object"] 154 [] [some (.ref 139),none,some (st "TooMany" 340),some (st "TooMany" 348),some (.builtin "ValueError.__new__"),some (.bool true)]
def Ic:=su 155
def Jp:=ii 155
def Mv:=tu [st "thing" 368]
def NZ:=ft "is_whole" "is_whole" (tp 9)
def Qf:=co "is_whole" "is_whole" 365 39 1 158 159 160 161 162 369
def Kc:=fo "is_whole" "is_whole" (tp 9) .none (st "dialvault.wholes" 363) 163
def Md:=ft "is_row" "is_row" (tp 10)
def PX:Obj:=⟨.type "code", none,(.fields ⟨[st "is_row" 372,st "is_row" 373,st "/claim/cut.py" 374,.int 41 0,.int 2 0,.int 0 0,.int 0 0,.int 3 0,.ref 165,.bool true,.int 181 0,.ref 166,.none,.none,.none,.ref 167,.int 375 0,.int 41 0,st "/claim/cut.py" 376]⟩),⟨[]⟩⟩
def Nm:=fo "is_row" "is_row" (tp 10) .none (st "dialvault.wholes" 363) 168
def Pr:=tu [st "one" 381,st "other" 382,st "row" 383,st "behind" 384,st "times" 385,st "rest" 386]
def Nw:=ft "common" "common" (tp 11)
def LQ:=co "common" "common" 378 45 2 170 171 172 173 174 387
def Ox:=fo "common" "common" (tp 11) .none (st "dialvault.wholes" 363) 175
def LD:=tu [st "numbers" 393,st "multiple" 394,st "number" 395]
def LW:=ft "multiple_of" "multiple_of" (tp 12)
def JM:=co "multiple_of" "multiple_of" 390 56 1 177 178 179 180 181 396
def Mq:=fo "multiple_of" "multiple_of" (tp 12) .none (st "dialvault.wholes" 363) 182
def P1:=ft "unit_row" "unit_row" (tp 13)
def I_:Obj:=⟨.type "code", none,(.fields ⟨[st "unit_row" 399,st "unit_row" 400,st "/claim/cut.py" 401,.int 61 0,.int 2 0,.int 0 0,.int 0 0,.int 3 0,.ref 184,.bool true,.int 181 0,.ref 185,.none,.none,.none,.ref 186,.int 402 0,.int 61 0,st "/claim/cut.py" 403]⟩),⟨[]⟩⟩
def Jy:=fo "unit_row" "unit_row" (tp 13) .none (st "dialvault.wholes" 363) 187
def L5 P:=pt (L4 P) [(3,Ub P),(12,Jb),(38,Qn)] [G4,o9,OP P,b7 P,OR,K3,IG,b7 P,b8 P,ML,b7 P,Ib,LG,NL,b7 P,MS P,Lr,Ic,Jp,b7 P,b8 P,Mv,b7 P,NZ,Qf,Kc,b7 P,b8 P,Md,PX,Nm,b7 P,b8 P,Pr,b7 P,Nw,LQ,Ox,b7 P,b8 P,LD,b7 P,LW,JM,Mq,b7 P,b8 P,P1,I_,Jy]
def Ig P:=di 27 (en P "__name__" 165 (st "dialvault.vault" 405)::(gl P).take 26)
def L6 P:=pt (L5 P) [(3,Ig P)] []
def Lh P:=di 29 (en P "__name__" 165 (st "dialvault.vault" 405)::(gl P).take 28)
def Kr:=fi [1,0,20,5,0,27,9,0,47,16,0,73,23,0,99,30,0,125,34,0,144,39,0,163,41,0,168,45,0,175,56,0,182,61,0,187,70,0,194,91,0,242]
def Jh P:=di 9 [en P "__module__" 426 (st "dialvault.vault" 405),en P "__qualname__" 428 (st "Vault" 427),en P "__firstlineno__" 430 (.int 70 429),en P "__init__" 436 (.ref 201),en P "sizes" 443 (.ref 208),en P "levers" 450 (.ref 215),en P "prices" 457 (.ref 222),en P "around" 464 (.ref 229),en P "__static_attributes__" 469 (.ref 230)]
def Nk:=fi [72,4,200,80,4,207,83,4,214,86,4,221,89,4,228]
def JN:=cc "Vault" 421 70 192 193 424
def IK:=fr 194 191 "dialvault.vault" 405
def O3:=tu [.none]
def Qm:=ft "__init__" "Vault.__init__" (mp 21 0)
def NP:Obj:=⟨.type "code", none,(.fields ⟨[st "__init__" 431,st "Vault.__init__" 432,st "/claim/cut.py" 433,.int 72 0,.int 4 0,.int 0 0,.int 0 0,.int 3 0,.ref 197,.bool true,.int 181 0,.ref 198,.none,.none,.none,.ref 199,.int 434 0,.int 72 0,st "/claim/cut.py" 435]⟩),⟨[]⟩⟩
def HZ:=fo "__init__" "Vault.__init__" (mp 21 0) (.ref 196) (st "dialvault.vault" 405) 200
def Kg:=tu [st "self" 440]
def O7:=ft "sizes" "Vault.sizes" (mp 21 1)
def K6:=co "sizes" "Vault.sizes" 437 80 1 202 203 204 205 206 441
def O0:=fo "sizes" "Vault.sizes" (mp 21 1) .none (st "dialvault.vault" 405) 207
def KZ:=tu [st "self" 447]
def PF:=ft "levers" "Vault.levers" (mp 21 2)
def JT:=co "levers" "Vault.levers" 444 83 1 209 210 211 212 213 448
def PU:=fo "levers" "Vault.levers" (mp 21 2) .none (st "dialvault.vault" 405) 214
def J0:=tu [st "self" 454]
def P7:=ft "prices" "Vault.prices" (mp 21 3)
def Oc:=co "prices" "Vault.prices" 451 86 1 216 217 218 219 220 455
def OC:=fo "prices" "Vault.prices" (mp 21 3) .none (st "dialvault.vault" 405) 221
def Ly:=tu [st "self" 461]
def Le:=ft "around" "Vault.around" (mp 21 4)
def Om:=co "around" "Vault.around" 458 89 1 223 224 225 226 227 462
def Py:=fo "around" "Vault.around" (mp 21 4) .none (st "dialvault.vault" 405) 228
def MG:=tu [st "dial_sizes" 465,st "least_round" 466,st "lever_prices" 467,st "lever_settings" 468]
def Pk P:=di 4 [en P "__module__" 426 (st "dialvault.vault" 405),en P "__firstlineno__" 430 (.int 70 429),en P "__init__" 436 (.ref 201),en P "sizes" 443 (.ref 208),en P "levers" 450 (.ref 215),en P "prices" 457 (.ref 222),en P "around" 464 (.ref 229),en P "__static_attributes__" 469 (.ref 230),en P "__dict__" 471 (.ref 233),en P "__weakref__" 473 (.ref 234),en P "__doc__" 474 .none]
def OK:=cl "Vault" [.type "object"] [.ref 232,.type "object"] 231 [] [none,none,some (st "Vault" 419),some (st "Vault" 427),some (.builtin "object.__new__"),some (.bool true)]
def Ki:Obj:=⟨.type "getset_descriptor", none,(.fields ⟨[st "__dict__" 470,.ref 232,.builtin "function.__dict__", .builtin "function.__dict__#set"]⟩),⟨[]⟩⟩
def Ol:Obj:=⟨.type "getset_descriptor", none,(.fields ⟨[st "__weakref__" 472,.ref 232,.builtin "ExceptionGroup.__weakref__", .none]⟩),⟨[]⟩⟩
def Oy:=su 232
def IQ:=ii 232
def Qw:=tu [st "thing" 480,st "least" 481,st "most" 482]
def LM:=ft "is_within" "is_within" (tp 22)
def NB:=co "is_within" "is_within" 477 91 3 237 238 239 240 241 483
def Og:=fo "is_within" "is_within" (tp 22) .none (st "dialvault.vault" 405) 242
def L7 P:=pt (L6 P) [(3,Lh P),(12,Kr)] [b7 P,o9,Jh P,b7 P,Nk,JN,IK,O3,b7 P,b8 P,Qm,NP,HZ,b7 P,b8 P,Kg,b7 P,O7,K6,O0,b7 P,b8 P,KZ,b7 P,PF,JT,PU,b7 P,b8 P,J0,b7 P,P7,Oc,OC,b7 P,b8 P,Ly,b7 P,Le,Om,Py,MG,Pk P,OK,Ki,Ol,Oy,IQ,b7 P,b8 P,Qw,b7 P,LM,NB,Og]
def Mz P:=di 41 (en P "__name__" 165 (st "dialvault.rungs" 541)::(gl P).take 40)
def Ks:=fi [1,0,20,5,0,27,9,0,47,16,0,73,23,0,99,30,0,125,34,0,144,39,0,163,41,0,168,45,0,175,56,0,182,61,0,187,70,0,194,91,0,242,93,0,249,101,0,256,107,0,263,116,0,268,118,0,275,120,0,280,125,0,287,129,0,292,131,0,299,134,0,306,136,0,313,139,0,320]
def Pj:=tu [st "sizes" 489,st "dial" 490,st "size" 491]
def My:=ft "need_sizes" "need_sizes" (tp 23)
def M0:=co "need_sizes" "need_sizes" 486 93 1 244 245 246 247 248 492
def Qj:=fo "need_sizes" "need_sizes" (tp 23) .none (st "dialvault.vault" 405) 249
def LR:=tu [st "levers" 498,st "dials" 499,st "place" 500,st "lever" 501]
def MX:=ft "need_levers" "need_levers" (tp 24)
def Oh:=co "need_levers" "need_levers" 495 101 2 251 252 253 254 255 502
def O2:=fo "need_levers" "need_levers" (tp 24) .none (st "dialvault.vault" 405) 256
def IM:=tu [st "levers" 508,st "prices" 509,st "place" 510]
def Mp:=ft "prices_for" "prices_for" (tp 25)
def Pp:=co "prices_for" "prices_for" 505 107 2 258 259 260 261 262 511
def Pf:=fo "prices_for" "prices_for" (tp 25) .none (st "dialvault.vault" 405) 263
def Jd:=ft "rests" "rests" (tp 26)
def N8:Obj:=⟨.type "code", none,(.fields ⟨[st "rests" 514,st "rests" 515,st "/claim/cut.py" 516,.int 116 0,.int 2 0,.int 0 0,.int 0 0,.int 3 0,.ref 265,.bool true,.int 181 0,.ref 266,.none,.none,.none,.ref 267,.int 517 0,.int 116 0,st "/claim/cut.py" 518]⟩),⟨[]⟩⟩
def Nf:=fo "rests" "rests" (tp 26) .none (st "dialvault.vault" 405) 268
def Iu:=tu [st "vault" 523]
def KY:=ft "nought" "nought" (tp 27)
def Na:=co "nought" "nought" 520 118 1 270 271 272 273 274 524
def Jf:=fo "nought" "nought" (tp 27) .none (st "dialvault.vault" 405) 275
def J9:=ft "is_setting" "is_setting" (tp 28)
def MT:Obj:=⟨.type "code", none,(.fields ⟨[st "is_setting" 527,st "is_setting" 528,st "/claim/cut.py" 529,.int 120 0,.int 2 0,.int 0 0,.int 0 0,.int 3 0,.ref 277,.bool true,.int 181 0,.ref 278,.none,.none,.none,.ref 279,.int 530 0,.int 120 0,st "/claim/cut.py" 531]⟩),⟨[]⟩⟩
def JG:=fo "is_setting" "is_setting" (tp 28) .none (st "dialvault.vault" 405) 280
def MI:=tu [st "vault" 536,st "thing" 537]
def PH:=ft "need_setting" "need_setting" (tp 29)
def Ky:=co "need_setting" "need_setting" 533 125 2 282 283 284 285 286 538
def NH:=fo "need_setting" "need_setting" (tp 29) .none (st "dialvault.vault" 405) 287
def Mw:=ft "mixed" "mixed" (tp 31)
def IJ:Obj:=⟨.type "code", none,(.fields ⟨[st "mixed" 543,st "mixed" 544,st "/claim/cut.py" 545,.int 129 0,.int 4 0,.int 0 0,.int 0 0,.int 3 0,.ref 289,.bool true,.int 181 0,.ref 290,.none,.none,.none,.ref 291,.int 546 0,.int 129 0,st "/claim/cut.py" 547]⟩),⟨[]⟩⟩
def Lw:=fo "mixed" "mixed" (tp 31) .none (st "dialvault.rungs" 541) 292
def Kz:=tu [st "sizes" 552,st "made" 553,st "times" 554,st "other" 555,st "others" 556,st "doing" 557]
def J7:=ft "mixed_made" "mixed_made" (tp 32)
def OQ:=co "mixed_made" "mixed_made" 549 131 5 294 295 296 297 298 558
def NF:=fo "mixed_made" "mixed_made" (tp 32) .none (st "dialvault.rungs" 541) 299
def O4:=tu [st "vault" 564,st "setting" 565]
def IU:=ft "unpulled" "unpulled" (tp 33)
def OE:=co "unpulled" "unpulled" 561 134 2 301 302 303 304 305 566
def Nq:=fo "unpulled" "unpulled" (tp 33) .none (st "dialvault.rungs" 541) 306
def N7:=tu [st "vault" 572,st "lever" 573,st "levers" 574]
def Ob:=ft "pulled_once" "pulled_once" (tp 34)
def KD:=co "pulled_once" "pulled_once" 569 136 2 308 309 310 311 312 575
def Oa:=fo "pulled_once" "pulled_once" (tp 34) .none (st "dialvault.rungs" 541) 313
def Qy:=tu [st "sizes" 581,st "made_rows" 582,st "dial" 583,st "notch" 584]
def Qe:=ft "step_size" "step_size" (tp 35)
def Js:=co "step_size" "step_size" 578 139 3 315 316 317 318 319 585
def Lq:=fo "step_size" "step_size" (tp 35) .none (st "dialvault.rungs" 541) 320
def L8 P:=pt (L7 P) [(3,Mz P),(12,Ks)] [b7 P,b8 P,Pj,b7 P,My,M0,Qj,b7 P,b8 P,LR,b7 P,MX,Oh,O2,b7 P,b8 P,IM,b7 P,Mp,Pp,Pf,b7 P,b8 P,Jd,N8,Nf,b7 P,b8 P,Iu,b7 P,KY,Na,Jf,b7 P,b8 P,J9,MT,JG,b7 P,b8 P,MI,b7 P,PH,Ky,NH,b7 P,b8 P,Mw,IJ,Lw,b7 P,b8 P,Kz,b7 P,J7,OQ,NF,b7 P,b8 P,O4,b7 P,IU,OE,Nq,b7 P,b8 P,N7,b7 P,Ob,KD,Oa,b7 P,b8 P,Qy,b7 P,Qe,Js,Lq]
def MQ P:=di 44 (en P "__name__" 165 (st "dialvault.rungs" 541)::(gl P).take 43)
def MR:=fi [1,0,20,5,0,27,9,0,47,16,0,73,23,0,99,30,0,125,34,0,144,39,0,163,41,0,168,45,0,175,56,0,182,61,0,187,70,0,194,91,0,242,93,0,249,101,0,256,107,0,263,116,0,268,118,0,275,120,0,280,125,0,287,129,0,292,131,0,299,134,0,306,136,0,313,139,0,320,142,0,327,151,0,334,156,0,341]
def Mb:=tu [st "sizes" 591,st "made_rows" 592,st "left" 593,st "wider" 594,st "dial" 595,st "made" 596,st "step" 597,st "notch" 598,st "found" 599]
def M1:=ft "taken_in" "taken_in" (tp 36)
def M3:=co "taken_in" "taken_in" 588 142 3 322 323 324 325 326 600
def Nt:=fo "taken_in" "taken_in" (tp 36) .none (st "dialvault.rungs" 541) 327
def Mt:=tu [st "sizes" 606,st "made_rows" 607,st "made" 608,st "first" 609,st "dial" 610,st "times" 611]
def N_:=ft "lowered" "lowered" (tp 37)
def Jw:=co "lowered" "lowered" 603 151 4 329 330 331 332 333 612
def LC:=fo "lowered" "lowered" (tp 37) .none (st "dialvault.rungs" 541) 334
def Mx:=tu [st "pulls" 618,st "idle_rows" 619,st "lever" 620,st "row" 621]
def Ii:=ft "in_spans" "in_spans" (tp 38)
def MA:=co "in_spans" "in_spans" 615 156 2 336 337 338 339 340 622
def LX:=fo "in_spans" "in_spans" (tp 38) .none (st "dialvault.rungs" 541) 341
def L9 P:=pt (L8 P) [(3,MQ P),(12,MR)] [b7 P,b8 P,Mb,b7 P,M1,M3,Nt,b7 P,b8 P,Mt,b7 P,N_,Jw,LC,b7 P,b8 P,Mx,b7 P,Ii,MA,LX]
def KW P:=di 45 (en P "__name__" 165 (st "dialvault.rungs" 541)::(gl P).take 44)
def Ni:=fi [1,0,20,5,0,27,9,0,47,16,0,73,23,0,99,30,0,125,34,0,144,39,0,163,41,0,168,45,0,175,56,0,182,61,0,187,70,0,194,91,0,242,93,0,249,101,0,256,107,0,263,116,0,268,118,0,275,120,0,280,125,0,287,129,0,292,131,0,299,134,0,306,136,0,313,139,0,320,142,0,327,151,0,334,156,0,341,161,0,348]
def JV P:=di 13 [en P "__module__" 632 (st "dialvault.rungs" 541),en P "__qualname__" 634 (st "Rungs" 633),en P "__firstlineno__" 636 (.int 161 635),en P "__init__" 642 (.ref 354),en P "steps" 649 (.ref 361),en P "rows" 656 (.ref 368),en P "spans" 663 (.ref 375),en P "idle" 670 (.ref 382),en P "brought_down" 678 (.ref 389),en P "least" 686 (.ref 396),en P "pulls_to" 692 (.ref 401),en P "weights_at" 700 (.ref 408),en P "__static_attributes__" 704 (.ref 409)]
def Kl:=fi [163,4,353,175,4,360,178,4,367,181,4,374,184,4,381,187,4,388,191,4,395,194,4,400,200,4,407]
def N4:=cc "Rungs" 627 161 346 347 630
def Jx:=fr 348 345 "dialvault.rungs" 541
def Nl:=ft "__init__" "Rungs.__init__" (mp 39 0)
def JZ:Obj:=⟨.type "code", none,(.fields ⟨[st "__init__" 637,st "Rungs.__init__" 638,st "/claim/cut.py" 639,.int 163 0,.int 2 0,.int 0 0,.int 0 0,.int 3 0,.ref 350,.bool true,.int 181 0,.ref 351,.none,.none,.none,.ref 352,.int 640 0,.int 163 0,st "/claim/cut.py" 641]⟩),⟨[]⟩⟩
def Qc:=fo "__init__" "Rungs.__init__" (mp 39 0) .none (st "dialvault.rungs" 541) 353
def NC:=tu [st "self" 646]
def Mh:=ft "steps" "Rungs.steps" (mp 39 1)
def Mf:=co "steps" "Rungs.steps" 643 175 1 355 356 357 358 359 647
def PC:=fo "steps" "Rungs.steps" (mp 39 1) .none (st "dialvault.rungs" 541) 360
def Mi:=tu [st "self" 653]
def K7:=ft "rows" "Rungs.rows" (mp 39 2)
def MB:=co "rows" "Rungs.rows" 650 178 1 362 363 364 365 366 654
def M5:=fo "rows" "Rungs.rows" (mp 39 2) .none (st "dialvault.rungs" 541) 367
def NS:=tu [st "self" 660]
def MO:=ft "spans" "Rungs.spans" (mp 39 3)
def HV:=co "spans" "Rungs.spans" 657 181 1 369 370 371 372 373 661
def Ie:=fo "spans" "Rungs.spans" (mp 39 3) .none (st "dialvault.rungs" 541) 374
def Ma:=tu [st "self" 667]
def I0:=ft "idle" "Rungs.idle" (mp 39 4)
def Iy:=co "idle" "Rungs.idle" 664 184 1 376 377 378 379 380 668
def LO:=fo "idle" "Rungs.idle" (mp 39 4) .none (st "dialvault.rungs" 541) 381
def Ja:=tu [st "self" 674,st "setting" 675]
def Me:=ft "brought_down" "Rungs.brought_down" (mp 39 5)
def NA:=co "brought_down" "Rungs.brought_down" 671 187 2 383 384 385 386 387 676
def Kk:=fo "brought_down" "Rungs.brought_down" (mp 39 5) .none (st "dialvault.rungs" 541) 388
def QA:=tu [st "self" 682,st "setting" 683]
def NT:=ft "least" "Rungs.least" (mp 39 6)
def NI:=co "least" "Rungs.least" 679 191 2 390 391 392 393 394 684
def OD:=fo "least" "Rungs.least" (mp 39 6) .none (st "dialvault.rungs" 541) 395
def IX:=ft "pulls_to" "Rungs.pulls_to" (mp 39 7)
def JF:Obj:=⟨.type "code", none,(.fields ⟨[st "pulls_to" 687,st "Rungs.pulls_to" 688,st "/claim/cut.py" 689,.int 194 0,.int 2 0,.int 0 0,.int 0 0,.int 3 0,.ref 397,.bool true,.int 181 0,.ref 398,.none,.none,.none,.ref 399,.int 690 0,.int 194 0,st "/claim/cut.py" 691]⟩),⟨[]⟩⟩
def NX:=fo "pulls_to" "Rungs.pulls_to" (mp 39 7) .none (st "dialvault.rungs" 541) 400
def Lk:=tu [st "self" 696,st "dial" 697]
def Oj:=ft "weights_at" "Rungs.weights_at" (mp 39 8)
def MF:=co "weights_at" "Rungs.weights_at" 693 200 2 402 403 404 405 406 698
def HX:=fo "weights_at" "Rungs.weights_at" (mp 39 8) .none (st "dialvault.rungs" 541) 407
def OF:=tu [st "idle_rows" 701,st "made_rows" 702,st "vault" 703]
def NU P:=di 4 [en P "__module__" 632 (st "dialvault.rungs" 541),en P "__firstlineno__" 636 (.int 161 635),en P "__init__" 642 (.ref 354),en P "steps" 649 (.ref 361),en P "rows" 656 (.ref 368),en P "spans" 663 (.ref 375),en P "idle" 670 (.ref 382),en P "brought_down" 678 (.ref 389),en P "least" 686 (.ref 396),en P "pulls_to" 692 (.ref 401),en P "weights_at" 700 (.ref 408),en P "__static_attributes__" 704 (.ref 409),en P "__dict__" 706 (.ref 412),en P "__weakref__" 708 (.ref 413),en P "__doc__" 709 .none]
def QC:=cl "Rungs" [.type "object"] [.ref 411,.type "object"] 410 [] [none,none,some (st "Rungs" 625),some (st "Rungs" 633),some (.builtin "object.__new__"),some (.bool true)]
def K8:Obj:=⟨.type "getset_descriptor", none,(.fields ⟨[st "__dict__" 705,.ref 411,.builtin "function.__dict__", .builtin "function.__dict__#set"]⟩),⟨[]⟩⟩
def N6:Obj:=⟨.type "getset_descriptor", none,(.fields ⟨[st "__weakref__" 707,.ref 411,.builtin "ExceptionGroup.__weakref__", .none]⟩),⟨[]⟩⟩
def Ng:=su 411
def Je:=ii 411
def Ot P:=pt (L9 P) [(3,KW P),(12,Ni)] [b7 P,o9,JV P,b7 P,Kl,N4,Jx,b7 P,b8 P,Nl,JZ,Qc,b7 P,b8 P,NC,b7 P,Mh,Mf,PC,b7 P,b8 P,Mi,b7 P,K7,MB,M5,b7 P,b8 P,NS,b7 P,MO,HV,Ie,b7 P,b8 P,Ma,b7 P,I0,Iy,LO,b7 P,b8 P,Ja,b7 P,Me,NA,Kk,b7 P,b8 P,QA,b7 P,NT,NI,OD,b7 P,b8 P,IX,JF,NX,b7 P,b8 P,Lk,b7 P,Oj,MF,HX,OF,NU P,QC,K8,N6,Ng,Je]
def JP P:=di 57 (en P "__name__" 165 (st "law_dialvault_k26_every_idle_way" 712)::gl P)
def Pg:=fi [1,0,20,5,0,27,9,0,47,16,0,73,23,0,99,30,0,125,34,0,144,39,0,163,41,0,168,45,0,175,56,0,182,61,0,187,70,0,194,91,0,242,93,0,249,101,0,256,107,0,263,116,0,268,118,0,275,120,0,280,125,0,287,129,0,292,131,0,299,134,0,306,136,0,313,139,0,320,142,0,327,151,0,334,156,0,341,161,0,348,203,0,421,207,0,428,214,0,435,221,0,440,232,0,447,234,0,454,245,0,461,254,0,466,256,0,473,261,0,478,268,0,483,276,0,488]
def Ku:=tu [st "_law_script" 717,st "_law_k" 718]
def H0:=ft "_law_cell" "_law_cell" (tp 41)
def K9:=co "_law_cell" "_law_cell" 714 203 2 416 417 418 419 420 719
def OS:=fo "_law_cell" "_law_cell" (tp 41) .none (st "law_dialvault_k26_every_idle_way" 712) 421
def O9:=tu [st "_law_cell_here" 725,st "_law_many" 726,st "_law_found" 727,st "_law_number" 728,st "_law_k" 729]
def PD:=ft "_law_stream" "_law_stream" (tp 42)
def Qb:=co "_law_stream" "_law_stream" 722 207 2 423 424 425 426 427 730
def Jz:=fo "_law_stream" "_law_stream" (tp 42) .none (st "law_dialvault_k26_every_idle_way" 712) 428
def La:=tu [st "_law_cell_here" 736,st "_law_bases" 737,st "_law_found" 738,st "_law_left" 739,st "_law_base" 740]
def Iz:=ft "_law_digits" "_law_digits" (tp 43)
def O_:=co "_law_digits" "_law_digits" 733 214 2 430 431 432 433 434 741
def Lf:=fo "_law_digits" "_law_digits" (tp 43) .none (st "law_dialvault_k26_every_idle_way" 712) 435
def Lu:=ft "_law_sizes" "_law_sizes" (tp 44)
def OA:Obj:=⟨.type "code", none,(.fields ⟨[st "_law_sizes" 744,st "_law_sizes" 745,st "/claim/cut.py" 746,.int 221 0,.int 1 0,.int 0 0,.int 0 0,.int 3 0,.ref 437,.bool true,.int 181 0,.ref 438,.none,.none,.none,.ref 439,.int 747 0,.int 221 0,st "/claim/cut.py" 748]⟩),⟨[]⟩⟩
def LS:=fo "_law_sizes" "_law_sizes" (tp 44) .none (st "law_dialvault_k26_every_idle_way" 712) 440
def Mu:=tu [st "_law_number" 753]
def Pd:=ft "_law_great" "_law_great" (tp 45)
def P6:=co "_law_great" "_law_great" 750 232 1 442 443 444 445 446 754
def Jo:=fo "_law_great" "_law_great" (tp 45) .none (st "law_dialvault_k26_every_idle_way" 712) 447
def PL:=tu [st "_law_cell_here" 760,st "_law_sizes_here" 761,st "_law_row" 762,st "_law_number" 763,st "_law_size" 764,st "_law_share" 765]
def NV:=ft "_law_lever" "_law_lever" (tp 46)
def Qg:=co "_law_lever" "_law_lever" 757 234 2 449 450 451 452 453 766
def MP:=fo "_law_lever" "_law_lever" (tp 46) .none (st "law_dialvault_k26_every_idle_way" 712) 454
def HS:=tu [st "_law_script" 772,st "_law_sizes_here" 773,st "_law_levers_here" 774,st "_law_k" 775,st "_law_cell_here" 776]
def N5:=ft "_law_levers" "_law_levers" (tp 47)
def Nx:=co "_law_levers" "_law_levers" 769 245 2 456 457 458 459 460 777
def LV:=fo "_law_levers" "_law_levers" (tp 47) .none (st "law_dialvault_k26_every_idle_way" 712) 461
def Qr:=ft "_law_added" "_law_added" (tp 48)
def Jl:Obj:=⟨.type "code", none,(.fields ⟨[st "_law_added" 780,st "_law_added" 781,st "/claim/cut.py" 782,.int 254 0,.int 4 0,.int 0 0,.int 0 0,.int 3 0,.ref 463,.bool true,.int 181 0,.ref 464,.none,.none,.none,.ref 465,.int 783 0,.int 254 0,st "/claim/cut.py" 784]⟩),⟨[]⟩⟩
def K4:=fo "_law_added" "_law_added" (tp 48) .none (st "law_dialvault_k26_every_idle_way" 712) 466
def Ov:=tu [st "_law_sizes_here" 789,st "_law_levers_here" 790,st "_law_setting" 791,st "_law_pulls_here" 792,st "_law_found" 793,st "_law_row" 794,st "_law_times" 795]
def M6:=ft "_law_turned" "_law_turned" (tp 49)
def IW:=co "_law_turned" "_law_turned" 786 256 4 468 469 470 471 472 796
def Ke:=fo "_law_turned" "_law_turned" (tp 49) .none (st "law_dialvault_k26_every_idle_way" 712) 473
def NR:=ft "_law_pulls" "_law_pulls" (tp 50)
def Oz:Obj:=⟨.type "code", none,(.fields ⟨[st "_law_pulls" 799,st "_law_pulls" 800,st "/claim/cut.py" 801,.int 261 0,.int 2 0,.int 0 0,.int 0 0,.int 3 0,.ref 475,.bool true,.int 181 0,.ref 476,.none,.none,.none,.ref 477,.int 802 0,.int 261 0,st "/claim/cut.py" 803]⟩),⟨[]⟩⟩
def MD:=fo "_law_pulls" "_law_pulls" (tp 50) .none (st "law_dialvault_k26_every_idle_way" 712) 478
def Nj:=ft "_law_brought_down" "_law_brought_down" (tp 51)
def JC:Obj:=⟨.type "code", none,(.fields ⟨[st "_law_brought_down" 805,st "_law_brought_down" 806,st "/claim/cut.py" 807,.int 268 0,.int 2 0,.int 0 0,.int 0 0,.int 3 0,.ref 480,.bool true,.int 181 0,.ref 481,.none,.none,.none,.ref 482,.int 808 0,.int 268 0,st "/claim/cut.py" 809]⟩),⟨[]⟩⟩
def IE:=fo "_law_brought_down" "_law_brought_down" (tp 51) .none (st "law_dialvault_k26_every_idle_way" 712) 483
def Pa:=ft "law" "law" (tp 52)
def N1:Obj:=⟨.type "code", none,(.fields ⟨[st "law" 811,st "law" 812,st "/claim/cut.py" 813,.int 276 0,.int 1 0,.int 0 0,.int 0 0,.int 3 0,.ref 485,.bool true,.int 181 0,.ref 486,.none,.none,.none,.ref 487,.int 814 0,.int 276 0,st "/claim/cut.py" 815]⟩),⟨[]⟩⟩
def Li:=fo "law" "law" (tp 52) .none (st "law_dialvault_k26_every_idle_way" 712) 488
def IT P:=pt (Ot P) [(3,JP P),(12,Pg)] [b7 P,b8 P,Ku,b7 P,H0,K9,OS,b7 P,b8 P,O9,b7 P,PD,Qb,Jz,b7 P,b8 P,La,b7 P,Iz,O_,Lf,b7 P,b8 P,Lu,OA,LS,b7 P,b8 P,Mu,b7 P,Pd,P6,Jo,b7 P,b8 P,PL,b7 P,NV,Qg,MP,b7 P,b8 P,HS,b7 P,N5,Nx,LV,b7 P,b8 P,Qr,Jl,K4,b7 P,b8 P,Ov,b7 P,M6,IW,Ke,b7 P,b8 P,NR,Oz,MD,b7 P,b8 P,Nj,JC,IE,b7 P,b8 P,Pa,N1,Li]
def LF (P:Params):=IT P
def bE:List Stmt:=behindTheImports pw
def env:Env:={ scope:=pw.main.scope,locals:=mainNs,globals:=mainNs,cells:=[],code:=.ref 13,frame:=some 14 }
def cE:Code:=.body bE env
abbrev B:List Frame:=[topFrame ⟨0,0,0,0⟩]
abbrev ann:Option Value:=(some (.ref 6))
def Fj:List Stmt:=(bE.drop 0).take 3
def D9:List Stmt:=(bE.drop 3).take 1
def El:List Stmt:=(bE.drop 4).take 1
def DP:List Stmt:=(bE.drop 5).take 1
def DI:List Stmt:=(bE.drop 6).take 1
def Fb:List Stmt:=(bE.drop 7).take 7
def D_:List Stmt:=(bE.drop 14).take 7
def Eh:List Stmt:=(bE.drop 21).take 2
def E4:List Stmt:=(bE.drop 23).take 13
def FG:List Stmt:=(bE.drop 36).take 3
def A8:List Stmt:=(bE.drop 39).take 1
def Af:List Stmt:=(bE.drop 40).take 13
end
theorem xx:∀ w:World,(fun os=>topGo treeTable pw w 11 ann 12 ⟨boot_heap w.params,⟨[]⟩,boot_drawn,boot_toks,os⟩ (topStub pw))=fun os=>some (F LA 187 w os,⟨denote treeTable cE,cE,⟨0,0,0,0⟩,B⟩):=fun w=>by
 rw [PySem.W.Fast.te15667345088766844465,PySem.W.Fast.te14364793385576792824,PySem.W.Fast.te11892475500146522536]
 kernel_rfl
theorem Pq:∀ w:World,(fun os=>segRun treeTable pw w 11 ann 1 1 (F LA 187 w os) (blockOf bE env cE ⟨0,0,0,0⟩ B))=fun os=>some (Flow.next,(S LA 15 187 w os).abs,cE,⟨0,0,0,0⟩):=fun w=>by
 rw [PySem.W.Fast.te14374325043358763698,PySem.W.Fast.te14364793385576792824]
 kernel_rfl
theorem RJ:∀ w:World,(fun os=>segRunT treeTable pw w 11 ann 1 255 (S LA 15 187 w os) (piecesOf Fj env cE ⟨0,0,0,0⟩ B))=fun os=>some (Flow.next,S L0 42 221 w os,cE,⟨5,0,8,16⟩):=fun w=>by
 rw [PySem.W.Fast.te10110043849684766642,PySem.W.Fast.te14364793385576792824]
 kernel_rfl
theorem SN:∀ w:World,(fun os=>segRunT treeTable pw w 11 ann 1 277 (S L0 42 221 w os) (piecesOf D9 env cE ⟨5,0,8,16⟩ B))=fun os=>some (Flow.next,S L1 68 253 w os,cE,⟨9,0,15,16⟩):=fun w=>by
 rw [PySem.W.Fast.te10110043849684766642,PySem.W.Fast.te14364793385576792824]
 kernel_rfl
theorem Bu:∀ w:World,(fun os=>segRunT treeTable pw w 11 ann 1 277 (S L1 68 253 w os) (piecesOf El env cE ⟨9,0,15,16⟩ B))=fun os=>some (Flow.next,S L2 94 285 w os,cE,⟨16,0,22,16⟩):=fun w=>by
 rw [PySem.W.Fast.te10110043849684766642,PySem.W.Fast.te14364793385576792824]
 kernel_rfl
theorem SD:∀ w:World,(fun os=>segRunT treeTable pw w 11 ann 1 277 (S L2 94 285 w os) (piecesOf DP env cE ⟨16,0,22,16⟩ B))=fun os=>some (Flow.next,S L3 120 317 w os,cE,⟨23,0,29,16⟩):=fun w=>by
 rw [PySem.W.Fast.te10110043849684766642,PySem.W.Fast.te14364793385576792824]
 kernel_rfl
theorem Rm:∀ w:World,(fun os=>segRunT treeTable pw w 11 ann 1 244 (S L3 120 317 w os) (piecesOf DI env cE ⟨23,0,29,16⟩ B))=fun os=>some (Flow.next,S L4 139 340 w os,cE,⟨30,0,33,16⟩):=fun w=>by
 rw [PySem.W.Fast.te10110043849684766642,PySem.W.Fast.te14364793385576792824]
 kernel_rfl
theorem Ul:∀ w:World,(fun os=>segRunT treeTable pw w 11 ann 1 399 (S L4 139 340 w os) (piecesOf Fb env cE ⟨30,0,33,16⟩ B))=fun os=>some (Flow.next,S L5 189 405 w os,cE,⟨61,0,62,73⟩):=fun w=>by
 rw [PySem.W.Fast.te10110043849684766642,PySem.W.Fast.te14364793385576792824]
 kernel_rfl
theorem R5:∀ w:World,(fun os=>segRunT treeTable pw w 11 ann 1 64 (S L5 189 405 w os) (piecesOf D_ env cE ⟨61,0,62,73⟩ B))=fun os=>some (Flow.next,S L6 189 419 w os,cE,⟨69,0,69,10⟩):=fun w=>by
 rw [PySem.W.Fast.te10110043849684766642,PySem.W.Fast.te14364793385576792824]
 kernel_rfl
theorem Te:∀ w:World,(fun os=>segRunT treeTable pw w 11 ann 1 378 (S L6 189 419 w os) (piecesOf Eh env cE ⟨69,0,69,10⟩ B))=fun os=>some (Flow.next,S L7 244 486 w os,cE,⟨91,0,92,53⟩):=fun w=>by
 rw [PySem.W.Fast.te10110043849684766642,PySem.W.Fast.te14364793385576792824]
 kernel_rfl
theorem Ss:∀ w:World,(fun os=>segRunT treeTable pw w 11 ann 1 368 (S L7 244 486 w os) (piecesOf E4 env cE ⟨91,0,92,53⟩ B))=fun os=>some (Flow.next,S L8 322 588 w os,cE,⟨139,0,141,47⟩):=fun w=>by
 rw [PySem.W.Fast.te10110043849684766642,PySem.W.Fast.te14364793385576792824]
 kernel_rfl
theorem SU:∀ w:World,(fun os=>segRunT treeTable pw w 11 ann 1 104 (S L8 322 588 w os) (piecesOf FG env cE ⟨139,0,141,47⟩ B))=fun os=>some (Flow.next,S L9 343 625 w os,cE,⟨156,0,160,16⟩):=fun w=>by
 rw [PySem.W.Fast.te10110043849684766642,PySem.W.Fast.te14364793385576792824]
 kernel_rfl
theorem MH:∀ w:World,(fun os=>segRunT treeTable pw w 11 ann 1 469 (S L9 343 625 w os) (piecesOf A8 env cE ⟨156,0,160,16⟩ B))=fun os=>some (Flow.next,S Ot 416 712 w os,cE,⟨161,0,201,17⟩):=fun w=>by
 rw [PySem.W.Fast.te10110043849684766642,PySem.W.Fast.te14364793385576792824]
 kernel_rfl
theorem M7:∀ w:World,(fun os=>segRunT treeTable pw w 11 ann 1 367 (S Ot 416 712 w os) (piecesOf Af env cE ⟨161,0,201,17⟩ B))=fun os=>some (Flow.next,S IT 490 817 w os,cE,⟨276,0,297,41⟩):=fun w=>by
 rw [PySem.W.Fast.te10110043849684766642,PySem.W.Fast.te14364793385576792824]
 kernel_rfl
theorem EG:∀ w:World,(fun os=>topRun treeTable pw w 11 ann 2 (S IT 490 817 w os).abs ⟨doneF .next,cE,⟨276,0,297,41⟩,B⟩)=fun os=>some (F LF 817 w os):=fun w=>by
 rw [PySem.W.Fast.te14082659384304107361,PySem.W.Fast.te14364793385576792824]
 kernel_rfl
theorem S8:bE=(Fj++(D9++(El++(DP++(DI++(Fb++(D_++(Eh++(E4++(FG++(A8++(Af++[])))))))))))):=by kernel_rfl
theorem zS (w:World) (os:OsState):topRun treeTable pw w 11 ann (255+(277+(277+(277+(244+(399+(64+(378+(368+(104+(469+(367+2)))))))))))) (S LA 15 187 w os).abs (restOf bE env cE ⟨0,0,0,0⟩ B)=some (F LF 817 w os):=by
 rw [show restOf bE env cE ⟨0,0,0,0⟩ B=restOf (Fj++(D9++(El++(DP++(DI++(Fb++(D_++(Eh++(E4++(FG++(A8++(Af++[])))))))))))) env cE ⟨0,0,0,0⟩ B from congrArg (fun b=>restOf b env cE ⟨0,0,0,0⟩ B) S8]
 exact piece_app (segRun_of (congrFun (RJ w) os)) (piece_app (segRun_of (congrFun (SN w) os)) (piece_app (segRun_of (congrFun (Bu w) os)) (piece_app (segRun_of (congrFun (SD w) os)) (piece_app (segRun_of (congrFun (Rm w) os)) (piece_app (segRun_of (congrFun (Ul w) os)) (piece_app (segRun_of (congrFun (R5 w) os)) (piece_app (segRun_of (congrFun (Te w) os)) (piece_app (segRun_of (congrFun (Ss w) os)) (piece_app (segRun_of (congrFun (SU w) os)) (piece_app (segRun_of (congrFun (MH w) os)) (piece_app (segRun_of (congrFun (M7 w) os)) (piece_nil (congrFun (EG w) os)))))))))))))
theorem Nv (w:World) (os:OsState):topRun treeTable pw w 11 ann (12+(1+(255+(277+(277+(277+(244+(399+(64+(378+(368+(104+(469+(367+2)))))))))))))) ⟨boot_heap w.params,⟨[]⟩,boot_drawn,boot_toks,os⟩ (topStub pw)=some (F LF 817 w os) :=
 go_top (congrFun (xx w) os) (piece_block (congrFun (Pq w) os) (zS w os))
end HD
namespace HD
open PySem PySem.W L2
noncomputable section
def vw:Program:=PySem.W.view pw [0,2,3,4,5,6,7,9,10,11,12,13,15,16,17,18,19,20,21,22,23,24,25,26,27,28,29,31,32,33,34,35,36,37,38,39,41,42,43,44,45,46,47,48,49,50,51,52]
def loose:List Str:=[]
def as:List Addr:=[2,3,15,17,18,20,21,22,29,31,32,34,35,36,37,38,39,42,49,51,52,54,55,56,58,59,61,62,63,64,65,68,75,77,78,80,81,82,84,85,87,88,89,90,91,94,101,103,104,106,107,108,110,111,113,114,115,116,117,120,127,129,130,132,133,134,135,136,139,146,148,149,151,152,153,154,155,158,160,161,163,164,165,168,169,170,172,173,175,176,177,179,180,182,183,184,187,188,196,197,200,201,202,204,205,207,208,209,211,212,214,215,216,218,219,221,222,223,225,226,228,229,230,231,232,233,234,237,239,240,242,243,244,246,247,249,250,251,253,254,256,257,258,260,261,263,264,265,268,269,270,272,273,275,276,277,280,281,282,284,285,287,288,289,292,293,294,296,297,299,300,301,303,304,306,307,308,310,311,313,314,315,317,318,320,321,322,324,325,327,328,329,331,332,334,335,336,338,339,341,342,350,353,354,355,357,358,360,361,362,364,365,367,368,369,371,372,374,375,376,378,379,381,382,383,385,386,388,389,390,392,393,395,396,397,400,401,402,404,405,407,408,409,410,411,412,413,416,418,419,421,422,423,425,426,428,429,430,432,433,435,436,437,440,441,442,444,445,447,448,449,451,452,454,455,456,458,459,461,462,463,466,467,468,470,471,473,474,475,478,479,480,483,484,485,488,489]
def K (P:Params):Frag:=as.map fun a=>(a,(LF P).getD a o0)
def hook:Hook:=kHook K as (fun _=>by kernel_rfl)
abbrev rr:RowW:=(PySem.Challenge.rw_dialvault_k26_every_idle_way.row).toRowW
def Xt:Shared->Bool:=fun s=>xlAt vw [] s&&recOk (RowW.records rr) s
def H1 (P:Params):Heap:=⟨⟨LF P⟩,{}⟩
end
theorem FZ:∀ w:World,((boot_heap w.params).isNs mainGlobals&&(Array.mk []:Array GenState).size==0,(boot_heap w.params).objs.size,(boot_heap w.params).nsMap mainGlobals "__annotations__")=(true,11,ann):=fun w=>by
 rw [PySem.W.Fast.te8920871248978507458]
 kernel_rfl
theorem FO:∀ w:World,(fun os=>((staticsOk (importedModules pw.main.body) (boot_heap w.params) (H1 w.params)&&namesBound pw (H1 w.params)&&gensDone ⟨H1 w.params,⟨[]⟩,⟨0,0,0,0⟩,817,os⟩&&laidKept (boot_heap w.params) (H1 w.params)),
  openSeen vw loose (importedModules pw.main.body) Xt true ⟨H1 w.params,⟨[]⟩,⟨0,0,0,0⟩,817,os⟩,Hook.obs hook ⟨H1 w.params,⟨[]⟩,⟨0,0,0,0⟩,817,os⟩))=fun _=>(true,openGood vw loose,Hook.val hook w):=fun w=>by
 rw [PySem.W.Fast.te4187177175401517315,PySem.W.Fast.te5923862056798008813]
 kernel_rfl
theorem Gu:LeftO pw vw loose Xt (Hook.obs hook) (Hook.val hook) 7060 :=
 LeftO.of_pieces (H₀:=boot_heap) (H₁:=H1) (gs₀:=⟨[]⟩) (gs₁:=⟨[]⟩) (d₀:=boot_drawn) (d₁:=⟨0,0,0,0⟩) (k₀:=boot_toks) (k₁:=817) (m₀:=11) (ann:=ann) (M:=(12+(1+(255+(277+(277+(277+(244+(399+(64+(378+(368+(104+(469+(367+2)))))))))))))))
  (boot_open (by kernel_rfl) (by kernel_rfl) (fun s=>by kernel_rfl)) FZ Nv (by kernel_rfl) FO
end HD
open PySem PySem.W
theorem HD.said:PySem.Challenge.rw_dialvault_k26_every_idle_way.wellSaid=true:=by
 decide +kernel
namespace wB
open PySem L2 PyProof.Rows
def top (i:Nat):Stmt:=PySem.Challenge.pw_dialvault_k26_every_idle_way.main.body.getD i (.Pass ⟨0,0,0,0⟩)
def iG:Addr:=65
def iD:Addr:=91
def gO:Addr:=117
def jH:Addr:=136
def aG:Addr:=411
def j4:Addr:=155
def aM:Addr:=232
structure Txt (K:PySem.W.Frag) (mg:Str->Option Value):Prop where
 zR:mg "all" = none
 AU:mg "bool" = none
 dS:mg "enumerate" = none
 Di:mg "int" = none
 eD:mg "isinstance" = none
 cM:mg "len" = none
 mw:mg "list" = none
 Dv:mg "max" = none
 gC:mg "range" = none
 pq:mg "reversed" = none
 cR:mg "tuple" = none
 kY:mg "zip" = none
 iz:∃ u,mg "LEAST_PRICE" = some u/\RelV (.int 1) u
 k8:∃ u,mg "LEAST_SIZE" = some u/\RelV (.int 2) u
 lD:∃ u,mg "MOST_DIALS" = some u/\RelV (.int 6) u
 kD:∃ u,mg "MOST_LEVERS" = some u/\RelV (.int 8) u
 ly:∃ u,mg "MOST_PRICE" = some u/\RelV (.int 1000) u
 nh:∃ u,mg "MOST_SIZE" = some u/\RelV (.int 360) u
 nU:lM K aG
 lY:lM K aM
 m_:Co K mg jH "NoSetting"
 mz:Co K mg j4 "TooMany"
 h9:bT K aG "idle_rows"
 ic:bT K aG "made_rows"
 kI:bT K aG "vault"
 gR:bT K aM "dial_sizes"
 gc:bT K aM "least_round"
 fX:bT K aM "lever_prices"
 dX:bT K aM "lever_settings"
 lp:∀ C,(C==aM)=true->lM K C/\bT K C "dial_sizes"
 hZ:∀ C,(C==aG)=true->lM K C/\bT K C "idle_rows"
 pX:∀ C,(C==aM)=true->lM K C/\bT K C "least_round"
 jP:∀ C,(C==aM)=true->lM K C/\bT K C "lever_prices"
 iE:∀ C,(C==aM)=true->lM K C/\bT K C "lever_settings"
 m9:∀ C,(C==aG)=true->lM K C/\bT K C "made_rows"
 lF:∀ C,(C==aG)=true->lM K C/\bT K C "vault"
variable {P:Program} {w:World} {K:PySem.W.Frag} {mg:Str->Option Value} {base:Heap}
noncomputable def i5:ai->M Out :=
 (ay (retS (C7 (FJ (fun a=>qo a "int") vv vv (af 0)) (EE (FJ (fun a=>qo a "bool") vv vv (af 0)))))
 aB)
noncomputable def dj:List PV->M PV:=bL 1 (aF 1 i5)
theorem uL:aH ["thing"] ["thing"] (ak (top 9)):=⟨rfl,rfl,rfl,by decide +kernel,rfl,by decide +kernel,by decide +kernel⟩
theorem uM {f:Addr} {fd:FuncData} {dv:Value} (F:aQ K "is_whole" "is_whole" (top 9) dv f fd) (T:Txt K mg)  : aY P w K mg base (b_ P w) 1 f fd ["thing"] (f7 1 dj) :=
 F.iN uL fun cdv A outer s H E hr O =>
 by
 refine (ae ?_   aq)
 refine (aO ?_)
 refine (AH ?_ (AJ ?_))
 refine (we (T := "int") (by rfl) T.eD (lV (v:=.ty "int") (by rfl) T.Di Es rfl) (by decide) vd vd ?_)
 exact (vr 0)
 refine (Fi ?_)
 refine (we (T := "bool") (by rfl) T.eD (lV (v:=.ty "bool") (by rfl) T.AU CG rfl) (by decide) vd vd ?_)
 exact (vr 0)
noncomputable def jJ:ai->M Out :=
 (ay (mB (FX (sv (jh (FJ (fun a=>["list", "tuple"].any fun t=>qo a t) vv vv (af 0)))) (jh (av tD (au eW (ah (af 0) az)) (af 1)))) (ay (retS (fun _=>M.ok (.bl false)))
 aB) aB)
 (ay (retS (au vP (ah (ef (dR (itemsOf (af 0)) (da 0) none (au dj (ah (af 0) az)) 1 [])) az)))
 aB))
noncomputable def gQ:List PV->M PV:=bL 2 (aF 2 jJ)
theorem xU:aH ["thing", "length"] ["thing", "length"] (ak (top 10)):=⟨rfl,rfl,rfl,by decide +kernel,rfl,by decide +kernel,by decide +kernel⟩
theorem uD:((["number"]:List Str)++([]:List Str)).Nodup:=by decide +kernel
theorem ye {f:Addr} {fd:FuncData} {dv:Value} (F:aQ K "is_row" "is_row" (top 10) dv f fd) (T:Txt K mg) (o_is_whole:cI P w K mg base 1 "is_whole" 1 (aF 1 i5)):aY P w K mg base (b_ P w) 2 f fd ["thing", "length"] (f7 2 gQ) :=
 F.iN xU fun cdv A outer s H E hr O =>
 by
 refine (ae ?_   (ae ?_   aq))
 refine (cU ?_ ?_ ?_)
 refine (w_ ?_ (sD ?_)).pt
 refine (kW ?_)
 refine (kU ?_)
 refine (BD (Ts:=["list", "tuple"]) (by rfl) T.eD (zL (fF (lV (v:=.ty "list") (by rfl) T.mw kX rfl) (fF (lV (v:=.ty "tuple") (by rfl) T.cR cq rfl) kP))) (fun σ H R h=>⟨by show 2<=sizeLine;decide,h⟩) (by decide) vd ?_)
 exact (vr 0)
 refine (bQ (jB hr.units) mQ ?_ ?_ (bH _))
 refine (aU aS bP (by rfl) T.cM PySem.boot_len ?_)
 refine (aa ?_ ao (aj rfl))
 exact (vr 0)
 exact (vr 1)
 refine (ae ?_   aq)
 refine (aO ?_)
 exact qW
 exact aq
 refine (aO ?_)
 refine (aU (qJ rfl) yS (by rfl) T.zR Bb ?_)
 refine (aa ?_ ao (aj rfl))
 refine (eh (ck (g:=(aV 0)) (ts:=["number"]) (fs:=[]) (js:=[]) (cl:=[]) rfl rfl rfl rfl rfl rfl .nil .nil (gb ?_) dG (fun C s₀ H₀ ex pins=>(aL (i:=0) uD rfl (by first | exact .inl rfl | exact .inr rfl) (.inr rfl))) (fun _=>bM) cQ (fun C s₀ H₀ ex pins=>?_)))
 exact (vr 0)
 refine (o_is_whole.call hr (by omega) (by rfl) uT ?_)
 refine (aa ?_ ao (aj rfl))
 exact (vr 0)
noncomputable def jq:ai->M Out :=
 (ay (bA 2 (lQ (ah (af 0) (ah (fun _=>M.ok (.int 1)) (ah (fun _=>M.ok (.int 0)) az)))))
 (ay (bA 3 (lQ (ah (af 1) (ah (fun _=>M.ok (.int 0)) (ah (fun _=>M.ok (.int 1)) az)))))
 (ay (mL (jh (av tD (av aX (af 3) (fun _=>M.ok (.int 0))) (fun _=>M.ok (.int 0)))) (ay (bA 4 (av cD (av aX (af 2) (fun _=>M.ok (.int 0))) (av aX (af 3) (fun _=>M.ok (.int 0)))))
 (ay (bA 5 (lQ (ah (av g_ (av aX (af 2) (fun _=>M.ok (.int 0))) (av c_ (af 4) (av aX (af 3) (fun _=>M.ok (.int 0))))) (ah (av g_ (av aX (af 2) (fun _=>M.ok (.int 1))) (av c_ (af 4) (av aX (af 3) (fun _=>M.ok (.int 1))))) (ah (av g_ (av aX (af 2) (fun _=>M.ok (.int 2))) (av c_ (af 4) (av aX (af 3) (fun _=>M.ok (.int 2))))) az)))))
 (ay (bA 2 (af 3))
 (ay (bA 3 (af 5))
 aB)))))
 (ay (mB (jh (av Fe (av aX (af 2) (fun _=>M.ok (.int 0))) (fun _=>M.ok (.int 0)))) (ay (retS (lQ (ah (ny (av aX (af 2) (fun _=>M.ok (.int 0)))) (ah (ny (av aX (af 2) (fun _=>M.ok (.int 1)))) (ah (ny (av aX (af 2) (fun _=>M.ok (.int 2)))) az)))))
 aB) aB)
 (ay (retS (af 2))
 aB)))))
noncomputable def fS:List PV->M PV:=bL 2 (aF 6 jq)
theorem eY:aH ["one", "other", "row", "behind", "times", "rest"] ["one", "other"] (ak (top 11)):=⟨rfl,rfl,rfl,by decide +kernel,rfl,by decide +kernel,by decide +kernel⟩
theorem xJ {f:Addr} {fd:FuncData} {dv:Value} (F:aQ K "common" "common" (top 11) dv f fd) (T:Txt K mg)  : aY P w K mg base (b_ P w) 1 f fd ["one", "other"] (f7 2 fS) :=
 F.iN eY fun cdv A outer s H E hr O =>
 by
 refine (ae ?_   (ae ?_   (ae ?_   (ae ?_   (ae ?_   aq)))))
 refine (aR (i:=2) eY.nd rfl (by first | exact .inl rfl | exact .inr rfl) ?_)
 refine (gS ?_)
 refine (aa ?_ (aa ?_ (aa ?_ ao (aj rfl)) (aj rfl)) (aj rfl))
 exact (vr 0)
 exact ar
 exact ar
 refine (aR (i:=3) eY.nd rfl (by first | exact .inl rfl | exact .inr rfl) ?_)
 refine (gS ?_)
 refine (aa ?_ (aa ?_ (aa ?_ ao (aj rfl)) (aj rfl)) (aj rfl))
 exact (vr 1)
 exact ar
 exact ar
 refine (zv O ?_ ?_)
 refine (bQ (jB hr.units) mQ ?_ ?_ (bH _))
 refine (aN ?_ ?_ ?_)
 exact (vr 3)
 exact ar
 exact fun _ _=>rfl
 exact ar
 refine (ae ?_   (ae ?_   (ae ?_   (ae ?_   aq))))
 refine (aR (i:=4) eY.nd rfl (by first | exact .inl rfl | exact .inr rfl) ?_)
 refine (ax bh bg ?_ ?_)
 refine (aN ?_ ?_ ?_)
 exact (vr 2)
 exact ar
 exact fun _ _=>rfl
 refine (aN ?_ ?_ ?_)
 exact (vr 3)
 exact ar
 exact fun _ _=>rfl
 refine (aR (i:=5) eY.nd rfl (by first | exact .inl rfl | exact .inr rfl) ?_)
 refine (gS ?_)
 refine (aa ?_ (aa ?_ (aa ?_ ao (aj rfl)) (aj rfl)) (aj rfl))
 refine (ax eT fg ?_ ?_)
 refine (aN ?_ ?_ ?_)
 exact (vr 2)
 exact ar
 exact fun _ _=>rfl
 refine (ax bx bZ ?_ ?_)
 exact (vr 4)
 refine (aN ?_ ?_ ?_)
 exact (vr 3)
 exact ar
 exact fun _ _=>rfl
 refine (ax eT fg ?_ ?_)
 refine (aN ?_ ?_ ?_)
 exact (vr 2)
 exact ar
 exact fun _ _=>rfl
 refine (ax bx bZ ?_ ?_)
 exact (vr 4)
 refine (aN ?_ ?_ ?_)
 exact (vr 3)
 exact ar
 exact fun _ _=>rfl
 refine (ax eT fg ?_ ?_)
 refine (aN ?_ ?_ ?_)
 exact (vr 2)
 exact ar
 exact fun _ _=>rfl
 refine (ax bx bZ ?_ ?_)
 exact (vr 4)
 refine (aN ?_ ?_ ?_)
 exact (vr 3)
 exact ar
 exact fun _ _=>rfl
 refine (aR (i:=2) eY.nd rfl (by first | exact .inl rfl | exact .inr rfl) ?_)
 exact (vr 3)
 refine (aR (i:=3) eY.nd rfl (by first | exact .inl rfl | exact .inr rfl) ?_)
 exact (vr 5)
 refine (cU ?_ ?_ ?_)
 refine (bQ zF vK ?_ ?_ (bH _))
 refine (aN ?_ ?_ ?_)
 exact (vr 2)
 exact ar
 exact fun _ _=>rfl
 exact ar
 refine (ae ?_   aq)
 refine (aO ?_)
 refine (gS ?_)
 refine (aa ?_ (aa ?_ (aa ?_ ao (aj rfl)) (aj rfl)) (aj rfl))
 refine (i0 ?_)
 refine (aN ?_ ?_ ?_)
 exact (vr 2)
 exact ar
 exact fun _ _=>rfl
 refine (i0 ?_)
 refine (aN ?_ ?_ ?_)
 exact (vr 2)
 exact ar
 exact fun _ _=>rfl
 refine (i0 ?_)
 refine (aN ?_ ?_ ?_)
 exact (vr 2)
 exact ar
 exact fun _ _=>rfl
 exact aq
 refine (aO ?_)
 exact (vr 2)
noncomputable def fE:ai->M Out :=
 (ay (bA 1 (fun _=>M.ok (.int 1)))
 (ay (iV (itemsOf (af 0)) (da 2) (ay (bA 1 (av c_ (av cD (af 1) (av aX (au fS (ah (af 1) (ah (af 2) az))) (fun _=>M.ok (.int 0)))) (af 2)))
 aB))
 (ay (retS (af 1))
 aB)))
noncomputable def fz:List PV->M PV:=bL 1 (aF 3 fE)
theorem eJ:aH ["numbers", "multiple", "number"] ["numbers"] (ak (top 12)):=⟨rfl,rfl,rfl,by decide +kernel,rfl,by decide +kernel,by decide +kernel⟩
theorem oV {f:Addr} {fd:FuncData} {dv:Value} (F:aQ K "multiple_of" "multiple_of" (top 12) dv f fd) (T:Txt K mg) (o_common:cI P w K mg base 1 "common" 2 (aF 6 jq)):aY P w K mg base (b_ P w) 2 f fd ["numbers"] (f7 1 fz) :=
 F.iN eJ fun cdv A outer s H E hr O =>
 by
 refine (ae ?_   (ae ?_   (ae ?_   aq)))
 refine (aR (i:=1) eJ.nd rfl (by first | exact .inl rfl | exact .inr rfl) ?_)
 exact ar
 refine (cu (g:=(aV 2)) O rfl (gb ?_) dG (aL (i:=2) eJ.nd rfl (by first | exact .inl rfl | exact .inr rfl)) bM ?_)
 exact (vr 0)
 refine (ae ?_   aq)
 refine (aR (i:=1) eJ.nd rfl (by first | exact .inl rfl | exact .inr rfl) ?_)
 refine (ax bx bZ ?_ ?_)
 refine (ax bh bg ?_ ?_)
 exact (vr 1)
 refine (aN ?_ ?_ ?_)
 refine (o_common.call hr (by omega) (by rfl) O ?_)
 refine (aa ?_ (aa ?_ ao (aj rfl)) (aj rfl))
 exact (vr 1)
 exact (vr 2)
 exact ar
 exact fun _ _=>rfl
 exact (vr 2)
 refine (aO ?_)
 exact (vr 1)
noncomputable def iZ:ai->M Out :=
 (ay (retS (au eG (ah (ef (dR (lZ rJ (ah (af 0) az)) (da 0) none (zk (jh (av n5 (af 0) (af 1))) (fun _=>M.ok (.int 1)) (fun _=>M.ok (.int 0))) 1 [1])) az)))
 aB)
noncomputable def ja:List PV->M PV:=bL 2 (aF 2 iZ)
theorem uU:aH ["length", "place"] ["length", "place"] (ak (top 13)):=⟨rfl,rfl,rfl,by decide +kernel,rfl,by decide +kernel,by decide +kernel⟩
theorem qr:((["other"]:List Str)++(["place"]:List Str)).Nodup:=by decide +kernel
theorem uu {f:Addr} {fd:FuncData} {dv:Value} (F:aQ K "unit_row" "unit_row" (top 13) dv f fd) (T:Txt K mg)  : aY P w K mg base (b_ P w) 1 f fd ["length", "place"] (f7 2 ja) :=
 F.iN uU fun cdv A outer s H E hr O =>
 by
 refine (ae ?_   aq)
 refine (aO ?_)
 refine (bC bb cW (by rfl) T.cR cq ?_)
 refine (aa ?_ ao (aj rfl))
 refine (eh (ck (g:=(aV 0)) (ts:=["other"]) (fs:=["place"]) (js:=[1]) rfl rfl rfl rfl rfl rfl (.cons rfl .nil) (.cons rfl rfl (by first | exact .inl rfl | exact .inr rfl) rfl rfl .nil) (iC (by rfl) T.gC ?_) jM (fun C s₀ H₀ ex pins=>(aL (i:=0) qr rfl (by first | exact .inl rfl | exact .inr rfl) (.inr rfl))) (fun _=>bM) cQ (fun C s₀ H₀ ex pins=>?_)))
 refine (aa ?_ ao (aj rfl))
 exact (vr 0)
 refine (yU ?_ ?_ ?_)
 refine (bQ (iv hr.units) kF ?_ ?_ (bH _))
 exact (vr 0)
 exact (vr 1)
 exact ar
 exact ar
noncomputable def fV:ai->M Out :=
 (ay (retS (C7 (au dj (ah (af 0) az)) (kM Ff Ff (af 1) (af 0) (af 2))))
 aB)
noncomputable def fW:List PV->M PV:=bL 3 (aF 3 fV)
theorem sk:aH ["thing", "least", "most"] ["thing", "least", "most"] (ak (top 22)):=⟨rfl,rfl,rfl,by decide +kernel,rfl,by decide +kernel,by decide +kernel⟩
theorem r6 {f:Addr} {fd:FuncData} {dv:Value} (F:aQ K "is_within" "is_within" (top 22) dv f fd) (T:Txt K mg) (o_is_whole:cI P w K mg base 1 "is_whole" 1 (aF 1 i5)):aY P w K mg base (b_ P w) 2 f fd ["thing", "least", "most"] (f7 3 fW) :=
 F.iN sk fun cdv A outer s H E hr O =>
 by
 refine (ae ?_   aq)
 refine (aO ?_)
 refine (AH ?_ (AJ ?_))
 refine (o_is_whole.call hr (by omega) (by rfl) O ?_)
 refine (aa ?_ ao (aj rfl))
 exact (vr 0)
 refine (uK zz vU zz vU ?_ ?_ ?_)
 exact (vr 1)
 exact (vr 0)
 exact (vr 2)
noncomputable def gg:ai->M Out :=
 (ay (mB (jh (av HG (au eW (ah (af 0) az)) (fun _=>M.ok (.int 6)))) (ay (n6 j4 (ah (fun _=>M.ok (.str "a vault has at most six dials")) az))
 aB) aB)
 (ay (mB (jh (av n5 (au eW (ah (af 0) az)) (fun _=>M.ok (.int 0)))) (ay (kR iG "dial" (ah (fun _=>M.ok (.int 0)) az))
 aB) aB)
 (ay (iV (lZ k4 (ah (af 0) az)) (cT 1 2) (ay (mB (sv (jh (au fW (ah (af 2) (ah (fun _=>M.ok (.int 2)) (ah (fun _=>M.ok (.int 360)) az)))))) (ay (kR iG "dial" (ah (af 1) az))
 aB) aB)
 aB))
 aB)))
noncomputable def gA:List PV->M PV:=bL 1 (aF 3 gg)
theorem iA:aH ["sizes", "dial", "size"] ["sizes"] (ak (top 23)):=⟨rfl,rfl,rfl,by decide +kernel,rfl,by decide +kernel,by decide +kernel⟩
theorem qy {f:Addr} {fd:FuncData} {dv:Value} (F:aQ K "need_sizes" "need_sizes" (top 23) dv f fd) (T:Txt K mg) (x_NoDial:uI P w K mg base iG "NoDial" "dial") (o_is_within:cI P w K mg base 2 "is_within" 3 (aF 3 fV)):aY P w K mg base (b_ P w) 3 f fd ["sizes"] (f7 1 gA) :=
 F.iN iA fun cdv A outer s H E hr O =>
 by
 refine (ae ?_   (ae ?_   (ae ?_   aq)))
 refine (cU ?_ ?_ ?_)
 refine (bQ Dy A3 ?_ ?_ (bH _))
 refine (aU aS bP (by rfl) T.cM PySem.boot_len ?_)
 refine (aa ?_ ao (aj rfl))
 exact (vr 0)
 exact (eK (oi (by rfl) T.lD) fun _=>.int _)
 refine (ae ?_   aq)
 refine (T.mz.raise O rfl (by rfl) ?_)
 refine (aa ?_ ao (aj rfl))
 exact wj
 exact aq
 refine (cU ?_ ?_ ?_)
 refine (bQ (iv hr.units) kF ?_ ?_ (bH _))
 refine (aU aS bP (by rfl) T.cM PySem.boot_len ?_)
 refine (aa ?_ ao (aj rfl))
 exact (vr 0)
 exact ar
 refine (ae ?_   aq)
 refine (x_NoDial.raise hr (by omega) O rfl (by rfl) ?_)
 refine (aa ?_ ao (aj rfl))
 exact ar
 exact aq
 refine (cu (g:=(kA K 2 (bS (aV 1) (bS (aV 2) ku)))) O rfl (l4 (by rfl) T.dS ?_) jE (fe (n:=2) rfl (aW (aL (i:=1) iA.nd rfl (by first | exact .inl rfl | exact .inr rfl)) (aW (aL (i:=2) iA.nd rfl (by first | exact .inl rfl | exact .inr rfl)) dz))) dM ?_)
 refine (aa ?_ ao (aj rfl))
 exact (vr 0)
 refine (ae ?_   aq)
 refine (cU ?_ ?_ ?_)
 refine (kW ?_)
 refine (kU ?_)
 refine (o_is_within.call hr (by omega) (by rfl) O ?_)
 refine (aa ?_ (aa ?_ (aa ?_ ao (aj rfl)) (aj rfl)) (aj rfl))
 exact (vr 2)
 exact (eK (oi (by rfl) T.k8) fun _=>.int _)
 exact (eK (oi (by rfl) T.nh) fun _=>.int _)
 refine (ae ?_   aq)
 refine (x_NoDial.raise hr (by omega) O rfl (by rfl) ?_)
 refine (aa ?_ ao (aj rfl))
 exact (vr 1)
 exact aq
noncomputable def fm:ai->M Out :=
 (ay (mB (jh (av HG (au eW (ah (af 0) az)) (fun _=>M.ok (.int 8)))) (ay (n6 j4 (ah (fun _=>M.ok (.str "a vault has at most eight levers")) az))
 aB) aB)
 (ay (iV (lZ k4 (ah (af 0) az)) (cT 2 3) (ay (mB (sv (jh (au gQ (ah (af 3) (ah (af 1) az))))) (ay (kR iD "lever" (ah (af 2) az))
 aB) aB)
 aB))
 aB))
noncomputable def fD:List PV->M PV:=bL 2 (aF 4 fm)
theorem gT:aH ["levers", "dials", "place", "lever"] ["levers", "dials"] (ak (top 24)):=⟨rfl,rfl,rfl,by decide +kernel,rfl,by decide +kernel,by decide +kernel⟩
theorem pE {f:Addr} {fd:FuncData} {dv:Value} (F:aQ K "need_levers" "need_levers" (top 24) dv f fd) (T:Txt K mg) (o_is_row:cI P w K mg base 2 "is_row" 2 (aF 2 jJ)) (x_NoLever:uI P w K mg base iD "NoLever" "lever"):aY P w K mg base (b_ P w) 3 f fd ["levers", "dials"] (f7 2 fD) :=
 F.iN gT fun cdv A outer s H E hr O =>
 by
 refine (ae ?_   (ae ?_   aq))
 refine (cU ?_ ?_ ?_)
 refine (bQ Dy A3 ?_ ?_ (bH _))
 refine (aU aS bP (by rfl) T.cM PySem.boot_len ?_)
 refine (aa ?_ ao (aj rfl))
 exact (vr 0)
 exact (eK (oi (by rfl) T.kD) fun _=>.int _)
 refine (ae ?_   aq)
 refine (T.mz.raise O rfl (by rfl) ?_)
 refine (aa ?_ ao (aj rfl))
 exact wj
 exact aq
 refine (cu (g:=(kA K 2 (bS (aV 2) (bS (aV 3) ku)))) O rfl (l4 (by rfl) T.dS ?_) jE (fe (n:=2) rfl (aW (aL (i:=2) gT.nd rfl (by first | exact .inl rfl | exact .inr rfl)) (aW (aL (i:=3) gT.nd rfl (by first | exact .inl rfl | exact .inr rfl)) dz))) dM ?_)
 refine (aa ?_ ao (aj rfl))
 exact (vr 0)
 refine (ae ?_   aq)
 refine (cU ?_ ?_ ?_)
 refine (kW ?_)
 refine (kU ?_)
 refine (o_is_row.call hr (by omega) (by rfl) O ?_)
 refine (aa ?_ (aa ?_ ao (aj rfl)) (aj rfl))
 exact (vr 3)
 exact (vr 1)
 refine (ae ?_   aq)
 refine (x_NoLever.raise hr (by omega) O rfl (by rfl) ?_)
 refine (aa ?_ ao (aj rfl))
 exact (vr 2)
 exact aq
noncomputable def gK:ai->M Out :=
 (ay (mB (jh (av AN (af 1) (fun _=>M.ok .c8))) (ay (retS (av c_ (lQ (ah (fun _=>M.ok (.int 1)) az)) (au eW (ah (af 0) az))))
 aB) aB)
 (ay (iV (lZ rJ (ah (au (Dt fun i j=>if j>i then j else i) (ah (au eW (ah (af 0) az)) (ah (au eW (ah (af 1) az)) az))) az)) (da 2) (ay (mB (FX (jh (av Hy (af 2) (au eW (ah (af 0) az)))) (jh (av Hy (af 2) (au eW (ah (af 1) az))))) (ay (kR gO "lever" (ah (af 2) az))
 aB) aB)
 (ay (mB (sv (jh (au fW (ah (av aX (af 1) (af 2)) (ah (fun _=>M.ok (.int 1)) (ah (fun _=>M.ok (.int 1000)) az)))))) (ay (kR gO "lever" (ah (af 2) az))
 aB) aB)
 aB)))
 (ay (retS (au eG (ah (af 1) az)))
 aB)))
noncomputable def gi:List PV->M PV:=bL 2 (aF 3 gK)
theorem kB:aH ["levers", "prices", "place"] ["levers", "prices"] (ak (top 25)):=⟨rfl,rfl,rfl,by decide +kernel,rfl,by decide +kernel,by decide +kernel⟩
theorem pO {f:Addr} {fd:FuncData} {dv:Value} (F:aQ K "prices_for" "prices_for" (top 25) dv f fd) (T:Txt K mg) (x_NoPrice:uI P w K mg base gO "NoPrice" "lever") (o_is_within:cI P w K mg base 2 "is_within" 3 (aF 3 fV)):aY P w K mg base (b_ P w) 3 f fd ["levers", "prices"] (f7 2 gi) :=
 F.iN kB fun cdv A outer s H E hr O =>
 by
 refine (ae ?_   (ae ?_   (ae ?_   aq)))
 refine (cU ?_ ?_ ?_)
 refine (bQ yI Bl ?_ ?_ (bH _))
 exact (vr 1)
 exact sC
 refine (ae ?_   aq)
 refine (aO ?_)
 refine (ax bx bZ ?_ ?_)
 refine (gS ?_)
 refine (aa ?_ ao (aj rfl))
 exact (eK (oi (by rfl) T.iz) fun _=>.int _)
 refine (aU aS bP (by rfl) T.cM PySem.boot_len ?_)
 refine (aa ?_ ao (aj rfl))
 exact (vr 0)
 exact aq
 refine (cu (g:=(aV 2)) O rfl (iC (by rfl) T.gC ?_) jM (aL (i:=2) kB.nd rfl (by first | exact .inl rfl | exact .inr rfl)) bM ?_)
 refine (aa ?_ ao (aj rfl))
 refine (aU (yh rfl) B8 (by rfl) T.Dv DW ?_)
 refine (aa ?_ (aa ?_ ao (aj rfl)) (aj rfl))
 refine (aU aS bP (by rfl) T.cM PySem.boot_len ?_)
 refine (aa ?_ ao (aj rfl))
 exact (vr 0)
 refine (aU aS bP (by rfl) T.cM PySem.boot_len ?_)
 refine (aa ?_ ao (aj rfl))
 exact (vr 1)
 refine (ae ?_   (ae ?_   aq))
 refine (cU ?_ ?_ ?_)
 refine (w_ ?_ (sD ?_)).pt
 refine (bQ DF zP ?_ ?_ (bH _))
 exact (vr 2)
 refine (aU aS bP (by rfl) T.cM PySem.boot_len ?_)
 refine (aa ?_ ao (aj rfl))
 exact (vr 0)
 refine (bQ DF zP ?_ ?_ (bH _))
 exact (vr 2)
 refine (aU aS bP (by rfl) T.cM PySem.boot_len ?_)
 refine (aa ?_ ao (aj rfl))
 exact (vr 1)
 refine (ae ?_   aq)
 refine (x_NoPrice.raise hr (by omega) O rfl (by rfl) ?_)
 refine (aa ?_ ao (aj rfl))
 exact (vr 2)
 exact aq
 refine (cU ?_ ?_ ?_)
 refine (kW ?_)
 refine (kU ?_)
 refine (o_is_within.call hr (by omega) (by rfl) O ?_)
 refine (aa ?_ (aa ?_ (aa ?_ ao (aj rfl)) (aj rfl)) (aj rfl))
 refine (aN ?_ ?_ ?_)
 exact (vr 1)
 exact (vr 2)
 exact fun _ _=>rfl
 exact (eK (oi (by rfl) T.iz) fun _=>.int _)
 exact (eK (oi (by rfl) T.ly) fun _=>.int _)
 refine (ae ?_   aq)
 refine (x_NoPrice.raise hr (by omega) O rfl (by rfl) ?_)
 refine (aa ?_ ao (aj rfl))
 exact (vr 2)
 exact aq
 refine (aO ?_)
 refine (bC bb cW (by rfl) T.cR cq ?_)
 refine (aa ?_ ao (aj rfl))
 exact (vr 1)
noncomputable def lH:ai->M Out :=
 (ay (retS (au eG (ah (ef (dR (lZ zip2 (ah (af 0) (ah (af 1) az))) (cT 0 1) none (av fc (af 0) (af 1)) 2 [])) az)))
 aB)
noncomputable def kj:List PV->M PV:=bL 2 (aF 2 lH)
theorem Ak:aH ["numbers", "sizes"] ["numbers", "sizes"] (ak (top 26)):=⟨rfl,rfl,rfl,by decide +kernel,rfl,by decide +kernel,by decide +kernel⟩
theorem n8:((["number", "size"]:List Str)++([]:List Str)).Nodup:=by decide +kernel
theorem Aa {f:Addr} {fd:FuncData} {dv:Value} (F:aQ K "rests" "rests" (top 26) dv f fd) (T:Txt K mg)  : aY P w K mg base (b_ P w) 1 f fd ["numbers", "sizes"] (f7 2 kj) :=
 F.iN Ak fun cdv A outer s H E hr O =>
 by
 refine (ae ?_   aq)
 refine (aO ?_)
 refine (bC bb cW (by rfl) T.cR cq ?_)
 refine (aa ?_ ao (aj rfl))
 refine (eh (ck (g:=(kA K 2 (bS (aV 0) (bS (aV 1) ku)))) (ts:=["number", "size"]) (fs:=[]) (js:=[]) (cl:=[]) rfl rfl rfl rfl rfl rfl .nil .nil (kL (by rfl) T.kY ?_) iT (fun C s₀ H₀ ex pins=>(fe (n:=2) rfl (aW (aL (i:=0) n8 rfl (by first | exact .inl rfl | exact .inr rfl) (.inr rfl)) (aW (aL (i:=1) n8 rfl (by first | exact .inl rfl | exact .inr rfl) (.inr rfl)) dz)))) (fun _=>dM) e9 (fun C s₀ H₀ ex pins=>?_)))
 refine (aa ?_ (aa ?_ ao (aj rfl)) (aj rfl))
 exact (vr 0)
 exact (vr 1)
 refine (ax bG bF ?_ ?_)
 exact (vr 0)
 exact (vr 1)
noncomputable def lx:ai->M Out :=
 (ay (retS (au eG (ah (ef (dR (lZ zip2 (ah (af 0) (ah (af 2) az))) (cT 0 1) none (av iw (av c_ (af 2) (af 0)) (av c_ (af 3) (af 1))) 2 [1,3])) az)))
 aB)
noncomputable def j_:List PV->M PV:=bL 4 (aF 4 lx)
theorem yL:aH ["row", "times", "other", "others"] ["row", "times", "other", "others"] (ak (top 31)):=⟨rfl,rfl,rfl,by decide +kernel,rfl,by decide +kernel,by decide +kernel⟩
theorem oF:((["one", "two"]:List Str)++(["times", "others"]:List Str)).Nodup:=by decide +kernel
theorem yG {f:Addr} {fd:FuncData} {dv:Value} (F:aQ K "mixed" "mixed" (top 31) dv f fd) (T:Txt K mg)  : aY P w K mg base (b_ P w) 1 f fd ["row", "times", "other", "others"] (f7 4 j_) :=
 F.iN yL fun cdv A outer s H E hr O =>
 by
 refine (ae ?_   aq)
 refine (aO ?_)
 refine (bC bb cW (by rfl) T.cR cq ?_)
 refine (aa ?_ ao (aj rfl))
 refine (eh (ck (g:=(kA K 2 (bS (aV 0) (bS (aV 1) ku)))) (ts:=["one", "two"]) (fs:=["times", "others"]) (js:=[1,3]) rfl rfl rfl rfl rfl rfl (.cons rfl (.cons rfl .nil)) (.cons rfl rfl (by first | exact .inl rfl | exact .inr rfl) rfl rfl (.cons rfl rfl (by first | exact .inl rfl | exact .inr rfl) rfl rfl .nil)) (kL (by rfl) T.kY ?_) iT (fun C s₀ H₀ ex pins=>(fe (n:=2) rfl (aW (aL (i:=0) oF rfl (by first | exact .inl rfl | exact .inr rfl) (.inr rfl)) (aW (aL (i:=1) oF rfl (by first | exact .inl rfl | exact .inr rfl) (.inr rfl)) dz)))) (fun _=>dM) e9 (fun C s₀ H₀ ex pins=>?_)))
 refine (aa ?_ (aa ?_ ao (aj rfl)) (aj rfl))
 exact (vr 0)
 exact (vr 2)
 refine (ax dt eZ ?_ ?_)
 refine (ax bx bZ ?_ ?_)
 exact (vr 2)
 exact (vr 0)
 refine (ax bx bZ ?_ ?_)
 exact (vr 3)
 exact (vr 1)
noncomputable def ee:ai->M Out :=
 (ay (bA 5 (au j_ (ah (av aX (af 1) (fun _=>M.ok (.int 0))) (ah (af 2) (ah (av aX (af 3) (fun _=>M.ok (.int 0))) (ah (af 4) az))))))
 (ay (retS (lQ (ah (au kj (ah (af 5) (ah (af 0) az))) (ah (au j_ (ah (av aX (af 1) (fun _=>M.ok (.int 1))) (ah (af 2) (ah (av aX (af 3) (fun _=>M.ok (.int 1))) (ah (af 4) az))))) az))))
 aB))
noncomputable def dw:List PV->M PV:=bL 5 (aF 6 ee)
theorem kC:aH ["sizes", "made", "times", "other", "others", "doing"] ["sizes", "made", "times", "other", "others"] (ak (top 32)):=⟨rfl,rfl,rfl,by decide +kernel,rfl,by decide +kernel,by decide +kernel⟩
theorem qz {f:Addr} {fd:FuncData} {dv:Value} (F:aQ K "mixed_made" "mixed_made" (top 32) dv f fd) (T:Txt K mg) (o_mixed:cI P w K mg base 1 "mixed" 4 (aF 4 lx)) (o_rests:cI P w K mg base 1 "rests" 2 (aF 2 lH)):aY P w K mg base (b_ P w) 2 f fd ["sizes", "made", "times", "other", "others"] (f7 5 dw) :=
 F.iN kC fun cdv A outer s H E hr O =>
 by
 refine (ae ?_   (ae ?_   aq))
 refine (aR (i:=5) kC.nd rfl (by first | exact .inl rfl | exact .inr rfl) ?_)
 refine (o_mixed.call hr (by omega) (by rfl) O ?_)
 refine (aa ?_ (aa ?_ (aa ?_ (aa ?_ ao (aj rfl)) (aj rfl)) (aj rfl)) (aj rfl))
 refine (aN ?_ ?_ ?_)
 exact (vr 1)
 exact ar
 exact fun _ _=>rfl
 exact (vr 2)
 refine (aN ?_ ?_ ?_)
 exact (vr 3)
 exact ar
 exact fun _ _=>rfl
 exact (vr 4)
 refine (aO ?_)
 refine (gS ?_)
 refine (aa ?_ (aa ?_ ao (aj rfl)) (aj rfl))
 refine (o_rests.call hr (by omega) (by rfl) O ?_)
 refine (aa ?_ (aa ?_ ao (aj rfl)) (aj rfl))
 exact (vr 5)
 exact (vr 0)
 refine (o_mixed.call hr (by omega) (by rfl) O ?_)
 refine (aa ?_ (aa ?_ (aa ?_ (aa ?_ ao (aj rfl)) (aj rfl)) (aj rfl)) (aj rfl))
 refine (aN ?_ ?_ ?_)
 exact (vr 1)
 exact ar
 exact fun _ _=>rfl
 exact (vr 2)
 refine (aN ?_ ?_ ?_)
 exact (vr 3)
 exact ar
 exact fun _ _=>rfl
 exact (vr 4)
noncomputable def fZ:ai->M Out :=
 (ay (bA 3 (av aX (av aX (av aX (af 1) (af 2)) (fun _=>M.ok (.int 0))) (af 2)))
 (ay (retS (zk (jh (av n5 (af 3) (fun _=>M.ok (.int 0)))) (av aX (af 0) (af 2)) (af 3)))
 aB))
noncomputable def fQ:List PV->M PV:=bL 3 (aF 4 fZ)
theorem k6:aH ["sizes", "made_rows", "dial", "notch"] ["sizes", "made_rows", "dial"] (ak (top 35)):=⟨rfl,rfl,rfl,by decide +kernel,rfl,by decide +kernel,by decide +kernel⟩
theorem tj {f:Addr} {fd:FuncData} {dv:Value} (F:aQ K "step_size" "step_size" (top 35) dv f fd) (T:Txt K mg)  : aY P w K mg base (b_ P w) 1 f fd ["sizes", "made_rows", "dial"] (f7 3 fQ) :=
 F.iN k6 fun cdv A outer s H E hr O =>
 by
 refine (ae ?_   (ae ?_   aq))
 refine (aR (i:=3) k6.nd rfl (by first | exact .inl rfl | exact .inr rfl) ?_)
 refine (aN ?_ ?_ ?_)
 refine (aN ?_ ?_ ?_)
 refine (aN ?_ ?_ ?_)
 exact (vr 1)
 exact (vr 2)
 exact fun _ _=>rfl
 exact ar
 exact fun _ _=>rfl
 exact (vr 2)
 exact fun _ _=>rfl
 refine (aO ?_)
 refine (yU ?_ ?_ ?_)
 refine (bQ (iv hr.units) kF ?_ ?_ (bH _))
 exact (vr 3)
 exact ar
 refine (aN ?_ ?_ ?_)
 exact (vr 0)
 exact (vr 2)
 exact fun _ _=>rfl
 exact (vr 3)
noncomputable def iX:ai->M Out :=
 (ay (pR 3 (ju az))
 (ay (iV (lZ k4 (ah (af 1) az)) (cT 4 5) (ay (bA 6 (au fQ (ah (af 0) (ah (af 1) (ah (af 4) az)))))
 (ay (bA 7 (av aX (av aX (af 2) (fun _=>M.ok (.int 0))) (af 4)))
 (ay (bA 8 (au fS (ah (af 6) (ah (af 7) az))))
 (ay (iR 3 (au dw (ah (af 0) (ah (af 5) (ah (av aX (af 8) (fun _=>M.ok (.int 1))) (ah (af 2) (ah (av aX (af 8) (fun _=>M.ok (.int 2))) az)))))))
 (ay (bA 2 (au dw (ah (af 0) (ah (af 2) (ah (av cD (af 6) (av aX (af 8) (fun _=>M.ok (.int 0)))) (ah (af 5) (ah (ny (av cD (af 7) (av aX (af 8) (fun _=>M.ok (.int 0))))) az)))))))
 aB))))))
 (ay (pT [3] (retS (lQ (ah (af 3) (ah (av aX (af 2) (fun _=>M.ok (.int 1))) az)))))
 aB)))
noncomputable def iY:List PV->M PV:=bL 3 (aF 9 iX)
theorem cP:aH ["sizes", "made_rows", "left", "wider", "dial", "made", "step", "notch", "found"] ["sizes", "made_rows", "left"] (ak (top 36)):=⟨rfl,rfl,rfl,by decide +kernel,rfl,by decide +kernel,by decide +kernel⟩
theorem tU {f:Addr} {fd:FuncData} {dv:Value} (F:aQ K "taken_in" "taken_in" (top 36) dv f fd) (T:Txt K mg) (o_step_size:cI P w K mg base 1 "step_size" 3 (aF 4 fZ)) (o_common:cI P w K mg base 1 "common" 2 (aF 6 jq)) (o_mixed_made:cI P w K mg base 2 "mixed_made" 5 (aF 6 ee)):aY P w K mg base (b_ P w) 3 f fd ["sizes", "made_rows", "left"] (f7 3 iY) :=
 F.iN cP fun cdv A outer s H E hr O =>
 by
 refine (ae ?_   (ae ?_   (ae ?_   aq)))
 refine (iq (i:=3) cP.nd rfl (by first | exact .inl rfl | exact .inr rfl) ?_)
 refine (jN ?_)
 exact ao
 refine (cu (g:=(kA K 2 (bS (aV 4) (bS (aV 5) ku)))) O rfl (l4 (by rfl) T.dS ?_) jE (fe (n:=2) rfl (aW (aL (i:=4) cP.nd rfl (by first | exact .inl rfl | exact .inr rfl)) (aW (aL (i:=5) cP.nd rfl (by first | exact .inl rfl | exact .inr rfl)) dz))) dM ?_)
 refine (aa ?_ ao (aj rfl))
 exact (vr 1)
 refine (ae ?_   (ae ?_   (ae ?_   (ae ?_   (ae ?_   aq)))))
 refine (aR (i:=6) cP.nd rfl (by first | exact .inl rfl | exact .inr rfl) ?_)
 refine (o_step_size.call hr (by omega) (by rfl) O ?_)
 refine (aa ?_ (aa ?_ (aa ?_ ao (aj rfl)) (aj rfl)) (aj rfl))
 exact (vr 0)
 exact (vr 1)
 exact (vr 4)
 refine (aR (i:=7) cP.nd rfl (by first | exact .inl rfl | exact .inr rfl) ?_)
 refine (aN ?_ ?_ ?_)
 refine (aN ?_ ?_ ?_)
 exact (vr 2)
 exact ar
 exact fun _ _=>rfl
 exact (vr 4)
 exact fun _ _=>rfl
 refine (aR (i:=8) cP.nd rfl (by first | exact .inl rfl | exact .inr rfl) ?_)
 refine (o_common.call hr (by omega) (by rfl) O ?_)
 refine (aa ?_ (aa ?_ ao (aj rfl)) (aj rfl))
 exact (vr 6)
 exact (vr 7)
 refine (cj (i:=3) rfl (by first | exact .inl rfl | exact .inr (.inl rfl)) ?_)
 refine (o_mixed_made.call hr (by omega) (by rfl) O ?_)
 refine (aa ?_ (aa ?_ (aa ?_ (aa ?_ (aa ?_ ao (aj rfl)) (aj rfl)) (aj rfl)) (aj rfl)) (aj rfl))
 exact (vr 0)
 exact (vr 5)
 refine (aN ?_ ?_ ?_)
 exact (vr 8)
 exact ar
 exact fun _ _=>rfl
 exact (vr 2)
 refine (aN ?_ ?_ ?_)
 exact (vr 8)
 exact ar
 exact fun _ _=>rfl
 refine (aR (i:=2) cP.nd rfl (by first | exact .inl rfl | exact .inr rfl) ?_)
 refine (o_mixed_made.call hr (by omega) (by rfl) O ?_)
 refine (aa ?_ (aa ?_ (aa ?_ (aa ?_ (aa ?_ ao (aj rfl)) (aj rfl)) (aj rfl)) (aj rfl)) (aj rfl))
 exact (vr 0)
 exact (vr 2)
 refine (ax bh bg ?_ ?_)
 exact (vr 6)
 refine (aN ?_ ?_ ?_)
 exact (vr 8)
 exact ar
 exact fun _ _=>rfl
 exact (vr 5)
 refine (i0 ?_)
 refine (ax bh bg ?_ ?_)
 exact (vr 7)
 refine (aN ?_ ?_ ?_)
 exact (vr 8)
 exact ar
 exact fun _ _=>rfl
 refine (jV [3] (aO ?_))
 refine (gS ?_)
 refine (aa ?_ (aa ?_ ao (aj rfl)) (aj rfl))
 exact (vr 3)
 refine (aN ?_ ?_ ?_)
 exact (vr 2)
 exact ar
 exact fun _ _=>rfl
noncomputable def iJ:ai->M Out :=
 (ay (iV (lZ yb (ah (af 3) (ah (au eW (ah (af 0) az)) az))) (da 4) (ay (bA 5 (av cD (av aX (av aX (af 2) (fun _=>M.ok (.int 0))) (af 4)) (au fQ (ah (af 0) (ah (af 1) (ah (af 4) az))))))
 (ay (bA 2 (au dw (ah (af 0) (ah (af 2) (ah (fun _=>M.ok (.int 1)) (ah (av aX (af 1) (af 4)) (ah (ny (af 5)) az)))))))
 aB)))
 (ay (retS (af 2))
 aB))
noncomputable def e_:List PV->M PV:=bL 4 (aF 6 iJ)
theorem iU:aH ["sizes", "made_rows", "made", "first", "dial", "times"] ["sizes", "made_rows", "made", "first"] (ak (top 37)):=⟨rfl,rfl,rfl,by decide +kernel,rfl,by decide +kernel,by decide +kernel⟩
theorem vI {f:Addr} {fd:FuncData} {dv:Value} (F:aQ K "lowered" "lowered" (top 37) dv f fd) (T:Txt K mg) (o_step_size:cI P w K mg base 1 "step_size" 3 (aF 4 fZ)) (o_mixed_made:cI P w K mg base 2 "mixed_made" 5 (aF 6 ee)):aY P w K mg base (b_ P w) 3 f fd ["sizes", "made_rows", "made", "first"] (f7 4 e_) :=
 F.iN iU fun cdv A outer s H E hr O =>
 by
 refine (ae ?_   (ae ?_   aq))
 refine (cu (g:=(aV 4)) O rfl (yw (by rfl) T.gC ?_) Am (aL (i:=4) iU.nd rfl (by first | exact .inl rfl | exact .inr rfl)) bM ?_)
 refine (aa ?_ (aa ?_ ao (aj rfl)) (aj rfl))
 exact (vr 3)
 refine (aU aS bP (by rfl) T.cM PySem.boot_len ?_)
 refine (aa ?_ ao (aj rfl))
 exact (vr 0)
 refine (ae ?_   (ae ?_   aq))
 refine (aR (i:=5) iU.nd rfl (by first | exact .inl rfl | exact .inr rfl) ?_)
 refine (ax bh bg ?_ ?_)
 refine (aN ?_ ?_ ?_)
 refine (aN ?_ ?_ ?_)
 exact (vr 2)
 exact ar
 exact fun _ _=>rfl
 exact (vr 4)
 exact fun _ _=>rfl
 refine (o_step_size.call hr (by omega) (by rfl) O ?_)
 refine (aa ?_ (aa ?_ (aa ?_ ao (aj rfl)) (aj rfl)) (aj rfl))
 exact (vr 0)
 exact (vr 1)
 exact (vr 4)
 refine (aR (i:=2) iU.nd rfl (by first | exact .inl rfl | exact .inr rfl) ?_)
 refine (o_mixed_made.call hr (by omega) (by rfl) O ?_)
 refine (aa ?_ (aa ?_ (aa ?_ (aa ?_ (aa ?_ ao (aj rfl)) (aj rfl)) (aj rfl)) (aj rfl)) (aj rfl))
 exact (vr 0)
 exact (vr 2)
 exact ar
 refine (aN ?_ ?_ ?_)
 exact (vr 1)
 exact (vr 4)
 exact fun _ _=>rfl
 refine (i0 ?_)
 exact (vr 5)
 refine (aO ?_)
 exact (vr 2)
noncomputable def gP:ai->M Out :=
 (ay (iV (lZ zB (ah (av g_ (au eW (ah (af 1) az)) (fun _=>M.ok (.int 1))) (ah (ny (fun _=>M.ok (.int 1))) (ah (ny (fun _=>M.ok (.int 1))) az)))) (da 2) (ay (bA 3 (av aX (af 1) (af 2)))
 (ay (bA 0 (au j_ (ah (af 0) (ah (fun _=>M.ok (.int 1)) (ah (af 3) (ah (ny (av cD (av aX (af 0) (af 2)) (av aX (af 3) (af 2)))) az))))))
 aB)))
 (ay (retS (af 0))
 aB))
noncomputable def gU:List PV->M PV:=bL 2 (aF 4 gP)
theorem ik:aH ["pulls", "idle_rows", "lever", "row"] ["pulls", "idle_rows"] (ak (top 38)):=⟨rfl,rfl,rfl,by decide +kernel,rfl,by decide +kernel,by decide +kernel⟩
theorem uh {f:Addr} {fd:FuncData} {dv:Value} (F:aQ K "in_spans" "in_spans" (top 38) dv f fd) (T:Txt K mg) (o_mixed:cI P w K mg base 1 "mixed" 4 (aF 4 lx)):aY P w K mg base (b_ P w) 2 f fd ["pulls", "idle_rows"] (f7 2 gU) :=
 F.iN ik fun cdv A outer s H E hr O =>
 by
 refine (ae ?_   (ae ?_   aq))
 refine (cu (g:=(aV 2)) O rfl (xh (by rfl) T.gC ?_) Aj (aL (i:=2) ik.nd rfl (by first | exact .inl rfl | exact .inr rfl)) bM ?_)
 refine (aa ?_ (aa ?_ (aa ?_ ao (aj rfl)) (aj rfl)) (aj rfl))
 refine (ax eT fg ?_ ?_)
 refine (aU aS bP (by rfl) T.cM PySem.boot_len ?_)
 refine (aa ?_ ao (aj rfl))
 exact (vr 1)
 exact ar
 refine (i0 ?_)
 exact ar
 refine (i0 ?_)
 exact ar
 refine (ae ?_   (ae ?_   aq))
 refine (aR (i:=3) ik.nd rfl (by first | exact .inl rfl | exact .inr rfl) ?_)
 refine (aN ?_ ?_ ?_)
 exact (vr 1)
 exact (vr 2)
 exact fun _ _=>rfl
 refine (aR (i:=0) ik.nd rfl (by first | exact .inl rfl | exact .inr rfl) ?_)
 refine (o_mixed.call hr (by omega) (by rfl) O ?_)
 refine (aa ?_ (aa ?_ (aa ?_ (aa ?_ ao (aj rfl)) (aj rfl)) (aj rfl)) (aj rfl))
 exact (vr 0)
 exact ar
 exact (vr 3)
 refine (i0 ?_)
 refine (ax bh bg ?_ ?_)
 refine (aN ?_ ?_ ?_)
 exact (vr 0)
 exact (vr 2)
 exact fun _ _=>rfl
 refine (aN ?_ ?_ ?_)
 exact (vr 3)
 exact (vr 2)
 exact fun _ _=>rfl
 refine (aO ?_)
 exact (vr 0)
noncomputable def fP:ai->M Out :=
 (ay (mB (jh (av Fe (af 1) (au eW (ah (af 0) az)))) (ay (retS (av aX (af 0) (af 1)))
 aB) aB)
 (ay (retS (fun _=>M.ok (.int 0)))
 aB))
noncomputable def de:List PV->M PV:=bL 2 (aF 2 fP)
theorem sq:aH ["_law_script", "_law_k"] ["_law_script", "_law_k"] (ak (top 41)):=⟨rfl,rfl,rfl,by decide +kernel,rfl,by decide +kernel,by decide +kernel⟩
theorem rZ {f:Addr} {fd:FuncData} {dv:Value} (F:aQ K "_law_cell" "_law_cell" (top 41) dv f fd) (T:Txt K mg)  : aY P w K mg base (b_ P w) 1 f fd ["_law_script", "_law_k"] (f7 2 de) :=
 F.iN sq fun cdv A outer s H E hr O =>
 by
 refine (ae ?_   (ae ?_   aq))
 refine (cU ?_ ?_ ?_)
 refine (bQ zF vK ?_ ?_ (bH _))
 exact (vr 1)
 refine (aU aS bP (by rfl) T.cM PySem.boot_len ?_)
 refine (aa ?_ ao (aj rfl))
 exact (vr 0)
 refine (ae ?_   aq)
 refine (aO ?_)
 refine (aN ?_ ?_ ?_)
 exact (vr 0)
 exact (vr 1)
 exact fun _ _=>rfl
 exact aq
 refine (aO ?_)
 exact ar
noncomputable def c7:ai->M Out :=
 (ay (pR 2 (ju az))
 (ay (bA 3 (av iw (av fc (af 0) (fun _=>M.ok (.int 2147483629))) (fun _=>M.ok (.int 17))))
 (ay (iV (lZ rJ (ah (af 1) az)) (da 4) (ay (bA 3 (av fc (av iw (av iw (av c_ (af 3) (fun _=>M.ok (.int 48271))) (av c_ (fun _=>M.ok (.int 7919)) (af 4))) (fun _=>M.ok (.int 1))) (fun _=>M.ok (.int 2147483647))))
 (ay (iR 2 (av cD (af 3) (fun _=>M.ok (.int 5))))
 aB)))
 (ay (pT [2] (retS (af 2)))
 aB))))
noncomputable def cZ:List PV->M PV:=bL 2 (aF 5 c7)
theorem dm:aH ["_law_cell_here", "_law_many", "_law_found", "_law_number", "_law_k"] ["_law_cell_here", "_law_many"] (ak (top 42)):=⟨rfl,rfl,rfl,by decide +kernel,rfl,by decide +kernel,by decide +kernel⟩
theorem oz {f:Addr} {fd:FuncData} {dv:Value} (F:aQ K "_law_stream" "_law_stream" (top 42) dv f fd) (T:Txt K mg)  : aY P w K mg base (b_ P w) 1 f fd ["_law_cell_here", "_law_many"] (f7 2 cZ) :=
 F.iN dm fun cdv A outer s H E hr O =>
 by
 refine (ae ?_   (ae ?_   (ae ?_   (ae ?_   aq))))
 refine (iq (i:=2) dm.nd rfl (by first | exact .inl rfl | exact .inr rfl) ?_)
 refine (jN ?_)
 exact ao
 refine (aR (i:=3) dm.nd rfl (by first | exact .inl rfl | exact .inr rfl) ?_)
 refine (ax dt eZ ?_ ?_)
 refine (ax bG bF ?_ ?_)
 exact (vr 0)
 exact ar
 exact ar
 refine (cu (g:=(aV 4)) O rfl (iC (by rfl) T.gC ?_) jM (aL (i:=4) dm.nd rfl (by first | exact .inl rfl | exact .inr rfl)) bM ?_)
 refine (aa ?_ ao (aj rfl))
 exact (vr 1)
 refine (ae ?_   (ae ?_   aq))
 refine (aR (i:=3) dm.nd rfl (by first | exact .inl rfl | exact .inr rfl) ?_)
 refine (ax bG bF ?_ ?_)
 refine (ax dt eZ ?_ ?_)
 refine (ax dt eZ ?_ ?_)
 refine (ax bx bZ ?_ ?_)
 exact (vr 3)
 exact ar
 refine (ax bx bZ ?_ ?_)
 exact ar
 exact (vr 4)
 exact ar
 exact ar
 refine (cj (i:=2) rfl (by first | exact .inl rfl | exact .inr (.inl rfl)) ?_)
 refine (ax bh bg ?_ ?_)
 exact (vr 3)
 exact ar
 refine (jV [2] (aO ?_))
 exact (vr 2)
noncomputable def c6:ai->M Out :=
 (ay (pR 2 (ju az))
 (ay (bA 3 (af 0))
 (ay (iV (itemsOf (af 1)) (da 4) (ay (iR 2 (av fc (af 3) (af 4)))
 (ay (bA 3 (av cD (af 3) (af 4)))
 aB)))
 (ay (pT [2] (retS (af 2)))
 aB))))
noncomputable def cY:List PV->M PV:=bL 2 (aF 5 c6)
theorem dq:aH ["_law_cell_here", "_law_bases", "_law_found", "_law_left", "_law_base"] ["_law_cell_here", "_law_bases"] (ak (top 43)):=⟨rfl,rfl,rfl,by decide +kernel,rfl,by decide +kernel,by decide +kernel⟩
theorem oM {f:Addr} {fd:FuncData} {dv:Value} (F:aQ K "_law_digits" "_law_digits" (top 43) dv f fd) (T:Txt K mg)  : aY P w K mg base (b_ P w) 1 f fd ["_law_cell_here", "_law_bases"] (f7 2 cY) :=
 F.iN dq fun cdv A outer s H E hr O =>
 by
 refine (ae ?_   (ae ?_   (ae ?_   (ae ?_   aq))))
 refine (iq (i:=2) dq.nd rfl (by first | exact .inl rfl | exact .inr rfl) ?_)
 refine (jN ?_)
 exact ao
 refine (aR (i:=3) dq.nd rfl (by first | exact .inl rfl | exact .inr rfl) ?_)
 exact (vr 0)
 refine (cu (g:=(aV 4)) O rfl (gb ?_) dG (aL (i:=4) dq.nd rfl (by first | exact .inl rfl | exact .inr rfl)) bM ?_)
 exact (vr 1)
 refine (ae ?_   (ae ?_   aq))
 refine (cj (i:=2) rfl (by first | exact .inl rfl | exact .inr (.inl rfl)) ?_)
 refine (ax bG bF ?_ ?_)
 exact (vr 3)
 exact (vr 4)
 refine (aR (i:=3) dq.nd rfl (by first | exact .inl rfl | exact .inr rfl) ?_)
 refine (ax bh bg ?_ ?_)
 exact (vr 3)
 exact (vr 4)
 refine (jV [2] (aO ?_))
 exact (vr 2)
noncomputable def gq:ai->M Out :=
 (ay (bA 1 (av iw (fun _=>M.ok (.int 1)) (av fc (av cD (af 0) (fun _=>M.ok (.int 2))) (fun _=>M.ok (.int 6)))))
 (ay (mB (jh (av n5 (av fc (af 0) (fun _=>M.ok (.int 2))) (fun _=>M.ok (.int 1)))) (ay (retS (ef (dR (itemsOf (au cY (ah (av cD (af 0) (fun _=>M.ok (.int 12))) (ah (av c_ (wb (ah (fun _=>M.ok (.int 359)) az)) (af 1)) az)))) (da 0) none (av iw (fun _=>M.ok (.int 2)) (af 0)) 1 [])))
 aB) aB)
 (ay (pR 2 (ju az))
 (ay (iV (itemsOf (au cZ (ah (av cD (af 0) (fun _=>M.ok (.int 12))) (ah (af 1) az)))) (da 3) (ay (mB (jh (av n5 (av fc (av cD (af 0) (fun _=>M.ok (.int 12))) (fun _=>M.ok (.int 2))) (fun _=>M.ok (.int 0)))) (ay (iR 2 (av aX (fun _=>M.ok (.lst (([2,3,4,6,8,9,12,16,24,27,32,36,64,72,81,128,243,256,360]:List Int).map PV.int))) (av fc (af 3) (fun _=>M.ok (.int 19)))))
 aB) (ay (iR 2 (av c_ (fun _=>M.ok (.int 12)) (av iw (fun _=>M.ok (.int 1)) (av fc (af 3) (fun _=>M.ok (.int 30))))))
 aB))
 aB))
 (ay (pT [2] (retS (af 2)))
 aB)))))
noncomputable def gN:List PV->M PV:=bL 1 (aF 4 gq)
theorem fG:aH ["_law_cell_here", "_law_many", "_law_sizes_here", "_law_number"] ["_law_cell_here"] (ak (top 44)):=⟨rfl,rfl,rfl,by decide +kernel,rfl,by decide +kernel,by decide +kernel⟩
theorem nI:((["_law_digit"]:List Str)++([]:List Str)).Nodup:=by decide +kernel
theorem qa {f:Addr} {fd:FuncData} {dv:Value} (F:aQ K "_law_sizes" "_law_sizes" (top 44) dv f fd) (T:Txt K mg) (o__law_digits:cI P w K mg base 1 "_law_digits" 2 (aF 5 c6)) (o__law_stream:cI P w K mg base 1 "_law_stream" 2 (aF 5 c7)):aY P w K mg base (b_ P w) 2 f fd ["_law_cell_here"] (f7 1 gN) :=
 F.iN fG fun cdv A outer s H E hr O =>
 by
 refine (ae ?_   (ae ?_   (ae ?_   (ae ?_   (ae ?_   aq)))))
 refine (aR (i:=1) fG.nd rfl (by first | exact .inl rfl | exact .inr rfl) ?_)
 refine (ax dt eZ ?_ ?_)
 exact ar
 refine (ax bG bF ?_ ?_)
 refine (ax bh bg ?_ ?_)
 exact (vr 0)
 exact ar
 exact ar
 refine (cU ?_ ?_ ?_)
 refine (bQ (iv hr.units) kF ?_ ?_ (bH _))
 refine (ax bG bF ?_ ?_)
 exact (vr 0)
 exact ar
 exact ar
 refine (ae ?_   aq)
 refine (aO ?_)
 refine (eh (ck (g:=(aV 0)) (ts:=["_law_digit"]) (fs:=[]) (js:=[]) (cl:=[]) rfl rfl rfl rfl rfl rfl .nil .nil (gb ?_) dG (fun C s₀ H₀ ex pins=>(aL (i:=0) nI rfl (by first | exact .inl rfl | exact .inr rfl) (.inr rfl))) (fun _=>bM) cQ (fun C s₀ H₀ ex pins=>?_)))
 refine (o__law_digits.call hr (by omega) (by rfl) O ?_)
 refine (aa ?_ (aa ?_ ao (aj rfl)) (aj rfl))
 refine (ax bh bg ?_ ?_)
 exact (vr 0)
 exact ar
 refine (ax bx bZ ?_ ?_)
 refine (oZ ?_)
 refine (aa ?_ ao (aj rfl))
 exact ar
 exact (vr 1)
 refine (ax dt eZ ?_ ?_)
 exact ar
 exact (vr 0)
 exact aq
 refine (iq (i:=2) fG.nd rfl (by first | exact .inl rfl | exact .inr rfl) ?_)
 refine (jN ?_)
 exact ao
 refine (cu (g:=(aV 3)) O rfl (gb ?_) dG (aL (i:=3) fG.nd rfl (by first | exact .inl rfl | exact .inr rfl)) bM ?_)
 refine (o__law_stream.call hr (by omega) (by rfl) O ?_)
 refine (aa ?_ (aa ?_ ao (aj rfl)) (aj rfl))
 refine (ax bh bg ?_ ?_)
 exact (vr 0)
 exact ar
 exact (vr 1)
 refine (ae ?_   aq)
 refine (cU ?_ ?_ ?_)
 refine (bQ (iv hr.units) kF ?_ ?_ (bH _))
 refine (ax bG bF ?_ ?_)
 refine (ax bh bg ?_ ?_)
 exact (vr 0)
 exact ar
 exact ar
 exact ar
 refine (ae ?_   aq)
 refine (cj (i:=2) rfl (by first | exact .inl rfl | exact .inr (.inl rfl)) ?_)
 refine (aN ?_ ?_ ?_)
 exact (w4 [2,3,4,6,8,9,12,16,24,27,32,36,64,72,81,128,243,256,360])
 refine (ax bG bF ?_ ?_)
 exact (vr 3)
 exact ar
 exact fun _ _=>rfl
 refine (ae ?_   aq)
 refine (cj (i:=2) rfl (by first | exact .inl rfl | exact .inr (.inl rfl)) ?_)
 refine (ax bx bZ ?_ ?_)
 exact ar
 refine (ax dt eZ ?_ ?_)
 exact ar
 refine (ax bG bF ?_ ?_)
 exact (vr 3)
 exact ar
 refine (jV [2] (aO ?_))
 exact (vr 2)
noncomputable def dZ:ai->M Out :=
 (ay (retS (av g_ (av fc (av c_ (af 0) (fun _=>M.ok (.int 618033988749894848204586834365))) (av g_ (av c_ (fun _=>M.ok (.int 2)) (av vA (fun _=>M.ok (.int 10)) (fun _=>M.ok (.int 30)))) (fun _=>M.ok (.int 1)))) (av g_ (av vA (fun _=>M.ok (.int 10)) (fun _=>M.ok (.int 30))) (fun _=>M.ok (.int 1)))))
 aB)
noncomputable def dY:List PV->M PV:=bL 1 (aF 1 dZ)
theorem qx:aH ["_law_number"] ["_law_number"] (ak (top 45)):=⟨rfl,rfl,rfl,by decide +kernel,rfl,by decide +kernel,by decide +kernel⟩
theorem qd {f:Addr} {fd:FuncData} {dv:Value} (F:aQ K "_law_great" "_law_great" (top 45) dv f fd) (T:Txt K mg)  : aY P w K mg base (b_ P w) 1 f fd ["_law_number"] (f7 1 dY) :=
 F.iN qx fun cdv A outer s H E hr O =>
 by
 refine (ae ?_   aq)
 refine (aO ?_)
 refine (ax eT fg ?_ ?_)
 refine (ax bG bF ?_ ?_)
 refine (ax bx bZ ?_ ?_)
 exact (vr 0)
 exact ar
 refine (ax eT fg ?_ ?_)
 refine (ax bx bZ ?_ ?_)
 exact ar
 refine (ax rY nV ?_ ?_)
 exact ar
 exact ar
 exact ar
 refine (ax eT fg ?_ ?_)
 refine (ax rY nV ?_ ?_)
 exact ar
 exact ar
 exact ar
noncomputable def gm:ai->M Out :=
 (ay (pR 2 (ju az))
 (ay (iV (lZ zip2 (ah (au cZ (ah (af 0) (ah (au eW (ah (af 1) az)) az))) (ah (af 1) az))) (cT 3 4) (ay (mB (jh (av n5 (av fc (af 3) (fun _=>M.ok (.int 4))) (fun _=>M.ok (.int 0)))) (ay (iR 2 (au dY (ah (av cD (af 3) (fun _=>M.ok (.int 4))) az)))
 aB) (ay (mB (jh (av n5 (av fc (af 3) (fun _=>M.ok (.int 4))) (fun _=>M.ok (.int 1)))) (ay (iR 2 (fun _=>M.ok (.int 0)))
 aB) (ay (bA 5 (av aX (fun _=>M.ok (.lst (([1,1,2,3,4,6,12]:List Int).map PV.int))) (av fc (av cD (af 3) (fun _=>M.ok (.int 4))) (fun _=>M.ok (.int 7)))))
 (ay (iR 2 (av fc (av c_ (av fc (av cD (af 3) (fun _=>M.ok (.int 28))) (af 4)) (af 5)) (af 4)))
 aB)))
 aB))
 aB))
 (ay (pT [2] (retS (af 2)))
 aB)))
noncomputable def gI:List PV->M PV:=bL 2 (aF 6 gm)
theorem dF:aH ["_law_cell_here", "_law_sizes_here", "_law_row", "_law_number", "_law_size", "_law_share"] ["_law_cell_here", "_law_sizes_here"] (ak (top 46)):=⟨rfl,rfl,rfl,by decide +kernel,rfl,by decide +kernel,by decide +kernel⟩
theorem qg {f:Addr} {fd:FuncData} {dv:Value} (F:aQ K "_law_lever" "_law_lever" (top 46) dv f fd) (T:Txt K mg) (o__law_stream:cI P w K mg base 1 "_law_stream" 2 (aF 5 c7)) (o__law_great:cI P w K mg base 1 "_law_great" 1 (aF 1 dZ)):aY P w K mg base (b_ P w) 2 f fd ["_law_cell_here", "_law_sizes_here"] (f7 2 gI) :=
 F.iN dF fun cdv A outer s H E hr O =>
 by
 refine (ae ?_   (ae ?_   (ae ?_   aq)))
 refine (iq (i:=2) dF.nd rfl (by first | exact .inl rfl | exact .inr rfl) ?_)
 refine (jN ?_)
 exact ao
 refine (cu (g:=(kA K 2 (bS (aV 3) (bS (aV 4) ku)))) O rfl (kL (by rfl) T.kY ?_) iT (fe (n:=2) rfl (aW (aL (i:=3) dF.nd rfl (by first | exact .inl rfl | exact .inr rfl)) (aW (aL (i:=4) dF.nd rfl (by first | exact .inl rfl | exact .inr rfl)) dz))) dM ?_)
 refine (aa ?_ (aa ?_ ao (aj rfl)) (aj rfl))
 refine (o__law_stream.call hr (by omega) (by rfl) O ?_)
 refine (aa ?_ (aa ?_ ao (aj rfl)) (aj rfl))
 exact (vr 0)
 refine (aU aS bP (by rfl) T.cM PySem.boot_len ?_)
 refine (aa ?_ ao (aj rfl))
 exact (vr 1)
 exact (vr 1)
 refine (ae ?_   aq)
 refine (cU ?_ ?_ ?_)
 refine (bQ (iv hr.units) kF ?_ ?_ (bH _))
 refine (ax bG bF ?_ ?_)
 exact (vr 3)
 exact ar
 exact ar
 refine (ae ?_   aq)
 refine (cj (i:=2) rfl (by first | exact .inl rfl | exact .inr (.inl rfl)) ?_)
 refine (o__law_great.call hr (by omega) (by rfl) O ?_)
 refine (aa ?_ ao (aj rfl))
 refine (ax bh bg ?_ ?_)
 exact (vr 3)
 exact ar
 refine (ae ?_   aq)
 refine (cU ?_ ?_ ?_)
 refine (bQ (iv hr.units) kF ?_ ?_ (bH _))
 refine (ax bG bF ?_ ?_)
 exact (vr 3)
 exact ar
 exact ar
 refine (ae ?_   aq)
 refine (cj (i:=2) rfl (by first | exact .inl rfl | exact .inr (.inl rfl)) ?_)
 exact ar
 refine (ae ?_   (ae ?_   aq))
 refine (aR (i:=5) dF.nd rfl (by first | exact .inl rfl | exact .inr rfl) ?_)
 refine (aN ?_ ?_ ?_)
 exact (w4 [1,1,2,3,4,6,12])
 refine (ax bG bF ?_ ?_)
 refine (ax bh bg ?_ ?_)
 exact (vr 3)
 exact ar
 exact ar
 exact fun _ _=>rfl
 refine (cj (i:=2) rfl (by first | exact .inl rfl | exact .inr (.inl rfl)) ?_)
 refine (ax bG bF ?_ ?_)
 refine (ax bx bZ ?_ ?_)
 refine (ax bG bF ?_ ?_)
 refine (ax bh bg ?_ ?_)
 exact (vr 3)
 exact ar
 exact (vr 4)
 exact (vr 5)
 exact (vr 4)
 refine (jV [2] (aO ?_))
 exact (vr 2)
noncomputable def fH:ai->M Out :=
 (ay (pR 2 (ju az))
 (ay (iV (lZ rJ (ah (av fc (au de (ah (af 0) (ah (fun _=>M.ok (.int 1)) az))) (fun _=>M.ok (.int 9))) az)) (da 3) (ay (bA 4 (au de (ah (af 0) (ah (av iw (fun _=>M.ok (.int 2)) (af 3)) az))))
 (ay (mB (jh (av n5 (av fc (av cD (au de (ah (af 0) (ah (fun _=>M.ok (.int 1)) az))) (fun _=>M.ok (.int 9))) (fun _=>M.ok (.int 2))) (fun _=>M.ok (.int 1)))) (ay (iR 2 (au cY (ah (af 4) (ah (af 1) az))))
 aB) (ay (iR 2 (au gI (ah (av iw (af 4) (av c_ (fun _=>M.ok (.int 7919)) (af 3))) (ah (af 1) az))))
 aB))
 aB)))
 (ay (pT [2] (retS (af 2)))
 aB)))
noncomputable def fB:List PV->M PV:=bL 2 (aF 5 fH)
theorem eP:aH ["_law_script", "_law_sizes_here", "_law_levers_here", "_law_k", "_law_cell_here"] ["_law_script", "_law_sizes_here"] (ak (top 47)):=⟨rfl,rfl,rfl,by decide +kernel,rfl,by decide +kernel,by decide +kernel⟩
theorem oB {f:Addr} {fd:FuncData} {dv:Value} (F:aQ K "_law_levers" "_law_levers" (top 47) dv f fd) (T:Txt K mg) (o__law_cell:cI P w K mg base 1 "_law_cell" 2 (aF 2 fP)) (o__law_digits:cI P w K mg base 1 "_law_digits" 2 (aF 5 c6)) (o__law_lever:cI P w K mg base 2 "_law_lever" 2 (aF 6 gm)):aY P w K mg base (b_ P w) 3 f fd ["_law_script", "_law_sizes_here"] (f7 2 fB) :=
 F.iN eP fun cdv A outer s H E hr O =>
 by
 refine (ae ?_   (ae ?_   (ae ?_   aq)))
 refine (iq (i:=2) eP.nd rfl (by first | exact .inl rfl | exact .inr rfl) ?_)
 refine (jN ?_)
 exact ao
 refine (cu (g:=(aV 3)) O rfl (iC (by rfl) T.gC ?_) jM (aL (i:=3) eP.nd rfl (by first | exact .inl rfl | exact .inr rfl)) bM ?_)
 refine (aa ?_ ao (aj rfl))
 refine (ax bG bF ?_ ?_)
 refine (o__law_cell.call hr (by omega) (by rfl) O ?_)
 refine (aa ?_ (aa ?_ ao (aj rfl)) (aj rfl))
 exact (vr 0)
 exact ar
 exact ar
 refine (ae ?_   (ae ?_   aq))
 refine (aR (i:=4) eP.nd rfl (by first | exact .inl rfl | exact .inr rfl) ?_)
 refine (o__law_cell.call hr (by omega) (by rfl) O ?_)
 refine (aa ?_ (aa ?_ ao (aj rfl)) (aj rfl))
 exact (vr 0)
 refine (ax dt eZ ?_ ?_)
 exact ar
 exact (vr 3)
 refine (cU ?_ ?_ ?_)
 refine (bQ (iv hr.units) kF ?_ ?_ (bH _))
 refine (ax bG bF ?_ ?_)
 refine (ax bh bg ?_ ?_)
 refine (o__law_cell.call hr (by omega) (by rfl) O ?_)
 refine (aa ?_ (aa ?_ ao (aj rfl)) (aj rfl))
 exact (vr 0)
 exact ar
 exact ar
 exact ar
 exact ar
 refine (ae ?_   aq)
 refine (cj (i:=2) rfl (by first | exact .inl rfl | exact .inr (.inl rfl)) ?_)
 refine (o__law_digits.call hr (by omega) (by rfl) O ?_)
 refine (aa ?_ (aa ?_ ao (aj rfl)) (aj rfl))
 exact (vr 4)
 exact (vr 1)
 refine (ae ?_   aq)
 refine (cj (i:=2) rfl (by first | exact .inl rfl | exact .inr (.inl rfl)) ?_)
 refine (o__law_lever.call hr (by omega) (by rfl) O ?_)
 refine (aa ?_ (aa ?_ ao (aj rfl)) (aj rfl))
 refine (ax dt eZ ?_ ?_)
 exact (vr 4)
 refine (ax bx bZ ?_ ?_)
 exact ar
 exact (vr 3)
 exact (vr 1)
 refine (jV [2] (aO ?_))
 exact (vr 2)
noncomputable def gz:ai->M Out :=
 (ay (retS (au eG (ah (ef (dR (lZ yo (ah (af 1) (ah (af 2) (ah (af 0) az)))) (qE 0 1 2) none (av fc (av iw (af 0) (av c_ (af 3) (af 1))) (af 2)) 3 [3])) az)))
 aB)
noncomputable def eE:List PV->M PV:=bL 4 (aF 4 gz)
theorem pZ:aH ["_law_sizes_here", "_law_one", "_law_other", "_law_times"] ["_law_sizes_here", "_law_one", "_law_other", "_law_times"] (ak (top 48)):=⟨rfl,rfl,rfl,by decide +kernel,rfl,by decide +kernel,by decide +kernel⟩
theorem f9:((["_law_here", "_law_there", "_law_size"]:List Str)++(["_law_times"]:List Str)).Nodup:=by decide +kernel
theorem qc {f:Addr} {fd:FuncData} {dv:Value} (F:aQ K "_law_added" "_law_added" (top 48) dv f fd) (T:Txt K mg)  : aY P w K mg base (b_ P w) 1 f fd ["_law_sizes_here", "_law_one", "_law_other", "_law_times"] (f7 4 eE) :=
 F.iN pZ fun cdv A outer s H E hr O =>
 by
 refine (ae ?_   aq)
 refine (aO ?_)
 refine (bC bb cW (by rfl) T.cR cq ?_)
 refine (aa ?_ ao (aj rfl))
 refine (eh (ck (g:=(kA K 3 (bS (aV 0) (bS (aV 1) (bS (aV 2) ku))))) (ts:=["_law_here", "_law_there", "_law_size"]) (fs:=["_law_times"]) (js:=[3]) rfl rfl rfl rfl rfl rfl (.cons rfl .nil) (.cons rfl rfl (by first | exact .inl rfl | exact .inr rfl) rfl rfl .nil) (CF (by rfl) T.kY ?_) yN (fun C s₀ H₀ ex pins=>(fe (n:=3) rfl (aW (aL (i:=0) f9 rfl (by first | exact .inl rfl | exact .inr rfl) (.inr rfl)) (aW (aL (i:=1) f9 rfl (by first | exact .inl rfl | exact .inr rfl) (.inr rfl)) (aW (aL (i:=2) f9 rfl (by first | exact .inl rfl | exact .inr rfl) (.inr rfl)) dz))))) (fun _=>CV) vG (fun C s₀ H₀ ex pins=>?_)))
 refine (aa ?_ (aa ?_ (aa ?_ ao (aj rfl)) (aj rfl)) (aj rfl))
 exact (vr 1)
 exact (vr 2)
 exact (vr 0)
 refine (ax bG bF ?_ ?_)
 refine (ax dt eZ ?_ ?_)
 exact (vr 0)
 refine (ax bx bZ ?_ ?_)
 exact (vr 3)
 exact (vr 1)
 exact (vr 2)
noncomputable def fx:ai->M Out :=
 (ay (bA 4 (au eG (ah (af 2) az)))
 (ay (iV (lZ zip2 (ah (af 1) (ah (af 3) az))) (cT 5 6) (ay (bA 4 (au eE (ah (af 0) (ah (af 4) (ah (af 5) (ah (af 6) az))))))
 aB))
 (ay (retS (af 4))
 aB)))
noncomputable def dD:List PV->M PV:=bL 4 (aF 7 fx)
theorem dc:aH ["_law_sizes_here", "_law_levers_here", "_law_setting", "_law_pulls_here", "_law_found", "_law_row", "_law_times"] ["_law_sizes_here", "_law_levers_here", "_law_setting", "_law_pulls_here"] (ak (top 49)):=⟨rfl,rfl,rfl,by decide +kernel,rfl,by decide +kernel,by decide +kernel⟩
theorem pe {f:Addr} {fd:FuncData} {dv:Value} (F:aQ K "_law_turned" "_law_turned" (top 49) dv f fd) (T:Txt K mg) (o__law_added:cI P w K mg base 1 "_law_added" 4 (aF 4 gz)):aY P w K mg base (b_ P w) 2 f fd ["_law_sizes_here", "_law_levers_here", "_law_setting", "_law_pulls_here"] (f7 4 dD) :=
 F.iN dc fun cdv A outer s H E hr O =>
 by
 refine (ae ?_   (ae ?_   (ae ?_   aq)))
 refine (aR (i:=4) dc.nd rfl (by first | exact .inl rfl | exact .inr rfl) ?_)
 refine (bC bb cW (by rfl) T.cR cq ?_)
 refine (aa ?_ ao (aj rfl))
 exact (vr 2)
 refine (cu (g:=(kA K 2 (bS (aV 5) (bS (aV 6) ku)))) O rfl (kL (by rfl) T.kY ?_) iT (fe (n:=2) rfl (aW (aL (i:=5) dc.nd rfl (by first | exact .inl rfl | exact .inr rfl)) (aW (aL (i:=6) dc.nd rfl (by first | exact .inl rfl | exact .inr rfl)) dz))) dM ?_)
 refine (aa ?_ (aa ?_ ao (aj rfl)) (aj rfl))
 exact (vr 1)
 exact (vr 3)
 refine (ae ?_   aq)
 refine (aR (i:=4) dc.nd rfl (by first | exact .inl rfl | exact .inr rfl) ?_)
 refine (o__law_added.call hr (by omega) (by rfl) O ?_)
 refine (aa ?_ (aa ?_ (aa ?_ (aa ?_ ao (aj rfl)) (aj rfl)) (aj rfl)) (aj rfl))
 exact (vr 0)
 exact (vr 4)
 exact (vr 5)
 exact (vr 6)
 refine (aO ?_)
 exact (vr 4)
noncomputable def gw:ai->M Out :=
 (ay (mB (jh (av n5 (av fc (af 0) (fun _=>M.ok (.int 2))) (fun _=>M.ok (.int 1)))) (ay (retS (au eG (ah (ef (dR (itemsOf (au cY (ah (av cD (af 0) (fun _=>M.ok (.int 2))) (ah (av c_ (wb (ah (av g_ (av c_ (fun _=>M.ok (.int 2)) (av vA (fun _=>M.ok (.int 10)) (fun _=>M.ok (.int 30)))) (fun _=>M.ok (.int 1))) az)) (af 1)) az)))) (da 0) none (av g_ (af 0) (av g_ (av vA (fun _=>M.ok (.int 10)) (fun _=>M.ok (.int 30))) (fun _=>M.ok (.int 1)))) 1 [])) az)))
 aB) aB)
 (ay (pR 2 (ju az))
 (ay (iV (itemsOf (au cZ (ah (av cD (af 0) (fun _=>M.ok (.int 2))) (ah (af 1) az)))) (da 3) (ay (iR 2 (av aX (wb (ah (av g_ (av fc (av cD (af 3) (fun _=>M.ok (.int 2))) (fun _=>M.ok (.int 9))) (fun _=>M.ok (.int 4))) (ah (au dY (ah (av cD (af 3) (fun _=>M.ok (.int 2))) az)) az))) (av fc (af 3) (fun _=>M.ok (.int 2)))))
 aB))
 (ay (pT [2] (retS (au eG (ah (af 2) az))))
 aB))))
noncomputable def gu:List PV->M PV:=bL 2 (aF 4 gw)
theorem ix:aH ["_law_cell_here", "_law_many", "_law_found", "_law_number"] ["_law_cell_here", "_law_many"] (ak (top 50)):=⟨rfl,rfl,rfl,by decide +kernel,rfl,by decide +kernel,by decide +kernel⟩
theorem nu:((["_law_digit"]:List Str)++([]:List Str)).Nodup:=by decide +kernel
theorem p9 {f:Addr} {fd:FuncData} {dv:Value} (F:aQ K "_law_pulls" "_law_pulls" (top 50) dv f fd) (T:Txt K mg) (o__law_digits:cI P w K mg base 1 "_law_digits" 2 (aF 5 c6)) (o__law_stream:cI P w K mg base 1 "_law_stream" 2 (aF 5 c7)) (o__law_great:cI P w K mg base 1 "_law_great" 1 (aF 1 dZ)):aY P w K mg base (b_ P w) 2 f fd ["_law_cell_here", "_law_many"] (f7 2 gu) :=
 F.iN ix fun cdv A outer s H E hr O =>
 by
 refine (ae ?_   (ae ?_   (ae ?_   (ae ?_   aq))))
 refine (cU ?_ ?_ ?_)
 refine (bQ (iv hr.units) kF ?_ ?_ (bH _))
 refine (ax bG bF ?_ ?_)
 exact (vr 0)
 exact ar
 exact ar
 refine (ae ?_   aq)
 refine (aO ?_)
 refine (bC bb cW (by rfl) T.cR cq ?_)
 refine (aa ?_ ao (aj rfl))
 refine (eh (ck (g:=(aV 0)) (ts:=["_law_digit"]) (fs:=[]) (js:=[]) (cl:=[]) rfl rfl rfl rfl rfl rfl .nil .nil (gb ?_) dG (fun C s₀ H₀ ex pins=>(aL (i:=0) nu rfl (by first | exact .inl rfl | exact .inr rfl) (.inr rfl))) (fun _=>bM) cQ (fun C s₀ H₀ ex pins=>?_)))
 refine (o__law_digits.call hr (by omega) (by rfl) O ?_)
 refine (aa ?_ (aa ?_ ao (aj rfl)) (aj rfl))
 refine (ax bh bg ?_ ?_)
 exact (vr 0)
 exact ar
 refine (ax bx bZ ?_ ?_)
 refine (oZ ?_)
 refine (aa ?_ ao (aj rfl))
 refine (ax eT fg ?_ ?_)
 refine (ax bx bZ ?_ ?_)
 exact ar
 refine (ax rY nV ?_ ?_)
 exact ar
 exact ar
 exact ar
 exact (vr 1)
 refine (ax eT fg ?_ ?_)
 exact (vr 0)
 refine (ax eT fg ?_ ?_)
 refine (ax rY nV ?_ ?_)
 exact ar
 exact ar
 exact ar
 exact aq
 refine (iq (i:=2) ix.nd rfl (by first | exact .inl rfl | exact .inr rfl) ?_)
 refine (jN ?_)
 exact ao
 refine (cu (g:=(aV 3)) O rfl (gb ?_) dG (aL (i:=3) ix.nd rfl (by first | exact .inl rfl | exact .inr rfl)) bM ?_)
 refine (o__law_stream.call hr (by omega) (by rfl) O ?_)
 refine (aa ?_ (aa ?_ ao (aj rfl)) (aj rfl))
 refine (ax bh bg ?_ ?_)
 exact (vr 0)
 exact ar
 exact (vr 1)
 refine (ae ?_   aq)
 refine (cj (i:=2) rfl (by first | exact .inl rfl | exact .inr (.inl rfl)) ?_)
 refine (aN ?_ ?_ ?_)
 refine (oZ ?_)
 refine (aa ?_ (aa ?_ ao (aj rfl)) (aj rfl))
 refine (ax eT fg ?_ ?_)
 refine (ax bG bF ?_ ?_)
 refine (ax bh bg ?_ ?_)
 exact (vr 3)
 exact ar
 exact ar
 exact ar
 refine (o__law_great.call hr (by omega) (by rfl) O ?_)
 refine (aa ?_ ao (aj rfl))
 refine (ax bh bg ?_ ?_)
 exact (vr 3)
 exact ar
 refine (ax bG bF ?_ ?_)
 exact (vr 3)
 exact ar
 exact fun _ _=>rfl
 refine (jV [2] (aO ?_))
 refine (bC bb cW (by rfl) T.cR cq ?_)
 refine (aa ?_ ao (aj rfl))
 exact (vr 2)
noncomputable def cG:ai->M Out :=
 (ay (bA 2 (au tN (ah (af 1) az)))
 (ay (iV (lZ ya (ah (au eW (ah (af 0) az)) az)) (da 3) (ay (bA 4 (av cD (av aX (af 2) (af 3)) (av aX (av aX (af 0) (af 3)) (af 3))))
 (ay (bA 2 (ef (dR (lZ zip2 (ah (af 2) (ah (av aX (af 0) (af 3)) az))) (cT 0 1) none (av g_ (af 0) (av c_ (af 2) (af 1))) 2 [4])))
 (ay (mB (jh (av tD (av aX (af 2) (af 3)) (fun _=>M.ok (.int 0)))) (ay (retS (fun _=>M.ok .c8))
 aB) aB)
 aB))))
 (ay (retS (af 2))
 aB)))
noncomputable def cH:List PV->M PV:=bL 2 (aF 5 cG)
theorem bK:aH ["_law_idle", "_law_pulls_here", "_law_left", "_law_lever_here", "_law_times"] ["_law_idle", "_law_pulls_here"] (ak (top 51)):=⟨rfl,rfl,rfl,by decide +kernel,rfl,by decide +kernel,by decide +kernel⟩
theorem eN:((["_law_here", "_law_there"]:List Str)++(["_law_times"]:List Str)).Nodup:=by decide +kernel
theorem jS {f:Addr} {fd:FuncData} {dv:Value} (F:aQ K "_law_brought_down" "_law_brought_down" (top 51) dv f fd) (T:Txt K mg)  : aY P w K mg base (b_ P w) 1 f fd ["_law_idle", "_law_pulls_here"] (f7 2 cH) :=
 F.iN bK fun cdv A outer s H E hr O =>
 by
 refine (ae ?_   (ae ?_   (ae ?_   aq)))
 refine (aR (i:=2) bK.nd rfl (by first | exact .inl rfl | exact .inr rfl) ?_)
 refine (bC gD si (by rfl) T.mw kX ?_)
 refine (aa ?_ ao (aj rfl))
 exact (vr 1)
 refine (cu (g:=(aV 3)) O rfl (C6 (by rfl) T.pq (by rfl) T.gC ?_) C8 (aL (i:=3) bK.nd rfl (by first | exact .inl rfl | exact .inr rfl)) bM ?_)
 refine (aa ?_ ao (aj rfl))
 refine (aU aS bP (by rfl) T.cM PySem.boot_len ?_)
 refine (aa ?_ ao (aj rfl))
 exact (vr 0)
 refine (ae ?_   (ae ?_   (ae ?_   aq)))
 refine (aR (i:=4) bK.nd rfl (by first | exact .inl rfl | exact .inr rfl) ?_)
 refine (ax bh bg ?_ ?_)
 refine (aN ?_ ?_ ?_)
 exact (vr 2)
 exact (vr 3)
 exact fun _ _=>rfl
 refine (aN ?_ ?_ ?_)
 refine (aN ?_ ?_ ?_)
 exact (vr 0)
 exact (vr 3)
 exact fun _ _=>rfl
 exact (vr 3)
 exact fun _ _=>rfl
 refine (w6 (i:=2) (g:=(kA K 2 (bS (aV 0) (bS (aV 1) ku)))) (ts:=["_law_here", "_law_there"]) (fs:=["_law_times"]) (js:=[4]) rfl rfl rfl rfl rfl rfl (.cons rfl .nil) (.cons rfl rfl (by first | exact .inl rfl | exact .inr rfl) rfl rfl .nil) (kL (by rfl) T.kY ?_) iT (fun C s₀ H₀ ex pins=>(fe (n:=2) rfl (aW (aL (i:=0) eN rfl (by first | exact .inl rfl | exact .inr rfl) (.inr rfl)) (aW (aL (i:=1) eN rfl (by first | exact .inl rfl | exact .inr rfl) (.inr rfl)) dz)))) (fun _=>dM) e9 (fun C s₀ H₀ ex pins=>?_) bK.nd rfl (by first | exact .inl rfl | exact .inr rfl))
 refine (aa ?_ (aa ?_ ao (aj rfl)) (aj rfl))
 exact (vr 2)
 refine (aN ?_ ?_ ?_)
 exact (vr 0)
 exact (vr 3)
 exact fun _ _=>rfl
 refine (ax eT fg ?_ ?_)
 exact (vr 0)
 refine (ax bx bZ ?_ ?_)
 exact (vr 2)
 exact (vr 1)
 refine (cU ?_ ?_ ?_)
 refine (bQ (jB hr.units) mQ ?_ ?_ (bH _))
 refine (aN ?_ ?_ ?_)
 exact (vr 2)
 exact (vr 3)
 exact fun _ _=>rfl
 exact ar
 refine (ae ?_   aq)
 refine (aO ?_)
 exact sC
 exact aq
 refine (aO ?_)
 exact (vr 2)
noncomputable def lT:ai->M Out :=
 (ay (qX (au gA (ah (af 1) az)))
 (ay (qX (au fD (ah (af 2) (ah (au eW (ah (af 1) az)) az))))
 (ay (kJ 0 aM "dial_sizes" (au eG (ah (af 1) az)))
 (ay (kJ 0 aM "lever_settings" (au eG (ah (ef (dR (itemsOf (af 2)) (da 0) none (au kj (ah (af 0) (ah (af 1) az))) 1 [1])) az)))
 (ay (kJ 0 aM "lever_prices" (au gi (ah (af 2) (ah (af 3) az))))
 (ay (kJ 0 aM "least_round" (au fz (ah (af 1) az)))
 aB))))))
noncomputable def i4:Addr->List PV->M (List (Str×PV)):=sJ 4 (xQ 4 lT aM)
theorem qq:aH ["self", "sizes", "levers", "prices"] ["self", "sizes", "levers", "prices"] (ak (inClass (top 21) 0)):=⟨rfl,rfl,rfl,by decide +kernel,rfl,by decide +kernel,by decide +kernel⟩
theorem nN:((["lever"]:List Str)++(["sizes"]:List Str)).Nodup:=by decide +kernel
theorem qf {f:Addr} {fd:FuncData} {dv:Value} (F:aQ K "__init__" "Vault.__init__" (inClass (top 21) 0) dv f fd) (T:Txt K mg) (o_need_sizes:cI P w K mg base 3 "need_sizes" 1 (aF 3 gg)) (o_need_levers:cI P w K mg base 3 "need_levers" 2 (aF 4 fm)) (o_rests:cI P w K mg base 1 "rests" 2 (aF 2 lH)) (o_prices_for:cI P w K mg base 3 "prices_for" 2 (aF 3 gK)) (o_multiple_of:cI P w K mg base 2 "multiple_of" 1 (aF 3 fE)):aY P w K mg base (b_ P w) 4 f fd ["self", "sizes", "levers", "prices"] (Dm 4 aM i4) :=
 F.Q2 qq (by decide) fun cdv A outer s H E hr O =>
 by
 refine (ae ?_   (ae ?_   (ae ?_   (ae ?_   (ae ?_   (ae ?_   aq))))))
 refine (nZ ?_)
 refine (o_need_sizes.call hr (by omega) (by rfl) O ?_)
 refine (aa ?_ ao (aj rfl))
 exact (vr 1)
 refine (nZ ?_)
 refine (o_need_levers.call hr (by omega) (by rfl) O ?_)
 refine (aa ?_ (aa ?_ ao (aj rfl)) (aj rfl))
 exact (vr 2)
 refine (aU aS bP (by rfl) T.cM PySem.boot_len ?_)
 refine (aa ?_ ao (aj rfl))
 exact (vr 1)
 refine (kT (i:=0) rfl (by first | exact .inl rfl | exact .inr (.inl rfl)) T.lY T.gR ?_)
 refine (bC bb cW (by rfl) T.cR cq ?_)
 refine (aa ?_ ao (aj rfl))
 exact (vr 1)
 refine (kT (i:=0) rfl (by first | exact .inl rfl | exact .inr (.inl rfl)) T.lY T.dX ?_)
 refine (bC bb cW (by rfl) T.cR cq ?_)
 refine (aa ?_ ao (aj rfl))
 refine (eh (ck (g:=(aV 0)) (ts:=["lever"]) (fs:=["sizes"]) (js:=[1]) rfl rfl rfl rfl rfl rfl (.cons rfl .nil) (.cons rfl rfl (by first | exact .inl rfl | exact .inr rfl) rfl rfl .nil) (gb ?_) dG (fun C s₀ H₀ ex pins=>(aL (i:=0) nN rfl (by first | exact .inl rfl | exact .inr rfl) (.inr rfl))) (fun _=>bM) cQ (fun C s₀ H₀ ex pins=>?_)))
 exact (vr 2)
 refine (o_rests.call hr (by omega) (by rfl) uT ?_)
 refine (aa ?_ (aa ?_ ao (aj rfl)) (aj rfl))
 exact (vr 0)
 exact (vr 1)
 refine (kT (i:=0) rfl (by first | exact .inl rfl | exact .inr (.inl rfl)) T.lY T.fX ?_)
 refine (o_prices_for.call hr (by omega) (by rfl) O ?_)
 refine (aa ?_ (aa ?_ ao (aj rfl)) (aj rfl))
 exact (vr 2)
 exact (vr 3)
 refine (kT (i:=0) rfl (by first | exact .inl rfl | exact .inr (.inl rfl)) T.lY T.gc ?_)
 refine (o_multiple_of.call hr (by omega) (by rfl) O ?_)
 refine (aa ?_ ao (aj rfl))
 exact (vr 1)
noncomputable def cC:ai->M Out :=
 (ay (retS (hG (fun c=>c==aM) "dial_sizes" (af 0)))
 aB)
noncomputable def bU:List PV->M PV:=bL 1 (aF 1 cC)
theorem oG:aH ["self"] ["self"] (ak (inClass (top 21) 1)):=⟨rfl,rfl,rfl,by decide +kernel,rfl,by decide +kernel,by decide +kernel⟩
theorem pz {f:Addr} {fd:FuncData} {dv:Value} (F:aQ K "sizes" "Vault.sizes" (inClass (top 21) 1) dv f fd) (T:Txt K mg)  : aY P w K mg base (b_ P w) 1 f fd ["self"] (f7 1 bU) :=
 F.iN oG fun cdv A outer s H E hr O =>
 by
 refine (ae ?_   aq)
 refine (aO ?_)
 refine (g8 ?_ T.lp rfl)
 exact (vr 0)
noncomputable def cJ:ai->M Out :=
 (ay (retS (hG (fun c=>c==aM) "lever_settings" (af 0)))
 aB)
noncomputable def bV:List PV->M PV:=bL 1 (aF 1 cJ)
theorem nq:aH ["self"] ["self"] (ak (inClass (top 21) 2)):=⟨rfl,rfl,rfl,by decide +kernel,rfl,by decide +kernel,by decide +kernel⟩
theorem nB {f:Addr} {fd:FuncData} {dv:Value} (F:aQ K "levers" "Vault.levers" (inClass (top 21) 2) dv f fd) (T:Txt K mg)  : aY P w K mg base (b_ P w) 1 f fd ["self"] (f7 1 bV) :=
 F.iN nq fun cdv A outer s H E hr O =>
 by
 refine (ae ?_   aq)
 refine (aO ?_)
 refine (g8 ?_ T.iE rfl)
 exact (vr 0)
noncomputable def jU:ai->M Out :=
 (ay (retS (hG (fun c=>c==aM) "lever_prices" (af 0)))
 aB)
noncomputable def oa:List PV->M PV:=bL 1 (aF 1 jU)
theorem nG:aH ["self"] ["self"] (ak (inClass (top 21) 3)):=⟨rfl,rfl,rfl,by decide +kernel,rfl,by decide +kernel,by decide +kernel⟩
theorem nK {f:Addr} {fd:FuncData} {dv:Value} (F:aQ K "prices" "Vault.prices" (inClass (top 21) 3) dv f fd) (T:Txt K mg)  : aY P w K mg base (b_ P w) 1 f fd ["self"] (f7 1 oa) :=
 F.iN nG fun cdv A outer s H E hr O =>
 by
 refine (ae ?_   aq)
 refine (aO ?_)
 refine (g8 ?_ T.jP rfl)
 exact (vr 0)
noncomputable def gJ:ai->M Out :=
 (ay (retS (au tN (ah (hG (fun c=>c==aG) "idle_rows" (af 0)) az)))
 aB)
noncomputable def cS:List PV->M PV:=bL 1 (aF 1 gJ)
theorem kH:aH ["self"] ["self"] (ak (inClass (top 39) 4)):=⟨rfl,rfl,rfl,by decide +kernel,rfl,by decide +kernel,by decide +kernel⟩
theorem qk {f:Addr} {fd:FuncData} {dv:Value} (F:aQ K "idle" "Rungs.idle" (inClass (top 39) 4) dv f fd) (T:Txt K mg)  : aY P w K mg base (b_ P w) 1 f fd ["self"] (f7 1 cS) :=
 F.iN kH fun cdv A outer s H E hr O =>
 by
 refine (ae ?_   aq)
 refine (aO ?_)
 refine (bC gD si (by rfl) T.mw kX ?_)
 refine (aa ?_ ao (aj rfl))
 refine (g8 ?_ T.hZ rfl)
 exact (vr 0)
noncomputable def dA:List PV->M (List PV):=fun ps=>(zp (hG (fun c=>c==aG) "idle_rows" (af 0))) (i8 1 ps)
theorem pd {f:Addr} {fd:FuncData} {dv:Value} (F:aQ K "idle" "Rungs.idle" (inClass (top 39) 4) dv f fd) (T:Txt K mg)  : aY P w K mg base (b_ P w) 1 f fd ["self"] (F7 1 dA) :=
 F.Th kH rfl fun cdv A outer s H E hr O=>by
 refine (By (by rfl) T.mw ?_)
 refine (g8 ?_ T.hZ rfl)
 exact (vr 0)
noncomputable def jL:ai->M Out :=
 (ay (retS (av c_ (lQ (ah (fun _=>M.ok (.int 0)) az)) (au eW (ah (dB aM "sizes" bU (af 0) az) az))))
 aB)
noncomputable def iI:List PV->M PV:=bL 1 (aF 1 jL)
theorem yC:aH ["vault"] ["vault"] (ak (top 27)):=⟨rfl,rfl,rfl,by decide +kernel,rfl,by decide +kernel,by decide +kernel⟩
theorem xn {f:Addr} {fd:FuncData} {dv:Value} (F:aQ K "nought" "nought" (top 27) dv f fd) (T:Txt K mg) (o_Vault_sizes:pK P w K mg base aM 1 "sizes" 1 (aF 1 cC)):aY P w K mg base (b_ P w) 2 f fd ["vault"] (f7 1 iI) :=
 F.iN yC fun cdv A outer s H E hr O =>
 by
 refine (ae ?_   aq)
 refine (aO ?_)
 refine (ax bx bZ ?_ ?_)
 refine (gS ?_)
 refine (aa ?_ ao (aj rfl))
 exact ar
 refine (aU aS bP (by rfl) T.cM PySem.boot_len ?_)
 refine (aa ?_ ao (aj rfl))
 refine (o_Vault_sizes.jA hr (by omega) O ?_)
 exact (vr 0)
noncomputable def gM:ai->M Out :=
 (ay (bA 2 (dB aM "sizes" bU (af 0) az))
 (ay (mB (FX (sv (jh (FJ (fun a=>qo a "tuple") vv vv (af 1)))) (sv (jh (au gQ (ah (af 1) (ah (au eW (ah (af 2) az)) az)))))) (ay (retS (fun _=>M.ok (.bl false)))
 aB) aB)
 (ay (retS (au vP (ah (ef (dR (lZ zip2 (ah (af 1) (ah (af 2) az))) (cT 0 1) none (kM Ff Fe (fun _=>M.ok (.int 0)) (af 0) (af 1)) 2 [])) az)))
 aB)))
noncomputable def gE:List PV->M PV:=bL 2 (aF 3 gM)
theorem kE:aH ["vault", "thing", "sizes"] ["vault", "thing"] (ak (top 28)):=⟨rfl,rfl,rfl,by decide +kernel,rfl,by decide +kernel,by decide +kernel⟩
theorem jf:((["notch", "size"]:List Str)++([]:List Str)).Nodup:=by decide +kernel
theorem qp {f:Addr} {fd:FuncData} {dv:Value} (F:aQ K "is_setting" "is_setting" (top 28) dv f fd) (T:Txt K mg) (o_Vault_sizes:pK P w K mg base aM 1 "sizes" 1 (aF 1 cC)) (o_is_row:cI P w K mg base 2 "is_row" 2 (aF 2 jJ)):aY P w K mg base (b_ P w) 3 f fd ["vault", "thing"] (f7 2 gE) :=
 F.iN kE fun cdv A outer s H E hr O =>
 by
 refine (ae ?_   (ae ?_   (ae ?_   aq)))
 refine (aR (i:=2) kE.nd rfl (by first | exact .inl rfl | exact .inr rfl) ?_)
 refine (o_Vault_sizes.jA hr (by omega) O ?_)
 exact (vr 0)
 refine (cU ?_ ?_ ?_)
 refine (w_ ?_ (sD ?_)).pt
 refine (kW ?_)
 refine (kU ?_)
 refine (we (T := "tuple") (by rfl) T.eD (lV (v:=.ty "tuple") (by rfl) T.cR cq rfl) (by decide) vd vd ?_)
 exact (vr 1)
 refine (kW ?_)
 refine (kU ?_)
 refine (o_is_row.call hr (by omega) (by rfl) O ?_)
 refine (aa ?_ (aa ?_ ao (aj rfl)) (aj rfl))
 exact (vr 1)
 refine (aU aS bP (by rfl) T.cM PySem.boot_len ?_)
 refine (aa ?_ ao (aj rfl))
 exact (vr 2)
 refine (ae ?_   aq)
 refine (aO ?_)
 exact qW
 exact aq
 refine (aO ?_)
 refine (aU (qJ rfl) yS (by rfl) T.zR Bb ?_)
 refine (aa ?_ ao (aj rfl))
 refine (eh (ck (g:=(kA K 2 (bS (aV 0) (bS (aV 1) ku)))) (ts:=["notch", "size"]) (fs:=[]) (js:=[]) (cl:=[]) rfl rfl rfl rfl rfl rfl .nil .nil (kL (by rfl) T.kY ?_) iT (fun C s₀ H₀ ex pins=>(fe (n:=2) rfl (aW (aL (i:=0) jf rfl (by first | exact .inl rfl | exact .inr rfl) (.inr rfl)) (aW (aL (i:=1) jf rfl (by first | exact .inl rfl | exact .inr rfl) (.inr rfl)) dz)))) (fun _=>dM) e9 (fun C s₀ H₀ ex pins=>?_)))
 refine (aa ?_ (aa ?_ ao (aj rfl)) (aj rfl))
 exact (vr 1)
 exact (vr 2)
 refine (uK zz vU zF vK ?_ ?_ ?_)
 exact ar
 exact (vr 0)
 exact (vr 1)
noncomputable def eo:ai->M Out :=
 (ay (mB (sv (jh (au gE (ah (af 0) (ah (af 1) az))))) (ay (n6 jH (ah (fun _=>M.ok (.str "this is no setting of the vault")) az))
 aB) aB)
 aB)
noncomputable def er:List PV->M PV:=bL 2 (aF 2 eo)
theorem nP:aH ["vault", "thing"] ["vault", "thing"] (ak (top 29)):=⟨rfl,rfl,rfl,by decide +kernel,rfl,by decide +kernel,by decide +kernel⟩
theorem nr {f:Addr} {fd:FuncData} {dv:Value} (F:aQ K "need_setting" "need_setting" (top 29) dv f fd) (T:Txt K mg) (o_is_setting:cI P w K mg base 3 "is_setting" 2 (aF 3 gM)):aY P w K mg base (b_ P w) 4 f fd ["vault", "thing"] (f7 2 er) :=
 F.iN nP fun cdv A outer s H E hr O =>
 by
 refine (ae ?_   aq)
 refine (cU ?_ ?_ ?_)
 refine (kW ?_)
 refine (kU ?_)
 refine (o_is_setting.call hr (by omega) (by rfl) O ?_)
 refine (aa ?_ (aa ?_ ao (aj rfl)) (aj rfl))
 exact (vr 0)
 exact (vr 1)
 refine (ae ?_   aq)
 refine (T.m_.raise O rfl (by rfl) ?_)
 refine (aa ?_ ao (aj rfl))
 exact wj
 exact aq
noncomputable def gZ:ai->M Out :=
 (ay (retS (lQ (ah (af 1) (ah (av c_ (lQ (ah (fun _=>M.ok (.int 0)) az)) (au eW (ah (dB aM "levers" bV (af 0) az) az))) az))))
 aB)
noncomputable def eS:List PV->M PV:=bL 2 (aF 2 gZ)
theorem ur:aH ["vault", "setting"] ["vault", "setting"] (ak (top 33)):=⟨rfl,rfl,rfl,by decide +kernel,rfl,by decide +kernel,by decide +kernel⟩
theorem uw {f:Addr} {fd:FuncData} {dv:Value} (F:aQ K "unpulled" "unpulled" (top 33) dv f fd) (T:Txt K mg) (o_Vault_levers:pK P w K mg base aM 1 "levers" 1 (aF 1 cJ)):aY P w K mg base (b_ P w) 2 f fd ["vault", "setting"] (f7 2 eS) :=
 F.iN ur fun cdv A outer s H E hr O =>
 by
 refine (ae ?_   aq)
 refine (aO ?_)
 refine (gS ?_)
 refine (aa ?_ (aa ?_ ao (aj rfl)) (aj rfl))
 exact (vr 1)
 refine (ax bx bZ ?_ ?_)
 refine (gS ?_)
 refine (aa ?_ ao (aj rfl))
 exact ar
 refine (aU aS bP (by rfl) T.cM PySem.boot_len ?_)
 refine (aa ?_ ao (aj rfl))
 refine (o_Vault_levers.jA hr (by omega) O ?_)
 exact (vr 0)
noncomputable def fy:ai->M Out :=
 (ay (bA 2 (dB aM "levers" bV (af 0) az))
 (ay (retS (lQ (ah (av aX (af 2) (af 1)) (ah (au ja (ah (au eW (ah (af 2) az)) (ah (af 1) az))) az))))
 aB))
noncomputable def fL:List PV->M PV:=bL 2 (aF 3 fy)
theorem jR:aH ["vault", "lever", "levers"] ["vault", "lever"] (ak (top 34)):=⟨rfl,rfl,rfl,by decide +kernel,rfl,by decide +kernel,by decide +kernel⟩
theorem oY {f:Addr} {fd:FuncData} {dv:Value} (F:aQ K "pulled_once" "pulled_once" (top 34) dv f fd) (T:Txt K mg) (o_Vault_levers:pK P w K mg base aM 1 "levers" 1 (aF 1 cJ)) (o_unit_row:cI P w K mg base 1 "unit_row" 2 (aF 2 iZ)):aY P w K mg base (b_ P w) 2 f fd ["vault", "lever"] (f7 2 fL) :=
 F.iN jR fun cdv A outer s H E hr O =>
 by
 refine (ae ?_   (ae ?_   aq))
 refine (aR (i:=2) jR.nd rfl (by first | exact .inl rfl | exact .inr rfl) ?_)
 refine (o_Vault_levers.jA hr (by omega) O ?_)
 exact (vr 0)
 refine (aO ?_)
 refine (gS ?_)
 refine (aa ?_ (aa ?_ ao (aj rfl)) (aj rfl))
 refine (aN ?_ ?_ ?_)
 exact (vr 2)
 exact (vr 1)
 exact fun _ _=>rfl
 refine (o_unit_row.call hr (by omega) (by rfl) O ?_)
 refine (aa ?_ (aa ?_ ao (aj rfl)) (aj rfl))
 refine (aU aS bP (by rfl) T.cM PySem.boot_len ?_)
 refine (aa ?_ ao (aj rfl))
 exact (vr 2)
 exact (vr 1)
noncomputable def lO:ai->M Out :=
 (ay (bA 2 (dB aM "sizes" bU (af 1) az))
 (ay (bA 3 (ef (dR (itemsOf (af 2)) (da 0) none (au eS (ah (af 1) (ah (au iI (ah (af 1) az)) az))) 1 [1])))
 (ay (pR 4 (ju az))
 (ay (iV (lZ rJ (ah (au eW (ah (dB aM "levers" bV (af 1) az) az)) az)) (da 5) (ay (bA 6 (au iY (ah (af 2) (ah (af 3) (ah (au fL (ah (af 1) (ah (af 5) az))) az)))))
 (ay (bA 3 (av aX (af 6) (fun _=>M.ok (.int 0))))
 (ay (iR 4 (yV 4 (au gU (ah (av aX (af 6) (fun _=>M.ok (.int 1))) (ah (af 4) az)))))
 aB))))
 (ay (kJ 0 aG "vault" (af 1))
 (ay (kJ 0 aG "made_rows" (ef (dR (lZ k4 (ah (af 3) az)) (cT 0 1) none (au e_ (ah (af 2) (ah (af 3) (ah (af 1) (ah (av iw (af 0) (fun _=>M.ok (.int 1))) az))))) 2 [2,3])))
 (ay (pT [4] (kJ 0 aG "idle_rows" (af 4)))
 aB)))))))
noncomputable def iP:Addr->List PV->M (List (Str×PV)):=sJ 2 (xQ 7 lO aG)
theorem cz:aH ["self", "vault", "sizes", "made_rows", "idle_rows", "lever", "taken"] ["self", "vault"] (ak (inClass (top 39) 0)):=⟨rfl,rfl,rfl,by decide +kernel,rfl,by decide +kernel,by decide +kernel⟩
theorem nv:((["size"]:List Str)++(["vault"]:List Str)).Nodup:=by decide +kernel
theorem jg:((["dial", "made"]:List Str)++(["sizes", "made_rows"]:List Str)).Nodup:=by decide +kernel
theorem pP {f:Addr} {fd:FuncData} {dv:Value} (F:aQ K "__init__" "Rungs.__init__" (inClass (top 39) 0) dv f fd) (T:Txt K mg) (o_Vault_sizes:pK P w K mg base aM 1 "sizes" 1 (aF 1 cC)) (o_nought:cI P w K mg base 2 "nought" 1 (aF 1 jL)) (o_unpulled:cI P w K mg base 2 "unpulled" 2 (aF 2 gZ)) (o_Vault_levers:pK P w K mg base aM 1 "levers" 1 (aF 1 cJ)) (o_pulled_once:cI P w K mg base 2 "pulled_once" 2 (aF 3 fy)) (o_taken_in:cI P w K mg base 3 "taken_in" 3 (aF 9 iX)) (o_in_spans:cI P w K mg base 2 "in_spans" 2 (aF 4 gP)) (o_lowered:cI P w K mg base 3 "lowered" 4 (aF 6 iJ)):aY P w K mg base (b_ P w) 4 f fd ["self", "vault"] (Dm 2 aG iP) :=
 F.Q2 cz (by decide) fun cdv A outer s H E hr O =>
 by
 refine (ae ?_   (ae ?_   (ae ?_   (ae ?_   (ae ?_   (ae ?_   (ae ?_   aq)))))))
 refine (aR (i:=2) cz.nd rfl (by first | exact .inl rfl | exact .inr rfl) ?_)
 refine (o_Vault_sizes.jA hr (by omega) O ?_)
 exact (vr 1)
 refine (aR (i:=3) cz.nd rfl (by first | exact .inl rfl | exact .inr rfl) ?_)
 refine (eh (ck (g:=(aV 0)) (ts:=["size"]) (fs:=["vault"]) (js:=[1]) rfl rfl rfl rfl rfl rfl (.cons rfl .nil) (.cons rfl rfl (by first | exact .inl rfl | exact .inr rfl) rfl rfl .nil) (gb ?_) dG (fun C s₀ H₀ ex pins=>(aL (i:=0) nv rfl (by first | exact .inl rfl | exact .inr rfl) (.inr rfl))) (fun _=>bM) cQ (fun C s₀ H₀ ex pins=>?_)))
 exact (vr 2)
 refine (o_unpulled.call hr (by omega) (by rfl) uT ?_)
 refine (aa ?_ (aa ?_ ao (aj rfl)) (aj rfl))
 exact (vr 1)
 refine (o_nought.call hr (by omega) (by rfl) uT ?_)
 refine (aa ?_ ao (aj rfl))
 exact (vr 1)
 refine (iq (i:=4) cz.nd rfl (by first | exact .inl rfl | exact .inr rfl) ?_)
 refine (jN ?_)
 exact ao
 refine (cu (g:=(aV 5)) O rfl (iC (by rfl) T.gC ?_) jM (aL (i:=5) cz.nd rfl (by first | exact .inl rfl | exact .inr rfl)) bM ?_)
 refine (aa ?_ ao (aj rfl))
 refine (aU aS bP (by rfl) T.cM PySem.boot_len ?_)
 refine (aa ?_ ao (aj rfl))
 refine (o_Vault_levers.jA hr (by omega) O ?_)
 exact (vr 1)
 refine (ae ?_   (ae ?_   (ae ?_   aq)))
 refine (aR (i:=6) cz.nd rfl (by first | exact .inl rfl | exact .inr rfl) ?_)
 refine (o_taken_in.call hr (by omega) (by rfl) O ?_)
 refine (aa ?_ (aa ?_ (aa ?_ ao (aj rfl)) (aj rfl)) (aj rfl))
 exact (vr 2)
 exact (vr 3)
 refine (o_pulled_once.call hr (by omega) (by rfl) O ?_)
 refine (aa ?_ (aa ?_ ao (aj rfl)) (aj rfl))
 exact (vr 1)
 exact (vr 5)
 refine (aR (i:=3) cz.nd rfl (by first | exact .inl rfl | exact .inr rfl) ?_)
 refine (aN ?_ ?_ ?_)
 exact (vr 6)
 exact ar
 exact fun _ _=>rfl
 refine (cj (i:=4) rfl (by first | exact .inl rfl | exact .inr (.inl rfl)) ?_)
 refine (CO 4 ?_)
 refine (o_in_spans.call hr (by omega) (by rfl) O ?_)
 refine (aa ?_ (aa ?_ ao (aj rfl)) (aj rfl))
 refine (aN ?_ ?_ ?_)
 exact (vr 6)
 exact ar
 exact fun _ _=>rfl
 exact (vr 4)
 refine (kT (i:=0) rfl (by first | exact .inl rfl | exact .inr (.inl rfl)) T.nU T.kI ?_)
 exact (vr 1)
 refine (kT (i:=0) rfl (by first | exact .inl rfl | exact .inr (.inl rfl)) T.nU T.ic ?_)
 refine (eh (ck (g:=(kA K 2 (bS (aV 0) (bS (aV 1) ku)))) (ts:=["dial", "made"]) (fs:=["sizes", "made_rows"]) (js:=[2,3]) rfl rfl rfl rfl rfl rfl (.cons rfl (.cons rfl .nil)) (.cons rfl rfl (by first | exact .inl rfl | exact .inr rfl) rfl rfl (.cons rfl rfl (by first | exact .inl rfl | exact .inr rfl) rfl rfl .nil)) (l4 (by rfl) T.dS ?_) jE (fun C s₀ H₀ ex pins=>(fe (n:=2) rfl (aW (aL (i:=0) jg rfl (by first | exact .inl rfl | exact .inr rfl) (.inr rfl)) (aW (aL (i:=1) jg rfl (by first | exact .inl rfl | exact .inr rfl) (.inr rfl)) dz)))) (fun _=>dM) e9 (fun C s₀ H₀ ex pins=>?_)))
 refine (aa ?_ ao (aj rfl))
 exact (vr 3)
 refine (o_lowered.call hr (by omega) (by rfl) uT ?_)
 refine (aa ?_ (aa ?_ (aa ?_ (aa ?_ ao (aj rfl)) (aj rfl)) (aj rfl)) (aj rfl))
 exact (vr 2)
 exact (vr 3)
 exact (vr 1)
 refine (ax dt eZ ?_ ?_)
 exact (vr 0)
 exact ar
 refine (jV [4] (kT (i:=0) rfl (by first | exact .inl rfl | exact .inr (.inl rfl)) T.nU T.h9 ?_))
 exact (vr 4)
noncomputable def bJ:ai->M Out :=
 (ay (qX (au er (ah (hG (fun c=>c==aG) "vault" (af 0)) (ah (af 1) az))))
 (ay (retS (au e_ (ah (dB aM "sizes" bU (hG (fun c=>c==aG) "vault" (af 0)) az) (ah (hG (fun c=>c==aG) "made_rows" (af 0)) (ah (au eS (ah (hG (fun c=>c==aG) "vault" (af 0)) (ah (af 1) az))) (ah (fun _=>M.ok (.int 0)) az))))))
 aB))
noncomputable def bq:List PV->M PV:=bL 2 (aF 2 bJ)
theorem jj:aH ["self", "setting"] ["self", "setting"] (ak (inClass (top 39) 5)):=⟨rfl,rfl,rfl,by decide +kernel,rfl,by decide +kernel,by decide +kernel⟩
theorem jl {f:Addr} {fd:FuncData} {dv:Value} (F:aQ K "brought_down" "Rungs.brought_down" (inClass (top 39) 5) dv f fd) (T:Txt K mg) (o_need_setting:cI P w K mg base 4 "need_setting" 2 (aF 2 eo)) (o_unpulled:cI P w K mg base 2 "unpulled" 2 (aF 2 gZ)) (o_Vault_sizes:pK P w K mg base aM 1 "sizes" 1 (aF 1 cC)) (o_lowered:cI P w K mg base 3 "lowered" 4 (aF 6 iJ)):aY P w K mg base (b_ P w) 5 f fd ["self", "setting"] (f7 2 bq) :=
 F.iN jj fun cdv A outer s H E hr O =>
 by
 refine (ae ?_   (ae ?_   aq))
 refine (nZ ?_)
 refine (o_need_setting.call hr (by omega) (by rfl) O ?_)
 refine (aa ?_ (aa ?_ ao (aj rfl)) (aj rfl))
 refine (g8 ?_ T.lF rfl)
 exact (vr 0)
 exact (vr 1)
 refine (aO ?_)
 refine (o_lowered.call hr (by omega) (by rfl) O ?_)
 refine (aa ?_ (aa ?_ (aa ?_ (aa ?_ ao (aj rfl)) (aj rfl)) (aj rfl)) (aj rfl))
 refine (o_Vault_sizes.jA hr (by omega) O ?_)
 refine (g8 ?_ T.lF rfl)
 exact (vr 0)
 refine (g8 ?_ T.m9 rfl)
 exact (vr 0)
 refine (o_unpulled.call hr (by omega) (by rfl) O ?_)
 refine (aa ?_ (aa ?_ ao (aj rfl)) (aj rfl))
 refine (g8 ?_ T.lF rfl)
 exact (vr 0)
 exact (vr 1)
 exact ar
noncomputable def kG:ai->M Out :=
 (ay (retS (av aX (dB aG "brought_down" bq (af 0) (ah (af 1) az)) (fun _=>M.ok (.int 0))))
 aB)
noncomputable def qi:List PV->M PV:=bL 2 (aF 2 kG)
theorem pv:aH ["self", "setting"] ["self", "setting"] (ak (inClass (top 39) 6)):=⟨rfl,rfl,rfl,by decide +kernel,rfl,by decide +kernel,by decide +kernel⟩
theorem oh {f:Addr} {fd:FuncData} {dv:Value} (F:aQ K "least" "Rungs.least" (inClass (top 39) 6) dv f fd) (T:Txt K mg) (o_Rungs_brought_down:pK P w K mg base aG 5 "brought_down" 2 (aF 2 bJ)):aY P w K mg base (b_ P w) 6 f fd ["self", "setting"] (f7 2 qi) :=
 F.iN pv fun cdv A outer s H E hr O =>
 by
 refine (ae ?_   aq)
 refine (aO ?_)
 refine (aN ?_ ?_ ?_)
 refine (o_Rungs_brought_down.call hr (by omega) O ?_ ?_)
 exact (vr 0)
 refine (aa ?_ ao (aj rfl))
 exact (vr 1)
 exact ar
 exact fun _ _=>rfl
noncomputable def dr:ai->M Out :=
 (ay (bA 2 (dB aG "brought_down" bq (af 0) (ah (af 1) az)))
 (ay (mB (jh (av tD (av aX (af 2) (fun _=>M.ok (.int 0))) (au iI (ah (hG (fun c=>c==aG) "vault" (af 0)) az)))) (ay (retS (fun _=>M.ok .c8))
 aB) aB)
 (ay (retS (au gU (ah (au eG (ah (ef (dR (itemsOf (av aX (af 2) (fun _=>M.ok (.int 1)))) (da 0) none (ny (af 0)) 1 [])) az)) (ah (hG (fun c=>c==aG) "idle_rows" (af 0)) az))))
 aB)))
noncomputable def cK:List PV->M PV:=bL 2 (aF 3 dr)
theorem ie:aH ["self", "setting", "made"] ["self", "setting"] (ak (inClass (top 39) 7)):=⟨rfl,rfl,rfl,by decide +kernel,rfl,by decide +kernel,by decide +kernel⟩
theorem kv:((["times"]:List Str)++([]:List Str)).Nodup:=by decide +kernel
theorem kZ {f:Addr} {fd:FuncData} {dv:Value} (F:aQ K "pulls_to" "Rungs.pulls_to" (inClass (top 39) 7) dv f fd) (T:Txt K mg) (o_Rungs_brought_down:pK P w K mg base aG 5 "brought_down" 2 (aF 2 bJ)) (o_nought:cI P w K mg base 2 "nought" 1 (aF 1 jL)) (o_in_spans:cI P w K mg base 2 "in_spans" 2 (aF 4 gP)):aY P w K mg base (b_ P w) 6 f fd ["self", "setting"] (f7 2 cK) :=
 F.iN ie fun cdv A outer s H E hr O =>
 by
 refine (ae ?_   (ae ?_   (ae ?_   aq)))
 refine (aR (i:=2) ie.nd rfl (by first | exact .inl rfl | exact .inr rfl) ?_)
 refine (o_Rungs_brought_down.call hr (by omega) O ?_ ?_)
 exact (vr 0)
 refine (aa ?_ ao (aj rfl))
 exact (vr 1)
 refine (cU ?_ ?_ ?_)
 refine (bQ (jB hr.units) mQ ?_ ?_ (bH _))
 refine (aN ?_ ?_ ?_)
 exact (vr 2)
 exact ar
 exact fun _ _=>rfl
 refine (o_nought.call hr (by omega) (by rfl) O ?_)
 refine (aa ?_ ao (aj rfl))
 refine (g8 ?_ T.lF rfl)
 exact (vr 0)
 refine (ae ?_   aq)
 refine (aO ?_)
 exact sC
 exact aq
 refine (aO ?_)
 refine (o_in_spans.call hr (by omega) (by rfl) O ?_)
 refine (aa ?_ (aa ?_ ao (aj rfl)) (aj rfl))
 refine (bC bb cW (by rfl) T.cR cq ?_)
 refine (aa ?_ ao (aj rfl))
 refine (eh (ck (g:=(aV 0)) (ts:=["times"]) (fs:=[]) (js:=[]) (cl:=[]) rfl rfl rfl rfl rfl rfl .nil .nil (gb ?_) dG (fun C s₀ H₀ ex pins=>(aL (i:=0) kv rfl (by first | exact .inl rfl | exact .inr rfl) (.inr rfl))) (fun _=>bM) cQ (fun C s₀ H₀ ex pins=>?_)))
 refine (aN ?_ ?_ ?_)
 exact (vr 2)
 exact ar
 exact fun _ _=>rfl
 refine (i0 ?_)
 exact (vr 0)
 refine (g8 ?_ T.hZ rfl)
 exact (vr 0)
noncomputable def DA:ai->M Out :=
 (ay (bA 1 (au gN (ah (au de (ah (af 0) (ah (fun _=>M.ok (.int 0)) az))) az)))
 (ay (bA 2 (au fB (ah (af 0) (ah (af 1) az))))
 (ay (bA 3 (au (mU aG iP []) (ah (au (mU aM i4 [.c8]) (ah (af 1) (ah (af 2) az))) az)))
 (ay (bA 4 (dB aG "idle" cS (af 3) az))
 (ay (bA 5 (au eG (ah (ef (dR (itemsOf (af 1)) (da 0) none (fun _=>M.ok (.int 0)) 1 [])) az)))
 (ay (mB (jh (av tD (au eW (ah (af 4) az)) (au eW (ah (af 2) az)))) (ay (retS (fun _=>M.ok (.bl false)))
 aB) aB)
 (ay (iV (lZ k4 (ah (av iw (vg (af 0) (sZ (fun _=>M.ok (.int 10))) (sZ (fun _=>M.ok (.int 40)))) (wb (ah (fun _=>M.ok (.int 0)) az))) az)) (cT 6 7) (ay (bA 8 (au gu (ah (av iw (af 7) (av c_ (fun _=>M.ok (.int 7919)) (af 6))) (ah (au eW (ah (af 2) az)) az))))
 (ay (bA 9 (au dD (ah (af 1) (ah (af 2) (ah (af 5) (ah (af 8) az))))))
 (ay (bA 10 (dB aG "pulls_to" cK (af 3) (ah (af 9) az)))
 (ay (mB (FX (jh (av AN (af 10) (fun _=>M.ok .c8))) (jh (av tD (au eW (ah (af 10) az)) (au eW (ah (af 2) az))))) (ay (retS (fun _=>M.ok (.bl false)))
 aB) aB)
 (ay (bA 11 (ef (dR (lZ zip2 (ah (af 8) (ah (af 10) az))) (cT 0 1) none (av g_ (af 0) (af 1)) 2 [])))
 (ay (mB (jh (av tD (au dD (ah (af 1) (ah (af 2) (ah (af 5) (ah (af 11) az))))) (af 5))) (ay (retS (fun _=>M.ok (.bl false)))
 aB) aB)
 (ay (mB (jh (av tD (au cH (ah (af 4) (ah (af 11) az))) (ef (dR (itemsOf (af 2)) (da 0) none (fun _=>M.ok (.int 0)) 1 [])))) (ay (retS (fun _=>M.ok (.bl false)))
 aB) aB)
 aB))))))))
 (ay (bA 12 (au tN (ah (af 4) az)))
 (ay (qX (vJ (w5 aG "idle" dA (af 3))))
 (ay (retS (av n5 (dB aG "idle" cS (af 3) az) (af 12)))
 aB))))))))))
noncomputable def rA:List PV->M PV:=bL 1 (aF 13 DA)
theorem eU:aH ["_law_script", "_law_sizes_here", "_law_levers_here", "_law_rungs", "_law_idle", "_law_start", "_law_k", "_law_cell_here", "_law_pulls_here", "_law_doing", "_law_told", "_law_left", "_law_once"] ["_law_script"] (ak (top 52)):=⟨rfl,rfl,rfl,by decide +kernel,rfl,by decide +kernel,by decide +kernel⟩
theorem Ad:((["_law_size"]:List Str)++([]:List Str)).Nodup:=by decide +kernel
theorem uf:((["_law_here", "_law_there"]:List Str)++([]:List Str)).Nodup:=by decide +kernel
theorem zd:((["_law_row"]:List Str)++([]:List Str)).Nodup:=by decide +kernel
theorem Fm {f:Addr} {fd:FuncData} {dv:Value} (F:aQ K "law" "law" (top 52) dv f fd) (T:Txt K mg) (o__law_cell:cI P w K mg base 1 "_law_cell" 2 (aF 2 fP)) (o__law_sizes:cI P w K mg base 2 "_law_sizes" 1 (aF 4 gq)) (o__law_levers:cI P w K mg base 3 "_law_levers" 2 (aF 5 fH)) (o_Vault_init:FT P w K mg base aM 4 "Vault" 4 [.c8] i4) (o_Rungs_init:FT P w K mg base aG 4 "Rungs" 2 [] iP) (o_Rungs_idle:pK P w K mg base aG 1 "idle" 1 (aF 1 gJ)) (o__law_pulls:cI P w K mg base 2 "_law_pulls" 2 (aF 4 gw)) (o__law_turned:cI P w K mg base 2 "_law_turned" 4 (aF 7 fx)) (o_Rungs_pulls_to:pK P w K mg base aG 6 "pulls_to" 2 (aF 3 dr)) (o__law_brought_down:cI P w K mg base 1 "_law_brought_down" 2 (aF 5 cG)) (q_Rungs_idle:Bz P w K mg base aG 1 "idle" dA):aY P w K mg base (b_ P w) 7 f fd ["_law_script"] (f7 1 rA) :=
 F.iN eU fun cdv A outer s H E hr O =>
 by
 refine (ae ?_   (ae ?_   (ae ?_   (ae ?_   (ae ?_   (ae ?_   (ae ?_   (ae ?_   (ae ?_   (ae ?_   aq))))))))))
 refine (aR (i:=1) eU.nd rfl (by first | exact .inl rfl | exact .inr rfl) ?_)
 refine (o__law_sizes.call hr (by omega) (by rfl) O ?_)
 refine (aa ?_ ao (aj rfl))
 refine (o__law_cell.call hr (by omega) (by rfl) O ?_)
 refine (aa ?_ (aa ?_ ao (aj rfl)) (aj rfl))
 exact (vr 0)
 exact ar
 refine (aR (i:=2) eU.nd rfl (by first | exact .inl rfl | exact .inr rfl) ?_)
 refine (o__law_levers.call hr (by omega) (by rfl) O ?_)
 refine (aa ?_ (aa ?_ ao (aj rfl)) (aj rfl))
 exact (vr 0)
 exact (vr 1)
 refine (aR (i:=3) eU.nd rfl (by first | exact .inl rfl | exact .inr rfl) ?_)
 refine (o_Rungs_init.make hr (by omega) (by rfl) O ?_)
 refine (aa ?_ ao (aj rfl))
 refine (o_Vault_init.make hr (by omega) (by rfl) O ?_)
 refine (aa ?_ (aa ?_ ao (aj rfl)) (aj rfl))
 exact (vr 1)
 exact (vr 2)
 refine (aR (i:=4) eU.nd rfl (by first | exact .inl rfl | exact .inr rfl) ?_)
 refine (o_Rungs_idle.jA hr (by omega) O ?_)
 exact (vr 3)
 refine (aR (i:=5) eU.nd rfl (by first | exact .inl rfl | exact .inr rfl) ?_)
 refine (bC bb cW (by rfl) T.cR cq ?_)
 refine (aa ?_ ao (aj rfl))
 refine (eh (ck (g:=(aV 0)) (ts:=["_law_size"]) (fs:=[]) (js:=[]) (cl:=[]) rfl rfl rfl rfl rfl rfl .nil .nil (gb ?_) dG (fun C s₀ H₀ ex pins=>(aL (i:=0) Ad rfl (by first | exact .inl rfl | exact .inr rfl) (.inr rfl))) (fun _=>bM) cQ (fun C s₀ H₀ ex pins=>?_)))
 exact (vr 1)
 exact ar
 refine (cU ?_ ?_ ?_)
 refine (bQ (jB hr.units) mQ ?_ ?_ (bH _))
 refine (aU aS bP (by rfl) T.cM PySem.boot_len ?_)
 refine (aa ?_ ao (aj rfl))
 exact (vr 4)
 refine (aU aS bP (by rfl) T.cM PySem.boot_len ?_)
 refine (aa ?_ ao (aj rfl))
 exact (vr 2)
 refine (ae ?_   aq)
 refine (aO ?_)
 exact qW
 exact aq
 refine (cu (g:=(kA K 2 (bS (aV 6) (bS (aV 7) ku)))) O rfl (l4 (by rfl) T.dS ?_) jE (fe (n:=2) rfl (aW (aL (i:=6) eU.nd rfl (by first | exact .inl rfl | exact .inr rfl)) (aW (aL (i:=7) eU.nd rfl (by first | exact .inl rfl | exact .inr rfl)) dz))) dM ?_)
 refine (aa ?_ ao (aj rfl))
 refine (ax dt eZ ?_ ?_)
 refine (z7 ?_ (wq ?_) (wq ?_))
 exact (vr 0)
 exact ar
 exact ar
 refine (oZ ?_)
 refine (aa ?_ ao (aj rfl))
 exact ar
 refine (ae ?_   (ae ?_   (ae ?_   (ae ?_   (ae ?_   (ae ?_   (ae ?_   aq)))))))
 refine (aR (i:=8) eU.nd rfl (by first | exact .inl rfl | exact .inr rfl) ?_)
 refine (o__law_pulls.call hr (by omega) (by rfl) O ?_)
 refine (aa ?_ (aa ?_ ao (aj rfl)) (aj rfl))
 refine (ax dt eZ ?_ ?_)
 exact (vr 7)
 refine (ax bx bZ ?_ ?_)
 exact ar
 exact (vr 6)
 refine (aU aS bP (by rfl) T.cM PySem.boot_len ?_)
 refine (aa ?_ ao (aj rfl))
 exact (vr 2)
 refine (aR (i:=9) eU.nd rfl (by first | exact .inl rfl | exact .inr rfl) ?_)
 refine (o__law_turned.call hr (by omega) (by rfl) O ?_)
 refine (aa ?_ (aa ?_ (aa ?_ (aa ?_ ao (aj rfl)) (aj rfl)) (aj rfl)) (aj rfl))
 exact (vr 1)
 exact (vr 2)
 exact (vr 5)
 exact (vr 8)
 refine (aR (i:=10) eU.nd rfl (by first | exact .inl rfl | exact .inr rfl) ?_)
 refine (o_Rungs_pulls_to.call hr (by omega) O ?_ ?_)
 exact (vr 3)
 refine (aa ?_ ao (aj rfl))
 exact (vr 9)
 refine (cU ?_ ?_ ?_)
 refine (w_ ?_ (sD ?_)).pt
 refine (bQ yI Bl ?_ ?_ (bH _))
 exact (vr 10)
 exact sC
 refine (bQ (jB hr.units) mQ ?_ ?_ (bH _))
 refine (aU aS bP (by rfl) T.cM PySem.boot_len ?_)
 refine (aa ?_ ao (aj rfl))
 exact (vr 10)
 refine (aU aS bP (by rfl) T.cM PySem.boot_len ?_)
 refine (aa ?_ ao (aj rfl))
 exact (vr 2)
 refine (ae ?_   aq)
 refine (aO ?_)
 exact qW
 exact aq
 refine (w6 (i:=11) (g:=(kA K 2 (bS (aV 0) (bS (aV 1) ku)))) (ts:=["_law_here", "_law_there"]) (fs:=[]) (js:=[]) (cl:=[]) rfl rfl rfl rfl rfl rfl .nil .nil (kL (by rfl) T.kY ?_) iT (fun C s₀ H₀ ex pins=>(fe (n:=2) rfl (aW (aL (i:=0) uf rfl (by first | exact .inl rfl | exact .inr rfl) (.inr rfl)) (aW (aL (i:=1) uf rfl (by first | exact .inl rfl | exact .inr rfl) (.inr rfl)) dz)))) (fun _=>dM) e9 (fun C s₀ H₀ ex pins=>?_) eU.nd rfl (by first | exact .inl rfl | exact .inr rfl))
 refine (aa ?_ (aa ?_ ao (aj rfl)) (aj rfl))
 exact (vr 8)
 exact (vr 10)
 refine (ax eT fg ?_ ?_)
 exact (vr 0)
 exact (vr 1)
 refine (cU ?_ ?_ ?_)
 refine (bQ (jB hr.units) mQ ?_ ?_ (bH _))
 refine (o__law_turned.call hr (by omega) (by rfl) O ?_)
 refine (aa ?_ (aa ?_ (aa ?_ (aa ?_ ao (aj rfl)) (aj rfl)) (aj rfl)) (aj rfl))
 exact (vr 1)
 exact (vr 2)
 exact (vr 5)
 exact (vr 11)
 exact (vr 5)
 refine (ae ?_   aq)
 refine (aO ?_)
 exact qW
 exact aq
 refine (cU ?_ ?_ ?_)
 refine (bQ (jB hr.units) mQ ?_ ?_ (bH _))
 refine (o__law_brought_down.call hr (by omega) (by rfl) O ?_)
 refine (aa ?_ (aa ?_ ao (aj rfl)) (aj rfl))
 exact (vr 4)
 exact (vr 11)
 refine (eh (ck (g:=(aV 0)) (ts:=["_law_row"]) (fs:=[]) (js:=[]) (cl:=[]) rfl rfl rfl rfl rfl rfl .nil .nil (gb ?_) dG (fun C s₀ H₀ ex pins=>(aL (i:=0) zd rfl (by first | exact .inl rfl | exact .inr rfl) (.inr rfl))) (fun _=>bM) cQ (fun C s₀ H₀ ex pins=>?_)))
 exact (vr 2)
 exact ar
 refine (ae ?_   aq)
 refine (aO ?_)
 exact qW
 exact aq
 refine (aR (i:=12) eU.nd rfl (by first | exact .inl rfl | exact .inr rfl) ?_)
 refine (bC gD si (by rfl) T.mw kX ?_)
 refine (aa ?_ ao (aj rfl))
 exact (vr 4)
 refine (nZ (xg (q_Rungs_idle.jA hr (by omega) O ?_)))
 exact (vr 3)
 refine (aO ?_)
 refine (Ft (iv hr.units) kF ?_ ?_ (bH _))
 refine (o_Rungs_idle.jA hr (by omega) O ?_)
 exact (vr 3)
 exact (vr 12)
end wB
namespace wB
open PySem L2 PyProof.Rows
open PySem.W (nsIn findIn codeIn keepIn isFn mroIn specialIn takesIn hasDictIn typeIn plainGet plainOver makesIn mg_of mg_none_of fnOf excIn clsIn)
noncomputable abbrev κ (w:World):PySem.W.Frag:=HD.K w.params
def hV:FuncData:=fnOf "is_whole" "is_whole" (aK (top 9)) (aJ (top 9)) (ak (top 9)) .none .none .none (HD.st "dialvault.wholes" 363) none (.ref 163) .none
theorem u1 (w:World):(κ w).lookup 164=some ⟨.type "function", none,.func hV,⟨[]⟩⟩:=by kernel_rfl
theorem u2 (w:World):codeIn (κ w) (.ref 163) "is_whole" = true:=by kernel_rfl
theorem u3 (w:World):keepIn (κ w) (.ref 164)=true:=by kernel_rfl
theorem wa (w:World):aQ (κ w) "is_whole" "is_whole" (top 9) .none 164 hV:=⟨⟨_,_,_,_,_,_,_,_,_,rfl,(u1 w),(u2 w)⟩,(u3 w)⟩
theorem vX (w:World):Binds (κ w) hV ["thing"] []:=Binds.all fun us hl=>by obtain ⟨a,rfl⟩:=Ao hl;rfl
def jX:FuncData:=fnOf "is_row" "is_row" (aK (top 10)) (aJ (top 10)) (ak (top 10)) .none .none .none (HD.st "dialvault.wholes" 363) none (.ref 168) .none
theorem u4 (w:World):(κ w).lookup 169=some ⟨.type "function", none,.func jX,⟨[]⟩⟩:=by kernel_rfl
theorem u5 (w:World):codeIn (κ w) (.ref 168) "is_row" = true:=by kernel_rfl
theorem u6 (w:World):keepIn (κ w) (.ref 169)=true:=by kernel_rfl
theorem A9 (w:World):aQ (κ w) "is_row" "is_row" (top 10) .none 169 jX:=⟨⟨_,_,_,_,_,_,_,_,_,rfl,(u4 w),(u5 w)⟩,(u6 w)⟩
theorem zZ (w:World):Binds (κ w) jX ["thing", "length"] []:=Binds.all fun us hl=>by obtain ⟨a,b,rfl⟩:=ln2 hl;rfl
def j0:FuncData:=fnOf "common" "common" (aK (top 11)) (aJ (top 11)) (ak (top 11)) .none .none .none (HD.st "dialvault.wholes" 363) none (.ref 175) .none
theorem u7 (w:World):(κ w).lookup 176=some ⟨.type "function", none,.func j0,⟨[]⟩⟩:=by kernel_rfl
theorem u8 (w:World):codeIn (κ w) (.ref 175) "common" = true:=by kernel_rfl
theorem u9 (w:World):keepIn (κ w) (.ref 176)=true:=by kernel_rfl
theorem Bc (w:World):aQ (κ w) "common" "common" (top 11) .none 176 j0:=⟨⟨_,_,_,_,_,_,_,_,_,rfl,(u7 w),(u8 w)⟩,(u9 w)⟩
theorem yJ (w:World):Binds (κ w) j0 ["one", "other"] []:=Binds.all fun us hl=>by obtain ⟨a,b,rfl⟩:=ln2 hl;rfl
def eQ:FuncData:=fnOf "multiple_of" "multiple_of" (aK (top 12)) (aJ (top 12)) (ak (top 12)) .none .none .none (HD.st "dialvault.wholes" 363) none (.ref 182) .none
theorem SS (w:World):(κ w).lookup 183=some ⟨.type "function", none,.func eQ,⟨[]⟩⟩:=by kernel_rfl
theorem T7 (w:World):codeIn (κ w) (.ref 182) "multiple_of" = true:=by kernel_rfl
theorem QU (w:World):keepIn (κ w) (.ref 183)=true:=by kernel_rfl
theorem pQ (w:World):aQ (κ w) "multiple_of" "multiple_of" (top 12) .none 183 eQ:=⟨⟨_,_,_,_,_,_,_,_,_,rfl,(SS w),(T7 w)⟩,(QU w)⟩
theorem pN (w:World):Binds (κ w) eQ ["numbers"] []:=Binds.all fun us hl=>by obtain ⟨a,rfl⟩:=Ao hl;rfl
def hU:FuncData:=fnOf "unit_row" "unit_row" (aK (top 13)) (aJ (top 13)) (ak (top 13)) .none .none .none (HD.st "dialvault.wholes" 363) none (.ref 187) .none
theorem Tg (w:World):(κ w).lookup 188=some ⟨.type "function", none,.func hU,⟨[]⟩⟩:=by kernel_rfl
theorem Us (w:World):codeIn (κ w) (.ref 187) "unit_row" = true:=by kernel_rfl
theorem QL (w:World):keepIn (κ w) (.ref 188)=true:=by kernel_rfl
theorem vz (w:World):aQ (κ w) "unit_row" "unit_row" (top 13) .none 188 hU:=⟨⟨_,_,_,_,_,_,_,_,_,rfl,(Tg w),(Us w)⟩,(QL w)⟩
theorem vN (w:World):Binds (κ w) hU ["length", "place"] []:=Binds.all fun us hl=>by obtain ⟨a,b,rfl⟩:=ln2 hl;rfl
def gk:FuncData:=fnOf "is_within" "is_within" (aK (top 22)) (aJ (top 22)) (ak (top 22)) .none .none .none (HD.st "dialvault.vault" 405) none (.ref 242) .none
theorem Sq (w:World):(κ w).lookup 243=some ⟨.type "function", none,.func gk,⟨[]⟩⟩:=by kernel_rfl
theorem RN (w:World):codeIn (κ w) (.ref 242) "is_within" = true:=by kernel_rfl
theorem Q5 (w:World):keepIn (κ w) (.ref 243)=true:=by kernel_rfl
theorem uO (w:World):aQ (κ w) "is_within" "is_within" (top 22) .none 243 gk:=⟨⟨_,_,_,_,_,_,_,_,_,rfl,(Sq w),(RN w)⟩,(Q5 w)⟩
theorem ux (w:World):Binds (κ w) gk ["thing", "least", "most"] []:=Binds.all fun us hl=>by obtain ⟨a,b,c,rfl⟩:=Gn hl;rfl
def fA:FuncData:=fnOf "need_sizes" "need_sizes" (aK (top 23)) (aJ (top 23)) (ak (top 23)) .none .none .none (HD.st "dialvault.vault" 405) none (.ref 249) .none
theorem Ua (w:World):(κ w).lookup 250=some ⟨.type "function", none,.func fA,⟨[]⟩⟩:=by kernel_rfl
theorem R_ (w:World):codeIn (κ w) (.ref 249) "need_sizes" = true:=by kernel_rfl
theorem QJ (w:World):keepIn (κ w) (.ref 250)=true:=by kernel_rfl
theorem rX (w:World):aQ (κ w) "need_sizes" "need_sizes" (top 23) .none 250 fA:=⟨⟨_,_,_,_,_,_,_,_,_,rfl,(Ua w),(R_ w)⟩,(QJ w)⟩
theorem tw (w:World):Binds (κ w) fA ["sizes"] []:=Binds.all fun us hl=>by obtain ⟨a,rfl⟩:=Ao hl;rfl
def eR:FuncData:=fnOf "need_levers" "need_levers" (aK (top 24)) (aJ (top 24)) (ak (top 24)) .none .none .none (HD.st "dialvault.vault" 405) none (.ref 256) .none
theorem So (w:World):(κ w).lookup 257=some ⟨.type "function", none,.func eR,⟨[]⟩⟩:=by kernel_rfl
theorem SW (w:World):codeIn (κ w) (.ref 256) "need_levers" = true:=by kernel_rfl
theorem QN (w:World):keepIn (κ w) (.ref 257)=true:=by kernel_rfl
theorem qu (w:World):aQ (κ w) "need_levers" "need_levers" (top 24) .none 257 eR:=⟨⟨_,_,_,_,_,_,_,_,_,rfl,(So w),(SW w)⟩,(QN w)⟩
theorem qt (w:World):Binds (κ w) eR ["levers", "dials"] []:=Binds.all fun us hl=>by obtain ⟨a,b,rfl⟩:=ln2 hl;rfl
def fM:FuncData:=fnOf "prices_for" "prices_for" (aK (top 25)) (aJ (top 25)) (ak (top 25)) .none .none .none (HD.st "dialvault.vault" 405) none (.ref 263) .none
theorem SO (w:World):(κ w).lookup 264=some ⟨.type "function", none,.func fM,⟨[]⟩⟩:=by kernel_rfl
theorem R4 (w:World):codeIn (κ w) (.ref 263) "prices_for" = true:=by kernel_rfl
theorem Q9 (w:World):keepIn (κ w) (.ref 264)=true:=by kernel_rfl
theorem sR (w:World):aQ (κ w) "prices_for" "prices_for" (top 25) .none 264 fM:=⟨⟨_,_,_,_,_,_,_,_,_,rfl,(SO w),(R4 w)⟩,(Q9 w)⟩
theorem sP (w:World):Binds (κ w) fM ["levers", "prices"] []:=Binds.all fun us hl=>by obtain ⟨a,b,rfl⟩:=ln2 hl;rfl
def lC:FuncData:=fnOf "rests" "rests" (aK (top 26)) (aJ (top 26)) (ak (top 26)) .none .none .none (HD.st "dialvault.vault" 405) none (.ref 268) .none
theorem Rl (w:World):(κ w).lookup 269=some ⟨.type "function", none,.func lC,⟨[]⟩⟩:=by kernel_rfl
theorem Uv (w:World):codeIn (κ w) (.ref 268) "rests" = true:=by kernel_rfl
theorem Rf (w:World):keepIn (κ w) (.ref 269)=true:=by kernel_rfl
theorem CH (w:World):aQ (κ w) "rests" "rests" (top 26) .none 269 lC:=⟨⟨_,_,_,_,_,_,_,_,_,rfl,(Rl w),(Uv w)⟩,(Rf w)⟩
theorem BG (w:World):Binds (κ w) lC ["numbers", "sizes"] []:=Binds.all fun us hl=>by obtain ⟨a,b,rfl⟩:=ln2 hl;rfl
def lA:FuncData:=fnOf "mixed" "mixed" (aK (top 31)) (aJ (top 31)) (ak (top 31)) .none .none .none (HD.st "dialvault.rungs" 541) none (.ref 292) .none
theorem RR (w:World):(κ w).lookup 293=some ⟨.type "function", none,.func lA,⟨[]⟩⟩:=by kernel_rfl
theorem S4 (w:World):codeIn (κ w) (.ref 292) "mixed" = true:=by kernel_rfl
theorem QE (w:World):keepIn (κ w) (.ref 293)=true:=by kernel_rfl
theorem BH (w:World):aQ (κ w) "mixed" "mixed" (top 31) .none 293 lA:=⟨⟨_,_,_,_,_,_,_,_,_,rfl,(RR w),(S4 w)⟩,(QE w)⟩
theorem CA (w:World):Binds (κ w) lA ["row", "times", "other", "others"] []:=Binds.all fun us hl=>by obtain ⟨a,b,c,d,rfl⟩:=GG hl;rfl
def fq:FuncData:=fnOf "mixed_made" "mixed_made" (aK (top 32)) (aJ (top 32)) (ak (top 32)) .none .none .none (HD.st "dialvault.rungs" 541) none (.ref 299) .none
theorem SG (w:World):(κ w).lookup 300=some ⟨.type "function", none,.func fq,⟨[]⟩⟩:=by kernel_rfl
theorem SH (w:World):codeIn (κ w) (.ref 299) "mixed_made" = true:=by kernel_rfl
theorem Q7 (w:World):keepIn (κ w) (.ref 300)=true:=by kernel_rfl
theorem sY (w:World):aQ (κ w) "mixed_made" "mixed_made" (top 32) .none 300 fq:=⟨⟨_,_,_,_,_,_,_,_,_,rfl,(SG w),(SH w)⟩,(Q7 w)⟩
theorem rG (w:World):Binds (κ w) fq ["sizes", "made", "times", "other", "others"] []:=Binds.all fun us hl=>by obtain ⟨a,b,c,d,e,rfl⟩:=Tb hl;rfl
def gx:FuncData:=fnOf "step_size" "step_size" (aK (top 35)) (aJ (top 35)) (ak (top 35)) .none .none .none (HD.st "dialvault.rungs" 541) none (.ref 320) .none
theorem Rk (w:World):(κ w).lookup 321=some ⟨.type "function", none,.func gx,⟨[]⟩⟩:=by kernel_rfl
theorem Rq (w:World):codeIn (κ w) (.ref 320) "step_size" = true:=by kernel_rfl
theorem Q4 (w:World):keepIn (κ w) (.ref 321)=true:=by kernel_rfl
theorem ue (w:World):aQ (κ w) "step_size" "step_size" (top 35) .none 321 gx:=⟨⟨_,_,_,_,_,_,_,_,_,rfl,(Rk w),(Rq w)⟩,(Q4 w)⟩
theorem uj (w:World):Binds (κ w) gx ["sizes", "made_rows", "dial"] []:=Binds.all fun us hl=>by obtain ⟨a,b,c,rfl⟩:=Gn hl;rfl
def ij:FuncData:=fnOf "taken_in" "taken_in" (aK (top 36)) (aJ (top 36)) (ak (top 36)) .none .none .none (HD.st "dialvault.rungs" 541) none (.ref 327) .none
theorem Tc (w:World):(κ w).lookup 328=some ⟨.type "function", none,.func ij,⟨[]⟩⟩:=by kernel_rfl
theorem S6 (w:World):codeIn (κ w) (.ref 327) "taken_in" = true:=by kernel_rfl
theorem Q_ (w:World):keepIn (κ w) (.ref 328)=true:=by kernel_rfl
theorem vC (w:World):aQ (κ w) "taken_in" "taken_in" (top 36) .none 328 ij:=⟨⟨_,_,_,_,_,_,_,_,_,rfl,(Tc w),(S6 w)⟩,(Q_ w)⟩
theorem vS (w:World):Binds (κ w) ij ["sizes", "made_rows", "left"] []:=Binds.all fun us hl=>by obtain ⟨a,b,c,rfl⟩:=Gn hl;rfl
def i7:FuncData:=fnOf "lowered" "lowered" (aK (top 37)) (aJ (top 37)) (ak (top 37)) .none .none .none (HD.st "dialvault.rungs" 541) none (.ref 334) .none
theorem Rp (w:World):(κ w).lookup 335=some ⟨.type "function", none,.func i7,⟨[]⟩⟩:=by kernel_rfl
theorem Ue (w:World):codeIn (κ w) (.ref 334) "lowered" = true:=by kernel_rfl
theorem QV (w:World):keepIn (κ w) (.ref 335)=true:=by kernel_rfl
theorem xk (w:World):aQ (κ w) "lowered" "lowered" (top 37) .none 335 i7:=⟨⟨_,_,_,_,_,_,_,_,_,rfl,(Rp w),(Ue w)⟩,(QV w)⟩
theorem xZ (w:World):Binds (κ w) i7 ["sizes", "made_rows", "made", "first"] []:=Binds.all fun us hl=>by obtain ⟨a,b,c,d,rfl⟩:=GG hl;rfl
def ia:FuncData:=fnOf "in_spans" "in_spans" (aK (top 38)) (aJ (top 38)) (ak (top 38)) .none .none .none (HD.st "dialvault.rungs" 541) none (.ref 341) .none
theorem Ud (w:World):(κ w).lookup 342=some ⟨.type "function", none,.func ia,⟨[]⟩⟩:=by kernel_rfl
theorem Uj (w:World):codeIn (κ w) (.ref 341) "in_spans" = true:=by kernel_rfl
theorem QY (w:World):keepIn (κ w) (.ref 342)=true:=by kernel_rfl
theorem v5 (w:World):aQ (κ w) "in_spans" "in_spans" (top 38) .none 342 ia:=⟨⟨_,_,_,_,_,_,_,_,_,rfl,(Ud w),(Uj w)⟩,(QY w)⟩
theorem vp (w:World):Binds (κ w) ia ["pulls", "idle_rows"] []:=Binds.all fun us hl=>by obtain ⟨a,b,rfl⟩:=ln2 hl;rfl
def gj:FuncData:=fnOf "_law_cell" "_law_cell" (aK (top 41)) (aJ (top 41)) (ak (top 41)) .none .none .none (HD.st "law_dialvault_k26_every_idle_way" 712) none (.ref 421) .none
theorem Sm (w:World):(κ w).lookup 422=some ⟨.type "function", none,.func gj,⟨[]⟩⟩:=by kernel_rfl
theorem RD (w:World):codeIn (κ w) (.ref 421) "_law_cell" = true:=by kernel_rfl
theorem QI (w:World):keepIn (κ w) (.ref 422)=true:=by kernel_rfl
theorem uS (w:World):aQ (κ w) "_law_cell" "_law_cell" (top 41) .none 422 gj:=⟨⟨_,_,_,_,_,_,_,_,_,rfl,(Sm w),(RD w)⟩,(QI w)⟩
theorem t_ (w:World):Binds (κ w) gj ["_law_script", "_law_k"] []:=Binds.all fun us hl=>by obtain ⟨a,b,rfl⟩:=ln2 hl;rfl
def eO:FuncData:=fnOf "_law_stream" "_law_stream" (aK (top 42)) (aJ (top 42)) (ak (top 42)) .none .none .none (HD.st "law_dialvault_k26_every_idle_way" 712) none (.ref 428) .none
theorem RI (w:World):(κ w).lookup 429=some ⟨.type "function", none,.func eO,⟨[]⟩⟩:=by kernel_rfl
theorem RS (w:World):codeIn (κ w) (.ref 428) "_law_stream" = true:=by kernel_rfl
theorem QZ (w:World):keepIn (κ w) (.ref 429)=true:=by kernel_rfl
theorem qA (w:World):aQ (κ w) "_law_stream" "_law_stream" (top 42) .none 429 eO:=⟨⟨_,_,_,_,_,_,_,_,_,rfl,(RI w),(RS w)⟩,(QZ w)⟩
theorem qw (w:World):Binds (κ w) eO ["_law_cell_here", "_law_many"] []:=Binds.all fun us hl=>by obtain ⟨a,b,rfl⟩:=ln2 hl;rfl
def d_:FuncData:=fnOf "_law_digits" "_law_digits" (aK (top 43)) (aJ (top 43)) (ak (top 43)) .none .none .none (HD.st "law_dialvault_k26_every_idle_way" 712) none (.ref 435) .none
theorem R3 (w:World):(κ w).lookup 436=some ⟨.type "function", none,.func d_,⟨[]⟩⟩:=by kernel_rfl
theorem Uo (w:World):codeIn (κ w) (.ref 435) "_law_digits" = true:=by kernel_rfl
theorem Q3 (w:World):keepIn (κ w) (.ref 436)=true:=by kernel_rfl
theorem pY (w:World):aQ (κ w) "_law_digits" "_law_digits" (top 43) .none 436 d_:=⟨⟨_,_,_,_,_,_,_,_,_,rfl,(R3 w),(Uo w)⟩,(Q3 w)⟩
theorem qh (w:World):Binds (κ w) d_ ["_law_cell_here", "_law_bases"] []:=Binds.all fun us hl=>by obtain ⟨a,b,rfl⟩:=ln2 hl;rfl
def fJ:FuncData:=fnOf "_law_sizes" "_law_sizes" (aK (top 44)) (aJ (top 44)) (ak (top 44)) .none .none .none (HD.st "law_dialvault_k26_every_idle_way" 712) none (.ref 440) .none
theorem RY (w:World):(κ w).lookup 441=some ⟨.type "function", none,.func fJ,⟨[]⟩⟩:=by kernel_rfl
theorem TV (w:World):codeIn (κ w) (.ref 440) "_law_sizes" = true:=by kernel_rfl
theorem QG (w:World):keepIn (κ w) (.ref 441)=true:=by kernel_rfl
theorem rK (w:World):aQ (κ w) "_law_sizes" "_law_sizes" (top 44) .none 441 fJ:=⟨⟨_,_,_,_,_,_,_,_,_,rfl,(RY w),(TV w)⟩,(QG w)⟩
theorem rL (w:World):Binds (κ w) fJ ["_law_cell_here"] []:=Binds.all fun us hl=>by obtain ⟨a,rfl⟩:=Ao hl;rfl
def fw:FuncData:=fnOf "_law_great" "_law_great" (aK (top 45)) (aJ (top 45)) (ak (top 45)) .none .none .none (HD.st "law_dialvault_k26_every_idle_way" 712) none (.ref 447) .none
theorem Tx (w:World):(κ w).lookup 448=some ⟨.type "function", none,.func fw,⟨[]⟩⟩:=by kernel_rfl
theorem RF (w:World):codeIn (κ w) (.ref 447) "_law_great" = true:=by kernel_rfl
theorem QS (w:World):keepIn (κ w) (.ref 448)=true:=by kernel_rfl
theorem rH (w:World):aQ (κ w) "_law_great" "_law_great" (top 45) .none 448 fw:=⟨⟨_,_,_,_,_,_,_,_,_,rfl,(Tx w),(RF w)⟩,(QS w)⟩
theorem s_ (w:World):Binds (κ w) fw ["_law_number"] []:=Binds.all fun us hl=>by obtain ⟨a,rfl⟩:=Ao hl;rfl
def fK:FuncData:=fnOf "_law_lever" "_law_lever" (aK (top 46)) (aJ (top 46)) (ak (top 46)) .none .none .none (HD.st "law_dialvault_k26_every_idle_way" 712) none (.ref 454) .none
theorem TK (w:World):(κ w).lookup 455=some ⟨.type "function", none,.func fK,⟨[]⟩⟩:=by kernel_rfl
theorem Ry (w:World):codeIn (κ w) (.ref 454) "_law_lever" = true:=by kernel_rfl
theorem QP (w:World):keepIn (κ w) (.ref 455)=true:=by kernel_rfl
theorem sx (w:World):aQ (κ w) "_law_lever" "_law_lever" (top 46) .none 455 fK:=⟨⟨_,_,_,_,_,_,_,_,_,rfl,(TK w),(Ry w)⟩,(QP w)⟩
theorem sN (w:World):Binds (κ w) fK ["_law_cell_here", "_law_sizes_here"] []:=Binds.all fun us hl=>by obtain ⟨a,b,rfl⟩:=ln2 hl;rfl
def eC:FuncData:=fnOf "_law_levers" "_law_levers" (aK (top 47)) (aJ (top 47)) (ak (top 47)) .none .none .none (HD.st "law_dialvault_k26_every_idle_way" 712) none (.ref 461) .none
theorem Ur (w:World):(κ w).lookup 462=some ⟨.type "function", none,.func eC,⟨[]⟩⟩:=by kernel_rfl
theorem RE (w:World):codeIn (κ w) (.ref 461) "_law_levers" = true:=by kernel_rfl
theorem QH (w:World):keepIn (κ w) (.ref 462)=true:=by kernel_rfl
theorem qj (w:World):aQ (κ w) "_law_levers" "_law_levers" (top 47) .none 462 eC:=⟨⟨_,_,_,_,_,_,_,_,_,rfl,(Ur w),(RE w)⟩,(QH w)⟩
theorem p7 (w:World):Binds (κ w) eC ["_law_script", "_law_sizes_here"] []:=Binds.all fun us hl=>by obtain ⟨a,b,rfl⟩:=ln2 hl;rfl
def fI:FuncData:=fnOf "_law_added" "_law_added" (aK (top 48)) (aJ (top 48)) (ak (top 48)) .none .none .none (HD.st "law_dialvault_k26_every_idle_way" 712) none (.ref 466) .none
theorem Sb (w:World):(κ w).lookup 467=some ⟨.type "function", none,.func fI,⟨[]⟩⟩:=by kernel_rfl
theorem Uq (w:World):codeIn (κ w) (.ref 466) "_law_added" = true:=by kernel_rfl
theorem QT (w:World):keepIn (κ w) (.ref 467)=true:=by kernel_rfl
theorem sE (w:World):aQ (κ w) "_law_added" "_law_added" (top 48) .none 467 fI:=⟨⟨_,_,_,_,_,_,_,_,_,rfl,(Sb w),(Uq w)⟩,(QT w)⟩
theorem sI (w:World):Binds (κ w) fI ["_law_sizes_here", "_law_one", "_law_other", "_law_times"] []:=Binds.all fun us hl=>by obtain ⟨a,b,c,d,rfl⟩:=GG hl;rfl
def eL:FuncData:=fnOf "_law_turned" "_law_turned" (aK (top 49)) (aJ (top 49)) (ak (top 49)) .none .none .none (HD.st "law_dialvault_k26_every_idle_way" 712) none (.ref 473) .none
theorem Sk (w:World):(κ w).lookup 474=some ⟨.type "function", none,.func eL,⟨[]⟩⟩:=by kernel_rfl
theorem RQ (w:World):codeIn (κ w) (.ref 473) "_law_turned" = true:=by kernel_rfl
theorem QM (w:World):keepIn (κ w) (.ref 474)=true:=by kernel_rfl
theorem p8 (w:World):aQ (κ w) "_law_turned" "_law_turned" (top 49) .none 474 eL:=⟨⟨_,_,_,_,_,_,_,_,_,rfl,(Sk w),(RQ w)⟩,(QM w)⟩
theorem qe (w:World):Binds (κ w) eL ["_law_sizes_here", "_law_levers_here", "_law_setting", "_law_pulls_here"] []:=Binds.all fun us hl=>by obtain ⟨a,b,c,d,rfl⟩:=GG hl;rfl
def fu:FuncData:=fnOf "_law_pulls" "_law_pulls" (aK (top 50)) (aJ (top 50)) (ak (top 50)) .none .none .none (HD.st "law_dialvault_k26_every_idle_way" 712) none (.ref 478) .none
theorem Ro (w:World):(κ w).lookup 479=some ⟨.type "function", none,.func fu,⟨[]⟩⟩:=by kernel_rfl
theorem T8 (w:World):codeIn (κ w) (.ref 478) "_law_pulls" = true:=by kernel_rfl
theorem Q6 (w:World):keepIn (κ w) (.ref 479)=true:=by kernel_rfl
theorem rM (w:World):aQ (κ w) "_law_pulls" "_law_pulls" (top 50) .none 479 fu:=⟨⟨_,_,_,_,_,_,_,_,_,rfl,(Ro w),(T8 w)⟩,(Q6 w)⟩
theorem sS (w:World):Binds (κ w) fu ["_law_cell_here", "_law_many"] []:=Binds.all fun us hl=>by obtain ⟨a,b,rfl⟩:=ln2 hl;rfl
def cp:FuncData:=fnOf "_law_brought_down" "_law_brought_down" (aK (top 51)) (aJ (top 51)) (ak (top 51)) .none .none .none (HD.st "law_dialvault_k26_every_idle_way" 712) none (.ref 483) .none
theorem SE (w:World):(κ w).lookup 484=some ⟨.type "function", none,.func cp,⟨[]⟩⟩:=by kernel_rfl
theorem Rt (w:World):codeIn (κ w) (.ref 483) "_law_brought_down" = true:=by kernel_rfl
theorem Q1 (w:World):keepIn (κ w) (.ref 484)=true:=by kernel_rfl
theorem ko (w:World):aQ (κ w) "_law_brought_down" "_law_brought_down" (top 51) .none 484 cp:=⟨⟨_,_,_,_,_,_,_,_,_,rfl,(SE w),(Rt w)⟩,(Q1 w)⟩
theorem kx (w:World):Binds (κ w) cp ["_law_idle", "_law_pulls_here"] []:=Binds.all fun us hl=>by obtain ⟨a,b,rfl⟩:=ln2 hl;rfl
def fj:FuncData:=fnOf "__init__" "Vault.__init__" (aK (inClass (top 21) 0)) (aJ (inClass (top 21) 0)) (ak (inClass (top 21) 0)) (.ref 196) .none .none (HD.st "dialvault.vault" 405) none (.ref 200) .none
theorem Uz (w:World):(κ w).lookup 201=some ⟨.type "function", none,.func fj,⟨[]⟩⟩:=by kernel_rfl
theorem T6 (w:World):codeIn (κ w) (.ref 200) "Vault.__init__" = true:=by kernel_rfl
theorem Sa (w:World):keepIn (κ w) (.ref 201)=true:=by kernel_rfl
theorem lu (w:World):aQ (κ w) "__init__" "Vault.__init__" (inClass (top 21) 0) (.ref 196) 201 fj:=⟨⟨_,_,_,_,_,_,_,_,_,rfl,(Uz w),(T6 w)⟩,(Sa w)⟩
def eu:FuncData:=fnOf "sizes" "Vault.sizes" (aK (inClass (top 21) 1)) (aJ (inClass (top 21) 1)) (ak (inClass (top 21) 1)) .none .none .none (HD.st "dialvault.vault" 405) none (.ref 207) .none
theorem Ru (w:World):(κ w).lookup 208=some ⟨.type "function", none,.func eu,⟨[]⟩⟩:=by kernel_rfl
theorem TL (w:World):codeIn (κ w) (.ref 207) "Vault.sizes" = true:=by kernel_rfl
theorem Rb (w:World):keepIn (κ w) (.ref 208)=true:=by kernel_rfl
theorem qB (w:World):aQ (κ w) "sizes" "Vault.sizes" (inClass (top 21) 1) .none 208 eu:=⟨⟨_,_,_,_,_,_,_,_,_,rfl,(Ru w),(TL w)⟩,(Rb w)⟩
theorem p5 (w:World):Binds (κ w) eu ["self"] []:=Binds.all fun us hl=>by obtain ⟨a,rfl⟩:=Ao hl;rfl
def dI:FuncData:=fnOf "levers" "Vault.levers" (aK (inClass (top 21) 2)) (aJ (inClass (top 21) 2)) (ak (inClass (top 21) 2)) .none .none .none (HD.st "dialvault.vault" 405) none (.ref 214) .none
theorem T4 (w:World):(κ w).lookup 215=some ⟨.type "function", none,.func dI,⟨[]⟩⟩:=by kernel_rfl
theorem RB (w:World):codeIn (κ w) (.ref 214) "Vault.levers" = true:=by kernel_rfl
theorem Q0 (w:World):keepIn (κ w) (.ref 215)=true:=by kernel_rfl
theorem pC (w:World):aQ (κ w) "levers" "Vault.levers" (inClass (top 21) 2) .none 215 dI:=⟨⟨_,_,_,_,_,_,_,_,_,rfl,(T4 w),(RB w)⟩,(Q0 w)⟩
theorem oP (w:World):Binds (κ w) dI ["self"] []:=Binds.all fun us hl=>by obtain ⟨a,rfl⟩:=Ao hl;rfl
def dH:FuncData:=fnOf "prices" "Vault.prices" (aK (inClass (top 21) 3)) (aJ (inClass (top 21) 3)) (ak (inClass (top 21) 3)) .none .none .none (HD.st "dialvault.vault" 405) none (.ref 221) .none
theorem Uh (w:World):(κ w).lookup 222=some ⟨.type "function", none,.func dH,⟨[]⟩⟩:=by kernel_rfl
theorem TQ (w:World):codeIn (κ w) (.ref 221) "Vault.prices" = true:=by kernel_rfl
theorem QX (w:World):keepIn (κ w) (.ref 222)=true:=by kernel_rfl
theorem oX (w:World):aQ (κ w) "prices" "Vault.prices" (inClass (top 21) 3) .none 222 dH:=⟨⟨_,_,_,_,_,_,_,_,_,rfl,(Uh w),(TQ w)⟩,(QX w)⟩
theorem oN (w:World):Binds (κ w) dH ["self"] []:=Binds.all fun us hl=>by obtain ⟨a,rfl⟩:=Ao hl;rfl
def dE:FuncData:=fnOf "idle" "Rungs.idle" (aK (inClass (top 39) 4)) (aJ (inClass (top 39) 4)) (ak (inClass (top 39) 4)) .none .none .none (HD.st "dialvault.rungs" 541) none (.ref 381) .none
theorem Tr (w:World):(κ w).lookup 382=some ⟨.type "function", none,.func dE,⟨[]⟩⟩:=by kernel_rfl
theorem S2 (w:World):codeIn (κ w) (.ref 381) "Rungs.idle" = true:=by kernel_rfl
theorem Il (w:World):keepIn (κ w) (.ref 382)=true:=by kernel_rfl
theorem lS (w:World):aQ (κ w) "idle" "Rungs.idle" (inClass (top 39) 4) .none 382 dE:=⟨⟨_,_,_,_,_,_,_,_,_,rfl,(Tr w),(S2 w)⟩,(Il w)⟩
theorem lG (w:World):Binds (κ w) dE ["self"] []:=Binds.all fun us hl=>by obtain ⟨a,rfl⟩:=Ao hl;rfl
def j5:FuncData:=fnOf "nought" "nought" (aK (top 27)) (aJ (top 27)) (ak (top 27)) .none .none .none (HD.st "dialvault.vault" 405) none (.ref 275) .none
theorem R1 (w:World):(κ w).lookup 276=some ⟨.type "function", none,.func j5,⟨[]⟩⟩:=by kernel_rfl
theorem SI (w:World):codeIn (κ w) (.ref 275) "nought" = true:=by kernel_rfl
theorem QQ (w:World):keepIn (κ w) (.ref 276)=true:=by kernel_rfl
theorem Au (w:World):aQ (κ w) "nought" "nought" (top 27) .none 276 j5:=⟨⟨_,_,_,_,_,_,_,_,_,rfl,(R1 w),(SI w)⟩,(QQ w)⟩
theorem AD (w:World):Binds (κ w) j5 ["vault"] []:=Binds.all fun us hl=>by obtain ⟨a,rfl⟩:=Ao hl;rfl
def fN:FuncData:=fnOf "is_setting" "is_setting" (aK (top 28)) (aJ (top 28)) (ak (top 28)) .none .none .none (HD.st "dialvault.vault" 405) none (.ref 280) .none
theorem N3 (w:World):(κ w).lookup 281=some ⟨.type "function", none,.func fN,⟨[]⟩⟩:=by kernel_rfl
theorem N2 (w:World):codeIn (κ w) (.ref 280) "is_setting" = true:=by kernel_rfl
theorem Hd (w:World):keepIn (κ w) (.ref 281)=true:=by kernel_rfl
theorem sQ (w:World):aQ (κ w) "is_setting" "is_setting" (top 28) .none 281 fN:=⟨⟨_,_,_,_,_,_,_,_,_,rfl,(N3 w),(N2 w)⟩,(Hd w)⟩
theorem rT (w:World):Binds (κ w) fN ["vault", "thing"] []:=Binds.all fun us hl=>by obtain ⟨a,b,rfl⟩:=ln2 hl;rfl
def dJ:FuncData:=fnOf "need_setting" "need_setting" (aK (top 29)) (aJ (top 29)) (ak (top 29)) .none .none .none (HD.st "dialvault.vault" 405) none (.ref 287) .none
theorem Mc (w:World):(κ w).lookup 288=some ⟨.type "function", none,.func dJ,⟨[]⟩⟩:=by kernel_rfl
theorem Im (w:World):codeIn (κ w) (.ref 287) "need_setting" = true:=by kernel_rfl
theorem Hk (w:World):keepIn (κ w) (.ref 288)=true:=by kernel_rfl
theorem pD (w:World):aQ (κ w) "need_setting" "need_setting" (top 29) .none 288 dJ:=⟨⟨_,_,_,_,_,_,_,_,_,rfl,(Mc w),(Im w)⟩,(Hk w)⟩
theorem oq (w:World):Binds (κ w) dJ ["vault", "thing"] []:=Binds.all fun us hl=>by obtain ⟨a,b,rfl⟩:=ln2 hl;rfl
def ig:FuncData:=fnOf "unpulled" "unpulled" (aK (top 33)) (aJ (top 33)) (ak (top 33)) .none .none .none (HD.st "dialvault.rungs" 541) none (.ref 306) .none
theorem KP (w:World):(κ w).lookup 307=some ⟨.type "function", none,.func ig,⟨[]⟩⟩:=by kernel_rfl
theorem Nd (w:World):codeIn (κ w) (.ref 306) "unpulled" = true:=by kernel_rfl
theorem Gm (w:World):keepIn (κ w) (.ref 307)=true:=by kernel_rfl
theorem vj (w:World):aQ (κ w) "unpulled" "unpulled" (top 33) .none 307 ig:=⟨⟨_,_,_,_,_,_,_,_,_,rfl,(KP w),(Nd w)⟩,(Gm w)⟩
theorem vR (w:World):Binds (κ w) ig ["vault", "setting"] []:=Binds.all fun us hl=>by obtain ⟨a,b,rfl⟩:=ln2 hl;rfl
def eI:FuncData:=fnOf "pulled_once" "pulled_once" (aK (top 34)) (aJ (top 34)) (ak (top 34)) .none .none .none (HD.st "dialvault.rungs" 541) none (.ref 313) .none
theorem PQ (w:World):(κ w).lookup 314=some ⟨.type "function", none,.func eI,⟨[]⟩⟩:=by kernel_rfl
theorem Ow (w:World):codeIn (κ w) (.ref 313) "pulled_once" = true:=by kernel_rfl
theorem Ge (w:World):keepIn (κ w) (.ref 314)=true:=by kernel_rfl
theorem ql (w:World):aQ (κ w) "pulled_once" "pulled_once" (top 34) .none 314 eI:=⟨⟨_,_,_,_,_,_,_,_,_,rfl,(PQ w),(Ow w)⟩,(Ge w)⟩
theorem qm (w:World):Binds (κ w) eI ["vault", "lever"] []:=Binds.all fun us hl=>by obtain ⟨a,b,rfl⟩:=ln2 hl;rfl
def fv:FuncData:=fnOf "__init__" "Rungs.__init__" (aK (inClass (top 39) 0)) (aJ (inClass (top 39) 0)) (ak (inClass (top 39) 0)) .none .none .none (HD.st "dialvault.rungs" 541) none (.ref 353) .none
theorem Qa (w:World):(κ w).lookup 354=some ⟨.type "function", none,.func fv,⟨[]⟩⟩:=by kernel_rfl
theorem Oi (w:World):codeIn (κ w) (.ref 353) "Rungs.__init__" = true:=by kernel_rfl
theorem NK (w:World):keepIn (κ w) (.ref 354)=true:=by kernel_rfl
theorem rF (w:World):aQ (κ w) "__init__" "Rungs.__init__" (inClass (top 39) 0) .none 354 fv:=⟨⟨_,_,_,_,_,_,_,_,_,rfl,(Qa w),(Oi w)⟩,(NK w)⟩
theorem sU (w:World):Binds (κ w) fv ["self", "vault"] []:=Binds.all fun us hl=>by obtain ⟨a,b,rfl⟩:=ln2 hl;rfl
def bX:FuncData:=fnOf "brought_down" "Rungs.brought_down" (aK (inClass (top 39) 5)) (aJ (inClass (top 39) 5)) (ak (inClass (top 39) 5)) .none .none .none (HD.st "dialvault.rungs" 541) none (.ref 388) .none
theorem MK (w:World):(κ w).lookup 389=some ⟨.type "function", none,.func bX,⟨[]⟩⟩:=by kernel_rfl
theorem Ld (w:World):codeIn (κ w) (.ref 388) "Rungs.brought_down" = true:=by kernel_rfl
theorem F_ (w:World):keepIn (κ w) (.ref 389)=true:=by kernel_rfl
theorem jG (w:World):aQ (κ w) "brought_down" "Rungs.brought_down" (inClass (top 39) 5) .none 389 bX:=⟨⟨_,_,_,_,_,_,_,_,_,rfl,(MK w),(Ld w)⟩,(F_ w)⟩
theorem jT (w:World):Binds (κ w) bX ["self", "setting"] []:=Binds.all fun us hl=>by obtain ⟨a,b,rfl⟩:=ln2 hl;rfl
def eB:FuncData:=fnOf "least" "Rungs.least" (aK (inClass (top 39) 6)) (aJ (inClass (top 39) 6)) (ak (inClass (top 39) 6)) .none .none .none (HD.st "dialvault.rungs" 541) none (.ref 395) .none
theorem Mg (w:World):(κ w).lookup 396=some ⟨.type "function", none,.func eB,⟨[]⟩⟩:=by kernel_rfl
theorem Qz (w:World):codeIn (κ w) (.ref 395) "Rungs.least" = true:=by kernel_rfl
theorem F5 (w:World):keepIn (κ w) (.ref 396)=true:=by kernel_rfl
theorem pW (w:World):aQ (κ w) "least" "Rungs.least" (inClass (top 39) 6) .none 396 eB:=⟨⟨_,_,_,_,_,_,_,_,_,rfl,(Mg w),(Qz w)⟩,(F5 w)⟩
theorem p_ (w:World):Binds (κ w) eB ["self", "setting"] []:=Binds.all fun us hl=>by obtain ⟨a,b,rfl⟩:=ln2 hl;rfl
def c9:FuncData:=fnOf "pulls_to" "Rungs.pulls_to" (aK (inClass (top 39) 7)) (aJ (inClass (top 39) 7)) (ak (inClass (top 39) 7)) .none .none .none (HD.st "dialvault.rungs" 541) none (.ref 400) .none
theorem Nc (w:World):(κ w).lookup 401=some ⟨.type "function", none,.func c9,⟨[]⟩⟩:=by kernel_rfl
theorem ON (w:World):codeIn (κ w) (.ref 400) "Rungs.pulls_to" = true:=by kernel_rfl
theorem G6 (w:World):keepIn (κ w) (.ref 401)=true:=by kernel_rfl
theorem l8 (w:World):aQ (κ w) "pulls_to" "Rungs.pulls_to" (inClass (top 39) 7) .none 401 c9:=⟨⟨_,_,_,_,_,_,_,_,_,rfl,(Nc w),(ON w)⟩,(G6 w)⟩
theorem mv (w:World):Binds (κ w) c9 ["self", "setting"] []:=Binds.all fun us hl=>by obtain ⟨a,b,rfl⟩:=ln2 hl;rfl
def sH:FuncData:=fnOf "law" "law" (aK (top 52)) (aJ (top 52)) (ak (top 52)) .none .none .none (HD.st "law_dialvault_k26_every_idle_way" 712) none (.ref 488) .none
theorem MV (w:World):(κ w).lookup 489=some ⟨.type "function", none,.func sH,⟨[]⟩⟩:=by kernel_rfl
theorem J8 (w:World):codeIn (κ w) (.ref 488) "law" = true:=by kernel_rfl
theorem OW (w:World):keepIn (κ w) (.ref 489)=true:=by kernel_rfl
theorem F6 (w:World):aQ (κ w) "law" "law" (top 52) .none 489 sH:=⟨⟨_,_,_,_,_,_,_,_,_,rfl,(MV w),(J8 w)⟩,(OW w)⟩
theorem Jk (w:World):findIn (κ w) (.ref 136) "__getattribute__" = some (some (.builtin "BaseException.__getattribute__")):=by kernel_rfl
theorem J4 (w:World):findIn (κ w) (.ref 136) "__getattr__" = some none:=by kernel_rfl
theorem JY (w:World):hasDictIn (κ w) 136=true:=by kernel_rfl
theorem Ny (w:World):findIn (κ w) (.ref 136) "__setattr__" = some (some (.builtin "object.__setattr__")):=by kernel_rfl
theorem K1 (w:World):mroIn (κ w) 136 (.type "BaseException")=some true:=by kernel_rfl
theorem N0 (w:World):mroIn (κ w) 136 (.type "object")=some true:=by kernel_rfl
theorem J2 (w:World):findIn (κ w) (.ref 136) "__class__" = some (some (.builtin "object.__class__")):=by kernel_rfl
theorem Ms (w:World):specialIn (κ w) (.builtin "object.__class__") "__get__" = some (some (.builtin "getset_descriptor.__get__")):=by kernel_rfl
theorem MC (w:World):takesIn (κ w) (.builtin "object.__class__")=some true:=by kernel_rfl
theorem r9 (w:World):i_ (κ w) jH:=⟨(Jk w),(J4 w),(JY w),(Ny w),(K1 w),(N0 w),(J2 w),(Ms w),(MC w)⟩
theorem OL (w:World):typeIn (κ w) (.ref 136)=some (.type "type"):=by kernel_rfl
theorem K5 (w:World):keepIn (κ w) (.ref 136)=true:=by kernel_rfl
theorem Ju (w:World):nsIn (κ w) mainGlobals "NoSetting" = some (some (.ref 136)):=by kernel_rfl
theorem IS (w:World):excIn (κ w) 136 dO "ValueError.__new__" = true:=by kernel_rfl
theorem Qt (w:World):findIn (κ w) (.ref 155) "__getattribute__" = some (some (.builtin "BaseException.__getattribute__")):=by kernel_rfl
theorem IH (w:World):findIn (κ w) (.ref 155) "__getattr__" = some none:=by kernel_rfl
theorem Px (w:World):hasDictIn (κ w) 155=true:=by kernel_rfl
theorem OG (w:World):findIn (κ w) (.ref 155) "__setattr__" = some (some (.builtin "object.__setattr__")):=by kernel_rfl
theorem O6 (w:World):mroIn (κ w) 155 (.type "BaseException")=some true:=by kernel_rfl
theorem Oq (w:World):mroIn (κ w) 155 (.type "object")=some true:=by kernel_rfl
theorem Iv (w:World):findIn (κ w) (.ref 155) "__class__" = some (some (.builtin "object.__class__")):=by kernel_rfl
theorem PY (w:World):specialIn (κ w) (.builtin "object.__class__") "__get__" = some (some (.builtin "getset_descriptor.__get__")):=by kernel_rfl
theorem Pc (w:World):takesIn (κ w) (.builtin "object.__class__")=some true:=by kernel_rfl
theorem wg (w:World):i_ (κ w) j4:=⟨(Qt w),(IH w),(Px w),(OG w),(O6 w),(Oq w),(Iv w),(PY w),(Pc w)⟩
theorem Od (w:World):typeIn (κ w) (.ref 155)=some (.type "type"):=by kernel_rfl
theorem JR (w:World):keepIn (κ w) (.ref 155)=true:=by kernel_rfl
theorem PJ (w:World):nsIn (κ w) mainGlobals "TooMany" = some (some (.ref 155)):=by kernel_rfl
theorem Kn (w:World):excIn (κ w) 155 dO "ValueError.__new__" = true:=by kernel_rfl
theorem Oo (w:World):findIn (κ w) (.ref 65) "__getattribute__" = some (some (.builtin "BaseException.__getattribute__")):=by kernel_rfl
theorem OH (w:World):findIn (κ w) (.ref 65) "__getattr__" = some none:=by kernel_rfl
theorem LI (w:World):hasDictIn (κ w) 65=true:=by kernel_rfl
theorem Mn (w:World):findIn (κ w) (.ref 65) "__setattr__" = some (some (.builtin "object.__setattr__")):=by kernel_rfl
theorem Of (w:World):mroIn (κ w) 65 (.type "BaseException")=some true:=by kernel_rfl
theorem LJ (w:World):mroIn (κ w) 65 (.type "object")=some true:=by kernel_rfl
theorem Kp (w:World):findIn (κ w) (.ref 65) "__class__" = some (some (.builtin "object.__class__")):=by kernel_rfl
theorem Lx (w:World):specialIn (κ w) (.builtin "object.__class__") "__get__" = some (some (.builtin "getset_descriptor.__get__")):=by kernel_rfl
theorem Ia (w:World):takesIn (κ w) (.builtin "object.__class__")=some true:=by kernel_rfl
theorem qZ (w:World):i_ (κ w) iG:=⟨(Oo w),(OH w),(LI w),(Mn w),(Of w),(LJ w),(Kp w),(Lx w),(Ia w)⟩
theorem M4 (w:World):typeIn (κ w) (.ref 65)=some (.type "type"):=by kernel_rfl
theorem HW (w:World):keepIn (κ w) (.ref 65)=true:=by kernel_rfl
theorem Pe (w:World):nsIn (κ w) mainGlobals "NoDial" = some (some (.ref 65)):=by kernel_rfl
def ip:FuncData:=fnOf "__init__" "NoDial.__init__" (aK (inClass (top 3) 0)) (aJ (inClass (top 3) 0)) (ak (inClass (top 3) 0)) .none .none .none (HD.st "dialvault.errors" 194) none (.ref 54) .none
theorem Qs (w:World):(κ w).lookup 55=some ⟨.type "function", none,.func ip,⟨[]⟩⟩:=by kernel_rfl
theorem Kd (w:World):codeIn (κ w) (.ref 54) "NoDial.__init__" = true:=by kernel_rfl
theorem vE (w:World):Binds (κ w) ip ["self", "dial"] []:=Binds.all fun us hl=>by obtain ⟨a,b,rfl⟩:=ln2 hl;rfl
theorem vn:aH ["self", "dial"] ["self", "dial"] (ak (inClass (top 3) 0)):=⟨rfl,rfl,rfl,by decide +kernel,rfl,by decide +kernel,by decide +kernel⟩
theorem MU (w:World):((clsIn (κ w) 65).any fun cd=>gy cd.mro)=true:=by kernel_rfl
theorem Jr (w:World):findIn (κ w) (.ref 65) "dial" = some none:=by kernel_rfl
theorem LB (w:World):jF (κ w) 65 "ValueError.__new__" 55=true:=by kernel_rfl
theorem JH (w:World):isFn (κ w) (.ref 55)=true:=by kernel_rfl
theorem vD {P:Program} {w:World} {mg:Str->Option Value} {base:Heap}:aY P w (κ w) mg base (b_ P w) 1 55 ip ["self", "dial"] (xf (κ w) iG "dial") :=
 pB (n0 := "self") (n1 := "dial") (fl := "dial") (Qs w) (Kd w) vn (qZ w) (MU w) (Jr w) (by first | exact .inl rfl | exact .inr (.inl rfl)) (by first | exact .inl rfl | exact .inr (.inl rfl)) (by decide) (by decide) (by decide) (by decide) (fun _=>rfl)
theorem KA (w:World):findIn (κ w) (.ref 91) "__getattribute__" = some (some (.builtin "BaseException.__getattribute__")):=by kernel_rfl
theorem P2 (w:World):findIn (κ w) (.ref 91) "__getattr__" = some none:=by kernel_rfl
theorem PM (w:World):hasDictIn (κ w) 91=true:=by kernel_rfl
theorem Qx (w:World):findIn (κ w) (.ref 91) "__setattr__" = some (some (.builtin "object.__setattr__")):=by kernel_rfl
theorem JL (w:World):mroIn (κ w) 91 (.type "BaseException")=some true:=by kernel_rfl
theorem Pw (w:World):mroIn (κ w) 91 (.type "object")=some true:=by kernel_rfl
theorem ND (w:World):findIn (κ w) (.ref 91) "__class__" = some (some (.builtin "object.__class__")):=by kernel_rfl
theorem Pt (w:World):specialIn (κ w) (.builtin "object.__class__") "__get__" = some (some (.builtin "getset_descriptor.__get__")):=by kernel_rfl
theorem KN (w:World):takesIn (κ w) (.builtin "object.__class__")=some true:=by kernel_rfl
theorem om (w:World):i_ (κ w) iD:=⟨(KA w),(P2 w),(PM w),(Qx w),(JL w),(Pw w),(ND w),(Pt w),(KN w)⟩
theorem Qh (w:World):typeIn (κ w) (.ref 91)=some (.type "type"):=by kernel_rfl
theorem Ij (w:World):keepIn (κ w) (.ref 91)=true:=by kernel_rfl
theorem Nz (w:World):nsIn (κ w) mainGlobals "NoLever" = some (some (.ref 91)):=by kernel_rfl
def gL:FuncData:=fnOf "__init__" "NoLever.__init__" (aK (inClass (top 4) 0)) (aJ (inClass (top 4) 0)) (ak (inClass (top 4) 0)) .none .none .none (HD.st "dialvault.errors" 194) none (.ref 80) .none
theorem Jt (w:World):(κ w).lookup 81=some ⟨.type "function", none,.func gL,⟨[]⟩⟩:=by kernel_rfl
theorem OV (w:World):codeIn (κ w) (.ref 80) "NoLever.__init__" = true:=by kernel_rfl
theorem tX (w:World):Binds (κ w) gL ["self", "lever"] []:=Binds.all fun us hl=>by obtain ⟨a,b,rfl⟩:=ln2 hl;rfl
theorem uP:aH ["self", "lever"] ["self", "lever"] (ak (inClass (top 4) 0)):=⟨rfl,rfl,rfl,by decide +kernel,rfl,by decide +kernel,by decide +kernel⟩
theorem Qu (w:World):((clsIn (κ w) 91).any fun cd=>gy cd.mro)=true:=by kernel_rfl
theorem MN (w:World):findIn (κ w) (.ref 91) "lever" = some none:=by kernel_rfl
theorem KR (w:World):jF (κ w) 91 "ValueError.__new__" 81=true:=by kernel_rfl
theorem P_ (w:World):isFn (κ w) (.ref 81)=true:=by kernel_rfl
theorem t8 {P:Program} {w:World} {mg:Str->Option Value} {base:Heap}:aY P w (κ w) mg base (b_ P w) 1 81 gL ["self", "lever"] (xf (κ w) iD "lever") :=
 pB (n0 := "self") (n1 := "lever") (fl := "lever") (Jt w) (OV w) uP (om w) (Qu w) (MN w) (by first | exact .inl rfl | exact .inr (.inl rfl)) (by first | exact .inl rfl | exact .inr (.inl rfl)) (by decide) (by decide) (by decide) (by decide) (fun _=>rfl)
theorem KH (w:World):findIn (κ w) (.ref 117) "__getattribute__" = some (some (.builtin "BaseException.__getattribute__")):=by kernel_rfl
theorem K0 (w:World):findIn (κ w) (.ref 117) "__getattr__" = some none:=by kernel_rfl
theorem Pu (w:World):hasDictIn (κ w) 117=true:=by kernel_rfl
theorem MZ (w:World):findIn (κ w) (.ref 117) "__setattr__" = some (some (.builtin "object.__setattr__")):=by kernel_rfl
theorem P4 (w:World):mroIn (κ w) 117 (.type "BaseException")=some true:=by kernel_rfl
theorem IC (w:World):mroIn (κ w) 117 (.type "object")=some true:=by kernel_rfl
theorem Kq (w:World):findIn (κ w) (.ref 117) "__class__" = some (some (.builtin "object.__class__")):=by kernel_rfl
theorem Nr (w:World):specialIn (κ w) (.builtin "object.__class__") "__get__" = some (some (.builtin "getset_descriptor.__get__")):=by kernel_rfl
theorem NY (w:World):takesIn (κ w) (.builtin "object.__class__")=some true:=by kernel_rfl
theorem oo (w:World):i_ (κ w) gO:=⟨(KH w),(K0 w),(Pu w),(MZ w),(P4 w),(IC w),(Kq w),(Nr w),(NY w)⟩
theorem JQ (w:World):typeIn (κ w) (.ref 117)=some (.type "type"):=by kernel_rfl
theorem KC (w:World):keepIn (κ w) (.ref 117)=true:=by kernel_rfl
theorem Kt (w:World):nsIn (κ w) mainGlobals "NoPrice" = some (some (.ref 117)):=by kernel_rfl
def gv:FuncData:=fnOf "__init__" "NoPrice.__init__" (aK (inClass (top 5) 0)) (aJ (inClass (top 5) 0)) (ak (inClass (top 5) 0)) .none .none .none (HD.st "dialvault.errors" 194) none (.ref 106) .none
theorem JX (w:World):(κ w).lookup 107=some ⟨.type "function", none,.func gv,⟨[]⟩⟩:=by kernel_rfl
theorem Jj (w:World):codeIn (κ w) (.ref 106) "NoPrice.__init__" = true:=by kernel_rfl
theorem uC (w:World):Binds (κ w) gv ["self", "lever"] []:=Binds.all fun us hl=>by obtain ⟨a,b,rfl⟩:=ln2 hl;rfl
theorem uz:aH ["self", "lever"] ["self", "lever"] (ak (inClass (top 5) 0)):=⟨rfl,rfl,rfl,by decide +kernel,rfl,by decide +kernel,by decide +kernel⟩
theorem Jm (w:World):((clsIn (κ w) 117).any fun cd=>gy cd.mro)=true:=by kernel_rfl
theorem NJ (w:World):findIn (κ w) (.ref 117) "lever" = some none:=by kernel_rfl
theorem P9 (w:World):jF (κ w) 117 "ValueError.__new__" 107=true:=by kernel_rfl
theorem Nb (w:World):isFn (κ w) (.ref 107)=true:=by kernel_rfl
theorem uH {P:Program} {w:World} {mg:Str->Option Value} {base:Heap}:aY P w (κ w) mg base (b_ P w) 1 107 gv ["self", "lever"] (xf (κ w) gO "lever") :=
 pB (n0 := "self") (n1 := "lever") (fl := "lever") (JX w) (Jj w) uz (oo w) (Jm w) (NJ w) (by first | exact .inl rfl | exact .inr (.inl rfl)) (by first | exact .inl rfl | exact .inr (.inl rfl)) (by decide) (by decide) (by decide) (by decide) (fun _=>rfl)
theorem M8 (w:World):plainGet (κ w) 411 Str.empty=true:=by kernel_rfl
theorem PK (w:World):hasDictIn (κ w) 411=true:=by kernel_rfl
theorem Ih (w:World):plainOver (κ w) 411=true:=by kernel_rfl
theorem J1 (w:World):findIn (κ w) (.ref 411) "__setattr__" = some (some (.builtin "object.__setattr__")):=by kernel_rfl
theorem eM (w:World):lM (κ w) aG:=⟨(M8 w),(PK w),(Ih w),(J1 w)⟩
theorem Kw (w:World):plainGet (κ w) 232 Str.empty=true:=by kernel_rfl
theorem H_ (w:World):hasDictIn (κ w) 232=true:=by kernel_rfl
theorem Nh (w:World):plainOver (κ w) 232=true:=by kernel_rfl
theorem Ln (w:World):findIn (κ w) (.ref 232) "__setattr__" = some (some (.builtin "object.__setattr__")):=by kernel_rfl
theorem fT (w:World):lM (κ w) aM:=⟨(Kw w),(H_ w),(Nh w),(Ln w)⟩
theorem Hb (w:World):findIn (κ w) (.ref 411) "idle_rows" = some none:=by kernel_rfl
theorem F8 (w:World):findIn (κ w) (.ref 411) "made_rows" = some none:=by kernel_rfl
theorem GH (w:World):findIn (κ w) (.ref 411) "vault" = some none:=by kernel_rfl
theorem Hr (w:World):findIn (κ w) (.ref 232) "dial_sizes" = some none:=by kernel_rfl
theorem GS (w:World):findIn (κ w) (.ref 232) "least_round" = some none:=by kernel_rfl
theorem G5 (w:World):findIn (κ w) (.ref 232) "lever_prices" = some none:=by kernel_rfl
theorem Gk (w:World):findIn (κ w) (.ref 232) "lever_settings" = some none:=by kernel_rfl
theorem K_ (w:World):nsIn (κ w) mainGlobals "all" = some none:=by kernel_rfl
theorem Kv (w:World):nsIn (κ w) mainGlobals "bool" = some none:=by kernel_rfl
theorem Nn (w:World):nsIn (κ w) mainGlobals "enumerate" = some none:=by kernel_rfl
theorem Iq (w:World):nsIn (κ w) mainGlobals "int" = some none:=by kernel_rfl
theorem Mj (w:World):nsIn (κ w) mainGlobals "isinstance" = some none:=by kernel_rfl
theorem MM (w:World):nsIn (κ w) mainGlobals "len" = some none:=by kernel_rfl
theorem M9 (w:World):nsIn (κ w) mainGlobals "list" = some none:=by kernel_rfl
theorem JU (w:World):nsIn (κ w) mainGlobals "max" = some none:=by kernel_rfl
theorem Lj (w:World):nsIn (κ w) mainGlobals "range" = some none:=by kernel_rfl
theorem Pm (w:World):nsIn (κ w) mainGlobals "reversed" = some none:=by kernel_rfl
theorem Qi (w:World):nsIn (κ w) mainGlobals "tuple" = some none:=by kernel_rfl
theorem NM (w:World):nsIn (κ w) mainGlobals "zip" = some none:=by kernel_rfl
theorem LY (w:World):nsIn (κ w) mainGlobals "LEAST_PRICE" = some (some (.int 1 415)):=by kernel_rfl
theorem O8 (w:World):nsIn (κ w) mainGlobals "LEAST_SIZE" = some (some (.int 2 409)):=by kernel_rfl
theorem OJ (w:World):nsIn (κ w) mainGlobals "MOST_DIALS" = some (some (.int 6 407)):=by kernel_rfl
theorem M_ (w:World):nsIn (κ w) mainGlobals "MOST_LEVERS" = some (some (.int 8 413)):=by kernel_rfl
theorem KJ (w:World):nsIn (κ w) mainGlobals "MOST_PRICE" = some (some (.int 1000 417)):=by kernel_rfl
theorem Ji (w:World):nsIn (κ w) mainGlobals "MOST_SIZE" = some (some (.int 360 411)):=by kernel_rfl
theorem OX (w:World):nsIn (κ w) mainGlobals "is_whole" = some (some (.ref 164)):=by kernel_rfl
theorem JD (w:World):nsIn (κ w) mainGlobals "is_row" = some (some (.ref 169)):=by kernel_rfl
theorem IZ (w:World):nsIn (κ w) mainGlobals "common" = some (some (.ref 176)):=by kernel_rfl
theorem Mm (w:World):nsIn (κ w) mainGlobals "multiple_of" = some (some (.ref 183)):=by kernel_rfl
theorem Pn (w:World):nsIn (κ w) mainGlobals "unit_row" = some (some (.ref 188)):=by kernel_rfl
theorem Kf (w:World):nsIn (κ w) mainGlobals "is_within" = some (some (.ref 243)):=by kernel_rfl
theorem KU (w:World):nsIn (κ w) mainGlobals "need_sizes" = some (some (.ref 250)):=by kernel_rfl
theorem N9 (w:World):nsIn (κ w) mainGlobals "need_levers" = some (some (.ref 257)):=by kernel_rfl
theorem JA (w:World):nsIn (κ w) mainGlobals "prices_for" = some (some (.ref 264)):=by kernel_rfl
theorem IF (w:World):nsIn (κ w) mainGlobals "rests" = some (some (.ref 269)):=by kernel_rfl
theorem JJ (w:World):nsIn (κ w) mainGlobals "mixed" = some (some (.ref 293)):=by kernel_rfl
theorem Kx (w:World):nsIn (κ w) mainGlobals "mixed_made" = some (some (.ref 300)):=by kernel_rfl
theorem Ml (w:World):nsIn (κ w) mainGlobals "step_size" = some (some (.ref 321)):=by kernel_rfl
theorem NG (w:World):nsIn (κ w) mainGlobals "taken_in" = some (some (.ref 328)):=by kernel_rfl
theorem PR (w:World):nsIn (κ w) mainGlobals "lowered" = some (some (.ref 335)):=by kernel_rfl
theorem LH (w:World):nsIn (κ w) mainGlobals "in_spans" = some (some (.ref 342)):=by kernel_rfl
theorem O1 (w:World):nsIn (κ w) mainGlobals "_law_cell" = some (some (.ref 422)):=by kernel_rfl
theorem MJ (w:World):nsIn (κ w) mainGlobals "_law_stream" = some (some (.ref 429)):=by kernel_rfl
theorem PB (w:World):nsIn (κ w) mainGlobals "_law_digits" = some (some (.ref 436)):=by kernel_rfl
theorem OY (w:World):nsIn (κ w) mainGlobals "_law_sizes" = some (some (.ref 441)):=by kernel_rfl
theorem JO (w:World):nsIn (κ w) mainGlobals "_law_great" = some (some (.ref 448)):=by kernel_rfl
theorem Ir (w:World):nsIn (κ w) mainGlobals "_law_lever" = some (some (.ref 455)):=by kernel_rfl
theorem OI (w:World):nsIn (κ w) mainGlobals "_law_levers" = some (some (.ref 462)):=by kernel_rfl
theorem HU (w:World):nsIn (κ w) mainGlobals "_law_added" = some (some (.ref 467)):=by kernel_rfl
theorem ID (w:World):nsIn (κ w) mainGlobals "_law_turned" = some (some (.ref 474)):=by kernel_rfl
theorem Ph (w:World):nsIn (κ w) mainGlobals "_law_pulls" = some (some (.ref 479)):=by kernel_rfl
theorem Mo (w:World):nsIn (κ w) mainGlobals "_law_brought_down" = some (some (.ref 484)):=by kernel_rfl
theorem J5 (w:World):nsIn (κ w) mainGlobals "nought" = some (some (.ref 276)):=by kernel_rfl
theorem Ik (w:World):nsIn (κ w) mainGlobals "is_setting" = some (some (.ref 281)):=by kernel_rfl
theorem Iw (w:World):nsIn (κ w) mainGlobals "need_setting" = some (some (.ref 288)):=by kernel_rfl
theorem PZ (w:World):nsIn (κ w) mainGlobals "unpulled" = some (some (.ref 307)):=by kernel_rfl
theorem Lm (w:World):nsIn (κ w) mainGlobals "pulled_once" = some (some (.ref 314)):=by kernel_rfl
theorem OZ (w:World):findIn (κ w) (.ref 232) "__init__" = some (some (.ref 201)):=by kernel_rfl
theorem JS (w:World):isFn (κ w) (.ref 201)=true:=by kernel_rfl
theorem NN (w:World):makesIn (κ w) 232=true:=by kernel_rfl
theorem Km (w:World):keepIn (κ w) (.ref 232)=true:=by kernel_rfl
theorem IB (w:World):nsIn (κ w) mainGlobals "Vault" = some (some (.ref 232)):=by kernel_rfl
theorem OO (w:World):(κ w).lookup 196=some (HD.tu [.none]):=by kernel_rfl
theorem sV (w:World):Binds (κ w) fj ["self", "sizes", "levers", "prices"] [.none]:=(lu w).binds (OO w) rfl fun _ _ _ _ _ _ us hl=>by obtain ⟨a,b,c,rfl⟩:=Gn (show _=3 from (by simpa using hl));exact ⟨_,rfl,rfl⟩
theorem IY (w:World):findIn (κ w) (.ref 232) "sizes" = some (some (.ref 208)):=by kernel_rfl
theorem MY (w:World):isFn (κ w) (.ref 208)=true:=by kernel_rfl
theorem Qk (w:World):findIn (κ w) (.ref 232) "levers" = some (some (.ref 215)):=by kernel_rfl
theorem P5 (w:World):isFn (κ w) (.ref 215)=true:=by kernel_rfl
theorem HY (w:World):findIn (κ w) (.ref 232) "prices" = some (some (.ref 222)):=by kernel_rfl
theorem Jn (w:World):isFn (κ w) (.ref 222)=true:=by kernel_rfl
theorem G1 (w:World):findIn (κ w) (.ref 411) "idle" = some (some (.ref 382)):=by kernel_rfl
theorem G3 (w:World):isFn (κ w) (.ref 382)=true:=by kernel_rfl
theorem J3 (w:World):findIn (κ w) (.ref 411) "__init__" = some (some (.ref 354)):=by kernel_rfl
theorem Qd (w:World):isFn (κ w) (.ref 354)=true:=by kernel_rfl
theorem J_ (w:World):makesIn (κ w) 411=true:=by kernel_rfl
theorem K2 (w:World):keepIn (κ w) (.ref 411)=true:=by kernel_rfl
theorem IP (w:World):nsIn (κ w) mainGlobals "Rungs" = some (some (.ref 411)):=by kernel_rfl
theorem Np (w:World):findIn (κ w) (.ref 411) "brought_down" = some (some (.ref 389)):=by kernel_rfl
theorem Lz (w:World):isFn (κ w) (.ref 389)=true:=by kernel_rfl
theorem Ql (w:World):findIn (κ w) (.ref 411) "least" = some (some (.ref 396)):=by kernel_rfl
theorem Pz (w:World):isFn (κ w) (.ref 396)=true:=by kernel_rfl
theorem IL (w:World):findIn (κ w) (.ref 411) "pulls_to" = some (some (.ref 401)):=by kernel_rfl
theorem Lo (w:World):isFn (κ w) (.ref 401)=true:=by kernel_rfl
theorem txt {w:World} {h:Heap} {mg:Str->Option Value} (X:PySem.W.Frag.In (κ w) h) (G:h.Ns mainGlobals mg):Txt (κ w) mg where
 zR:=mg_none_of X G (K_ w)
 AU:=mg_none_of X G (Kv w)
 dS:=mg_none_of X G (Nn w)
 Di:=mg_none_of X G (Iq w)
 eD:=mg_none_of X G (Mj w)
 cM:=mg_none_of X G (MM w)
 mw:=mg_none_of X G (M9 w)
 Dv:=mg_none_of X G (JU w)
 gC:=mg_none_of X G (Lj w)
 pq:=mg_none_of X G (Pm w)
 cR:=mg_none_of X G (Qi w)
 kY:=mg_none_of X G (NM w)
 iz:=⟨_,mg_of X G (LY w),⟨_,rfl⟩⟩
 k8:=⟨_,mg_of X G (O8 w),⟨_,rfl⟩⟩
 lD:=⟨_,mg_of X G (OJ w),⟨_,rfl⟩⟩
 kD:=⟨_,mg_of X G (M_ w),⟨_,rfl⟩⟩
 ly:=⟨_,mg_of X G (KJ w),⟨_,rfl⟩⟩
 nh:=⟨_,mg_of X G (Ji w),⟨_,rfl⟩⟩
 nU:=eM w
 lY:=fT w
 m_:=⟨(IS w),r9 w,(OL w),(K5 w),mg_of X G (Ju w)⟩
 mz:=⟨(Kn w),wg w,(Od w),(JR w),mg_of X G (PJ w)⟩
 h9:=(Hb w)
 ic:=(F8 w)
 kI:=(GH w)
 gR:=(Hr w)
 gc:=(GS w)
 fX:=(G5 w)
 dX:=(Gk w)
 lp:=fun C h=>by
  obtain rfl:=eq_of_beq h
  ·exact ⟨fT w,(Hr w)⟩
 hZ:=fun C h=>by
  obtain rfl:=eq_of_beq h
  ·exact ⟨eM w,(Hb w)⟩
 pX:=fun C h=>by
  obtain rfl:=eq_of_beq h
  ·exact ⟨fT w,(GS w)⟩
 jP:=fun C h=>by
  obtain rfl:=eq_of_beq h
  ·exact ⟨fT w,(G5 w)⟩
 iE:=fun C h=>by
  obtain rfl:=eq_of_beq h
  ·exact ⟨fT w,(Gk w)⟩
 m9:=fun C h=>by
  obtain rfl:=eq_of_beq h
  ·exact ⟨eM w,(F8 w)⟩
 lF:=fun C h=>by
  obtain rfl:=eq_of_beq h
  ·exact ⟨eM w,(GH w)⟩
theorem Fq {w:World} {h:Heap} {mg:Str->Option Value} (X:PySem.W.Frag.In (κ w) h) (G:h.Ns mainGlobals mg) (base:Heap):aY PySem.Challenge.pw_dialvault_k26_every_idle_way w (κ w) mg base (b_ PySem.Challenge.pw_dialvault_k26_every_idle_way w) 7 489 sH ["_law_script"] (f7 1 rA):=by
 have T:=txt X G
 have x_NoDial:uI PySem.Challenge.pw_dialvault_k26_every_idle_way w (κ w) mg base iG "NoDial" "dial" := ⟨⟨55,ip,["self", "dial"],(LB w),(JH w),vD,vE w⟩,qZ w,(M4 w),(HW w),mg_of X G (Pe w)⟩
 have x_NoLever:uI PySem.Challenge.pw_dialvault_k26_every_idle_way w (κ w) mg base iD "NoLever" "lever" := ⟨⟨81,gL,["self", "lever"],(KR w),(P_ w),t8,tX w⟩,om w,(Qh w),(Ij w),mg_of X G (Nz w)⟩
 have x_NoPrice:uI PySem.Challenge.pw_dialvault_k26_every_idle_way w (κ w) mg base gO "NoPrice" "lever" := ⟨⟨107,gv,["self", "lever"],(P9 w),(Nb w),uH,uC w⟩,oo w,(JQ w),(KC w),mg_of X G (Kt w)⟩
 have o_is_whole:cI PySem.Challenge.pw_dialvault_k26_every_idle_way w (κ w) mg base 1 "is_whole" 1 (aF 1 i5):=⟨⟨164,hV,["thing"],mg_of X G (OX w),(u3 w),rfl,vX w,uM (wa w) T ⟩⟩
 have o_is_row:cI PySem.Challenge.pw_dialvault_k26_every_idle_way w (κ w) mg base 2 "is_row" 2 (aF 2 jJ):=⟨⟨169,jX,["thing", "length"],mg_of X G (JD w),(u6 w),rfl,zZ w,ye (A9 w) T o_is_whole⟩⟩
 have o_common:cI PySem.Challenge.pw_dialvault_k26_every_idle_way w (κ w) mg base 1 "common" 2 (aF 6 jq):=⟨⟨176,j0,["one", "other"],mg_of X G (IZ w),(u9 w),rfl,yJ w,xJ (Bc w) T ⟩⟩
 have o_multiple_of:cI PySem.Challenge.pw_dialvault_k26_every_idle_way w (κ w) mg base 2 "multiple_of" 1 (aF 3 fE):=⟨⟨183,eQ,["numbers"],mg_of X G (Mm w),(QU w),rfl,pN w,oV (pQ w) T o_common⟩⟩
 have o_unit_row:cI PySem.Challenge.pw_dialvault_k26_every_idle_way w (κ w) mg base 1 "unit_row" 2 (aF 2 iZ):=⟨⟨188,hU,["length", "place"],mg_of X G (Pn w),(QL w),rfl,vN w,uu (vz w) T ⟩⟩
 have o_is_within:cI PySem.Challenge.pw_dialvault_k26_every_idle_way w (κ w) mg base 2 "is_within" 3 (aF 3 fV):=⟨⟨243,gk,["thing", "least", "most"],mg_of X G (Kf w),(Q5 w),rfl,ux w,r6 (uO w) T o_is_whole⟩⟩
 have o_need_sizes:cI PySem.Challenge.pw_dialvault_k26_every_idle_way w (κ w) mg base 3 "need_sizes" 1 (aF 3 gg):=⟨⟨250,fA,["sizes"],mg_of X G (KU w),(QJ w),rfl,tw w,qy (rX w) T x_NoDial o_is_within⟩⟩
 have o_need_levers:cI PySem.Challenge.pw_dialvault_k26_every_idle_way w (κ w) mg base 3 "need_levers" 2 (aF 4 fm):=⟨⟨257,eR,["levers", "dials"],mg_of X G (N9 w),(QN w),rfl,qt w,pE (qu w) T o_is_row x_NoLever⟩⟩
 have o_prices_for:cI PySem.Challenge.pw_dialvault_k26_every_idle_way w (κ w) mg base 3 "prices_for" 2 (aF 3 gK):=⟨⟨264,fM,["levers", "prices"],mg_of X G (JA w),(Q9 w),rfl,sP w,pO (sR w) T x_NoPrice o_is_within⟩⟩
 have o_rests:cI PySem.Challenge.pw_dialvault_k26_every_idle_way w (κ w) mg base 1 "rests" 2 (aF 2 lH):=⟨⟨269,lC,["numbers", "sizes"],mg_of X G (IF w),(Rf w),rfl,BG w,Aa (CH w) T ⟩⟩
 have o_mixed:cI PySem.Challenge.pw_dialvault_k26_every_idle_way w (κ w) mg base 1 "mixed" 4 (aF 4 lx):=⟨⟨293,lA,["row", "times", "other", "others"],mg_of X G (JJ w),(QE w),rfl,CA w,yG (BH w) T ⟩⟩
 have o_mixed_made:cI PySem.Challenge.pw_dialvault_k26_every_idle_way w (κ w) mg base 2 "mixed_made" 5 (aF 6 ee):=⟨⟨300,fq,["sizes", "made", "times", "other", "others"],mg_of X G (Kx w),(Q7 w),rfl,rG w,qz (sY w) T o_mixed o_rests⟩⟩
 have o_step_size:cI PySem.Challenge.pw_dialvault_k26_every_idle_way w (κ w) mg base 1 "step_size" 3 (aF 4 fZ):=⟨⟨321,gx,["sizes", "made_rows", "dial"],mg_of X G (Ml w),(Q4 w),rfl,uj w,tj (ue w) T ⟩⟩
 have o_taken_in:cI PySem.Challenge.pw_dialvault_k26_every_idle_way w (κ w) mg base 3 "taken_in" 3 (aF 9 iX):=⟨⟨328,ij,["sizes", "made_rows", "left"],mg_of X G (NG w),(Q_ w),rfl,vS w,tU (vC w) T o_step_size o_common o_mixed_made⟩⟩
 have o_lowered:cI PySem.Challenge.pw_dialvault_k26_every_idle_way w (κ w) mg base 3 "lowered" 4 (aF 6 iJ):=⟨⟨335,i7,["sizes", "made_rows", "made", "first"],mg_of X G (PR w),(QV w),rfl,xZ w,vI (xk w) T o_step_size o_mixed_made⟩⟩
 have o_in_spans:cI PySem.Challenge.pw_dialvault_k26_every_idle_way w (κ w) mg base 2 "in_spans" 2 (aF 4 gP):=⟨⟨342,ia,["pulls", "idle_rows"],mg_of X G (LH w),(QY w),rfl,vp w,uh (v5 w) T o_mixed⟩⟩
 have o__law_cell:cI PySem.Challenge.pw_dialvault_k26_every_idle_way w (κ w) mg base 1 "_law_cell" 2 (aF 2 fP):=⟨⟨422,gj,["_law_script", "_law_k"],mg_of X G (O1 w),(QI w),rfl,t_ w,rZ (uS w) T ⟩⟩
 have o__law_stream:cI PySem.Challenge.pw_dialvault_k26_every_idle_way w (κ w) mg base 1 "_law_stream" 2 (aF 5 c7):=⟨⟨429,eO,["_law_cell_here", "_law_many"],mg_of X G (MJ w),(QZ w),rfl,qw w,oz (qA w) T ⟩⟩
 have o__law_digits:cI PySem.Challenge.pw_dialvault_k26_every_idle_way w (κ w) mg base 1 "_law_digits" 2 (aF 5 c6):=⟨⟨436,d_,["_law_cell_here", "_law_bases"],mg_of X G (PB w),(Q3 w),rfl,qh w,oM (pY w) T ⟩⟩
 have o__law_sizes:cI PySem.Challenge.pw_dialvault_k26_every_idle_way w (κ w) mg base 2 "_law_sizes" 1 (aF 4 gq):=⟨⟨441,fJ,["_law_cell_here"],mg_of X G (OY w),(QG w),rfl,rL w,qa (rK w) T o__law_digits o__law_stream⟩⟩
 have o__law_great:cI PySem.Challenge.pw_dialvault_k26_every_idle_way w (κ w) mg base 1 "_law_great" 1 (aF 1 dZ):=⟨⟨448,fw,["_law_number"],mg_of X G (JO w),(QS w),rfl,s_ w,qd (rH w) T ⟩⟩
 have o__law_lever:cI PySem.Challenge.pw_dialvault_k26_every_idle_way w (κ w) mg base 2 "_law_lever" 2 (aF 6 gm):=⟨⟨455,fK,["_law_cell_here", "_law_sizes_here"],mg_of X G (Ir w),(QP w),rfl,sN w,qg (sx w) T o__law_stream o__law_great⟩⟩
 have o__law_levers:cI PySem.Challenge.pw_dialvault_k26_every_idle_way w (κ w) mg base 3 "_law_levers" 2 (aF 5 fH):=⟨⟨462,eC,["_law_script", "_law_sizes_here"],mg_of X G (OI w),(QH w),rfl,p7 w,oB (qj w) T o__law_cell o__law_digits o__law_lever⟩⟩
 have o__law_added:cI PySem.Challenge.pw_dialvault_k26_every_idle_way w (κ w) mg base 1 "_law_added" 4 (aF 4 gz):=⟨⟨467,fI,["_law_sizes_here", "_law_one", "_law_other", "_law_times"],mg_of X G (HU w),(QT w),rfl,sI w,qc (sE w) T ⟩⟩
 have o__law_turned:cI PySem.Challenge.pw_dialvault_k26_every_idle_way w (κ w) mg base 2 "_law_turned" 4 (aF 7 fx):=⟨⟨474,eL,["_law_sizes_here", "_law_levers_here", "_law_setting", "_law_pulls_here"],mg_of X G (ID w),(QM w),rfl,qe w,pe (p8 w) T o__law_added⟩⟩
 have o__law_pulls:cI PySem.Challenge.pw_dialvault_k26_every_idle_way w (κ w) mg base 2 "_law_pulls" 2 (aF 4 gw):=⟨⟨479,fu,["_law_cell_here", "_law_many"],mg_of X G (Ph w),(Q6 w),rfl,sS w,p9 (rM w) T o__law_digits o__law_stream o__law_great⟩⟩
 have o__law_brought_down:cI PySem.Challenge.pw_dialvault_k26_every_idle_way w (κ w) mg base 1 "_law_brought_down" 2 (aF 5 cG):=⟨⟨484,cp,["_law_idle", "_law_pulls_here"],mg_of X G (Mo w),(Q1 w),rfl,kx w,jS (ko w) T ⟩⟩
 have o_Vault_init:FT PySem.Challenge.pw_dialvault_k26_every_idle_way w (κ w) mg base aM 4 "Vault" 4 [.c8] i4:=⟨⟨201,fj,["self", "sizes", "levers", "prices"],[.none],[.c8],mg_of X G (IB w),⟨(NN w),(OZ w),(JS w),(Km w)⟩,sV w,(.cons rfl .nil),fun _=>(.cons .c8 .nil),qf (lu w) T o_need_sizes o_need_levers o_rests o_prices_for o_multiple_of⟩⟩
 have o_Vault_sizes:pK PySem.Challenge.pw_dialvault_k26_every_idle_way w (κ w) mg base aM 1 "sizes" 1 (aF 1 cC):=⟨⟨208,eu,["self"],fT w,⟨(IY w),(MY w),(Rb w)⟩,p5 w,pz (qB w) T ⟩⟩
 have o_Vault_levers:pK PySem.Challenge.pw_dialvault_k26_every_idle_way w (κ w) mg base aM 1 "levers" 1 (aF 1 cJ):=⟨⟨215,dI,["self"],fT w,⟨(Qk w),(P5 w),(Q0 w)⟩,oP w,nB (pC w) T ⟩⟩
 have o_Vault_prices:pK PySem.Challenge.pw_dialvault_k26_every_idle_way w (κ w) mg base aM 1 "prices" 1 (aF 1 jU):=⟨⟨222,dH,["self"],fT w,⟨(HY w),(Jn w),(QX w)⟩,oN w,nK (oX w) T ⟩⟩
 have o_Rungs_idle:pK PySem.Challenge.pw_dialvault_k26_every_idle_way w (κ w) mg base aG 1 "idle" 1 (aF 1 gJ):=⟨⟨382,dE,["self"],eM w,⟨(G1 w),(G3 w),(Il w)⟩,lG w,qk (lS w) T ⟩⟩
 have q_Rungs_idle:Bz PySem.Challenge.pw_dialvault_k26_every_idle_way w (κ w) mg base aG 1 "idle" dA:=⟨⟨382,dE,["self"],eM w,⟨(G1 w),(G3 w),(Il w)⟩,lG w,pd (lS w) T ⟩⟩
 have o_nought:cI PySem.Challenge.pw_dialvault_k26_every_idle_way w (κ w) mg base 2 "nought" 1 (aF 1 jL):=⟨⟨276,j5,["vault"],mg_of X G (J5 w),(QQ w),rfl,AD w,xn (Au w) T o_Vault_sizes⟩⟩
 have o_is_setting:cI PySem.Challenge.pw_dialvault_k26_every_idle_way w (κ w) mg base 3 "is_setting" 2 (aF 3 gM):=⟨⟨281,fN,["vault", "thing"],mg_of X G (Ik w),(Hd w),rfl,rT w,qp (sQ w) T o_Vault_sizes o_is_row⟩⟩
 have o_need_setting:cI PySem.Challenge.pw_dialvault_k26_every_idle_way w (κ w) mg base 4 "need_setting" 2 (aF 2 eo):=⟨⟨288,dJ,["vault", "thing"],mg_of X G (Iw w),(Hk w),rfl,oq w,nr (pD w) T o_is_setting⟩⟩
 have o_unpulled:cI PySem.Challenge.pw_dialvault_k26_every_idle_way w (κ w) mg base 2 "unpulled" 2 (aF 2 gZ):=⟨⟨307,ig,["vault", "setting"],mg_of X G (PZ w),(Gm w),rfl,vR w,uw (vj w) T o_Vault_levers⟩⟩
 have o_pulled_once:cI PySem.Challenge.pw_dialvault_k26_every_idle_way w (κ w) mg base 2 "pulled_once" 2 (aF 3 fy):=⟨⟨314,eI,["vault", "lever"],mg_of X G (Lm w),(Ge w),rfl,qm w,oY (ql w) T o_Vault_levers o_unit_row⟩⟩
 have o_Rungs_init:FT PySem.Challenge.pw_dialvault_k26_every_idle_way w (κ w) mg base aG 4 "Rungs" 2 [] iP:=⟨⟨354,fv,["self", "vault"],[],[],mg_of X G (IP w),⟨(J_ w),(J3 w),(Qd w),(K2 w)⟩,sU w,.nil,fun _=>.nil,pP (rF w) T o_Vault_sizes o_nought o_unpulled o_Vault_levers o_pulled_once o_taken_in o_in_spans o_lowered⟩⟩
 have o_Rungs_brought_down:pK PySem.Challenge.pw_dialvault_k26_every_idle_way w (κ w) mg base aG 5 "brought_down" 2 (aF 2 bJ):=⟨⟨389,bX,["self", "setting"],eM w,⟨(Np w),(Lz w),(F_ w)⟩,jT w,jl (jG w) T o_need_setting o_unpulled o_Vault_sizes o_lowered⟩⟩
 have o_Rungs_least:pK PySem.Challenge.pw_dialvault_k26_every_idle_way w (κ w) mg base aG 6 "least" 2 (aF 2 kG):=⟨⟨396,eB,["self", "setting"],eM w,⟨(Ql w),(Pz w),(F5 w)⟩,p_ w,oh (pW w) T o_Rungs_brought_down⟩⟩
 have o_Rungs_pulls_to:pK PySem.Challenge.pw_dialvault_k26_every_idle_way w (κ w) mg base aG 6 "pulls_to" 2 (aF 3 dr):=⟨⟨401,c9,["self", "setting"],eM w,⟨(IL w),(Lo w),(G6 w)⟩,mv w,kZ (l8 w) T o_Rungs_brought_down o_nought o_in_spans⟩⟩
 exact Fm (F6 w) T o__law_cell o__law_sizes o__law_levers o_Vault_init o_Rungs_init o_Rungs_idle o__law_pulls o__law_turned o_Rungs_pulls_to o__law_brought_down q_Rungs_idle
theorem QB (w:World):wL (κ w)=true:=by kernel_rfl
theorem Qp (w:World):nsIn (κ w) mainGlobals "law" = some (some (.ref 489)):=by kernel_rfl
end wB
open PySem PySem.W
theorem wB.hold (said:PySem.Challenge.rw_dialvault_k26_every_idle_way.wellSaid=true) (hsem:∀ ns:List Int,ns.length<=63->(∀ i∈ns,Builtin.Int.intBits i<=1048576)->wB.rA [.jo (ns.map L2.PV.int)]=L2.M.ok (.bl true)):PySem.Challenge.rw_dialvault_k26_every_idle_way.Holds:=by
 refine holds_law said fun said=>?_
 refine holds_open (q:=HD.vw) (loose:=HD.loose) (Xt:=HD.Xt) (XP:=XL HD.vw []) (Yf:=Hook.obs HD.hook) (Ya:=Hook.val HD.hook) (YP:=Hook.says HD.hook) HD.Gu (Hook.of HD.hook) (Hook.keeps HD.hook) (fun s e=>xl_of s (Bool.and_eq_true_iff.mp e).1) XL.keeps (by rfl) (by rfl) (by rfl) (fun s e=>recFacts_of (Bool.and_eq_true_iff.mp e).2) (by rfl) said (by decide +kernel) ⟨rfl,rfl,rfl,rfl,rfl,by decide +kernel⟩ ?hw ?hc
 case hw=>w_witness2
 refine L2.vQ (l:=PySem.Challenge.rw_dialvault_k26_every_idle_way) (n:=63) (k:=7) (x := "_law_script") (K:=HD.K) (sem:=wB.rA) rfl (by decide) rfl ⟨rfl,by decide,by decide⟩ (fun w h Y=>PySem.W.kIn_of Y) (fun w=>wB.QB w) (fun w mg fa h X G hmg=>?_) hsem
 have e:=hmg.symm.trans (PySem.W.mg_of X G (wB.Qp w))
 cases e
 exact ⟨wB.sH,fun s v=>.of_eq rfl,fun base X' G'=>wB.Fq X' G' base⟩
namespace Eu
theorem rh (a b:Int) (hb:b≠0):(a-a.fdiv b*b).natAbs<b.natAbs/\0<=(a-a.fdiv b*b)*b/\(0<=a*b->a.natAbs=(a.fdiv b).natAbs*b.natAbs+(a-a.fdiv b*b).natAbs):=by
 have pos:∀ (a b:Int),0<b->(a-a/b*b).natAbs<b.natAbs/\0<=(a-a/b*b)*b/\(0<=a*b->a.natAbs=(a/b).natAbs*b.natAbs+(a-a/b*b).natAbs):=by
  intro a b hb
  have e:a-a/b*b=a%b:=by
   have h:=Int.mul_ediv_add_emod a b
   rw [Int.mul_comm] at h
   omega
  have h0:=Int.emod_nonneg a (by omega:b≠0)
  have h1:=Int.emod_lt_of_pos a hb
  rw [e]
  refine ⟨by omega,Int.mul_nonneg h0 (by omega),fun hab=>?_⟩
  have ha:0<=a:=by
   rcases Int.lt_or_le a 0 with h | h
   ·have:=Int.mul_neg_of_neg_of_pos h hb
    omega
   ·exact h
  have hq:0<=a/b:=Int.ediv_nonneg ha (by omega)
  have h2:=Int.mul_ediv_add_emod a b
  have h3:((a/b).natAbs*b.natAbs:Nat)=(b*(a/b)).natAbs:=by
   rw [Int.natAbs_mul,Nat.mul_comm]
  rw [h3]
  have h4:0<=b*(a/b):=Int.mul_nonneg (by omega) hq
  omega
 rcases Int.lt_or_le 0 b with h | h
 ·rw [Int.fdiv_eq_ediv_of_nonneg a (by omega)]
  exact pos a b h
 ·have h':0 < -b:=by omega
  have e:a.fdiv b=(-a)/(-b):=by
   rw [← Int.fdiv_eq_ediv_of_nonneg (-a) (by omega:0<=-b),Int.neg_fdiv_neg]
  obtain ⟨p1,p2,p3⟩:=pos (-a) (-b) h'
  have e2:-a-(-a)/(-b)*(-b)=-(a-a.fdiv b*b):=by
   rw [← e,Int.mul_neg]
   omega
  rw [e2] at p1 p2 p3
  rw [← e] at p3
  simp only [Int.natAbs_neg,Int.neg_mul_neg] at p1 p2 p3
  exact ⟨p1,p2,p3⟩
structure St (a b:Int) (r s t r' s' t':Int):Prop where
 c0:r=s*a+t*b
 c1:r'=s'*a+t'*b
 dv:∀ d:Int,d∣r->d∣r'->d∣a/\d∣b
 bd:s'.natAbs*r.natAbs+s.natAbs*r'.natAbs<=b.natAbs
 sg:s'=0\/0<=r*r'
 b0:s.natAbs<=b.natAbs+1
 b1:s'.natAbs<=b.natAbs+1
 d0:t.natAbs<=a.natAbs+(b.natAbs+1)*a.natAbs+b.natAbs+1
 d1:t'.natAbs<=a.natAbs+(b.natAbs+1)*a.natAbs+b.natAbs+1
 m0:r.natAbs<=a.natAbs+b.natAbs
 m1:r'.natAbs<=b.natAbs
theorem start (a b:Int):St a b a 1 0 b 0 1 where
 c0:=by omega
 c1:=by omega
 dv:=fun d h1 h2=>⟨h1,h2⟩
 bd:=by simp
 sg:=.inl rfl
 b0:=by omega
 b1:=by omega
 d0:=by simp
 d1:=by omega
 m0:=by omega
 m1:=by omega
theorem turn {a b r s t r' s' t':Int} (h:St a b r s t r' s' t') (h0:r'≠0) :
  St a b r' s' t' (r-r.fdiv r'*r') (s-r.fdiv r'*s') (t-r.fdiv r'*t')/\(r-r.fdiv r'*r').natAbs<r'.natAbs:=by
 obtain ⟨f1,f2,f3⟩:=rh r r' h0
 generalize hq:r.fdiv r'=q at *
 have hb:b≠0:=by
  intro z
  have:=h.m1
  omega
 have hr':1<=r'.natAbs:=by omega
 have c1':r-q*r'=(s-q*s')*a+(t-q*t')*b:=by
  rw [h.c0,h.c1,Int.sub_mul,Int.sub_mul,Int.mul_add,Int.mul_assoc,Int.mul_assoc]
  omega
 have bd':(s-q*s').natAbs*r'.natAbs+s'.natAbs*(r-q*r').natAbs<=b.natAbs:=by
  have wR:(s-q*s').natAbs<=s.natAbs+q.natAbs*s'.natAbs:=by
   rw [← Int.natAbs_mul]
   omega
  have hbd:=h.bd
  rcases h.sg with z | z
  ·subst z
   simp only [Int.mul_zero,Int.sub_zero,Int.natAbs_zero,Nat.zero_mul,Nat.zero_add,Nat.add_zero] at hbd ⊢
   exact hbd
  ·have e:=f3 z
   have k1:(s-q*s').natAbs*r'.natAbs<=(s.natAbs+q.natAbs*s'.natAbs)*r'.natAbs:=Nat.mul_le_mul_right _ wR
   have k2:(s.natAbs+q.natAbs*s'.natAbs)*r'.natAbs+s'.natAbs*(r-q*r').natAbs=s'.natAbs*r.natAbs+s.natAbs*r'.natAbs:=by
    rw [e,Nat.add_mul,Nat.mul_add,Nat.mul_comm q.natAbs s'.natAbs,Nat.mul_assoc]
    omega
   omega
 have b1':(s-q*s').natAbs<=b.natAbs:=by
  have:(s-q*s').natAbs*1<=(s-q*s').natAbs*r'.natAbs:=Nat.mul_le_mul_left _ hr'
  omega
 have mm:(r-q*r').natAbs<=b.natAbs:=by
  have:=h.m1
  omega
 have d1':(t-q*t').natAbs<=a.natAbs+(b.natAbs+1)*a.natAbs+b.natAbs+1:=by
  have e:(t-q*t')*b=(r-q*r')-(s-q*s')*a:=by omega
  have e1:((t-q*t')*b).natAbs<=(r-q*r').natAbs+((s-q*s')*a).natAbs:=by omega
  rw [Int.natAbs_mul,Int.natAbs_mul] at e1
  have k1:(t-q*t').natAbs*1<=(t-q*t').natAbs*b.natAbs:=Nat.mul_le_mul_left _ (by omega)
  have k2:(s-q*s').natAbs*a.natAbs<=(b.natAbs+1)*a.natAbs:=Nat.mul_le_mul_right _ (by omega)
  omega
 refine ⟨⟨h.c1,c1',fun d e1 e2=>?_,bd',?_,h.b1,by omega,h.d1,d1',?_,mm⟩,f1⟩
 ·refine h.dv d ?_ e1
  have e3:d∣q*r':=Int.dvd_trans e1 (Int.dvd_mul_left _ _)
  have e4:=Int.dvd_add e2 e3
  rwa [Int.sub_add_cancel] at e4
 ·exact .inr (by rw [Int.mul_comm];exact f2)
 ·have:=h.m1
  omega
theorem done {a b r s t s' t':Int} (h:St a b r s t 0 s' t'):r∣a/\r∣b:=h.dv r (Int.dvd_refl r) (Int.dvd_zero r)
end Eu
namespace Lc
def A6 (ns:List Nat):Nat:=ns.foldl Nat.lcm 1
theorem wH:∀ (ns:List Nat) (m:Nat),m∣ns.foldl Nat.lcm m/\(∀ n∈ns,n∣ns.foldl Nat.lcm m)/\(∀ k,m∣k->(∀ n∈ns,n∣k)->ns.foldl Nat.lcm m∣k)
 | [],m=>⟨Nat.dvd_refl m,(fun _ h=>nomatch h),fun k h _=>h⟩
 | n::ns,m=>by
  obtain ⟨h1,h2,h3⟩:=wH ns (Nat.lcm m n)
  refine ⟨Nat.dvd_trans (Nat.dvd_lcm_left m n) h1,fun x hx=>?_,fun k hm hk=>?_⟩
  ·rcases List.mem_cons.mp hx with e | hx
   ·rw [e];exact Nat.dvd_trans (Nat.dvd_lcm_right m n) h1
   ·exact h2 x hx
  ·exact h3 k (Nat.lcm_dvd hm (hk n List.mem_cons_self)) fun x hx=>hk x (List.mem_cons_of_mem _ hx)
theorem lcm_dvd {ns:List Nat} {n:Nat} (h:n∈ns):n∣A6 ns:=(wH ns 1).2.1 n h
theorem mW:∀ (ns:List Nat) (m:Nat),0<m->(∀ n∈ns,0<n)->0<ns.foldl Nat.lcm m
 | [],m,h,_=>h
 | n::ns,m,h,hp=>mW ns (Nat.lcm m n) (Nat.lcm_pos h (hp n List.mem_cons_self)) fun x hx=>hp x (List.mem_cons_of_mem _ hx)
theorem lcm_pos {ns:List Nat} (h:∀ n∈ns,0<n):0<A6 ns:=mW ns 1 (by decide) h
theorem pf (B:Nat):∀ (ns:List Nat) (m k:Nat),0<m->m<=2^k->(∀ n∈ns,0<n/\n<=2^B)->ns.foldl Nat.lcm m<=2^(k+B*ns.length)
 | [],m,k,_,h,_=>by simpa using h
 | n::ns,m,k,h0,h,hp=>by
  have hn:=hp n List.mem_cons_self
  have h1:Nat.lcm m n<=2^(k+B):=by
   have:Nat.lcm m n<=m*n:=Nat.le_of_dvd (Nat.mul_pos h0 hn.1) (Nat.lcm_dvd (Nat.dvd_mul_right m n) (Nat.dvd_mul_left n m))
   rw [Nat.pow_add]
   exact Nat.le_trans this (Nat.mul_le_mul h hn.2)
  have h2:=pf B ns (Nat.lcm m n) (k+B) (Nat.lcm_pos h0 hn.1) h1 fun x hx=>hp x (List.mem_cons_of_mem _ hx)
  have e:k+B*(n::ns).length=k+B+B*ns.length:=by
   rw [List.length_cons,Nat.mul_succ];omega
  rw [e]
  exact h2
theorem y_ (m n:Nat):m/Nat.gcd m n*n=Nat.lcm m n:=by
 unfold Nat.lcm
 rw [Nat.div_mul_right_comm (Nat.gcd_dvd_left m n)]
end Lc
namespace Rg
abbrev dC:=Nat->Int
def br (s:dC) (D:Nat->dC) (d:Nat):Int:=if D d d=0 then s d else D d d
def G (n:Nat) (s:dC) (D:Nat->dC):Nat->Nat->dC->Prop
 | 0,_,v=>∀ i,i<n->s i∣v i
 | k+1,d,v=>br s D d∣v d/\G n s D k (d+1) fun i=>v i-v d/br s D d*D d i
def U (i:Nat) (c:Int):dC:=fun j=>if j=i then c else 0
section
variable {n:Nat} {s:dC} {D:Nat->dC}
theorem G.ext:∀ {k d:Nat} {v w:dC},d+k=n->(∀ i,i<n->v i=w i)->G n s D k d v->G n s D k d w
 | 0,d,v,w,_,e,h=>fun i hi=>by rw [← e i hi];exact h i hi
 | k+1,d,v,w,hn,e,h=>by
  have ed:=e d (by omega)
  refine ⟨by rw [← ed];exact h.1,G.ext (by omega) (fun i hi=>?_) h.2⟩
  rw [e i hi,ed]
theorem G.add:∀ {k d:Nat} {v w:dC},d+k=n->G n s D k d v->G n s D k d w->G n s D k d fun i=>v i+w i
 | 0,d,v,w,_,h,h'=>fun i hi=>Int.dvd_add (h i hi) (h' i hi)
 | k+1,d,v,w,hn,h,h'=>by
  refine ⟨Int.dvd_add h.1 h'.1,G.ext (by omega) (fun i hi=>?_) (G.add (by omega) h.2 h'.2)⟩
  show _=v i+w i-(v d+w d)/br s D d*D d i
  rw [Int.add_ediv_of_dvd_left h.1,Int.add_mul]
  omega
theorem G.mul (c:Int):∀ {k d:Nat} {v:dC},d+k=n->G n s D k d v->G n s D k d fun i=>c*v i
 | 0,d,v,_,h=>fun i hi=>Int.dvd_trans (h i hi) (Int.dvd_mul_left _ _)
 | k+1,d,v,hn,h=>by
  refine ⟨Int.dvd_trans h.1 (Int.dvd_mul_left _ _),G.ext (by omega) (fun i hi=>?_) (G.mul c (by omega) h.2)⟩
  show _=c*v i-c*v d/br s D d*D d i
  rw [Int.mul_ediv_assoc c h.1,Int.mul_sub,Int.mul_assoc]
theorem G.zero:∀ {k d:Nat},d+k=n->G n s D k d fun _=>0
 | 0,d,_=>fun i _=>Int.dvd_zero _
 | k+1,d,hn=>⟨Int.dvd_zero _,G.ext (by omega) (fun i hi=>by simp) (G.zero (k:=k) (d:=d+1) (by omega))⟩
theorem G.skip {v:dC}:∀ {j k d:Nat},d+(j+k)=n->(∀ i,d<=i->i<d+j->v i=0)->G n s D k (d+j) v->G n s D (j+k) d v
 | 0,k,d,_,_,h=>by rw [Nat.zero_add];exact h
 | j+1,k,d,hn,hz,h=>by
  rw [show j+1+k=(j+k)+1 by omega]
  have z:=hz d (Nat.le_refl _) (by omega)
  refine ⟨by rw [z];exact Int.dvd_zero _,G.ext (v:=v) (by omega) (fun i hi=>by rw [z];simp) (G.skip (by omega) (fun i h1 h2=>hz i (by omega) (by omega)) (by rw [show d+1+j=d+(j+1) by omega];exact h))⟩
end
structure Good (n:Nat) (s:dC) (D:Nat->dC):Prop where
 sp:∀ i,i<n->0<s i
 kb:∀ d,d<n->∀ i,i<n->0<=D d i/\D d i<s i
 wR:∀ d,d<n->∀ i,i<d->D d i=0
 dv:∀ d,d<n->br s D d∣s d
 HN:∀ d k,d+(k+1)=n->G n s D k (d+1) fun i=>s d/br s D d*D d i
section
variable {n:Nat} {s:dC} {D:Nat->dC}
theorem Good.pos (g:Good n s D) {d:Nat} (h:d<n):0<br s D d/\br s D d<=s d:=by
 have h1:=g.kb d h d h
 have h2:=g.sp d h
 unfold br
 split <;> omega
theorem Good.diag (g:Good n s D) {d:Nat} (h:d<n):s d∣D d d-br s D d:=by
 unfold br
 split
 ·rename_i z;rw [z];exact ⟨-1,by omega⟩
 ·rw [Int.sub_self];exact Int.dvd_zero _
theorem Good.turn (g:Good n s D):∀ {k d i:Nat} (c:Int),d+k=n->i<n->G n s D k d (U i (c*s i))
 | 0,d,i,c,_,hi=>fun j hj=>by
  unfold U
  split
  ·rename_i z;rw [z];exact Int.dvd_mul_left _ _
  ·exact Int.dvd_zero _
 | k+1,d,i,c,hn,hi=>by
  have hd:d<n:=by omega
  by_cases z:i=d
  ·subst z
   have dv:=g.dv i hi
   refine ⟨by show _∣U i _ i;rw [U,if_pos rfl];exact Int.dvd_trans dv (Int.dvd_mul_left _ _),?_⟩
   refine G.ext (by omega) (fun j hj=>?_) (G.add (by omega) (g.turn (k:=k) (d:=i+1) (i:=i) c (by omega) hi) (G.mul (-c) (by omega) (g.HN i k hn)))
   show U i (c*s i) j+-c*(s i/br s D i*D i j)=U i (c*s i) j-U i (c*s i) i/br s D i*D i j
   rw [show U i (c*s i) i=c*s i by rw [U,if_pos rfl],Int.mul_ediv_assoc c dv,Int.neg_mul,Int.mul_assoc]
   omega
  ·have u0:U i (c*s i) d=0:=by rw [U,if_neg (Ne.symm z)]
   refine ⟨by rw [u0];exact Int.dvd_zero _,G.ext (by omega) (fun j hj=>?_) (g.turn (k:=k) (d:=d+1) (i:=i) c (by omega) hi)⟩
   rw [u0];simp
theorem G.rQ {k d:Nat} {v w:dC} (ht:∀ i c,i<n->G n s D k d (U i (c*s i))) (hn:d+k=n) (h:∀ i,i<n->s i∣w i-v i) (hv:G n s D k d v):G n s D k d w:=by
 have key:∀ m,m<=n->G n s D k d fun i=>if i<m then w i else v i:=by
  intro m
  induction m with
  | zero=>intro _;exact G.ext hn (fun i _=>by simp) hv
  | succ m ih =>
   intro hm
   obtain ⟨c,hc⟩:=h m (by omega)
   refine G.ext hn (fun i hi=>?_) (G.add hn (ih (by omega)) (ht m c (by omega)))
   show (if i<m then w i else v i)+U m (c*s m) i=if i<m+1 then w i else v i
   unfold U
   by_cases z:i=m
   ·subst z
    rw [if_neg (by omega),if_pos rfl,if_pos (by omega),Int.mul_comm c]
    omega
   ·rw [if_neg z]
    by_cases q:i<m
    ·rw [if_pos q,if_pos (by omega)];omega
    ·rw [if_neg q,if_neg (by omega)];omega
 exact G.ext hn (fun i hi=>by simp [hi]) (key n (Nat.le_refl _))
theorem Good.rQ (g:Good n s D) {k d:Nat} {v w:dC} (hn:d+k=n) (h:∀ i,i<n->s i∣w i-v i) (hv:G n s D k d v):G n s D k d w :=
 G.rQ (fun i c hi=>g.turn c hn hi) hn h hv
theorem Good.own (g:Good n s D) {d k:Nat} (hn:d+(k+1)=n):G n s D (k+1) d (D d):=by
 have hd:d<n:=by omega
 by_cases z:D d d=0
 ·have e:br s D d=s d:=by unfold br;rw [if_pos z]
  have c:=g.HN d k hn
  rw [e] at c
  refine ⟨by rw [z];exact Int.dvd_zero _,G.ext (by omega) (fun i hi=>?_) c⟩
  rw [z,Int.ediv_self (by have:=g.sp d hd;omega)]
  simp
 ·have e:br s D d=D d d:=by unfold br;rw [if_neg z]
  refine ⟨by rw [e];exact Int.dvd_refl _,G.ext (by omega) (fun i hi=>?_) (G.zero (k:=k) (d:=d+1) (by omega))⟩
  rw [e,Int.ediv_self z];omega
theorem Good.row (g:Good n s D) {d:Nat} (hd:d<n):∀ {k e:Nat},e+k=n->e<=d->G n s D k e (D d):=by
 intro k e hn he
 have h:=g.own (d:=d) (k:=n-d-1) (by omega)
 have:=G.skip (n:=n) (s:=s) (D:=D) (v:=D d) (j:=d-e) (k:=n-d-1+1) (d:=e) (by omega) (fun i h1 h2=>g.wR d hd i (by omega)) (by rw [show e+(d-e)=d by omega];exact h)
 rw [show d-e+(n-d-1+1)=k by omega] at this
 exact this
end
structure Tk (n:Nat) (s:dC) (D D' L:Nat->dC) (u v g:Nat->Int):Prop where
 gp:∀ d,d<n->0<g d
 bz:∀ d,d<n->u d*br s D d+v d*L d d=g d
 g1:∀ d,d<n->g d∣br s D d
 g2:∀ d,d<n->g d∣L d d
 GC:∀ d,d<n->∀ i,i<n->D' d i=(u d*D d i+v d*L d i)%s i
 Gw:∀ d,d<n->∀ i,i<n->L (d+1) i=(br s D d/g d*L d i+-(L d d/g d)*D d i)%s i
 l0:∀ i,i<n->0<=L 0 i/\L 0 i<s i
section
variable {n:Nat} {s:dC} {D D' L:Nat->dC} {u v g:Nat->Int}
theorem fU (a b:Int):b∣a%b-a:=⟨-(a/b),by have:=Int.emod_def a b;rw [Int.mul_neg];omega⟩
theorem mK (a b:Int):b∣a-a%b:=⟨a/b,by have:=Int.emod_def a b;omega⟩
theorem Tk.kept (t:Tk n s D D' L u v g) (G:Good n s D):∀ d,d<=n->∀ i,i<n->0<=L d i/\L d i<s i:=by
 intro d hd i hi
 cases d with
 | zero=>exact t.l0 i hi
 | succ d =>
  rw [t.Gw d (by omega) i hi]
  have:=G.sp i hi
  exact ⟨Int.emod_nonneg _ (by omega),Int.emod_lt_of_pos _ this⟩
theorem iF {a b:Int} (h0:0<=a) (h1:a<b) (h:b∣a):a=0:=by
 obtain ⟨c,rfl⟩:=h
 rcases Int.lt_or_le 0 c with hc | hc
 ·have:b*1<=b*c:=Int.mul_le_mul_of_nonneg_left hc (by omega)
  omega
 ·have:b*c<=0:=Int.mul_nonpos_of_nonneg_of_nonpos (by omega) hc
  omega
theorem Tk.zero (t:Tk n s D D' L u v g) (G:Good n s D):∀ d,d<=n->∀ i,i<d->L d i=0:=by
 intro d
 induction d with
 | zero=>intro _ i hi;omega
 | succ d ih =>
  intro hd i hi
  have hdn:d<n:=by omega
  have k:=t.kept G (d+1) hd i (by omega)
  refine iF k.1 k.2 ?_
  rw [t.Gw d hdn i (by omega)]
  rcases Nat.lt_or_ge i d with h | h
  ·rw [ih (by omega) i h,G.wR d hdn i h]
   simp
  ·obtain rfl:i=d:=by omega
   refine Int.dvd_trans ?_ (Int.dvd_refl _)
   obtain ⟨c,hc⟩:=G.diag hdn
   obtain ⟨a,ha⟩:=t.g1 i hdn
   obtain ⟨b,hb⟩:=t.g2 i hdn
   have gp:=t.gp i hdn
   have e1:br s D i/g i=a:=by rw [ha];exact Int.mul_ediv_cancel_left a (by omega)
   have e2:L i i/g i=b:=by rw [hb];exact Int.mul_ediv_cancel_left b (by omega)
   rw [e1,e2]
   have e3:a*L i i+-b*D i i=s i*(-b*c):=by
    have:D i i=br s D i+s i*c:=by omega
    rw [this,ha,hb];grind
   rw [e3,Int.mul_emod_right]
   exact Int.dvd_zero _
theorem Tk.step (t:Tk n s D D' L u v g) (G:Good n s D) {d:Nat} (hd:d<n):br s D' d=g d:=by
 obtain ⟨c,hc⟩:=G.diag hd
 have gp:=t.gp d hd
 have sp:=G.sp d hd
 have st:=G.pos hd
 have le:g d<=br s D d:=Int.le_of_dvd st.1 (t.g1 d hd)
 have e:D' d d=g d%s d:=by
  rw [t.GC d hd d hd,← t.bz d hd]
  have:D d d=br s D d+s d*c:=by omega
  rw [this,show u d*(br s D d+s d*c)+v d*L d d=(u d*br s D d+v d*L d d)+s d*(u d*c) by grind,Int.add_mul_emod_self_left]
 unfold br
 rw [e]
 by_cases z:g d=s d
 ·rw [z,Int.emod_self,if_pos rfl]
 ·rw [Int.emod_eq_of_lt (by omega) (by omega),if_neg (by omega)]
theorem Tk.main (t:Tk n s D D' L u v g) (Gd:Good n s D):∀ k d,d+k=n->(∀ w,G n s D k d w->G n s D' k d w)/\G n s D' k d (L d)
 | 0,d,hn=>by
  refine ⟨fun w h=>h,fun i hi=>?_⟩
  rw [t.zero Gd d (by omega) i (by omega)];exact Int.dvd_zero _
 | k+1,d,hn=>by
  obtain ⟨i1,i2⟩:=t.main Gd k (d+1) (by omega)
  have hd:d<n:=by omega
  have turn:∀ i c,i<n->G n s D' k (d+1) (U i (c*s i)):=fun i c hi=>i1 _ (Gd.turn c (by omega) hi)
  have st:=t.step Gd hd
  have gp:=t.gp d hd
  obtain ⟨a,ha⟩:=t.g1 d hd
  obtain ⟨b,hb⟩:=t.g2 d hd
  have e1:br s D d/g d=a:=by rw [ha];exact Int.mul_ediv_cancel_left a (by omega)
  have e2:L d d/g d=b:=by rw [hb];exact Int.mul_ediv_cancel_left b (by omega)
  have bz:u d*a+v d*b=1:=by
   have:=t.bz d hd
   rw [ha,hb,show u d*(g d*a)+v d*(g d*b)=g d*(u d*a+v d*b) by grind] at this
   have h2:g d*(u d*a+v d*b)=g d*1:=by omega
   exact Int.eq_of_mul_eq_mul_left (by omega) h2
  have w1:∀ i,i<n->∃ c,D' d i=u d*D d i+v d*L d i+s i*c:=fun i hi=>by
   obtain ⟨c,hc⟩:=fU (u d*D d i+v d*L d i) (s i)
   exact ⟨c,by rw [t.GC d hd i hi];omega⟩
  have w2:∀ i,i<n->∃ c,L (d+1) i=a*L d i+-b*D d i+s i*c:=fun i hi=>by
   obtain ⟨c,hc⟩:=fU (a*L d i+-b*D d i) (s i)
   exact ⟨c,by rw [t.Gw d hd i hi,e1,e2];omega⟩
  constructor
  ·intro w h
   obtain ⟨h1,h2⟩:=h
   refine ⟨by rw [st];exact Int.dvd_trans (t.g1 d hd) h1,?_⟩
   obtain ⟨q,hq⟩:=h1
   have sp:=(Gd.pos hd).1
   have q1:w d/br s D d=q:=by rw [hq];exact Int.mul_ediv_cancel_left q (by omega)
   have q2:w d/br s D' d=q*a:=by
    rw [st,hq,ha,show g d*a*q=g d*(q*a) by grind];exact Int.mul_ediv_cancel_left _ (by omega)
   rw [q2]
   rw [q1] at h2
   refine G.rQ turn (by omega) (fun i hi=>?_) (G.add (by omega) (i1 _ h2) (G.mul (q*-(v d)) (by omega) i2))
   obtain ⟨c1,hc1⟩:=w1 i hi
   obtain ⟨c2,hc2⟩:=w2 i hi
   refine ⟨q*(v d*c2-a*c1),?_⟩
   rw [hc1,hc2];grind
  ·refine ⟨by rw [st];exact t.g2 d hd,?_⟩
   rw [st,e2]
   refine G.rQ turn (by omega) (fun i hi=>?_) (G.mul (u d) (by omega) i2)
   obtain ⟨c1,hc1⟩:=w1 i hi
   obtain ⟨c2,hc2⟩:=w2 i hi
   refine ⟨-(b*c1)-u d*c2,?_⟩
   rw [hc1,hc2];grind
theorem Tk.good (t:Tk n s D D' L u v g) (Gd:Good n s D):Good n s D' where
 sp:=Gd.sp
 kb:=fun d hd i hi=>by
  rw [t.GC d hd i hi]
  have:=Gd.sp i hi
  exact ⟨Int.emod_nonneg _ (by omega),Int.emod_lt_of_pos _ this⟩
 wR:=fun d hd i hi=>by
  rw [t.GC d hd i (by omega),Gd.wR d hd i hi,t.zero Gd d (by omega) i hi];simp
 dv:=fun d hd=>by
  rw [t.step Gd hd];exact Int.dvd_trans (t.g1 d hd) (Gd.dv d hd)
 HN:=fun d k hn=>by
  have hd:d<n:=by omega
  have h1:=(t.main Gd (k+1) d hn).1 _ (Gd.turn (i:=d) 1 hn hd)
  have h2:=(t.main Gd k (d+1) (by omega)).1 _ (Gd.turn (i:=d) 1 (by omega) hd)
  have h3:=h1.2
  have ud:U d (1*s d) d=s d:=by rw [U,if_pos rfl,Int.one_mul]
  rw [ud] at h3
  refine G.ext (by omega) (fun i hi=>?_) (G.add (by omega) h2 (G.mul (-1) (by omega) h3))
  show U d (1*s d) i+-1*(U d (1*s d) i-s d/br s D' d*D' d i)=_
  omega
end
end Rg
namespace Rg
section
variable {n:Nat} {s:dC} {D D':Nat->dC}
theorem Good.B0 (Gd:Good n s D) (kb:∀ d,d<n->∀ i,i<n->0<=D' d i/\D' d i<s i) (wR:∀ d,d<n->∀ i,i<d->D' d i=0) (dv:∀ d,d<n->br s D' d∣s d)
  (h:∀ k d,d+k=n->∀ w,G n s D k d w->G n s D' k d w):Good n s D' where
 sp:=Gd.sp
 kb:=kb
 wR:=wR
 dv:=dv
 HN:=fun d k hn=>by
  have hd:d<n:=by omega
  have h1:=h (k+1) d hn _ (Gd.turn (i:=d) 1 hn hd)
  have h2:=h k (d+1) (by omega) _ (Gd.turn (i:=d) 1 (by omega) hd)
  have h3:=h1.2
  have ud:U d (1*s d) d=s d:=by rw [U,if_pos rfl,Int.one_mul]
  rw [ud] at h3
  refine G.ext (by omega) (fun i hi=>?_) (G.add (by omega) h2 (G.mul (-1) (by omega) h3))
  show U d (1*s d) i+-1*(U d (1*s d) i-s d/br s D' d*D' d i)=_
  omega
structure Dn (n:Nat) (s:dC) (D:Nat->dC) (f:Nat) (W:Nat->dC):Prop where
 w0:∀ i,i<n->0<=W f i/\W f i<s i
 ws:∀ d,f<=d->d<n->∀ i,i<n->W (d+1) i=(1*W d i+-(W d d/br s D d)*D d i)%s i
variable {f:Nat} {W:Nat->dC}
theorem Dn.kept (h:Dn n s D f W) (Gd:Good n s D):∀ d,f<=d->d<=n->∀ i,i<n->0<=W d i/\W d i<s i:=by
 intro d hf hd i hi
 rcases Nat.lt_or_ge f d with q | q
 ·obtain ⟨e,rfl⟩:∃ e,d=e+1:=⟨d-1,by omega⟩
  rw [h.ws e (by omega) (by omega) i hi]
  have:=Gd.sp i hi
  exact ⟨Int.emod_nonneg _ (by omega),Int.emod_lt_of_pos _ this⟩
 ·obtain rfl:d=f:=by omega
  exact h.w0 i hi
theorem Dn.ahead (h:Dn n s D f W) (Gd:Good n s D) {d i:Nat} (hf:f<=d) (hd:d<n) (hi:i<d):W (d+1) i=W d i:=by
 have k:=h.kept Gd d hf (by omega) i (by omega)
 rw [h.ws d hf hd i (by omega),Gd.wR d hd i hi,Int.mul_zero,Int.add_zero,Int.one_mul,Int.emod_eq_of_lt k.1 k.2]
theorem Dn.at_ (h:Dn n s D f W) (Gd:Good n s D) {d:Nat} (hf:f<=d) (hd:d<n):W (d+1) d=W d d%br s D d:=by
 have k:=h.kept Gd d hf (by omega) d hd
 have p:=Gd.pos hd
 rw [h.ws d hf hd d hd]
 have e:=Int.emod_def (W d d) (br s D d)
 have q0:=Int.emod_nonneg (W d d) (show br s D d≠0 by omega)
 have q1:=Int.emod_lt_of_pos (W d d) p.1
 by_cases z:D d d=0
 ·have st:br s D d=s d:=by unfold br;rw [if_pos z]
  rw [z,st,Int.emod_eq_of_lt k.1 k.2,Int.mul_zero,Int.add_zero,Int.one_mul,Int.emod_eq_of_lt k.1 k.2]
 ·have st:br s D d=D d d:=by unfold br;rw [if_neg z]
  rw [← st,show 1*W d d+-(W d d/br s D d)*br s D d=W d d%br s D d by rw [e];grind]
  exact Int.emod_eq_of_lt q0 (by omega)
theorem Dn.low (h:Dn n s D f W) (Gd:Good n s D):∀ d,f<=d->d<=n->∀ e,f<=e->e<d->0<=W d e/\W d e<br s D e:=by
 intro d
 induction d with
 | zero=>intro _ _ e _ he;omega
 | succ d ih =>
  intro hf hd e he hed
  rcases Nat.lt_or_ge e d with q | q
  ·rw [h.ahead Gd (by omega) (by omega) q];exact ih (by omega) (by omega) e he q
  ·obtain rfl:e=d:=by omega
   have p:=Gd.pos (show e<n by omega)
   rw [h.at_ Gd he (by omega)]
   exact ⟨Int.emod_nonneg _ (by omega),Int.emod_lt_of_pos _ p.1⟩
theorem Dn.front (h:Dn n s D f W) (Gd:Good n s D):∀ d,f<=d->d<=n->∀ i,i<f->W d i=W f i:=by
 intro d
 induction d with
 | zero=>intro h1 _ i hi;omega
 | succ d ih =>
  intro hf hd i hi
  rcases Nat.lt_or_ge d f with q | q
  ·rw [show d+1=f by omega]
  ·rw [h.ahead Gd q (by omega) (by omega)];exact ih q (by omega) i hi
theorem Dn.run (h:Dn n s D f W) (Gd:Good n s D):∀ k d,f<=d->d+k=n->G n s D k d (W d)->∀ i,i<n->W n i=0
 | 0,d,hf,hn,g,i,hi=>by
  rw [Nat.add_zero] at hn
  subst hn
  have k:=h.kept Gd d hf (Nat.le_refl _) i hi
  exact iF k.1 k.2 (g i hi)
 | k+1,d,hf,hn,g,i,hi=>by
  refine h.run Gd k (d+1) (by omega) (by omega) (Gd.rQ (by omega) (fun j hj=>?_) g.2) i hi
  rw [h.ws d hf (by omega) j hj]
  have:=fU (1*W d j+-(W d d/br s D d)*D d j) (s j)
  rw [show 1*W d j+-(W d d/br s D d)*D d j=W d j-W d d/br s D d*D d j by grind] at this
  rw [show 1*W d j+-(W d d/br s D d)*D d j=W d j-W d d/br s D d*D d j by grind]
  exact this
theorem Dn.away (h:Dn n s D f W) (Gd:Good n s D):∀ d,f<=d->d<=n->∀ k,f+k=n->G n s D k f fun i=>W f i-W d i:=by
 intro d
 induction d with
 | zero =>
  intro hf _ k hn
  obtain rfl:f=0:=by omega
  exact G.ext hn (fun i _=>by omega) (G.zero hn)
 | succ d ih =>
  intro hf hd k hn
  rcases Nat.lt_or_ge d f with q | q
  ·rw [show d+1=f by omega]
   exact G.ext hn (fun i _=>by omega) (G.zero hn)
  ·refine Gd.rQ hn (fun i hi=>?_) (G.add hn (ih q (by omega) k hn) (G.mul (W d d/br s D d) hn (Gd.row (show d<n by omega) hn q)))
   rw [h.ws d q (by omega) i hi]
   have:=mK (1*W d i+-(W d d/br s D d)*D d i) (s i)
   obtain ⟨c,hc⟩:=this
   exact ⟨c,by rw [← hc];grind⟩
theorem G.small (Gd:Good n s D):∀ k d (v:dC),d+k=n->(∀ i,i<n->0<=v i/\v i<s i)->(∀ i,d<=i->i<n->v i<br s D i)->G n s D k d v->∀ i,i<n->v i=0
 | 0,d,v,hn,h0,_,g,i,hi=>iF (h0 i hi).1 (h0 i hi).2 (g i hi)
 | k+1,d,v,hn,h0,h1,g,i,hi=>by
  have z:v d=0:=iF (h0 d (by omega)).1 (h1 d (Nat.le_refl _) (by omega)) g.1
  refine G.small Gd k (d+1) v (by omega) h0 (fun j hj=>h1 j (by omega)) (G.ext (by omega) (fun j hj=>?_) g.2) i hi
  rw [z];simp
theorem zO (Gd:Good n s D) (W:Nat->Nat->dC) (hW:∀ d,d<n->Dn n s D (d+1) (W d)) (h0:∀ d,d<n->∀ i,i<n->W d (d+1) i=D d i) (hD:∀ d,d<n->∀ i,i<n->D' d i=W d n i) :
  Good n s D'/\(∀ d,d<n->br s D' d=br s D d)/\(∀ d,d<n->∀ e,d<e->e<n->D' d e<br s D e)/\(∀ d,d<n->D' d d=0->∀ i,i<n->D' d i=0)/\(∀ k d,d+k=n->∀ w,G n s D k d w->G n s D' k d w):=by
 have dg:∀ d,d<n->∀ i,i<=d->D' d i=D d i:=fun d hd i hi=>by
  rw [hD d hd i (by omega),(hW d hd).front Gd n (by omega) (Nat.le_refl _) i (by omega),h0 d hd i (by omega)]
 have st:∀ d,d<n->br s D' d=br s D d:=fun d hd=>by
  unfold br;rw [dg d hd d (Nat.le_refl _)]
 have incl:∀ k d,d+k=n->∀ w,G n s D k d w->G n s D' k d w:=by
  intro k
  induction k with
  | zero=>intro d _ w h;exact h
  | succ k ih =>
   intro d hn w h
   have hd:d<n:=by omega
   refine ⟨by rw [st d hd];exact h.1,ih (d+1) (by omega) _ ?_⟩
   rw [st d hd]
   refine G.ext (by omega) (fun i hi=>?_) (G.add (by omega) h.2 (G.mul (w d/br s D d) (by omega) ((hW d hd).away Gd n (by omega) (Nat.le_refl _) k (by omega))))
   show w i-w d/br s D d*D d i+w d/br s D d*(W d (d+1) i-W d n i)=_
   rw [h0 d hd i hi,hD d hd i hi];grind
 have good:Good n s D':=Gd.B0 (fun d hd i hi=>by rw [hD d hd i hi];exact (hW d hd).kept Gd n (by omega) (Nat.le_refl _) i hi) (fun d hd i hi=>by rw [dg d hd i (by omega)];exact Gd.wR d hd i hi) (fun d hd=>by rw [st d hd];exact Gd.dv d hd) incl
 have lt:∀ d,d<n->∀ e,d<e->e<n->D' d e<br s D e:=fun d hd e he hen=>by
  rw [hD d hd e hen];exact ((hW d hd).low Gd n (by omega) (Nat.le_refl _) e (by omega) hen).2
 refine ⟨good,st,lt,fun d hd z=>?_,incl⟩
 have h1:=good.own (d:=d) (k:=n-d-1) (by omega)
 have h2:=h1.2
 refine G.small good (n-d-1) (d+1) (D' d) (by omega) (good.kb d hd) (fun i h1 h2=>by rw [st i h2];exact lt d hd i (by omega) h2) (G.ext (by omega) (fun i hi=>?_) h2)
 rw [z];simp
end
def dy:Nat->(Nat->Int)->Int
 | 0,_=>0
 | m+1,f=>dy m f+f m
theorem uE (a b:Int) (f g h:Nat->Int):∀ m,(∀ l,l<m->h l=a*f l+b*g l)->dy m h=a*dy m f+b*dy m g
 | 0,_=>by simp [dy]
 | m+1,e=>by
  rw [dy,dy,dy,uE a b f g h m fun l hl=>e l (by omega),e m (by omega)];grind
theorem lE {f g:Nat->Int}:∀ {m:Nat},(∀ l,l<m->f l=g l)->dy m f=dy m g
 | 0,_=>rfl
 | m+1,e=>by rw [dy,dy,lE fun l hl=>e l (by omega),e m (by omega)]
theorem j6:∀ m,dy m (fun _=>0)=0
 | 0=>rfl
 | m+1=>by rw [dy,j6 m];rfl
theorem qR (k:Nat) (a:Int):∀ m,k<m->∀ f:Nat->Int,(∀ l,l<m->f l=if l=k then a else 0)->dy m f=a
 | 0,h,_,_=>by omega
 | m+1,h,f,e=>by
  rw [dy]
  by_cases z:k=m
  ·subst z
   rw [lE (g:=fun _=>0) fun l hl=>by rw [e l (by omega),if_neg (by omega)],j6,e k (by omega),if_pos rfl];omega
  ·rw [qR k a m (by omega) f fun l hl=>e l (by omega),e m (by omega),if_neg (by omega)];omega
def Led (n:Nat) (s:dC) (m:Nat) (A:Nat->dC) (v P:dC):Prop:=∀ i,i<n->s i∣v i-dy m fun l=>P l*A l i
theorem Led.mix {n m:Nat} {s:dC} {A:Nat->dC} {v w x P Q R:dC} {a b:Int} (h1:Led n s m A v P) (h2:Led n s m A w Q) (hx:∀ i,i<n->s i∣x i-(a*v i+b*w i)) (hR:∀ l,l<m->R l=a*P l+b*Q l):Led n s m A x R:=fun i hi=>by
 obtain ⟨c1,e1⟩:=h1 i hi
 obtain ⟨c2,e2⟩:=h2 i hi
 obtain ⟨c3,e3⟩:=hx i hi
 rw [uE a b (fun l=>P l*A l i) (fun l=>Q l*A l i) (fun l=>R l*A l i) m fun l hl=>by rw [hR l hl];grind]
 exact ⟨a*c1+b*c2+c3,by grind⟩
def bw:Nat->(Nat->Int)->Int
 | 0,_=>1
 | m+1,f=>bw m f*f m
theorem qG {f g h:Nat->Int}:∀ {m:Nat},(∀ l,l<m->f l=g l*h l)->bw m f=bw m g*bw m h
 | 0,_=>rfl
 | m+1,e=>by rw [bw,bw,bw,qG fun l hl=>e l (by omega),e m (by omega)];grind
theorem ke {f g:Nat->Int}:∀ {m:Nat},(∀ l,l<m->f l=g l)->bw m f=bw m g
 | 0,_=>rfl
 | m+1,e=>by rw [bw,bw,ke fun l hl=>e l (by omega),e m (by omega)]
theorem jY {f:Nat->Int}:∀ {m:Nat},(∀ l,l<m->0<f l)->0<bw m f
 | 0,_=>(by decide:(0:Int)<1)
 | m+1,e=>Int.mul_pos (jY fun l hl=>e l (by omega)) (e m (by omega))
end Rg
namespace Rg
def vf (xs:List Int):dC:=fun i=>xs.getD i 0
theorem bN {xs:List Int} {i:Nat} (h:i<xs.length):vf xs i=xs[i]:=by
 unfold vf;rw [List.getD_eq_getElem?_getD,List.getElem?_eq_getElem h];rfl
theorem oW {xs:List Int} {i:Nat} (h:xs.length<=i):vf xs i=0:=by
 unfold vf;rw [List.getD_eq_getElem?_getD,List.getElem?_eq_none h];rfl
def mF (xs:List Int) (a:Int) (ys:List Int) (b:Int):List Int:=(xs.zip ys).map fun z=>a*z.1+b*z.2
def yl (xs sizes:List Int):List Int:=(xs.zip sizes).map fun z=>z.1%z.2
theorem bR {xs ys:List Int} {a b:Int}:(mF xs a ys b).length=min xs.length ys.length:=by simp [mF]
theorem jr {xs ys:List Int}:(yl xs ys).length=min xs.length ys.length:=by simp [yl]
theorem fb {xs ys:List Int} {a b:Int} {i:Nat} (h1:i<xs.length) (h2:i<ys.length):vf (mF xs a ys b) i=a*vf xs i+b*vf ys i:=by
 rw [bN (by rw [bR];omega),bN h1,bN h2]
 simp [mF]
theorem jw {xs ys:List Int} {i:Nat} (h1:i<xs.length) (h2:i<ys.length):vf (yl xs ys) i=vf xs i%vf ys i:=by
 rw [bN (by rw [jr];omega),bN h1,bN h2]
 simp [yl]
theorem vV {xs ys:List Int} (hl:xs.length=ys.length) (h:∀ i,i<xs.length->vf xs i=vf ys i):xs=ys:=by
 refine List.ext_getElem hl fun i h1 h2=>?_
 have:=h i h1
 rwa [bN h1,bN h2] at this
theorem iS (n:Nat) (i:Nat):vf (List.replicate n 0) i=0:=by
 rcases Nat.lt_or_ge i n with h | h
 ·rw [bN (by simpa using h)];simp
 ·rw [oW (by simpa using h)]
def Bd (B:Nat) (xs:List Int):Prop:=∀ x∈xs,x.natAbs<2^B
theorem Bd.mono {B C:Nat} {xs:List Int} (h:Bd B xs) (hc:B<=C):Bd C xs:=fun x hx=>Nat.lt_of_lt_of_le (h x hx) (Nat.pow_le_pow_right (by decide) hc)
theorem Bd.vf {B:Nat} {xs:List Int} (h:Bd B xs) (i:Nat):(vf xs i).natAbs<2^B:=by
 rcases Nat.lt_or_ge i xs.length with q | q
 ·rw [bN q];exact h _ (List.getElem_mem q)
 ·rw [oW q];exact Nat.two_pow_pos B
theorem vt {a b:Int} {A B:Nat} (ha:a.natAbs<2^A) (hb:b.natAbs<2^B):(a*b).natAbs<2^(A+B):=by
 rw [Int.natAbs_mul,Nat.pow_add]
 have h0:0<2^A:=Nat.two_pow_pos A
 have h1:0<2^B:=Nat.two_pow_pos B
 exact Nat.mul_lt_mul_of_lt_of_le ha (Nat.le_of_lt hb) h1
theorem ER {a b:Int} {A:Nat} (ha:a.natAbs<2^A) (hb:b.natAbs<2^A):(a+b).natAbs<2^(A+1):=by
 rw [Nat.pow_succ];omega
theorem Bd.mix {A B:Nat} {xs ys:List Int} {a b:Int} (hx:Bd B xs) (hy:Bd B ys) (ha:a.natAbs<2^A) (hb:b.natAbs<2^A):Bd (A+B+1) (mF xs a ys b):=by
 intro z hz
 obtain ⟨w,hw,rfl⟩:=List.mem_map.mp hz
 have:=List.of_mem_zip (a:=w.1) (b:=w.2) hw
 exact ER (vt ha (hx _ this.1)) (vt hb (hy _ this.2))
abbrev Row:=List Int×List Int
def row (rows:List Row) (d:Nat):Row:=rows.getD d ([],[])
def DD (rows:List Row):Nat->dC:=fun d=>vf (row rows d).1
def PP (rows:List Row):Nat->dC:=fun d=>vf (row rows d).2
structure Wf (n m:Nat) (rows:List Row):Prop where
 len:rows.length=n
 l1:∀ r∈rows,r.1.length=n
 l2:∀ r∈rows,r.2.length=m
theorem iO {rows:List Row} {d:Nat} (h:d<rows.length):row rows d=rows[d]:=by
 unfold row;rw [List.getD_eq_getElem?_getD,List.getElem?_eq_getElem h];rfl
theorem Wf.rV {n m:Nat} {rows:List Row} (w:Wf n m rows) {d:Nat} (h:d<n):(row rows d).1.length=n:=by
 rw [iO (by rw [w.len];exact h)];exact w.l1 _ (List.getElem_mem _)
theorem Wf.at2 {n m:Nat} {rows:List Row} (w:Wf n m rows) {d:Nat} (h:d<n):(row rows d).2.length=m:=by
 rw [iO (by rw [w.len];exact h)];exact w.l2 _ (List.getElem_mem _)
def pJ (sizes:List Int) (r:Row) (a:Int) (q:Row) (b:Int):Row:=(yl (mF r.1 a q.1 b) sizes,mF r.2 a q.2 b)
def aD (c:Int->Int->Int×Int) (sizes:List Int) (rows:List Row) (left:Row):Nat->Row
 | 0=>left
 | d+1 =>
  let l:=aD c sizes rows left d
  let st:=br (vf sizes) (DD rows) d
  let nt:=vf l.1 d
  pJ sizes l (st/(Int.gcd st nt:Nat)) (row rows d) (-(nt/(Int.gcd st nt:Nat)))
def dN (c:Int->Int->Int×Int) (sizes:List Int) (rows:List Row) (left:Row) (d:Nat):Row :=
 let l:=aD c sizes rows left d
 let st:=br (vf sizes) (DD rows) d
 let nt:=vf l.1 d
 pJ sizes (row rows d) (c st nt).1 l (c st nt).2
def cB (c:Int->Int->Int×Int) (sizes:List Int) (rows:List Row) (left:Row) (n:Nat):List Row:=(List.range n).map (dN c sizes rows left)
section
variable {c:Int->Int->Int×Int} {sizes:List Int} {rows:List Row} {left:Row} {n m:Nat}
theorem cV (w:Wf n m rows) (hs:sizes.length=n) (h1:left.1.length=n) (h2:left.2.length=m):∀ d,d<=n->(aD c sizes rows left d).1.length=n/\(aD c sizes rows left d).2.length=m
 | 0,_=>⟨h1,h2⟩
 | d+1,hd=>by
  obtain ⟨i1,i2⟩:=cV w hs h1 h2 d (by omega)
  have e1:=w.rV (d:=d) (by omega);have e2:=w.at2 (d:=d) (by omega)
  simp only [aD,pJ]
  rw [jr,bR,bR]
  exact ⟨by omega,by omega⟩
theorem kd {d:Nat} (h:d<n):row (cB c sizes rows left n) d=dN c sizes rows left d:=by
 rw [iO (by simp [cB,h])];simp [cB]
theorem zN (w:Wf n m rows) (hs:sizes.length=n) (h1:left.1.length=n) (h2:left.2.length=m):Wf n m (cB c sizes rows left n):=by
 have key:∀ d,d<n->(dN c sizes rows left d).1.length=n/\(dN c sizes rows left d).2.length=m:=fun d hd=>by
  obtain ⟨i1,i2⟩:=cV (c:=c) w hs h1 h2 d (by omega)
  have e1:=w.rV (d:=d) hd;have e2:=w.at2 (d:=d) hd
  simp only [dN,pJ]
  rw [jr,bR,bR]
  exact ⟨by omega,by omega⟩
 refine ⟨by simp [cB],fun r hr=>?_,fun r hr=>?_⟩
 ·obtain ⟨d,hd,rfl⟩:=List.mem_map.mp hr
  exact (key d (List.mem_range.mp hd)).1
 ·obtain ⟨d,hd,rfl⟩:=List.mem_map.mp hr
  exact (key d (List.mem_range.mp hd)).2
theorem gG {a b:Int} (h:0<a):0<(Int.gcd a b:Int):=by
 have:=Int.gcd_pos_of_ne_zero_left b (show a≠0 by omega);omega
theorem GB (w:Wf n m rows) (hs:sizes.length=n) (h1:left.1.length=n) (h2:left.2.length=m) (Gd:Good n (vf sizes) (DD rows)) (h0:∀ i,i<n->0<=vf left.1 i/\vf left.1 i<vf sizes i)
  (hc:∀ d,d<n->(c (br (vf sizes) (DD rows) d) (vf (aD c sizes rows left d).1 d)).1*br (vf sizes) (DD rows) d+(c (br (vf sizes) (DD rows) d) (vf (aD c sizes rows left d).1 d)).2*vf (aD c sizes rows left d).1 d=(Int.gcd (br (vf sizes) (DD rows) d) (vf (aD c sizes rows left d).1 d):Nat)) :
  Tk n (vf sizes) (DD rows) (DD (cB c sizes rows left n)) (fun d=>vf (aD c sizes rows left d).1) (fun d=>(c (br (vf sizes) (DD rows) d) (vf (aD c sizes rows left d).1 d)).1) (fun d=>(c (br (vf sizes) (DD rows) d) (vf (aD c sizes rows left d).1 d)).2) (fun d=>(Int.gcd (br (vf sizes) (DD rows) d) (vf (aD c sizes rows left d).1 d):Nat)) where
 gp:=fun d hd=>gG (Gd.pos hd).1
 bz:=hc
 g1:=fun d hd=>Int.gcd_dvd_left ..
 g2:=fun d hd=>Int.gcd_dvd_right ..
 GC:=fun d hd i hi=>by
  obtain ⟨i1,i2⟩:=cV (c:=c) w hs h1 h2 d (by omega)
  have e1:=w.rV (d:=d) hd
  show vf (row (cB c sizes rows left n) d).1 i=_
  rw [kd hd]
  simp only [dN,pJ]
  rw [jw (by rw [bR];omega) (by omega),fb (by omega) (by omega)]
  rfl
 Gw:=fun d hd i hi=>by
  obtain ⟨i1,i2⟩:=cV (c:=c) w hs h1 h2 d (by omega)
  have e1:=w.rV (d:=d) hd
  simp only [aD,pJ]
  rw [jw (by rw [bR];omega) (by omega),fb (by omega) (by omega)]
  rfl
 l0:=h0
end
end Rg
namespace Rg
section
variable {c:Int->Int->Int×Int} {sizes:List Int} {rows:List Row} {left:Row} {n m k:Nat} {A:Nat->dC}
def CB (c:Int->Int->Int×Int):Prop:=∀ a b:Int,0<a->a<=360->0<=b->b<=360->(c a b).1*a+(c a b).2*b=(Int.gcd a b:Nat)/\(c a b).1.natAbs<2^20/\(c a b).2.natAbs<2^20
theorem jK {a b:Int} (h:0<a) (h2:a<=360):0<a/(Int.gcd a b:Nat)/\a/(Int.gcd a b:Nat)<=360:=by
 have g:=gG (b:=b) h
 obtain ⟨q,hq⟩:((Int.gcd a b:Nat):Int)∣a:=Int.gcd_dvd_left ..
 have e:a/(Int.gcd a b:Nat)=q:=by
  have:((Int.gcd a b:Nat):Int)≠0:=by omega
  exact Int.ediv_eq_of_eq_mul_right this hq
 rw [e]
 have q0:0<q:=by
  rcases Int.lt_or_le 0 q with z | z
  ·exact z
  ·have:=Int.mul_nonpos_of_nonneg_of_nonpos (Int.le_of_lt g) z;omega
 refine ⟨q0,?_⟩
 have:1*q<=(Int.gcd a b:Nat)*q:=Int.mul_le_mul_of_nonneg_right (by omega) (by omega)
 omega
theorem lh {a b:Int} (h:0<a) (h1:0<=b) (h2:b<=360):0<=b/(Int.gcd a b:Nat)/\b/(Int.gcd a b:Nat)<=360:=by
 have g:=gG (b:=b) h
 exact ⟨Int.ediv_nonneg h1 (by omega),Int.le_trans (Int.ediv_le_self _ h1) h2⟩
def Zf (k m:Nat) (P:dC):Prop:=∀ l,k<=l->l<m->P l=0
structure St (n m:Nat) (sizes:List Int) (A:Nat->dC) (k:Nat) (rows:List Row):Prop where
 wf:Wf n m rows
 hs:sizes.length=n
 sm:∀ i,i<n->vf sizes i<=360
 gd:Good n (vf sizes) (DD rows)
 led:∀ d,d<n->Led n (vf sizes) m A (DD rows d) (PP rows d)
 zf:∀ d,d<n->Zf k m (PP rows d)
 bd:∀ d,d<n->Bd (150*k+1) (row rows d).2
 cl:∀ l,l<k->G n (vf sizes) (DD rows) n 0 (A l)
structure Lv (n m:Nat) (sizes:List Int) (A:Nat->dC) (k:Nat) (left:Row):Prop where
 l1:left.1.length=n
 l2:left.2.length=m
 km:k<m
 at_:∀ i,i<n->vf left.1 i=A k i
 kb:∀ i,i<n->0<=A k i/\A k i<vf sizes i
 un:∀ l,l<m->vf left.2 l=if l=k then 1 else 0
theorem j8 (h:St n m sizes A k rows) (L:Lv n m sizes A k left):∀ d,d<=n->∀ i,i<n->0<=vf (aD c sizes rows left d).1 i/\vf (aD c sizes rows left d).1 i<vf sizes i
 | 0,_,i,hi=>by show 0<=vf left.1 i/\vf left.1 i<vf sizes i;rw [L.at_ i hi];exact L.kb i hi
 | d+1,hd,i,hi=>by
  obtain ⟨i1,i2⟩:=cV (c:=c) h.wf h.hs L.l1 L.l2 d (by omega)
  have e1:=h.wf.rV (d:=d) (by omega)
  have hs:=h.hs
  simp only [aD,pJ]
  rw [jw (by rw [bR];omega) (by omega)]
  have:=h.gd.sp i hi
  exact ⟨Int.emod_nonneg _ (by omega),Int.emod_lt_of_pos _ this⟩
theorem St.tk (h:St n m sizes A k rows) (L:Lv n m sizes A k left) (cb:CB c):Tk n (vf sizes) (DD rows) (DD (cB c sizes rows left n)) (fun d=>vf (aD c sizes rows left d).1) (fun d=>(c (br (vf sizes) (DD rows) d) (vf (aD c sizes rows left d).1 d)).1) (fun d=>(c (br (vf sizes) (DD rows) d) (vf (aD c sizes rows left d).1 d)).2) (fun d=>(Int.gcd (br (vf sizes) (DD rows) d) (vf (aD c sizes rows left d).1 d):Nat)) :=
 GB h.wf h.hs L.l1 L.l2 h.gd (fun i hi=>by rw [L.at_ i hi];exact L.kb i hi) fun d hd=>by
  have p:=h.gd.pos hd
  have q:=j8 (c:=c) h L d (by omega) d hd
  have s:=h.sm d hd
  exact (cb _ _ p.1 (by omega) q.1 (by omega)).1
theorem oQ (h:St n m sizes A k rows) (L:Lv n m sizes A k left):∀ d,d<=n->Led n (vf sizes) m A (vf (aD c sizes rows left d).1) (vf (aD c sizes rows left d).2)
 | 0,_=>fun i hi=>by
  show vf sizes i∣vf left.1 i-dy m fun l=>vf left.2 l*A l i
  rw [L.at_ i hi,qR k (A k i) m L.km (fun l=>vf left.2 l*A l i) fun l hl=>by
   rw [L.un l hl]
   by_cases z:l=k
   ·subst z;rw [if_pos rfl,if_pos rfl,Int.one_mul]
   ·rw [if_neg z,if_neg z,Int.zero_mul]]
  rw [Int.sub_self];exact Int.dvd_zero _
 | d+1,hd=>by
  obtain ⟨i1,i2⟩:=cV (c:=c) h.wf h.hs L.l1 L.l2 d (by omega)
  have e1:=h.wf.rV (d:=d) (by omega);have e2:=h.wf.at2 (d:=d) (by omega)
  have hs:=h.hs
  refine Led.mix (a:=br (vf sizes) (DD rows) d/(Int.gcd (br (vf sizes) (DD rows) d) (vf (aD c sizes rows left d).1 d):Nat)) (b:=-(vf (aD c sizes rows left d).1 d/(Int.gcd (br (vf sizes) (DD rows) d) (vf (aD c sizes rows left d).1 d):Nat))) (oQ h L d (by omega)) (h.led d (by omega)) (fun i hi=>?_) fun l hl=>?_
  ·simp only [aD,pJ]
   rw [jw (by rw [bR];omega) (by omega),fb (by omega) (by omega)]
   exact fU _ _
  ·simp only [aD,pJ]
   rw [fb (by omega) (by omega)];rfl
theorem sX (h:St n m sizes A k rows) (L:Lv n m sizes A k left):∀ d,d<=n->Zf (k+1) m (vf (aD c sizes rows left d).2)/\vf (aD c sizes rows left d).2 k=bw d fun e=>br (vf sizes) (DD rows) e/(Int.gcd (br (vf sizes) (DD rows) e) (vf (aD c sizes rows left e).1 e):Nat)
 | 0,_=>⟨fun l h1 h2=>by show vf left.2 l=0;rw [L.un l h2,if_neg (by omega)],by show vf left.2 k=1;rw [L.un k L.km,if_pos rfl]⟩
 | d+1,hd=>by
  obtain ⟨i1,i2⟩:=cV (c:=c) h.wf h.hs L.l1 L.l2 d (by omega)
  have e2:=h.wf.at2 (d:=d) (by omega)
  obtain ⟨j1,j2⟩:=sX h L d (by omega)
  have z:=h.zf d (by omega)
  have km:=L.km
  constructor
  ·intro l h1 h2
   simp only [aD,pJ]
   rw [fb (by omega) (by omega),j1 l h1 h2,show vf (row rows d).2 l=0 from z l (by omega) h2];simp
  ·rw [bw,← j2]
   simp only [aD,pJ]
   rw [fb (by omega) (by omega),show vf (row rows d).2 k=0 from z k (Nat.le_refl _) km]
   grind
theorem nQ (h:St n m sizes A k rows) (L:Lv n m sizes A k left) (hn:n<=6):∀ d,d<=n->Bd (150*k+1+11*d) (aD c sizes rows left d).2
 | 0,_=>fun x hx=>by
  have hx:x∈left.2:=hx
  obtain ⟨i,hi,rfl⟩:=List.mem_iff_getElem.mp hx
  have hm:i<m:=by rw [← L.l2];exact hi
  have e:=L.un i hm
  rw [bN hi] at e
  show (left.2[i]).natAbs<_
  rw [e]
  have:2^1<=2^(150*k+1+11*0):=Nat.pow_le_pow_right (by decide) (by omega)
  refine Nat.lt_of_lt_of_le ?_ this
  split
  ·decide
  ·decide
 | d+1,hd=>by
  have p:=h.gd.pos (show d<n by omega)
  have s:=h.sm d (by omega)
  have q:=j8 (c:=c) h L d (by omega) d (by omega)
  have a1:=jK (b:=vf (aD c sizes rows left d).1 d) p.1 (by omega)
  have a2:=lh (b:=vf (aD c sizes rows left d).1 d) p.1 q.1 (by omega)
  have:=Bd.mix (A:=9+1) (nQ h L hn d (by omega)) ((h.bd d (by omega)).mono (show 150*k+1<=150*k+1+11*d by omega)) (a:=br (vf sizes) (DD rows) d/(Int.gcd (br (vf sizes) (DD rows) d) (vf (aD c sizes rows left d).1 d):Nat)) (b:=-(vf (aD c sizes rows left d).1 d/(Int.gcd (br (vf sizes) (DD rows) d) (vf (aD c sizes rows left d).1 d):Nat))) (by omega) (by omega)
  exact this.mono (by omega)
theorem St.next (h:St n m sizes A k rows) (L:Lv n m sizes A k left) (cb:CB c) (hn:n<=6):St n m sizes A (k+1) (cB c sizes rows left n):=by
 have T:=h.tk L cb
 have hs:=h.hs
 refine ⟨zN h.wf h.hs L.l1 L.l2,h.hs,h.sm,T.good h.gd,fun d hd=>?_,fun d hd=>?_,fun d hd=>?_,fun l hl=>?_⟩
 ·obtain ⟨i1,i2⟩:=cV (c:=c) h.wf h.hs L.l1 L.l2 d (by omega)
  have e1:=h.wf.rV (d:=d) hd;have e2:=h.wf.at2 (d:=d) hd
  unfold DD PP
  rw [kd hd]
  refine Led.mix (a:=(c (br (vf sizes) (DD rows) d) (vf (aD c sizes rows left d).1 d)).1) (b:=(c (br (vf sizes) (DD rows) d) (vf (aD c sizes rows left d).1 d)).2) (h.led d hd) (oQ (c:=c) h L d (by omega)) (fun i hi=>?_) fun l hl=>?_
  ·simp only [dN,pJ]
   rw [jw (by rw [bR];omega) (by omega),fb (by omega) (by omega)]
   exact fU _ _
  ·simp only [dN,pJ]
   rw [fb (by omega) (by omega)];rfl
 ·obtain ⟨i1,i2⟩:=cV (c:=c) h.wf h.hs L.l1 L.l2 d (by omega)
  have e2:=h.wf.at2 (d:=d) hd
  intro l h1 h2
  unfold PP
  rw [kd hd]
  simp only [dN,pJ]
  rw [fb (by omega) (by omega),(sX (c:=c) h L d (by omega)).1 l h1 h2,show vf (row rows d).2 l=0 from h.zf d hd l (by omega) h2];simp
 ·rw [kd hd]
  have p:=h.gd.pos hd
  have s:=h.sm d hd
  have q:=j8 (c:=c) h L d (by omega) d hd
  have b:=cb (br (vf sizes) (DD rows) d) (vf (aD c sizes rows left d).1 d) p.1 (by omega) q.1 (by omega)
  have:=Bd.mix (A:=20) ((h.bd d hd).mono (show 150*k+1<=150*k+1+11*d by omega)) (nQ (c:=c) h L hn d (by omega)) b.2.1 b.2.2
  exact this.mono (by omega)
 ·rcases Nat.lt_or_ge l k with q | q
  ·exact (T.main h.gd n 0 (by omega)).1 _ (h.cl l q)
  ·obtain rfl:l=k:=by omega
   exact G.ext (by omega) (fun i hi=>L.at_ i hi) (T.main h.gd n 0 (by omega)).2
end
end Rg
namespace Rg
def aI (idle:List (List Int)) (k:Nat) (P:List Int):Nat->List Int
 | 0=>P
 | c+1 =>
  let z:=aI idle k P c
  let r:=idle.getD (k-1-c) []
  mF z 1 r (-(vf z (k-1-c)/vf r (k-1-c)))
def II (idle:List (List Int)):Nat->dC:=fun j=>vf (idle.getD j [])
structure yE (n m:Nat) (s:dC) (A:Nat->dC) (k:Nat) (idle:List (List Int)):Prop where
 len:idle.length=k
 l2:∀ j,j<k->(idle.getD j []).length=m
 pos:∀ j,j<k->0<II idle j j
 le:∀ j,j<k->II idle j j<2^60
 zero:∀ j,j<k->∀ l,j<l->l<m->II idle j l=0
 nf:∀ j,j<k->∀ l,l<j->0<=II idle j l/\II idle j l<II idle l l
 tF:∀ j,j<k->Led n s m A (fun _=>0) (II idle j)
section
variable {n m k:Nat} {s:dC} {A:Nat->dC} {idle:List (List Int)} {P:List Int}
theorem yE.bd (h:yE n m s A k idle) {j:Nat} (hj:j<k) (hm:k<=m):Bd 60 (idle.getD j []):=fun x hx=>by
 obtain ⟨l,hl,rfl⟩:=List.mem_iff_getElem.mp hx
 rw [h.l2 j hj] at hl
 have e:II idle j l=(idle.getD j [])[l]'(by rw [h.l2 j hj];exact hl):=bN _
 rw [← e]
 rcases Nat.lt_or_ge l j with q | q
 ·have h1:=h.nf j hj l q
  have h2:=h.le l (by omega)
  omega
 ·rcases Nat.lt_or_ge j l with q2 | q2
  ·rw [h.zero j hj l q2 hl];exact Nat.two_pow_pos _
  ·obtain rfl:l=j:=by omega
   have h1:=h.pos l hj;have h2:=h.le l hj
   omega
theorem span_len (h:yE n m s A k idle) (hP:P.length=m):∀ c,c<=k->(aI idle k P c).length=m
 | 0,_=>hP
 | c+1,hc=>by
  simp only [aI]
  rw [bR,span_len h hP c (by omega),h.l2 _ (by omega)];omega
theorem kh (h:yE n m s A k idle) (hP:P.length=m) {c l:Nat} (hc:c<k) (hl:l<m):vf (aI idle k P (c+1)) l=vf (aI idle k P c) l-vf (aI idle k P c) (k-1-c)/II idle (k-1-c) (k-1-c)*II idle (k-1-c) l:=by
 simp only [aI]
 rw [fb (by rw [span_len h hP c (by omega)];exact hl) (by rw [h.l2 _ (by omega)];exact hl)]
 unfold II
 grind
theorem uv (h:yE n m s A k idle) (hP:P.length=m):∀ c,c<=k->∀ l,k<=l->l<m->vf (aI idle k P c) l=vf P l
 | 0,_,_,_,_=>rfl
 | c+1,hc,l,h1,h2=>by
  rw [kh h hP (by omega) h2,h.zero _ (by omega) l (by omega) h2,uv h hP c (by omega) l h1 h2];simp
theorem tf (h:yE n m s A k idle) (hP:P.length=m) (hm:k<=m):∀ c,c<=k->∀ l,k-c<=l->l<k->0<=vf (aI idle k P c) l/\vf (aI idle k P c) l<II idle l l
 | 0,_,l,h1,h2=>by omega
 | c+1,hc,l,h1,h2=>by
  rw [kh h hP (by omega) (by omega)]
  rcases Nat.lt_or_ge (k-1-c) l with q | q
  ·rw [h.zero _ (by omega) l q (by omega),Int.mul_zero,Int.sub_zero]
   exact tf h hP hm c (by omega) l (by omega) h2
  ·obtain rfl:l=k-1-c:=by omega
   have p:=h.pos (k-1-c) (by omega)
   have e:=Int.emod_def (vf (aI idle k P c) (k-1-c)) (II idle (k-1-c) (k-1-c))
   rw [Int.mul_comm (vf (aI idle k P c) (k-1-c)/_),← e]
   exact ⟨Int.emod_nonneg _ (by omega),Int.emod_lt_of_pos _ p⟩
theorem k_ (h:yE n m s A k idle) (hP:P.length=m) {v:dC} (hv:Led n s m A v (vf P)):∀ c,c<=k->Led n s m A v (vf (aI idle k P c))
 | 0,_=>hv
 | c+1,hc=>by
  refine Led.mix (a:=1) (b:=-(vf (aI idle k P c) (k-1-c)/II idle (k-1-c) (k-1-c))) (k_ h hP hv c (by omega)) (h.tF (k-1-c) (by omega)) (fun i hi=>?_) fun l hl=>?_
  ·rw [Int.mul_zero,Int.add_zero,Int.one_mul,Int.sub_self];exact Int.dvd_zero _
  ·rw [kh h hP (by omega) hl];grind
theorem tm (h:yE n m s A k idle) (hP:P.length=m) (hm:k<=m) {B:Nat} (hB:60<=B) (hb:Bd B P):∀ c,c<=k->Bd (B+62*c) (aI idle k P c)
 | 0,_=>hb
 | c+1,hc=>by
  have ih:=tm h hP hm hB hb c (by omega)
  intro x hx
  obtain ⟨l,hl,rfl⟩:=List.mem_iff_getElem.mp hx
  rw [span_len h hP (c+1) hc] at hl
  rw [← bN,kh h hP (by omega) hl]
  have p:=h.pos (k-1-c) (by omega)
  have q1:(vf (aI idle k P c) (k-1-c)/II idle (k-1-c) (k-1-c)).natAbs<2^(B+62*c+1):=by
   have h1:=ih.vf (k-1-c)
   have h2:=Int.natAbs_ediv_le_natAbs (vf (aI idle k P c) (k-1-c)) (II idle (k-1-c) (k-1-c))
   rw [Nat.pow_succ];omega
  have q2:(II idle (k-1-c) l).natAbs<2^60:=(h.bd (j:=k-1-c) (by omega) hm).vf l
  have q3:=vt q1 q2
  have q4:=ih.vf l
  have q5:2^(B+62*c)<=2^(B+62*c+1+60):=Nat.pow_le_pow_right (by decide) (by omega)
  have q6:(2:Nat)^(B+62*(c+1))=2^(B+62*c+1+60)*2:=by rw [← Nat.pow_succ];congr 1
  rw [q6];omega
end
section
variable {c:Int->Int->Int×Int} {sizes:List Int} {rows:List Row} {left:Row} {n m k:Nat} {A:Nat->dC}
theorem Tk.order {s:dC} {D D' L:Nat->dC} {u v g:Nat->Int} (t:Tk n s D D' L u v g) (Gd:Good n s D):∀ (k d:Nat) (x:Int),d+k=n->G n s D k d (fun i=>x*L d i)->bw n (fun e=>br s D e/g e)∣x*bw d (fun e=>br s D e/g e)
 | 0,d,x,hn,h=>by
  obtain rfl:d=n:=by omega
  exact Int.dvd_mul_left _ _
 | k+1,d,x,hn,h=>by
  have hd:d<n:=by omega
  obtain ⟨a,ha⟩:=t.g1 d hd
  obtain ⟨b,hb⟩:=t.g2 d hd
  have gp:=t.gp d hd
  have sp:=(Gd.pos hd).1
  have e1:br s D d/g d=a:=by rw [ha];exact Int.mul_ediv_cancel_left a (by omega)
  have e2:L d d/g d=b:=by rw [hb];exact Int.mul_ediv_cancel_left b (by omega)
  have bz:u d*a+v d*b=1:=by
   have:=t.bz d hd
   rw [ha,hb,show u d*(g d*a)+v d*(g d*b)=g d*(u d*a+v d*b) by grind] at this
   have h2:g d*(u d*a+v d*b)=g d*1:=by omega
   exact Int.eq_of_mul_eq_mul_left (by omega) h2
  obtain ⟨q,hq⟩:=h.1
  have hax:a∣x:=by
   have h3:g d*(x*b)=g d*(a*q):=by
    have:x*L d d=br s D d*q:=hq
    rw [hb,ha] at this;grind
   have h4:x*b=a*q:=Int.eq_of_mul_eq_mul_left (by omega) h3
   exact ⟨u d*x+v d*q,by
    have:x=x*(u d*a+v d*b):=by rw [bz,Int.mul_one]
    rw [this]
    have:x*(u d*a+v d*b)=a*(u d*x)+v d*(x*b):=by grind
    rw [this,h4];grind⟩
  obtain ⟨y,hy⟩:=hax
  have hq2:q=b*y:=by
   have h3:g d*(a*q)=g d*(a*(b*y)):=by
    have:x*L d d=br s D d*q:=hq
    rw [hb,ha,hy] at this;grind
   have ap:a≠0:=by intro z;rw [z,Int.mul_zero] at ha;omega
   exact Int.eq_of_mul_eq_mul_left ap (Int.eq_of_mul_eq_mul_left (by omega) h3)
  have h2:=h.2
  have q1:x*L d d/br s D d=q:=by
   show x*L d d/br s D d=q
   rw [show x*L d d=br s D d*q from hq];exact Int.mul_ediv_cancel_left q (by omega)
  have:=t.order Gd k (d+1) y (by omega) (Gd.rQ (by omega) (fun i hi=>?_) h2)
  ·rw [bw,e1] at this
   rw [hy,show a*y*bw d (fun e=>br s D e/g e)=y*(bw d (fun e=>br s D e/g e)*a) by grind]
   exact this
  ·show s i∣y*L (d+1) i-(x*L d i-x*L d d/br s D d*D d i)
   rw [q1,t.Gw d hd i hi,e1,e2]
   obtain ⟨z,hz⟩:=fU (a*L d i+-b*D d i) (s i)
   refine ⟨y*z,?_⟩
   have:(a*L d i+-b*D d i)%s i=a*L d i+-b*D d i+s i*z:=by omega
   rw [this,hy,hq2];grind
theorem G.sum (Gd:Good n (vf sizes) (DD rows)) {P:dC}:∀ k',(∀ l,l<k'->G n (vf sizes) (DD rows) n 0 (A l))->G n (vf sizes) (DD rows) n 0 (fun i=>dy k' fun l=>P l*A l i)
 | 0,_=>G.zero (by omega)
 | k'+1,h=>G.ext (by omega) (fun i _=>rfl) (G.add (by omega) (G.sum Gd k' fun l hl=>h l (by omega)) (G.mul (P k') (by omega) (h k' (by omega))))
end
end Rg
namespace Rg
def ng (m k:Nat):List Int:=(List.range m).map fun l=>if l=k then 1 else 0
theorem t5 {m k l:Nat} (h:l<m):vf (ng m k) l=if l=k then 1 else 0:=by
 rw [bN (by simp [ng,h])];simp [ng]
def AA (Ls:List (List Int)):Nat->dC:=fun l=>vf (Ls.getD l [])
def bO (Ls:List (List Int)) (m k:Nat):Row:=(Ls.getD k [],ng m k)
def RK (c:Int->Int->Int×Int) (sizes:List Int) (Ls:List (List Int)) (n m:Nat):Nat->List Row×List (List Int)
 | 0=>(List.replicate n (List.replicate n 0,List.replicate m 0),[])
 | k+1 =>
  (cB c sizes (RK c sizes Ls n m k).1 (bO Ls m k) n,(RK c sizes Ls n m k).2++[aI (RK c sizes Ls n m k).2 k (aD c sizes (RK c sizes Ls n m k).1 (bO Ls m k) n).2 k])
structure Hv (n m:Nat) (sizes:List Int) (Ls:List (List Int)):Prop where
 len:Ls.length=m
 at_:∀ l,l<m->(Ls.getD l []).length=n
 kb:∀ l,l<m->∀ i,i<n->0<=AA Ls l i/\AA Ls l i<vf sizes i
structure zC (n m:Nat) (sizes:List Int) (Ls:List (List Int)) (k:Nat) (r:List Row×List (List Int)):Prop where
 st:St n m sizes (AA Ls) k r.1
 tF:yE n m (vf sizes) (AA Ls) k r.2
 pr:bw k (fun j=>II r.2 j j)*bw n (br (vf sizes) (DD r.1))=bw n (vf sizes)
 ord:∀ j,j<k->∀ P:dC,Zf (j+1) m P->Led n (vf sizes) m (AA Ls) (fun _=>0) P->II r.2 j j∣P j
section
variable {c:Int->Int->Int×Int} {sizes:List Int} {Ls:List (List Int)} {n m k:Nat}
theorem ir {idle:List (List Int)} {x:List Int} {j:Nat} (h:j<idle.length):II (idle++[x]) j=II idle j:=by
 unfold II
 rw [List.getD_eq_getElem?_getD,List.getElem?_append_left h,← List.getD_eq_getElem?_getD]
theorem jt {idle:List (List Int)} {x:List Int}:II (idle++[x]) idle.length=vf x:=by
 unfold II
 rw [List.getD_eq_getElem?_getD,List.getElem?_append_right (Nat.le_refl _)];simp
theorem Bm {idle:List (List Int)} {x:List Int} {j:Nat} (h:j<idle.length):(idle++[x]).getD j []=idle.getD j []:=by
 rw [List.getD_eq_getElem?_getD,List.getElem?_append_left h,← List.getD_eq_getElem?_getD]
theorem yH {idle:List (List Int)} {x:List Int}:(idle++[x]).getD idle.length []=x:=by
 rw [List.getD_eq_getElem?_getD,List.getElem?_append_right (Nat.le_refl _)];simp
theorem ot {f:Nat->Int} {k:Nat}:∀ {m:Nat},k<m->(∀ l,k<l->l<m->f l=0)->dy m f=dy k f+f k
 | 0,h,_=>by omega
 | m+1,h,e=>by
  rw [dy]
  by_cases z:k=m
  ·subst z;rfl
  ·rw [ot (m:=m) (by omega) fun l h1 h2=>e l h1 (by omega),e m (by omega) (by omega)];omega
theorem uV:∀ {n:Nat} {f:Nat->Int},(∀ i,i<n->0<f i/\f i<=360)->bw n f<=360^n
 | 0,f,_=>by simp [bw]
 | n+1,f,h=>by
  rw [bw,Int.pow_succ]
  exact Int.mul_le_mul (uV fun i hi=>h i (by omega)) (h n (by omega)).2 (by have:=(h n (by omega)).1;omega) (Int.pow_nonneg (by decide))
theorem NW {n:Nat} (h:n<=6):(360:Int)^n<=360^6:=by
 have:n=0\/n=1\/n=2\/n=3\/n=4\/n=5\/n=6:=by omega
 rcases this with rfl | rfl | rfl | rfl | rfl | rfl | rfl <;> decide
theorem zC.next {r:List Row×List (List Int)} (h:zC n m sizes Ls k r) (LL:Hv n m sizes Ls) (cb:CB c) (hn:n<=6) (hk:k<m) :
  zC n m sizes Ls (k+1) (cB c sizes r.1 (bO Ls m k) n,r.2++[aI r.2 k (aD c sizes r.1 (bO Ls m k) n).2 k]):=by
 have L:Lv n m sizes (AA Ls) k (bO Ls m k):=⟨LL.at_ k hk,by simp [bO,ng],hk,fun i hi=>rfl,LL.kb k hk,fun l hl=>t5 hl⟩
 have T:=h.st.tk L cb
 have ll:=cV (c:=c) h.st.wf h.st.hs L.l1 L.l2 n (Nat.le_refl _)
 have zf:=sX (c:=c) h.st L n (Nat.le_refl _)
 have led:=oQ (c:=c) h.st L n (Nat.le_refl _)
 have l0:=T.zero h.st.gd n (Nat.le_refl _)
 have il:r.2.length=k:=h.tF.len
 have out:=uv h.tF ll.2 k (Nat.le_refl _)
 have jk:vf (aI r.2 k (aD c sizes r.1 (bO Ls m k) n).2 k) k=bw n fun e=>br (vf sizes) (DD r.1) e/(Int.gcd (br (vf sizes) (DD r.1) e) (vf (aD c sizes r.1 (bO Ls m k) e).1 e):Nat):=by
  rw [out k (Nat.le_refl _) hk];exact zf.2
 have pos:∀ e,e<n->0<br (vf sizes) (DD r.1) e/(Int.gcd (br (vf sizes) (DD r.1) e) (vf (aD c sizes r.1 (bO Ls m k) e).1 e):Nat):=fun e he=>by
  have p:=h.st.gd.pos he
  have s:=h.st.sm e he
  exact (jK p.1 (by omega)).1
 have pr:bw (k+1) (fun j=>II (r.2++[aI r.2 k (aD c sizes r.1 (bO Ls m k) n).2 k]) j j)*bw n (br (vf sizes) (DD (cB c sizes r.1 (bO Ls m k) n)))=bw n (vf sizes):=by
  rw [bw,show II (r.2++[aI r.2 k (aD c sizes r.1 (bO Ls m k) n).2 k]) k=vf (aI r.2 k (aD c sizes r.1 (bO Ls m k) n).2 k) by rw [← il];exact jt]
  rw [ke (g:=fun j=>II r.2 j j) fun j hj=>by rw [ir (by omega)],← h.pr,jk]
  rw [ke (g:=fun d=>((Int.gcd (br (vf sizes) (DD r.1) d) (vf (aD c sizes r.1 (bO Ls m k) d).1 d):Nat):Int)) fun d hd=>T.step h.st.gd hd]
  rw [qG (f:=br (vf sizes) (DD r.1)) (g:=fun d=>((Int.gcd (br (vf sizes) (DD r.1) d) (vf (aD c sizes r.1 (bO Ls m k) d).1 d):Nat):Int)) (h:=fun e=>br (vf sizes) (DD r.1) e/(Int.gcd (br (vf sizes) (DD r.1) e) (vf (aD c sizes r.1 (bO Ls m k) e).1 e):Nat)) fun d hd=>(Int.mul_ediv_cancel' (Int.gcd_dvd_left ..)).symm]
  grind
 have jpos:0<vf (aI r.2 k (aD c sizes r.1 (bO Ls m k) n).2 k) k:=by rw [jk];exact jY pos
 have St':=h.st.next L cb hn
 have jle:vf (aI r.2 k (aD c sizes r.1 (bO Ls m k) n).2 k) k<2^60:=by
  have b:bw n (vf sizes)<=360^n:=uV fun i hi=>⟨h.st.gd.sp i hi,h.st.sm i hi⟩
  have b2:(360:Int)^n<=360^6:=NW hn
  have b3:(360:Int)^6<2^60:=by decide
  rw [bw,show II (r.2++[aI r.2 k (aD c sizes r.1 (bO Ls m k) n).2 k]) k=vf (aI r.2 k (aD c sizes r.1 (bO Ls m k) n).2 k) by rw [← il];exact jt] at pr
  have p1:0<bw k (fun j=>II (r.2++[aI r.2 k (aD c sizes r.1 (bO Ls m k) n).2 k]) j j):=jY fun j hj=>by rw [ir (by omega)];exact h.tF.pos j hj
  have p2:0<bw n (br (vf sizes) (DD (cB c sizes r.1 (bO Ls m k) n))):=jY fun d hd=>(St'.gd.pos hd).1
  generalize bw k (fun j=>II (r.2++[aI r.2 k (aD c sizes r.1 (bO Ls m k) n).2 k]) j j)=a at *
  generalize bw n (br (vf sizes) (DD (cB c sizes r.1 (bO Ls m k) n)))=b' at *
  generalize vf (aI r.2 k (aD c sizes r.1 (bO Ls m k) n).2 k) k=x at *
  have e1:1*x<=a*x:=Int.mul_le_mul_of_nonneg_right (by omega) (by omega)
  have e2:a*x*1<=a*x*b':=Int.mul_le_mul_of_nonneg_left (by omega) (by omega)
  omega
 refine ⟨St',⟨by simp [il],fun j hj=>?_,fun j hj=>?_,fun j hj=>?_,fun j hj l h1 h2=>?_,fun j hj l hl=>?_,fun j hj=>?_⟩,pr,fun j hj P hz hP=>?_⟩
 all_goals
  rcases Nat.lt_or_ge j k with q | q
 ·rw [Bm (by omega)];exact h.tF.l2 j q
 ·obtain rfl:j=r.2.length:=by omega
  rw [yH];exact span_len h.tF ll.2 k (Nat.le_refl _)
 ·rw [ir (by omega)];exact h.tF.pos j q
 ·obtain rfl:j=r.2.length:=by omega
  rw [jt,il];exact jpos
 ·rw [ir (by omega)];exact h.tF.le j q
 ·obtain rfl:j=r.2.length:=by omega
  rw [jt,il];exact jle
 ·rw [ir (by omega)];exact h.tF.zero j q l h1 h2
 ·obtain rfl:j=r.2.length:=by omega
  rw [jt,out l (by omega) h2];exact zf.1 l (by omega) h2
 ·rw [ir (by omega),ir (by omega)];exact h.tF.nf j q l hl
 ·obtain rfl:j=r.2.length:=by omega
  rw [jt,ir (by omega)];exact tf h.tF ll.2 (by omega) k (Nat.le_refl _) l (by omega) (by omega)
 ·rw [ir (by omega)];exact h.tF.tF j q
 ·obtain rfl:j=r.2.length:=by omega
  rw [jt]
  refine k_ h.tF ll.2 (fun i hi=>?_) k (Nat.le_refl _)
  have:=led i hi
  rw [show vf (aD c sizes r.1 (bO Ls m k) n).1 i=0 from l0 i hi] at this
  exact this
 ·rw [ir (by omega)];exact h.ord j q P hz hP
 ·obtain rfl:j=k:=by omega
  rw [show II (r.2++[aI r.2 j (aD c sizes r.1 (bO Ls m j) n).2 j]) j=vf (aI r.2 j (aD c sizes r.1 (bO Ls m j) n).2 j) by rw [← il];exact jt,jk]
  have:=T.order h.st.gd n 0 (P j) (by omega) ?_
  ·rwa [bw,Int.mul_one] at this
  ·refine h.st.gd.rQ (by omega) (fun i hi=>?_) (G.mul (-1) (by omega) (G.sum (A:=AA Ls) (P:=P) h.st.gd j h.st.cl))
   have e:=hP i hi
   rw [ot hk fun l h1 h2=>by rw [hz l (by omega) h2,Int.zero_mul]] at e
   obtain ⟨x,hx⟩:=e
   have hx:(0:Int)-(dy j (fun l=>P l*AA Ls l i)+P j*AA Ls j i)=vf sizes i*x:=hx
   show vf sizes i∣P j*AA Ls j i - -1*dy j fun l=>P l*AA Ls l i
   exact ⟨-x,by rw [Int.mul_neg];omega⟩
theorem zC.start (hs:sizes.length=n) (hp:∀ i,i<n->0<vf sizes i/\vf sizes i<=360):zC n m sizes Ls 0 (List.replicate n (List.replicate n 0,List.replicate m 0),[]):=by
 have rw0:∀ d,d<n->row (List.replicate n (List.replicate n 0,List.replicate m 0)) d=(List.replicate n 0,List.replicate m 0):=fun d hd=>by
  rw [iO (by simpa using hd)];simp
 have D0:∀ d,d<n->∀ i,DD (List.replicate n (List.replicate n 0,List.replicate m 0)) d i=0:=fun d hd i=>by
  unfold DD;rw [rw0 d hd];exact iS n i
 have P0:∀ d,d<n->∀ i,PP (List.replicate n (List.replicate n 0,List.replicate m 0)) d i=0:=fun d hd i=>by
  unfold PP;rw [rw0 d hd];exact iS m i
 have st:∀ d,d<n->br (vf sizes) (DD (List.replicate n (List.replicate n 0,List.replicate m 0))) d=vf sizes d:=fun d hd=>by
  unfold br;rw [if_pos (D0 d hd d)]
 refine ⟨⟨⟨by simp,fun r hr=>by rw [List.eq_of_mem_replicate hr];simp,fun r hr=>by rw [List.eq_of_mem_replicate hr];simp⟩,hs,fun i hi=>(hp i hi).2,⟨fun i hi=>(hp i hi).1,fun d hd i hi=>?_,fun d hd i hi=>D0 d hd i,fun d hd=>by rw [st d hd];exact Int.dvd_refl _,fun d k hn=>?_⟩,fun d hd i hi=>?_,fun d hd l _ _=>P0 d hd l,fun d hd=>?_,fun l hl=>by omega⟩,⟨rfl,fun j hj=>by omega,fun j hj=>by omega,fun j hj=>by omega,fun j hj=>by omega,fun j hj=>by omega,fun j hj=>by omega⟩,?_,fun j hj=>by omega⟩
 ·rw [D0 d hd i];have:=(hp i hi).1;omega
 ·exact G.ext (by omega) (fun i hi=>by rw [D0 d (by omega) i,Int.mul_zero]) (G.zero (by omega))
 ·rw [D0 d hd i,lE (g:=fun _=>0) fun l hl=>by rw [P0 d hd l,Int.zero_mul],j6];exact Int.dvd_zero _
 ·rw [rw0 d hd]
  intro x hx
  rw [List.eq_of_mem_replicate hx];exact Nat.two_pow_pos _
 ·rw [bw,Int.one_mul];exact ke fun d hd=>st d hd
theorem zC.all (hs:sizes.length=n) (hp:∀ i,i<n->0<vf sizes i/\vf sizes i<=360) (LL:Hv n m sizes Ls) (cb:CB c) (hn:n<=6):∀ k,k<=m->zC n m sizes Ls k (RK c sizes Ls n m k)
 | 0,_=>zC.start hs hp
 | k+1,hk=>(zC.all hs hp LL cb hn k (by omega)).next LL cb hn (by omega)
end
end Rg
namespace wB
open PySem L2 PyProof.Rows Rg
local macro_rules | `(tactic| dsimp? [$ts,*])=>`(tactic| simp only [bL,aF,i8,ay,uB,uX,retS,bA,pR,qX,mB,aB,M.aP,M.bind_some,M.bind_none,M.yO,M.bind_assoc,af,av,au,ah,az,Cb,BS,Fo,DH,DL,E5,DR,DS,FE,Fy,FF,DO,Fu,DJ,EH,E9,jh,sv,OU,FX,EE,C7,Tw,zk,ny,GI,kM,Cn,itemsOf,lZ,CS,BN,xy,Cq,Bw,zV,Bj,AB,Cz,Ca,Be,zw,zJ,eW,eG,tN,DZ,List.length_cons,List.length_nil,List.map_cons,List.map_nil,List.cons_append,List.nil_append,List.replicate,List.getElem?_cons_zero,List.getElem?_cons_succ,List.getElem?_nil,List.set_cons_zero,List.set_cons_succ,List.set_nil,Nat.reduceAdd,Nat.reduceSub,if_true,if_false,Bool.not_true,Bool.not_false,Bool.false_eq_true,ite_true,ite_false,reduceIte,reduceCtorEq,Nat.sub_self,kN,ef,dR,Option.map_some,Option.map_none,FJ,FH,En,B9,BQ,Cw,Fs,CW,BR,BZ,qo,List.any_cons,List.any_nil,String.reduceBEq,Bool.or_false,Bool.or_true,Bool.true_or,Bool.false_or,Bool.and_true,Bool.and_false,Bool.true_and,Bool.false_and,CL,BL,Ej,D4,CI,BC,CC,B5,Ar,AF,iV,pT,List.foldl_cons,List.foldl_nil,t6,aA trivial,$(⟨ts.elemsAndSeps⟩),*])
theorem me (i:Int):dj [.int i]=M.ok (.bl true):=by rfl
theorem G8 (b:Bool):dj [.bl b]=M.ok (.bl false):=by rfl
theorem FR:dj [.c8]=M.ok (.bl false):=by rfl
theorem wW {α:Type} {inj:α->PV} {h:α->Bool} {p:PV} (xs:List α) (n:Int) (hp:p=.tup (xs.map inj)\/p=.lst (xs.map inj)) (H:∀ a∈xs,dj [inj a]=M.ok (.bl (h a))) (hz:xs.length<=sizeLine):gQ [p,.int n]=M.ok (.bl (decide ((xs.length:Int)=n)&&xs.all h)):=by
 have key:cO (da 0) none (au dj (ah (af 0) az)) (xs.map inj) [none]=M.ok (xs.map fun a=>.bl (h a)):=iW xs fun a ha=>by dsimp? [H a ha]
 have key2:vP [.lst (xs.map fun a=>.bl (h a))]=M.ok (.bl (xs.all h)):=by
  have:=t7 (xs.map h)
  rw [List.map_map] at this
  rw [show (fun a=>PV.bl (h a))=PV.bl∘h from rfl,this]
  simp [List.all_map]
 unfold gQ jJ
 rcases hp with rfl | rfl
 all_goals
  dsimp? [List.length_map]
  by_cases e:(xs.length:Int)=n
  ·simp only [e,decide_true,Bool.not_true,M.aP,Bool.false_eq_true,if_false,uB,Bool.true_and]
   dsimp? [List.length_map,aA hz,key,key2]
  ·simp only [e,decide_false,Bool.not_false,M.aP,if_true,uX,Bool.false_and]
   dsimp? []
theorem Eg (xs:List Int) (n:Int) (hz:xs.length<=sizeLine):gQ [tI xs,.int n]=M.ok (.bl (decide ((xs.length:Int)=n))):=by
 exact (wW (p:=tI xs) (h:=fun _=>true) xs n (.inl rfl) (fun a _=>me a) hz).trans (by rw [List.all_eq_true.mpr fun _ _=>rfl,Bool.and_true])
theorem E7 (xs:List Int) (n:Int) (hz:xs.length<=sizeLine):gQ [lI xs,.int n]=M.ok (.bl (decide ((xs.length:Int)=n))):=by
 exact (wW (p:=lI xs) (h:=fun _=>true) xs n (.inr rfl) (fun a _=>me a) hz).trans (by rw [List.all_eq_true.mpr fun _ _=>rfl,Bool.and_true])
theorem within_int (x a b:Int):fW [.int x,.int a,.int b]=M.ok (.bl (decide (a<=x/\x<=b))):=by
 unfold fW fV
 dsimp? [me]
 by_cases h:a<=x
 ·simp only [h,decide_true,if_true,true_and];dsimp? []
 ·simp only [h,decide_false,false_and];dsimp? []
theorem p6 (xs:List Int) (h1:1<=xs.length) (h6:xs.length<=6) (hx:∀ x∈xs,2<=x/\x<=360):gA [lI xs]=M.ok .c8:=by
 unfold gA gg
 have a1:¬ (6:Int)<xs.length:=by omega
 have a2:¬ (xs.length:Int)=0:=by omega
 dsimp? [a1,a2,decide_false,t9]
 refine eV xs.zipIdx (fun zs env=>(∃ b c,env=[some (.sh (lI xs)),b,c])/\∀ z∈zs,2<=z.1/\z.1<=360) ⟨⟨_,_,rfl⟩,fun z hz=>hx z.1 (List.fst_mem_of_mem_zipIdx hz)⟩ ?_ ?_
 ·rintro ⟨a,i⟩ r env ⟨⟨b,c,rfl⟩,hz⟩
  have ha:=hz (a,i) List.mem_cons_self
  refine ⟨_,[some (.sh (lI xs)),some (.sh (.int i)),some (.sh (.int a))],rfl,?_,⟨_,_,rfl⟩,fun z hz'=>hz z (List.mem_cons_of_mem _ hz')⟩
  dsimp? [within_int,ha,and_self,decide_true]
 ·rintro env' ⟨⟨b,c,rfl⟩,_⟩;rfl
theorem pG (n:Nat) (xs:List (List Int)) (h8:xs.length<=8) (hx:∀ x∈xs,x.length=n) (hn:n<=100):fD [.lst (xs.map lI),.int n]=M.ok .c8:=by
 unfold fD fm
 have a1:¬ (8:Int)<xs.length:=by omega
 dsimp? [a1,decide_false,List.length_map,mn]
 refine eV xs.zipIdx (fun zs env=>(∃ b c,env=[some (.sh (.lst (xs.map lI))),some (.sh (.int n)),b,c])/\∀ z∈zs,z.1.length=n) ⟨⟨_,_,rfl⟩,fun z hz=>hx z.1 (List.fst_mem_of_mem_zipIdx hz)⟩ ?_ ?_
 ·rintro ⟨a,i⟩ r env ⟨⟨b,c,rfl⟩,hz⟩
  have ha:a.length=n:=hz (a,i) List.mem_cons_self
  refine ⟨_,[some (.sh (.lst (xs.map lI))),some (.sh (.int n)),some (.sh (.int i)),some (.sh (lI a))],rfl,?_,⟨_,_,rfl⟩,fun z hz'=>hz z (List.mem_cons_of_mem _ hz')⟩
  dsimp? [E7 a n (aZ (by omega)),ha,decide_true]
 ·rintro env' ⟨⟨b,c,rfl⟩,_⟩;rfl
theorem um (n:Nat) (p:PV):(List.replicate n [p]).flatten=List.replicate n p:=by
 induction n with
 | zero=>rfl
 | succ n ih=>rw [List.replicate_succ,List.flatten_cons,ih];rfl
theorem mul_one (p:PV) (n:Nat) (h8:n<=1000):c_ (.tup [p]) (.int (n:Int))=M.ok (.tup (List.replicate n p)):=by
 have h2:[p].length*(n:Int).toNat<=sizeLine:=by
  rw [Int.toNat_natCast]
  exact aZ (by show 1*n<=1000;omega)
 have h3:(n:Int)<2^63:=Int.lt_of_le_of_lt (Int.ofNat_le.mpr h8) (by decide)
 have h4:-(2^63)<=(n:Int):=Int.le_trans (by decide) (Int.natCast_nonneg n)
 rw [c_,aA ⟨rfl,h4,h3,h2⟩,Int.toNat_natCast,um]
theorem j7 (xs:List PV) (h8:xs.length<=8):gi [.lst xs,.c8]=M.ok (tI (List.replicate xs.length 1)):=by
 unfold gi gK
 dsimp? [AN,wJ,mul_one (.int 1) xs.length (by omega)]
 rw [tI,List.map_replicate]
def xV (xs sizes:List Int):List Int:=(xs.zip sizes).map fun z=>z.1%z.2
theorem ua (p q:PV) (xs sizes:List Int) (hp:cx p=some (xs.map PV.int)) (hq:cx q=some (sizes.map PV.int)) (hs:∀ s∈sizes,0<s) (hz:xs.length<=1000):kj [p,q]=M.ok (tI (xV xs sizes)):=by
 have key:cO (cT 0 1) none (av fc (af 0) (af 1)) ((xs.zip sizes).map fun z=>.tup [.int z.1,.int z.2]) [none,none]=M.ok ((xs.zip sizes).map fun z=>.int (z.1%z.2)):=by
  refine mq (p:=fun z:Int×Int=>PV.int z.1) (q:=fun z:Int×Int=>PV.int z.2) (xs.zip sizes) fun z hz=>?_
  have:=hs z.2 (List.of_mem_zip (a:=z.1) (b:=z.2) hz).2
  dsimp? [bf this]
 unfold kj lH
 have hl:(xs.zip sizes).length<=sizeLine:=by rw [List.length_zip];exact aZ (Nat.le_trans (Nat.min_le_left _ _) hz)
 dsimp? [gW xs sizes hp hq,List.length_map,aA hl,key]
 rw [tI,xV,List.map_map];rfl
theorem UC {i:Int} {n:Nat} (h:i.natAbs<=n) (hn:n<2^200):i.natAbs<2^200:=by omega
theorem vk (a b c:PV):aX (.tup [a,b,c]) (.int 0)=M.ok a:=cv (j:=0) rfl rfl
theorem E1 (a b c:PV):aX (.tup [a,b,c]) (.int 1)=M.ok b:=cv (j:=1) rfl rfl
theorem E6 (a b c:PV):aX (.tup [a,b,c]) (.int 2)=M.ok c:=cv (j:=2) rfl rfl
theorem qH (a b:Int) (ha:a.natAbs<2^60) (hb:b.natAbs<2^60):∃ s t,fS [.int a,.int b]=M.ok (.tup [.int (Int.gcd a b),.int s,.int t])/\s*a+t*b=Int.gcd a b/\s.natAbs<=b.natAbs+1/\t.natAbs<=a.natAbs+(b.natAbs+1)*a.natAbs+b.natAbs+1:=by
 let J:ai->Prop:=fun env=>∃ r s t r' s' t' x y,env=[some (.sh (.int a)),some (.sh (.int b)),some (.sh ((PV.tup [PV.int r,PV.int s,PV.int t]))),some (.sh ((PV.tup [PV.int r',PV.int s',PV.int t']))),x,y]/\Eu.St a b r s t r' s' t'
 let m:ai->Nat:=fun env=>match env with
  | [_,_,_,some (.sh (.tup [.int r,_,_])),_,_]=>r.natAbs
  | _=>0
 have hk:(b.natAbs+1)*a.natAbs<=2^60*2^60:=Nat.mul_le_mul (by omega) (by omega)
 have hk2:(2:Nat)^60*2^60=2^120:=by decide
 have start:J [some (.sh (.int a)),some (.sh (.int b)),some (.sh ((PV.tup [PV.int a,PV.int 1,PV.int 0]))),some (.sh ((PV.tup [PV.int b,PV.int 0,PV.int 1]))),none,none]:=⟨_,_,_,_,_,_,_,_,rfl,Eu.start a b⟩
 have loop:=q_ (u:=jh (av tD (av aX (af 3) (fun _=>M.ok (.int 0))) (fun _=>M.ok (.int 0)))) (b:=(ay (bA 4 (av cD (av aX (af 2) (fun _=>M.ok (.int 0))) (av aX (af 3) (fun _=>M.ok (.int 0)))))
  (ay (bA 5 (lQ (ah (av g_ (av aX (af 2) (fun _=>M.ok (.int 0))) (av c_ (af 4) (av aX (af 3) (fun _=>M.ok (.int 0))))) (ah (av g_ (av aX (af 2) (fun _=>M.ok (.int 1))) (av c_ (af 4) (av aX (af 3) (fun _=>M.ok (.int 1))))) (ah (av g_ (av aX (af 2) (fun _=>M.ok (.int 2))) (av c_ (af 4) (av aX (af 3) (fun _=>M.ok (.int 2))))) az)))))
  (ay (bA 2 (af 3))
  (ay (bA 3 (af 5))
  aB))))) J m ?_ _ start
 ·obtain ⟨env',e1,⟨r,s,t,r',s',t',x,y,rfl,st⟩,e2⟩:=loop
  have hr':r'=0:=by
   revert e2
   dsimp? [vk]
   intro e2
   have:(!decide (r'=0))=false:=by injection e2 with e2;injection e2
   simpa using this
  subst hr'
  obtain ⟨d1,d2⟩:=Eu.done st
  have hg:(r.natAbs:Int)=Int.gcd a b:=by
   have h1:r.natAbs∣Int.gcd a b:=Int.dvd_gcd (Int.natAbs_dvd.mpr d1) (Int.natAbs_dvd.mpr d2)
   have h2:((Int.gcd a b:Nat):Int)∣r:=by
    rw [st.c0]
    exact Int.dvd_add (Int.dvd_trans (Int.gcd_dvd_left ..) (Int.dvd_mul_left _ _)) (Int.dvd_trans (Int.gcd_dvd_right ..) (Int.dvd_mul_left _ _))
   have h3:Int.gcd a b∣r.natAbs:=Int.ofNat_dvd_left.mp h2
   rw [Nat.dvd_antisymm h1 h3]
  unfold fS jq
  dsimp? []
  rw [e1]
  dsimp? [vk,E1,E6]
  by_cases hneg:r<0
  ·refine ⟨-s,-t,?_,?_,by rw [Int.natAbs_neg];exact st.b0,by rw [Int.natAbs_neg];exact st.d0⟩
   ·simp only [hneg,decide_true,if_true];dsimp? []
    rw [show -r=(Int.gcd a b:Int) by omega]
   ·have:=st.c0
    rw [Int.neg_mul,Int.neg_mul];omega
  ·refine ⟨s,t,?_,?_,st.b0,st.d0⟩
   ·simp only [hneg,decide_false,Bool.false_eq_true,if_false];dsimp? []
    rw [show r=(Int.gcd a b:Int) by omega]
   ·have:=st.c0;omega
 ·rintro env ⟨r,s,t,r',s',t',x,y,rfl,st⟩
  by_cases h0:r'=0
  ·refine .inl ?_
   dsimp? [vk]
   simp [h0]
  ·refine .inr ⟨?_,?_⟩
   ·dsimp? [vk]
    simp [h0]
   ·obtain ⟨st2,lt⟩:=Eu.turn st h0
    have b1:=st.m1;have b0:=st.m0;have c1:=st.b1;have c2:=st.d1;have c3:=st2.m1
    have q1:(r.fdiv r').natAbs<=r.natAbs+1:=by
     obtain ⟨f1,f2,f3⟩:=Eu.rh r r' h0
     generalize r.fdiv r'=q at *
     have e:q*r'=r-(r-q*r'):=by omega
     have e2:(q*r').natAbs<=r.natAbs+(r-q*r').natAbs:=by omega
     rw [Int.natAbs_mul] at e2
     have:q.natAbs*1<=q.natAbs*r'.natAbs:=Nat.mul_le_mul_left _ (by omega)
     rcases Nat.lt_or_ge (r.natAbs+1) q.natAbs with h | h
     ·have h5:(r.natAbs+2)*r'.natAbs<=q.natAbs*r'.natAbs:=Nat.mul_le_mul_right _ (by omega)
      have h6:r.natAbs*1<=r.natAbs*r'.natAbs:=Nat.mul_le_mul_left _ (by omega)
      rw [Nat.add_mul] at h5
      omega
     ·exact h
    have q2:(r.fdiv r').natAbs<2^200:=by omega
    refine ⟨[some (.sh (.int a)),some (.sh (.int b)),some (.sh ((PV.tup [PV.int r',PV.int s',PV.int t']))),some (.sh ((PV.tup [PV.int (r-r.fdiv r'*r'),PV.int (s-r.fdiv r'*s'),PV.int (t-r.fdiv r'*t')]))),some (.sh (.int (r.fdiv r'))),some (.sh ((PV.tup [PV.int (r-r.fdiv r'*r'),PV.int (s-r.fdiv r'*s'),PV.int (t-r.fdiv r'*t')])))],?_,⟨_,_,_,_,_,_,_,_,rfl,st2⟩,lt⟩
    dsimp? [vk,E1,E6,mJ h0 (Nat.lt_of_lt_of_le (show r'.natAbs<2^200 by omega) (Nat.pow_le_pow_right (by decide) (by decide))),bI (k:=200) (l:=200) q2 (show r'.natAbs<2^200 by omega),bI (k:=200) (l:=200) q2 (show s'.natAbs<2^200 by omega),bI (k:=200) (l:=200) q2 (show t'.natAbs<2^200 by omega)]
def R (sizes:List Int):Int:=(Lc.A6 (sizes.map Int.toNat):Nat)
structure Sz (sizes:List Int):Prop where
 h1:1<=sizes.length
 h6:sizes.length<=6
 hx:∀ x∈sizes,2<=x/\x<=360
theorem QD {sizes:List Int} (h:Sz sizes):0<R sizes:=by
 refine Int.ofNat_lt.mpr (Lc.lcm_pos fun n hn=>?_)
 obtain ⟨x,hx,rfl⟩:=List.mem_map.mp hn
 have:=h.hx x hx;omega
theorem Rz {sizes:List Int} (h:Sz sizes):R sizes<2^60:=by
 have h1:=Lc.pf 9 (sizes.map Int.toNat) 1 0 (by decide) (by decide) fun n hn=>by
  obtain ⟨x,hx,rfl⟩:=List.mem_map.mp hn
  have:=h.hx x hx;omega
 have h2:(2:Nat)^(0+9*(sizes.map Int.toNat).length)<=2^54:=Nat.pow_le_pow_right (by decide) (by rw [List.length_map];have:=h.h6;omega)
 have h3:Lc.A6 (sizes.map Int.toNat)<=2^54:=Nat.le_trans h1 h2
 unfold R;omega
theorem QK {sizes:List Int} (h:Sz sizes) {x:Int} (hx:x∈sizes):x∣R sizes:=by
 have h1:=Lc.lcm_dvd (ns:=sizes.map Int.toNat) (List.mem_map.mpr ⟨x,hx,rfl⟩)
 have h2:=Int.ofNat_dvd.mpr h1
 rw [Int.toNat_of_nonneg (by have:=h.hx x hx;omega)] at h2
 exact h2
structure Acc (sizes r:List Int) (acc:Nat):Prop where
 pos:0<acc
 le:acc<=2^(9*(6-r.length))
 len:r.length<=6
 val:(r.map Int.toNat).foldl Nat.lcm acc=Lc.A6 (sizes.map Int.toNat)
 kb:∀ x∈r,2<=x/\x<=360
theorem Acc.start {sizes:List Int} (h:Sz sizes):Acc sizes sizes 1:=⟨by decide,Nat.one_le_two_pow,h.h6,rfl,h.hx⟩
theorem Acc.lt {sizes r:List Int} {acc:Nat} (h:Acc sizes r acc):acc<2^60:=by
 have h2:(2:Nat)^(9*(6-r.length))<=2^54:=Nat.pow_le_pow_right (by decide) (by omega)
 have:=h.le;omega
theorem Acc.turn {sizes r:List Int} {x:Int} {acc:Nat} (h:Acc sizes (x::r) acc):Acc sizes r (Nat.lcm acc x.toNat)/\(acc:Int)/(Int.gcd acc x:Nat)*x=(Nat.lcm acc x.toNat:Nat)/\(acc:Int)/(Int.gcd acc x:Nat)<=acc/\0<Int.gcd acc x:=by
 have hx:=h.kb x List.mem_cons_self
 have hp:=h.pos
 obtain ⟨n,rfl⟩:=Int.eq_ofNat_of_zero_le (show 0<=x by omega)
 have hg:Int.gcd (acc:Int) (n:Int)=Nat.gcd acc n:=rfl
 refine ⟨⟨Nat.lcm_pos hp (by omega),?_,?_,h.val,fun y hy=>h.kb y (List.mem_cons_of_mem _ hy)⟩,?_,?_,?_⟩
 ·have h1:Nat.lcm acc n<=acc*n:=Nat.le_of_dvd (Nat.mul_pos hp (by omega)) (Nat.lcm_dvd (Nat.dvd_mul_right ..) (Nat.dvd_mul_left ..))
  have h2:acc*n<=2^(9*(6-(r.length+1)))*2^9:=Nat.mul_le_mul h.le (by omega)
  have hl:r.length+1<=6:=h.len
  rw [← Nat.pow_add,show 9*(6-(r.length+1))+9=9*(6-r.length) by omega] at h2
  exact Nat.le_trans h1 h2
 ·have hl:r.length+1<=6:=h.len
  omega
 ·rw [hg,Int.toNat_natCast,← Lc.y_];norm_cast
 ·rw [hg]
  exact Int.ofNat_le.mpr (Nat.div_le_self acc (Nat.gcd acc n))
 ·rw [hg];exact Nat.gcd_pos_of_pos_left _ hp
theorem ib (sizes:List Int) (h:Sz sizes):fz [lI sizes]=M.ok (.int (R sizes)):=by
 unfold fz fE
 dsimp? []
 refine eV sizes (fun r env=>∃ acc x,env=[some (.sh (lI sizes)),some (.sh (.int (acc:Nat))),x]/\Acc sizes r acc) ⟨1,_,rfl,.start h⟩ ?_ ?_
 ·rintro a r env ⟨acc,x,rfl,A⟩
  obtain ⟨A2,e1,e2,e3⟩:=A.turn
  have l1:=A.lt
  have ha:=A.kb a List.mem_cons_self
  obtain ⟨s,t,ec,_,_,_⟩:=qH (acc:Int) a (by omega) (by omega)
  have g1:Int.gcd acc a<=acc:=Nat.le_of_dvd A.pos (Int.ofNat_dvd.mp (Int.gcd_dvd_left ..))
  have d0:0<=(acc:Int)/(Int.gcd acc a:Nat):=Int.ediv_nonneg (by omega) (by omega)
  refine ⟨_,[some (.sh (lI sizes)),some (.sh (.int (Nat.lcm acc a.toNat:Nat))),some (.sh (.int a))],rfl,?_,_,_,rfl,A2⟩
  dsimp? [ec,vk,a0 (i:=(acc:Int)) (show (0:Int)<(Int.gcd acc a:Nat) by omega) (show ((Int.gcd acc a:Nat):Int)<2^64 by omega),bI (k:=64) (l:=64) (show ((acc:Int)/(Int.gcd acc a:Nat)).natAbs<2^64 by omega) (show a.natAbs<2^64 by omega),e1]
 ·rintro env' ⟨acc,x,rfl,A⟩
  dsimp? []
  have:=A.val
  rw [R,← this];rfl
def tR (sizes:List Int) (levers:List (List Int)):List (Str×PV):=[("dial_sizes", tI sizes),("lever_settings", .tup (levers.map tI)),("lever_prices", tI (List.replicate levers.length 1)),("least_round", .int (R sizes))]
def jQ (sizes:List Int) (levers:List (List Int)):PV:=.obj aM (tR sizes levers)
structure EV (sizes xs:List Int):Prop where
 len:xs.length=sizes.length
 kb:∀ z∈xs.zip sizes,0<=z.1/\z.1<z.2
theorem G9 {sizes xs:List Int} (h:EV sizes xs):xV xs sizes=xs:=by
 obtain ⟨hl,hr⟩:=h
 unfold xV
 induction xs generalizing sizes with
 | nil=>rfl
 | cons x r ih =>
  cases sizes with
  | nil=>cases hl
  | cons s t =>
   have h1:=hr (x,s) (by simp)
   rw [List.zip_cons_cons,List.map_cons,ih (Nat.succ.inj hl) fun z hz=>hr z (by rw [List.zip_cons_cons];exact List.mem_cons_of_mem _ hz)]
   rw [show ((x,s):Int×Int).1%((x,s):Int×Int).2=x from Int.emod_eq_of_lt h1.1 h1.2]
theorem uN (f:Str) (p:PV):∀ fs:List (Str×PV),(se f p fs).length<=fs.length+1
 | []=>by simp [se]
 | (g,q)::r=>by
  have:=uN f p r
  unfold se
  split
  ·simp
  ·simp;omega
theorem jb {f:Str} {p:PV} {fs:List (Str×PV)} {n:Nat} (h:fs.length<=n):(se f p fs).length<=n+1:=Nat.le_trans (uN f p fs) (by omega)
theorem jc (a C:Addr) (f:Str) (p:PV) (fs:List (Str×PV)) (r:ai) (h:fs.length<1000):zg 0 C f p (some (.bd a C fs)::r)=M.ok (.nx (some (.bd a C (se f p fs))::r)):=by
 show cw _ _=_
 rw [aA ⟨rfl,h⟩];rfl
theorem B6 (sizes:List Int) (levers:List (List Int)) (h:Sz sizes) (h8:levers.length<=8) (hl:∀ l∈levers,l.length=sizes.length):mU aM i4 [.c8] [lI sizes,.lst (levers.map lI)]=M.ok (jQ sizes (levers.map fun l=>xV l sizes)):=by
 have key:∀ a,i4 a ([lI sizes,.lst (levers.map lI)]++[.c8])=M.ok (tR sizes (levers.map fun l=>xV l sizes)):=by
  intro a
  have e1:cO (da 0) none (au kj (ah (af 0) (ah (af 1) az))) (levers.map lI) [none,some (.sh (lI sizes))]=M.ok (levers.map fun l=>tI (xV l sizes)):=by
   refine iW levers fun l hm=>?_
   have hs:=hl l hm
   have:=ua (lI l) (lI sizes) l sizes rfl rfl (fun s hs=>by have:=h.hx s hs;omega) (by rw [hs];have:=h.h6;omega)
   dsimp? [this]
  unfold i4 lT
  simp only [sJ]
  rw [aA (show ([lI sizes,PV.lst (levers.map lI)]++[PV.c8]).length+1=4 from rfl)]
  simp only [xQ,xX]
  dsimp? [p6 sizes h.h1 h.h6 h.hx,pG sizes.length levers h8 hl (by have:=h.h6;omega),kJ,List.length_map,aA (aZ (show levers.length<=1000 by omega)),e1,j7 _ (show (levers.map lI).length<=8 by rw [List.length_map];exact h8),ib sizes h]
  rw [jc _ _ _ _ _ _ (by simp)]
  dsimp? [kJ,List.length_map,aA (aZ (show levers.length<=1000 by omega)),e1,j7 _ (show (levers.map lI).length<=8 by rw [List.length_map];exact h8),ib sizes h]
  rw [jc _ _ _ _ _ _ (Nat.lt_of_le_of_lt (jb (Nat.zero_le 0)) (by decide))]
  dsimp? [kJ,List.length_map,aA (aZ (show levers.length<=1000 by omega)),e1,j7 _ (show (levers.map lI).length<=8 by rw [List.length_map];exact h8),ib sizes h]
  rw [jc _ _ _ _ _ _ (Nat.lt_of_le_of_lt (jb (jb (Nat.zero_le 0))) (by decide))]
  dsimp? [kJ,List.length_map,aA (aZ (show levers.length<=1000 by omega)),e1,j7 _ (show (levers.map lI).length<=8 by rw [List.length_map];exact h8),ib sizes h]
  rw [jc _ _ _ _ _ _ (Nat.lt_of_le_of_lt (jb (jb (jb (Nat.zero_le 0)))) (by decide))]
  dsimp? []
  show cw _ _=_
  rw [aA ⟨rfl,rfl⟩]
  rw [tR,List.map_map,List.length_map]
  rfl
 unfold mU
 rw [yW key];rfl
theorem y4 (sizes:List Int) (levers:List (List Int)):(tR sizes levers).lookup (Str.ofString "dial_sizes")=some (tI sizes):=rfl
theorem yq (sizes:List Int) (levers:List (List Int)):(tR sizes levers).lookup (Str.ofString "lever_settings")=some (.tup (levers.map tI)):=rfl
theorem GK (sizes:List Int) (levers:List (List Int)):(tR sizes levers).lookup (Str.ofString "least_round")=some (.int (R sizes)):=rfl
theorem Gh (sizes:List Int) (levers:List (List Int)):(tR sizes levers).lookup (Str.ofString "sizes")=none:=rfl
theorem He (sizes:List Int) (levers:List (List Int)):(tR sizes levers).lookup (Str.ofString "levers")=none:=rfl
theorem A4 (sizes:List Int) (levers:List (List Int)):bU [jQ sizes levers]=M.ok (tI sizes):=by
 unfold bU cC
 dsimp? [hG,jQ,beq_self_eq_true,y4]
theorem xN (sizes:List Int) (levers:List (List Int)):bV [jQ sizes levers]=M.ok (.tup (levers.map tI)):=by
 unfold bV cJ
 dsimp? [hG,jQ,beq_self_eq_true,yq]
theorem nW {g:ai->M PV} {env:ai} {sizes:List Int} {levers:List (List Int)} (h:g env=M.ok (jQ sizes levers)):dB aM "sizes" bU g az env=M.ok (tI sizes):=by
 have:=A4 sizes levers
 rw [dB,h,M.aP]
 show cw _ (M.bind (az env) _)=_
 rw [aA ⟨rfl,Gh sizes levers⟩]
 exact this
theorem pA {g:ai->M PV} {env:ai} {sizes:List Int} {levers:List (List Int)} (h:g env=M.ok (jQ sizes levers)):dB aM "levers" bV g az env=M.ok (.tup (levers.map tI)):=by
 have:=xN sizes levers
 rw [dB,h,M.aP]
 show cw _ (M.bind (az env) _)=_
 rw [aA ⟨rfl,He sizes levers⟩]
 exact this
def C4 (sizes xs:List Int):Bool:=decide ((xs.length:Int)=sizes.length)&&(xs.zip sizes).all fun z=>decide (0<=z.1/\z.1<z.2)
theorem BF {sizes xs:List Int}:C4 sizes xs=true ↔ EV sizes xs:=by
 unfold C4
 constructor
 ·intro h
  simp only [Bool.and_eq_true,decide_eq_true_eq,List.all_eq_true] at h
  exact ⟨by omega,h.2⟩
 ·intro h
  simp only [Bool.and_eq_true,decide_eq_true_eq,List.all_eq_true]
  exact ⟨by rw [h.len],h.kb⟩
theorem AV (x s:Int):∀ env:ai,env=[some (.sh (.int x)),some (.sh (.int s))]->kM Ff Fe (fun _=>M.ok (.int 0)) (af 0) (af 1) env=M.ok (.bl (decide (0<=x/\x<s))):=by
 rintro env rfl
 dsimp? []
 by_cases h:0<=x
 ·simp only [h,decide_true,if_true,true_and]
  try dsimp? []
 ·simp only [h,decide_false,false_and]
  try dsimp? []
theorem FL {α:Type} (h:α->Bool) (xs:List α):vP [.lst (xs.map fun a=>.bl (h a))]=M.ok (.bl (xs.all h)):=by
 have:=t7 (xs.map h)
 rw [List.map_map] at this
 rw [show (fun a=>PV.bl (h a))=PV.bl∘h from rfl,this]
 simp [List.all_map]
section
variable {sizes:List Int} {levers:List (List Int)}
theorem wm (h:Sz sizes) (xs:List Int) (hz:xs.length<=1000):gE [jQ sizes levers,tI xs]=M.ok (.bl (C4 sizes xs)):=by
 have key:cO (cT 0 1) none (kM Ff Fe (fun _=>M.ok (.int 0)) (af 0) (af 1)) ((xs.zip sizes).map fun z=>.tup [.int z.1,.int z.2]) [none,none]=M.ok ((xs.zip sizes).map fun z=>.bl (decide (0<=z.1/\z.1<z.2))) :=
  mq (p:=fun z:Int×Int=>PV.int z.1) (q:=fun z:Int×Int=>PV.int z.2) (xs.zip sizes) fun z hz=>AV z.1 z.2 _ rfl
 have hl:(xs.zip sizes).length<=sizeLine:=by rw [List.length_zip];exact aZ (Nat.le_trans (Nat.min_le_left _ _) hz)
 unfold gE gM
 dsimp? [nW (sizes:=sizes) (levers:=levers) (g:=af 0) (env:=[some (.sh (jQ sizes levers)),some (.sh (tI xs)),none]) rfl,Eg xs sizes.length (aZ hz)]
 unfold C4
 by_cases e:(xs.length:Int)=sizes.length
 ·simp only [e,decide_true,Bool.not_true,Bool.false_eq_true,if_false,Bool.true_and]
  dsimp? [gW (p:=tI xs) (q:=tI sizes) xs sizes rfl rfl,List.length_map,aA hl,key,FL]
 ·simp only [e,decide_false,Bool.not_false,if_true,Bool.false_and]
  dsimp? []
theorem Cr (h:Sz sizes) {xs:List Int} (hs:EV sizes xs):er [jQ sizes levers,tI xs]=M.ok .c8:=by
 unfold er eo
 dsimp? [wm (levers:=levers) h xs (by rw [hs.len];have:=h.h6;omega),BF.mpr hs]
end
theorem nX {xs ys:List Int} {z:Int×Int} (h:z∈xs.zip ys):z.1∈xs/\z.2∈ys:=List.of_mem_zip (a:=z.1) (b:=z.2) h
theorem Hw {sizes xs:List Int} (h:Sz sizes) (hs:EV sizes xs) {x:Int} (hx:x∈xs):0<=x/\x<360:=by
 obtain ⟨i,hi,rfl⟩:=List.mem_iff_getElem.mp hx
 have hj:i<sizes.length:=by rw [← hs.len];exact hi
 have:=hs.kb (xs[i],sizes[i]) (by
  rw [List.mem_iff_getElem]
  exact ⟨i,by rw [List.length_zip];omega,by rw [List.getElem_zip]⟩)
 have h2:=h.hx sizes[i] (List.getElem_mem hj)
 exact ⟨this.1,by have:=this.2;simp only at this;omega⟩
theorem Az (xs sizes:List Int):xV xs sizes=yl xs sizes:=rfl
noncomputable def cf (a b:Int):Int×Int:=open Classical in if h:∃ p:Int×Int,fS [.int a,.int b]=M.ok (.tup [.int (Int.gcd a b),.int p.1,.int p.2])/\p.1*a+p.2*b=Int.gcd a b/\p.1.natAbs<=b.natAbs+1/\p.2.natAbs<=a.natAbs+(b.natAbs+1)*a.natAbs+b.natAbs+1 then h.choose else (0,0)
theorem Dx (a b:Int) (ha:a.natAbs<2^60) (hb:b.natAbs<2^60):fS [.int a,.int b]=M.ok (.tup [.int (Int.gcd a b),.int (cf a b).1,.int (cf a b).2])/\(cf a b).1*a+(cf a b).2*b=Int.gcd a b/\(cf a b).1.natAbs<=b.natAbs+1/\(cf a b).2.natAbs<=a.natAbs+(b.natAbs+1)*a.natAbs+b.natAbs+1:=by
 have h:∃ p:Int×Int,fS [.int a,.int b]=M.ok (.tup [.int (Int.gcd a b),.int p.1,.int p.2])/\p.1*a+p.2*b=Int.gcd a b/\p.1.natAbs<=b.natAbs+1/\p.2.natAbs<=a.natAbs+(b.natAbs+1)*a.natAbs+b.natAbs+1:=by
  obtain ⟨s,t,h⟩:=qH a b ha hb
  exact ⟨(s,t),h⟩
 unfold cf
 rw [dif_pos h]
 exact h.choose_spec
theorem y0:CB cf:=fun a b h1 h2 h3 h4=>by
 obtain ⟨_,e,b1,b2⟩:=Dx a b (by omega) (by omega)
 refine ⟨e,by omega,?_⟩
 have:(b.natAbs+1)*a.natAbs<=361*360:=Nat.mul_le_mul (by omega) (by omega)
 omega
def mk (r:Row):PV:=.tup [tI r.1,tI r.2]
theorem tP (r:Row):aX (mk r) (.int 0)=M.ok (tI r.1):=cv (p:=mk r) (j:=0) rfl rfl
theorem A1 (r:Row):aX (mk r) (.int 1)=M.ok (tI r.2):=cv (p:=mk r) (j:=1) rfl rfl
theorem kS {xs:List Int} {i:Nat} (h:i<xs.length):aX (tI xs) (.int (i:Int))=M.ok (.int (vf xs i)) :=
 cv (p:=tI xs) rfl (by rw [List.getElem?_map,List.getElem?_eq_getElem h,bN h];rfl)
theorem tY {rows:List Row} {d:Nat} (h:d<rows.length):aX (.lst (rows.map mk)) (.int (d:Int))=M.ok (mk (row rows d)) :=
 cv (p:=.lst (rows.map mk)) rfl (by rw [List.getElem?_map,List.getElem?_eq_getElem h,iO h];rfl)
theorem n_ {A B:Nat} (p q:PV) (xs ys:List Int) (a b:Int) (hp:cx p=some (xs.map PV.int)) (hq:cx q=some (ys.map PV.int)) (hx:Bd B xs) (hy:Bd B ys) (ha:a.natAbs<2^A) (hb:b.natAbs<2^A) (hB:B<=9000) (hA:A<=9000) (hz:xs.length<=1000):j_ [p,.int a,q,.int b]=M.ok (tI (mF xs a ys b)):=by
 have key:cO (cT 0 1) none (av iw (av c_ (af 2) (af 0)) (av c_ (af 3) (af 1))) ((xs.zip ys).map fun z=>.tup [.int z.1,.int z.2]) [none,none,some (.sh (.int a)),some (.sh (.int b))]=M.ok ((xs.zip ys).map fun z=>.int (a*z.1+b*z.2)):=by
  refine mq (p:=fun z:Int×Int=>PV.int z.1) (q:=fun z:Int×Int=>PV.int z.2) (xs.zip ys) fun z hz=>?_
  have m:=List.of_mem_zip (a:=z.1) (b:=z.2) hz
  dsimp? [bI (k:=A) (l:=B) ha (hx _ m.1) hA hB,bI (k:=A) (l:=B) hb (hy _ m.2) hA hB]
 have hl:(xs.zip ys).length<=sizeLine:=by rw [List.length_zip];exact aZ (Nat.le_trans (Nat.min_le_left _ _) hz)
 unfold j_ lx
 dsimp? [gW xs ys hp hq,List.length_map,aA hl,key]
 rw [tI,mF,List.map_map];rfl
theorem vO {A B:Nat} {sizes:List Int} {r q:Row} {a b:Int} (hs:∀ s∈sizes,0<s) (h1:Bd B r.1) (h2:Bd B r.2) (h3:Bd B q.1) (h4:Bd B q.2) (ha:a.natAbs<2^A) (hb:b.natAbs<2^A) (hB:B<=9000) (hA:A<=9000) (z1:r.1.length<=100) (z2:r.2.length<=100):dw [tI sizes,mk r,.int a,mk q,.int b]=M.ok (mk (pJ sizes r a q b)):=by
 unfold dw ee
 dsimp? [tP,A1,n_ (tI r.1) (tI q.1) r.1 q.1 a b rfl rfl h1 h3 ha hb hB hA (by omega),n_ (tI r.2) (tI q.2) r.2 q.2 a b rfl rfl h2 h4 ha hb hB hA (by omega),ua (tI (mF r.1 a q.1 b)) (tI sizes) (mF r.1 a q.1 b) sizes rfl rfl hs (by rw [bR];omega)]
 rfl
theorem wZ {sizes:List Int} {rows:List Row} {n m d:Nat} (w:Wf n m rows) (hs:sizes.length=n) (hd:d<n):fQ [tI sizes,.lst (rows.map mk),.int (d:Int)]=M.ok (.int (br (vf sizes) (DD rows) d)):=by
 unfold fQ fZ
 have e1:=w.rV hd
 dsimp? [tY (rows:=rows) (d:=d) (by rw [w.len];exact hd),tP,kS (xs:=(row rows d).1) (i:=d) (by omega)]
 unfold br
 by_cases z:DD rows d d=0
 ·have z':vf (row rows d).1 d=0:=z
  simp only [z',z,decide_true,if_true]
  dsimp? [kS (xs:=sizes) (i:=d) (by omega)]
 ·have z':¬ vf (row rows d).1 d=0:=z
  simp only [z',z,decide_false,Bool.false_eq_true,if_false]
  dsimp? []
  rfl
theorem drop_cons {α:Type} {xs:List α} {d:Nat} {a:α} {r:List α} (h:xs.drop d=a::r):d<xs.length/\xs[d]?=some a/\xs.drop (d+1)=r:=by
 have hd:d<xs.length:=by
  rcases Nat.lt_or_ge d xs.length with q | q
  ·exact q
  ·rw [List.drop_eq_nil_of_le q] at h;cases h
 rw [List.drop_eq_getElem_cons hd] at h
 injection h with h1 h2
 exact ⟨hd,by rw [List.getElem?_eq_getElem hd,h1],h2⟩
theorem dQ (env:ai):ju az env=M.ok []:=by
 simp only [ju,az,M.aP]
 exact if_pos (Nat.zero_le _)
theorem rD {i:Nat} {f:ai->M PV} {env:ai} {xs:List PV} {p:PV} (h:env[i]?=some (some (.ow xs))) (hf:f env=M.ok p) (hz:xs.length<1000):iR i f env=M.ok (.nx (env.set i (some (.ow (xs++[p]))))):=by
 unfold iR
 rw [h]
 show M.bind (f env) _=_
 rw [hf,M.aP,if_pos (mi (Nat.le_of_lt hz))]
theorem sL {n:Nat} {sizes xs:List Int} (hl:xs.length=n) (h:∀ i,i<n->0<=vf xs i/\vf xs i<vf sizes i) (hs:∀ i,i<n->vf sizes i<=360):Bd 9 xs:=fun x hx=>by
 obtain ⟨i,hi,rfl⟩:=List.mem_iff_getElem.mp hx
 have h1:=h i (by omega);have h2:=hs i (by omega)
 rw [bN hi] at h1
 omega
theorem zt {a b:Int} (h1:-1000<=a) (h2:a<=1000) (h3:-1000<=b) (h4:b<=1000):yb [.int a,.int b]=M.ok ((List.range (b-a).toNat).map fun (i:Nat)=>.int (a+(i:Int))):=by
 have h:-(2^62)<=a/\a<2^62/\-(2^62)<=b/\b<2^62:=by omega
 show cw (-(2^62)<=a/\a<2^62/\-(2^62)<=b/\b<2^62) _=_
 rw [aA h]
section
variable {n m k:Nat} {sizes:List Int} {A:Nat->dC} {rows:List Row} {left:Row}
theorem St.Ac (h:St n m sizes A k rows) {d:Nat} (hd:d<n):Bd 9 (row rows d).1:=sL (h.wf.rV hd) (fun i hi=>h.gd.kb d hd i hi) h.sm
theorem AY (h:St n m sizes A k rows):∀ s∈sizes,0<s:=fun s hs=>by
 obtain ⟨i,hi,rfl⟩:=List.mem_iff_getElem.mp hs
 have:=h.gd.sp i (by rw [← h.hs];exact hi)
 rwa [bN hi] at this
theorem zG (h:St n m sizes A k rows) (L:Lv n m sizes A k left) (hn:n<=6) (hm:m<=8):iY [tI sizes,.lst (rows.map mk),mk left]=M.ok (.tup [.lst ((cB cf sizes rows left n).map mk),tI (aD cf sizes rows left n).2]):=by
 have rl:=h.wf.len
 have hkm:=L.km
 unfold iY iX
 dsimp? [dQ,mn]
 refine eV rows.zipIdx (fun zs env=>∃ d x4 x5 x6 x7 x8,d<=n/\rows.zipIdx.drop d=zs/\env=[some (.sh (tI sizes)),some (.sh (.lst (rows.map mk))),some (.sh (mk (aD cf sizes rows left d))),some (.ow ((cB cf sizes rows left d).map mk)),x4,x5,x6,x7,x8]) ⟨0,none,none,none,none,none,Nat.zero_le _,rfl,rfl⟩ ?_ ?_
 ·rintro ⟨a,i⟩ zs env ⟨d,x4,x5,x6,x7,x8,hd,hdr,rfl⟩
  obtain ⟨h1,h2,h3⟩:=drop_cons hdr
  rw [List.length_zipIdx,rl] at h1
  have h4:a=row rows d/\i=d:=by
   rw [List.getElem?_zipIdx] at h2
   rw [iO (by rw [rl];exact h1)]
   rw [List.getElem?_eq_getElem (by rw [rl];exact h1)] at h2
   simp at h2
   exact ⟨h2.1.symm,h2.2.symm⟩
  obtain ⟨rfl,rfl⟩:=h4
  have ll:=cV (c:=cf) h.wf h.hs L.l1 L.l2 i (by omega)
  have lk:=j8 (c:=cf) h L i (by omega)
  have lb:=nQ (c:=cf) h L hn i (by omega)
  have st:=h.gd.pos h1
  have sm:=h.sm i h1
  have nt:=lk i h1
  have e1:=h.wf.rV h1;have e2:=h.wf.at2 h1
  generalize hst:br (vf sizes) (DD rows) i=st' at *
  generalize hnt:vf (aD cf sizes rows left i).1 i=nt' at *
  obtain ⟨c1,c2,c3,c4⟩:=Dx st' nt' (by omega) (by omega)
  have cb:=y0 st' nt' st.1 (by omega) nt.1 (by omega)
  have gp:=gG (b:=nt') st.1
  have gl:(Int.gcd st' nt':Int)<=st':=Int.le_of_dvd st.1 (Int.gcd_dvd_left ..)
  have a1:=jK (b:=nt') st.1 (by omega)
  have a2:=lh (b:=nt') st.1 nt.1 (by omega)
  have B1:Bd 1300 (row rows i).1:=(St.Ac h h1).mono (by omega)
  have B2:Bd 1300 (row rows i).2:=(h.bd i h1).mono (by omega)
  have B3:Bd 1300 (aD cf sizes rows left i).1:=(sL ll.1 lk h.sm).mono (by omega)
  have B4:Bd 1300 (aD cf sizes rows left i).2:=lb.mono (by omega)
  have w1:=vO (A:=20) (sizes:=sizes) (AY h) B1 B2 B3 B4 cb.2.1 cb.2.2 (by decide) (by decide) (by omega) (by omega)
  have w2:=vO (A:=20) (sizes:=sizes) (a:=st'/(Int.gcd st' nt':Nat)) (b:=-(nt'/(Int.gcd st' nt':Nat))) (AY h) B3 B4 B1 B2 (by omega) (by omega) (by decide) (by decide) (by omega) (by omega)
  have ew:dN cf sizes rows left i=pJ sizes (row rows i) (cf st' nt').1 (aD cf sizes rows left i) (cf st' nt').2:=by
   simp only [dN,hst,hnt]
  have el:aD cf sizes rows left (i+1)=pJ sizes (aD cf sizes rows left i) (st'/(Int.gcd st' nt':Nat)) (row rows i) (-(nt'/(Int.gcd st' nt':Nat))):=by
   simp only [aD,hst,hnt]
  refine ⟨_,[some (.sh (tI sizes)),some (.sh (.lst (rows.map mk))),some (.sh (mk (aD cf sizes rows left (i+1)))),some (.ow ((cB cf sizes rows left (i+1)).map mk)),some (.sh (.int i)),some (.sh (mk (row rows i))),some (.sh (.int st')),some (.sh (.int nt')),some (.sh (.tup [.int (Int.gcd st' nt'),.int (cf st' nt').1,.int (cf st' nt').2]))],rfl,?_,i+1,_,_,_,_,_,by omega,h3,rfl⟩
  have sok:=wZ h.wf h.hs h1
  rw [hst] at sok
  have nok:=kS (xs:=(aD cf sizes rows left i).1) (i:=i) (by omega)
  rw [hnt] at nok
  dsimp? [sok,tP,nok,c1]
  rw [rD (i:=3) rfl (p:=mk (dN cf sizes rows left i)) (by dsimp? [E1,E6,w1,ew]) (by simp [cB];omega)]
  dsimp? [vk,a0 (i:=st') gp (by omega),a0 (i:=nt') gp (by omega),w2,el]
  rw [cB,cB,List.range_succ,List.map_append,List.map_append]
  rfl
 ·rintro env ⟨d,x4,x5,x6,x7,x8,hd,hdr,rfl⟩
  have hdn:d=n:=by
   have:=congrArg List.length hdr
   rw [List.length_drop,List.length_zipIdx,rl] at this
   simp at this
   omega
  subst hdn
  dsimp? [A1]
def bc (sizes:List Int) (rows:List Row) (r:Row) (f:Nat):Nat->Row
 | 0=>r
 | c+1 =>
  let l:=bc sizes rows r f c
  pJ sizes l 1 (row rows (f+c)) (-(vf l.1 (f+c)/br (vf sizes) (DD rows) (f+c)))
theorem kf (h:St n m sizes A k rows) {r:Row} {f:Nat} (h1:r.1.length=n) (h2:r.2.length=m):∀ c,f+c<=n->(bc sizes rows r f c).1.length=n/\(bc sizes rows r f c).2.length=m
 | 0,_=>⟨h1,h2⟩
 | c+1,hc=>by
  obtain ⟨i1,i2⟩:=kf h (f:=f) h1 h2 c (by omega)
  have e1:=h.wf.rV (d:=f+c) (by omega);have e2:=h.wf.at2 (d:=f+c) (by omega)
  have hs:=h.hs
  simp only [bc,pJ]
  rw [jr,bR,bR]
  exact ⟨by omega,by omega⟩
theorem tq (h:St n m sizes A k rows) {r:Row} {f:Nat} (h1:r.1.length=n) (h2:r.2.length=m) (h0:∀ i,i<n->0<=vf r.1 i/\vf r.1 i<vf sizes i):Dn n (vf sizes) (DD rows) f (fun d=>vf (bc sizes rows r f (d-f)).1) where
 w0:=fun i hi=>by rw [Nat.sub_self];exact h0 i hi
 ws:=fun d hf hd i hi=>by
  obtain ⟨c,rfl⟩:∃ c,d=f+c:=⟨d-f,by omega⟩
  obtain ⟨i1,i2⟩:=kf h (f:=f) h1 h2 c (by omega)
  have e1:=h.wf.rV (d:=f+c) (by omega)
  have hs:=h.hs
  show vf (bc sizes rows r f (f+c+1-f)).1 i=_
  rw [show f+c+1-f=c+1 by omega,show f+c-f=c by omega]
  simp only [bc,pJ]
  rw [jw (by rw [bR];omega) (by omega),fb (by omega) (by omega)]
  rfl
theorem sM (h:St n m sizes A k rows) {r:Row} {f:Nat} (h1:r.1.length=n) (h2:r.2.length=m) {P₀:dC} {B:dC} (hl:Led n (vf sizes) m A (fun i=>vf r.1 i-B i) (fun l=>vf r.2 l-P₀ l)):∀ c,f+c<=n->Led n (vf sizes) m A (fun i=>vf (bc sizes rows r f c).1 i-B i) (fun l=>vf (bc sizes rows r f c).2 l-P₀ l)
 | 0,_=>hl
 | c+1,hc=>by
  obtain ⟨i1,i2⟩:=kf h (f:=f) h1 h2 c (by omega)
  have e1:=h.wf.rV (d:=f+c) (by omega);have e2:=h.wf.at2 (d:=f+c) (by omega)
  have hs:=h.hs
  refine Led.mix (a:=1) (b:=-(vf (bc sizes rows r f c).1 (f+c)/br (vf sizes) (DD rows) (f+c))) (sM h (f:=f) h1 h2 hl c (by omega)) (h.led (f+c) (by omega)) (fun i hi=>?_) fun l hl=>?_
  ·simp only [bc,pJ]
   rw [jw (by rw [bR];omega) (by omega),fb (by omega) (by omega)]
   obtain ⟨z,hz⟩:=fU (1*vf (bc sizes rows r f c).1 i+-(vf (bc sizes rows r f c).1 (f+c)/br (vf sizes) (DD rows) (f+c))*vf (row rows (f+c)).1 i) (vf sizes i)
   refine ⟨z,?_⟩
   rw [← hz]
   unfold DD
   grind
  ·simp only [bc,pJ]
   rw [fb (by omega) (by omega)]
   unfold PP
   grind
theorem sG (h:St n m sizes A k rows) {r:Row} {f B:Nat} (h1:r.1.length=n) (h2:r.2.length=m) (h0:∀ i,i<n->0<=vf r.1 i/\vf r.1 i<vf sizes i) (hB:150*k+1<=B) (hb:Bd B r.2):∀ c,f+c<=n->Bd (B+11*c) (bc sizes rows r f c).2
 | 0,_=>hb
 | c+1,hc=>by
  have k0:=(tq h (f:=f) h1 h2 h0).kept h.gd (f+c) (by omega) (by omega) (f+c) (by omega)
  rw [show f+c-f=c by omega] at k0
  have sm:=h.sm (f+c) (by omega)
  have p:=h.gd.pos (d:=f+c) (by omega)
  have q:=Int.ediv_le_self (br (vf sizes) (DD rows) (f+c)) k0.1
  have q0:=Int.ediv_nonneg k0.1 (Int.le_of_lt p.1)
  have:=Bd.mix (A:=10) (sG h (f:=f) h1 h2 h0 hB hb c (by omega)) ((h.bd (f+c) (by omega)).mono (show 150*k+1<=B+11*c by omega)) (a:=1) (b:=-(vf (bc sizes rows r f c).1 (f+c)/br (vf sizes) (DD rows) (f+c))) (by decide) (by omega)
  exact this.mono (by omega)
theorem o_ (h:St n m sizes A k rows) {r:Row} {f B:Nat} (hn:n<=6) (hm:m<=8) (h1:r.1.length=n) (h2:r.2.length=m) (h0:∀ i,i<n->0<=vf r.1 i/\vf r.1 i<vf sizes i) (hB:150*k+1<=B) (hB2:B<=8000) (hb:Bd B r.2) (hf:f<=n):e_ [tI sizes,.lst (rows.map mk),mk r,.int (f:Int)]=M.ok (mk (bc sizes rows r f (n-f))):=by
 have hs:=h.hs
 have rl:=h.wf.len
 unfold e_ iJ
 have kb:yb [.int (f:Int),.int (sizes.length:Int)]=M.ok ((List.range (n-f)).map fun (i:Nat)=>.int ((f+i:Nat):Int)):=by
  rw [zt (by omega) (by omega) (by omega) (by omega),hs,show ((n:Int)-(f:Int)).toNat=n-f by omega]
  simp
 dsimp? [kb]
 refine eV (List.range (n-f)) (fun zs env=>∃ c x4 x5,c<=n-f/\(List.range (n-f)).drop c=zs/\env=[some (.sh (tI sizes)),some (.sh (.lst (rows.map mk))),some (.sh (mk (bc sizes rows r f c))),some (.sh (.int (f:Int))),x4,x5]) ⟨0,none,none,Nat.zero_le _,rfl,rfl⟩ ?_ ?_
 ·rintro i zs env ⟨c,x4,x5,hc,hdr,rfl⟩
  obtain ⟨c1,c2,c3⟩:=drop_cons hdr
  rw [List.length_range] at c1
  obtain rfl:i=c:=by
   rw [List.getElem?_range c1] at c2;exact (Option.some.inj c2).symm
  have hfc:f+i<n:=by omega
  have ll:=kf h (f:=f) h1 h2 i (by omega)
  have lk:=(tq h (f:=f) h1 h2 h0).kept h.gd (f+i) (by omega) (by omega)
  rw [show f+i-f=i by omega] at lk
  have k0:=lk (f+i) hfc
  have sm:=h.sm (f+i) hfc
  have p:=h.gd.pos hfc
  have e1:=h.wf.rV hfc;have e2:=h.wf.at2 hfc
  have B1:Bd 8200 (row rows (f+i)).1:=(St.Ac h hfc).mono (by omega)
  have B2:Bd 8200 (row rows (f+i)).2:=(h.bd _ hfc).mono (by omega)
  have B3:Bd 8200 (bc sizes rows r f i).1:=(sL ll.1 lk h.sm).mono (by omega)
  have B4:Bd 8200 (bc sizes rows r f i).2:=(sG h (f:=f) h1 h2 h0 hB hb i (by omega)).mono (by omega)
  have q:=Int.ediv_le_self (br (vf sizes) (DD rows) (f+i)) k0.1
  have q0:=Int.ediv_nonneg k0.1 (Int.le_of_lt p.1)
  have w:=vO (A:=20) (sizes:=sizes) (a:=1) (b:=-(vf (bc sizes rows r f i).1 (f+i)/br (vf sizes) (DD rows) (f+i))) (AY h) B3 B4 B1 B2 (by decide) (by omega) (by decide) (by decide) (by omega) (by omega)
  refine ⟨_,[some (.sh (tI sizes)),some (.sh (.lst (rows.map mk))),some (.sh (mk (bc sizes rows r f (i+1)))),some (.sh (.int (f:Int))),some (.sh (.int ((f+i:Nat):Int))),some (.sh (.int (vf (bc sizes rows r f i).1 (f+i)/br (vf sizes) (DD rows) (f+i))))],rfl,?_,i+1,_,_,by omega,c3,rfl⟩
  dsimp? [tP,kS (xs:=(bc sizes rows r f i).1) (i:=f+i) (by omega),wZ h.wf h.hs hfc,a0 (i:=vf (bc sizes rows r f i).1 (f+i)) p.1 (by omega),tY (rows:=rows) (d:=f+i) (by omega),w]
  rfl
 ·rintro env ⟨c,x4,x5,hc,hdr,rfl⟩
  have:c=n-f:=by
   have:=congrArg List.length hdr
   rw [List.length_drop,List.length_range] at this
   simp at this
   omega
  subst this
  dsimp? []
end
theorem Cg (m k:Nat) (hm:m<=1000):ja [.int (m:Int),.int (k:Int)]=M.ok (tI (ng m k)):=by
 have key:cO (da 0) none (zk (jh (av n5 (af 0) (af 1))) (fun _=>M.ok (.int 1)) (fun _=>M.ok (.int 0))) ((List.range m).map fun (i:Nat)=>.int (i:Int)) [none,some (.sh (.int (k:Int)))]=M.ok ((List.range m).map fun (i:Nat)=>.int (if i=k then 1 else 0)):=by
  refine iW (inj:=fun (i:Nat)=>PV.int (i:Int)) (List.range m) fun i hi=>?_
  dsimp? []
  by_cases z:i=k
  ·subst z;simp only [decide_true,if_true]
  ·have z':¬ (i:Int)=(k:Int):=by omega
   simp only [z,z',decide_false,Bool.false_eq_true,if_false]
 unfold ja iZ
 dsimp? [lq (n:=(m:Int)) (by omega) (by omega),Int.toNat_natCast,List.length_map,List.length_range,aA (aZ hm),key]
 rw [tI,ng,List.map_map];rfl
theorem qL {n:Int} (h:0<=n):Builtin.Range.rangeSize (n-1) (-1) (-1)=n:=by
 unfold Builtin.Range.rangeSize
 rw [if_neg (by decide)]
 split
 ·rw [show -(-1:Int)=1 from rfl,Int.ediv_one];omega
 ·omega
theorem BU {n:Int} (h:0<=n) (h2:n<=1000):C3 (n-1) (-1) (-1)=true:=by
 unfold C3 Builtin.Range.small
 have f:∀ x:Int,-(2^40)<x->x<2^40->Builtin.Range.rangeFitsLong x=true:=fun x h1 h2=>by
  unfold Builtin.Range.rangeFitsLong
  simp only [Bool.and_eq_true,decide_eq_true_eq]
  omega
 simp only [qL h,f (n-1) (by omega) (by omega),f (-1) (by decide) (by decide),f n (by omega) (by omega),f (n-1+n*-1) (by omega) (by omega),Bool.and_true,Bool.true_and,Bool.and_self,Bool.and_eq_true,decide_eq_true_eq]
 refine ⟨by decide,?_⟩
 rw [if_neg (by decide),f (-1+(-1+1)) (by decide) (by decide),Bool.or_true]
theorem Ae (k:Nat) (hk:k<=1000):zB [.int ((k:Int)-1),.int (-1),.int (-1)]=M.ok ((List.range k).map fun (i:Nat)=>.int ((k:Int)-1+(i:Int)*-1)):=by
 show cw (C3 ((k:Int)-1) (-1) (-1)=true) _=_
 rw [aA (BU (by omega) (by omega)),qL (by omega),Int.toNat_natCast]
theorem wV {idle:List (List Int)} {j:Nat} (h:j<idle.length):aX (.lst (idle.map tI)) (.int (j:Int))=M.ok (tI (idle.getD j [])) :=
 cv (p:=.lst (idle.map tI)) rfl (by rw [List.getElem?_map,List.getElem?_eq_getElem h,List.getD_eq_getElem?_getD,List.getElem?_eq_getElem h];rfl)
theorem tM {n m k B:Nat} {s:dC} {A:Nat->dC} {idle:List (List Int)} {P:List Int} (h:yE n m s A k idle) (hP:P.length=m) (hm:m<=8) (hk:k<=m) (hB:60<=B) (hB2:B<=8000) (hb:Bd B P):gU [tI P,.lst (idle.map tI)]=M.ok (tI (aI idle k P k)):=by
 have il:=h.len
 unfold gU gP
 dsimp? [List.length_map,il,Ae k (by omega)]
 refine eV (List.range k) (fun zs env=>∃ c x2 x3,c<=k/\(List.range k).drop c=zs/\env=[some (.sh (tI (aI idle k P c))),some (.sh (.lst (idle.map tI))),x2,x3]) ⟨0,none,none,Nat.zero_le _,rfl,rfl⟩ ?_ ?_
 ·rintro i zs env ⟨c,x2,x3,hc,hdr,rfl⟩
  obtain ⟨c1,c2,c3⟩:=drop_cons hdr
  rw [List.length_range] at c1
  obtain rfl:i=c:=by
   rw [List.getElem?_range c1] at c2;exact (Option.some.inj c2).symm
  have hj:k-1-i<k:=by omega
  have ej:(k:Int)-1+(i:Int)*-1=((k-1-i:Nat):Int):=by omega
  have sl:=span_len h hP i (by omega)
  have rl:=h.l2 (k-1-i) hj
  have p:=h.pos (k-1-i) hj
  have pl60:=h.le (k-1-i) hj
  have zb:=tm h hP hk hB hb i (by omega)
  have B1:Bd 8600 (aI idle k P i):=zb.mono (by omega)
  have B2:Bd 8600 (idle.getD (k-1-i) []):=(h.bd hj hk).mono (by omega)
  have q:(-(vf (aI idle k P i) (k-1-i)/vf (idle.getD (k-1-i) []) (k-1-i))).natAbs<2^8600:=by
   rw [Int.natAbs_neg]
   exact Nat.lt_of_le_of_lt (Int.natAbs_ediv_le_natAbs ..) (B1.vf _)
  have w:=n_ (A:=8600) (tI (aI idle k P i)) (tI (idle.getD (k-1-i) [])) (aI idle k P i) (idle.getD (k-1-i) []) 1 (-(vf (aI idle k P i) (k-1-i)/vf (idle.getD (k-1-i) []) (k-1-i))) rfl rfl B1 B2 (Nat.one_lt_two_pow (by decide)) q (by decide) (by decide) (by omega)
  refine ⟨_,[some (.sh (tI (aI idle k P (i+1)))),some (.sh (.lst (idle.map tI))),some (.sh (.int ((k-1-i:Nat):Int))),some (.sh (tI (idle.getD (k-1-i) [])))],rfl,?_,i+1,_,_,by omega,c3,rfl⟩
  rw [ej]
  dsimp? [wV (idle:=idle) (j:=k-1-i) (by omega),kS (xs:=aI idle k P i) (i:=k-1-i) (by omega),kS (xs:=idle.getD (k-1-i) []) (i:=k-1-i) (by omega),a0 (i:=vf (aI idle k P i) (k-1-i)) (j:=vf (idle.getD (k-1-i) []) (k-1-i)) p (by show II idle (k-1-i) (k-1-i)<2^64;omega),w]
  rfl
 ·rintro env ⟨c,x2,x3,hc,hdr,rfl⟩
  have:c=k:=by
   have:=congrArg List.length hdr
   rw [List.length_drop,List.length_range] at this
   simp at this
   omega
  subst this
  dsimp? []
section
variable {sizes:List Int} {Ls:List (List Int)}
theorem rg (h:sizes.length<=6):iI [jQ sizes Ls]=M.ok (tI (List.replicate sizes.length 0)):=by
 unfold iI jL
 dsimp? [nW (sizes:=sizes) (levers:=Ls) (g:=af 0) (env:=[some (.sh (jQ sizes Ls))]) rfl,mul_one (.int 0) sizes.length (by omega)]
 rw [tI,List.map_replicate]
theorem mY (hm:Ls.length<=8) (xs:List Int):eS [jQ sizes Ls,tI xs]=M.ok (mk (xs,List.replicate Ls.length 0)):=by
 unfold eS gZ
 dsimp? [pA (sizes:=sizes) (levers:=Ls) (g:=af 0) (env:=[some (.sh (jQ sizes Ls)),some (.sh (tI xs))]) rfl,List.length_map,mul_one (.int 0) Ls.length (by omega)]
 rw [mk,tI,tI,List.map_replicate]
theorem Ct (hm:Ls.length<=8) {k:Nat} (hk:k<Ls.length):fL [jQ sizes Ls,.int (k:Int)]=M.ok (mk (bO Ls Ls.length k)):=by
 have e:aX (.tup (Ls.map tI)) (.int (k:Int))=M.ok (tI (Ls.getD k [])):=cv (p:=.tup (Ls.map tI)) rfl (by rw [List.getElem?_map,List.getElem?_eq_getElem hk,List.getD_eq_getElem?_getD,List.getElem?_eq_getElem hk];rfl)
 unfold fL fy
 dsimp? [pA (sizes:=sizes) (levers:=Ls) (g:=af 0) (env:=[some (.sh (jQ sizes Ls)),some (.sh (.int (k:Int))),none]) rfl,List.length_map,e,Cg Ls.length k (by omega)]
 rfl
end
theorem As:∀ xs:List Int,oy (tI xs)=true:=by
 intro xs
 have:∀ ys:List Int,l9 (ys.map PV.int)=true:=by
  intro ys
  induction ys with
  | nil=>rfl
  | cons a r ih=>simp [l9,oy,ih]
 exact this xs
theorem Hl (x y:PV):aX (.tup [x,y]) (.int 0)=M.ok x:=cv (j:=0) rfl rfl
theorem GN (x y:PV):aX (.tup [x,y]) (.int 1)=M.ok y:=cv (j:=1) rfl rfl
def oE (sizes:List Int) (rows:List Row) (n:Nat):List Row:=(List.range n).map fun d=>bc sizes rows (row rows d) (d+1) (n-(d+1))
def sA (V:PV) (rows:List Row) (idle:List (List Int)):List (Str×PV):=[("vault", V),("made_rows", .lst (rows.map mk)),("idle_rows", .lst (idle.map tI))]
section
variable {sizes:List Int} {Ls:List (List Int)}
theorem Bh (hn1:1<=sizes.length) (hn:sizes.length<=6) (hm:Ls.length<=8) (hp:∀ i,i<sizes.length->0<vf sizes i/\vf sizes i<=360) (LL:Hv sizes.length Ls.length sizes Ls) :
  mU aG iP [] [jQ sizes Ls]=M.ok (.obj aG (sA (jQ sizes Ls) (oE sizes (RK cf sizes Ls sizes.length Ls.length Ls.length).1 sizes.length) (RK cf sizes Ls sizes.length Ls.length Ls.length).2)):=by
 have all:=fun k hk=>zC.all (c:=cf) rfl hp LL y0 hn k hk
 have key:∀ a,iP a ([jQ sizes Ls]++[])=M.ok (sA (jQ sizes Ls) (oE sizes (RK cf sizes Ls sizes.length Ls.length Ls.length).1 sizes.length) (RK cf sizes Ls sizes.length Ls.length Ls.length).2):=by
  intro a
  have e1:cO (da 0) none (au eS (ah (af 1) (ah (au iI (ah (af 1) az)) az))) (sizes.map PV.int) [none,some (.sh (jQ sizes Ls))]=M.ok ((List.replicate sizes.length ((List.replicate sizes.length (0:Int)),(List.replicate Ls.length (0:Int)))).map mk):=by
   rw [iW (h:=fun _=>mk (List.replicate sizes.length 0,List.replicate Ls.length 0)) sizes fun x _=>by dsimp? [rg (Ls:=Ls) hn,mY (sizes:=sizes) hm (List.replicate sizes.length 0)]]
   congr 1
   rw [List.map_const',List.map_replicate]
  have e2:cO (cT 0 1) none (au e_ (ah (af 2) (ah (af 3) (ah (af 1) (ah (av iw (af 0) (fun _=>M.ok (.int 1))) az))))) ((RK cf sizes Ls sizes.length Ls.length Ls.length).1.zipIdx.map fun z=>.tup [.int (z.2:Int),mk z.1]) [none,none,some (.sh (tI sizes)),some (.sh (.lst ((RK cf sizes Ls sizes.length Ls.length Ls.length).1.map mk)))]=M.ok ((oE sizes (RK cf sizes Ls sizes.length Ls.length Ls.length).1 sizes.length).map mk):=by
   have I:=all Ls.length (Nat.le_refl _)
   generalize RK cf sizes Ls sizes.length Ls.length Ls.length=rk at *
   have rl:=I.st.wf.len
   rw [mq (p:=fun z:Row×Nat=>PV.int (z.2:Int)) (q:=fun z:Row×Nat=>mk z.1) (h:=fun z:Row×Nat=>mk (bc sizes rk.1 z.1 (z.2+1) (sizes.length-(z.2+1)))) rk.1.zipIdx fun z hz=>?_]
   ·congr 1
    rw [oE,List.map_map]
    refine List.ext_getElem (by simp [rl]) fun i h1 h2=>?_
    have hi:i<rk.1.length:=by simpa using h1
    simp [iO hi]
   ·obtain ⟨i,hi,e⟩:=List.mem_iff_getElem.mp hz
    rw [List.length_zipIdx] at hi
    rw [List.getElem_zipIdx] at e
    have ez:z=(row rk.1 i,i):=by rw [← e,iO hi];simp
    subst ez
    have hin:i<sizes.length:=by omega
    have:=o_ (f:=i+1) (B:=150*Ls.length+1) I.st hn hm (I.st.wf.rV hin) (I.st.wf.at2 hin) (fun j hj=>I.st.gd.kb i hin j hj) (Nat.le_refl _) (by omega) (I.st.bd i hin) (by omega)
    rw [show ((i+1:Nat):Int)=(i:Int)+1 by omega] at this
    dsimp? [this]
  have zl:sizes.length<=sizeLine:=aZ (by omega)
  have I:=all Ls.length (Nat.le_refl _)
  have rl:=I.st.wf.len
  unfold iP lO
  simp only [sJ]
  rw [aA (show ([jQ sizes Ls]++([]:List PV)).length+1=2 from rfl)]
  simp only [xQ,xX]
  dsimp? [nW (sizes:=sizes) (levers:=Ls) (g:=af 1) (env:=[some (.bd a aG []),some (.sh (jQ sizes Ls)),none,none,none,none,none]) rfl,List.length_map,aA zl,e1,dQ,pA (sizes:=sizes) (levers:=Ls) (g:=af 1) (env:=[some (.bd a aG []),some (.sh (jQ sizes Ls)),some (.sh (tI sizes)),some (.sh (.lst ((List.replicate sizes.length ((List.replicate sizes.length (0:Int)),(List.replicate Ls.length (0:Int)))).map mk))),some (.ow []),none,none]) rfl,lq (n:=(Ls.length:Int)) (by omega) (by omega),Int.toNat_natCast]
  refine eV (List.range Ls.length) (fun zs env=>∃ k x5 x6,k<=Ls.length/\(List.range Ls.length).drop k=zs/\env=[some (.bd a aG []),some (.sh (jQ sizes Ls)),some (.sh (tI sizes)),some (.sh (.lst ((RK cf sizes Ls sizes.length Ls.length k).1.map mk))),some (.ow ((RK cf sizes Ls sizes.length Ls.length k).2.map tI)),x5,x6]) ⟨0,none,none,Nat.zero_le _,rfl,rfl⟩ ?_ ?_
  ·rintro i zs env ⟨k,x5,x6,hk,hdr,rfl⟩
   obtain ⟨c1,c2,c3⟩:=drop_cons hdr
   rw [List.length_range] at c1
   obtain rfl:i=k:=by
    rw [List.getElem?_range c1] at c2;exact (Option.some.inj c2).symm
   have J:=all i hk
   have L:Lv sizes.length Ls.length sizes (AA Ls) i (bO Ls Ls.length i):=⟨LL.at_ i c1,by simp [bO,ng],c1,fun j hj=>rfl,LL.kb i c1,fun l hl=>t5 hl⟩
   have tk:=zG J.st L hn hm
   have ll:=cV (c:=cf) J.st.wf J.st.hs L.l1 L.l2 sizes.length (Nat.le_refl _)
   have lb:=nQ (c:=cf) J.st L hn sizes.length (Nat.le_refl _)
   have sp:=tM (B:=1400) J.tF ll.2 hm (by omega) (by decide) (by decide) (lb.mono (by omega))
   have il:=J.tF.len
   refine ⟨_,[some (.bd a aG []),some (.sh (jQ sizes Ls)),some (.sh (tI sizes)),some (.sh (.lst ((RK cf sizes Ls sizes.length Ls.length (i+1)).1.map mk))),some (.ow ((RK cf sizes Ls sizes.length Ls.length (i+1)).2.map tI)),some (.sh (.int (i:Int))),some (.sh (.tup [.lst ((cB cf sizes (RK cf sizes Ls sizes.length Ls.length i).1 (bO Ls Ls.length i) sizes.length).map mk),tI (aD cf sizes (RK cf sizes Ls sizes.length Ls.length i).1 (bO Ls Ls.length i) sizes.length).2]))],rfl,?_,i+1,_,_,by omega,c3,rfl⟩
   dsimp? [Ct (sizes:=sizes) hm c1,tk,Hl]
   rw [rD (i:=4) rfl (p:=tI (aI (RK cf sizes Ls sizes.length Ls.length i).2 i (aD cf sizes (RK cf sizes Ls sizes.length Ls.length i).1 (bO Ls Ls.length i) sizes.length).2 i)) (by
    dsimp? [yV,ownAt,GN,sp]
    exact aA (As _)) (by simp [il];omega)]
   dsimp? [RK,List.map_append]
  ·rintro env ⟨k,x5,x6,hk,hdr,rfl⟩
   have:k=Ls.length:=by
    have:=congrArg List.length hdr
    rw [List.length_drop,List.length_range] at this
    simp at this
    omega
   subst this
   dsimp? [kJ]
   rw [jc _ _ _ _ _ _ (by simp)]
   dsimp? [kJ,mn,List.length_map,List.length_zipIdx,rl,aA zl,e2]
   rw [jc _ _ _ _ _ _ (Nat.lt_of_le_of_lt (jb (Nat.zero_le 0)) (by decide))]
   dsimp? [kJ]
   rw [jc _ _ _ _ _ _ (Nat.lt_of_le_of_lt (jb (jb (Nat.zero_le 0))) (by decide))]
   dsimp? []
   show cw _ _=_
   rw [aA ⟨rfl,rfl⟩]
   rfl
 unfold mU
 rw [yW key];rfl
end
section
variable {n m:Nat} {sizes:List Int} {A:Nat->dC} {rows:List Row}
theorem og {d:Nat} (h:d<n):row (oE sizes rows n) d=bc sizes rows (row rows d) (d+1) (n-(d+1)):=by
 rw [iO (by simp [oE,h])];simp [oE]
theorem Fx (h:St n m sizes A m rows) (hn:n<=6) (hA:∀ i,A m i=0):St n m sizes A (m+1) (oE sizes rows n):=by
 have hl:∀ d,d<n->(bc sizes rows (row rows d) (d+1) (n-(d+1))).1.length=n/\(bc sizes rows (row rows d) (d+1) (n-(d+1))).2.length=m:=fun d hd=>kf h (h.wf.rV hd) (h.wf.at2 hd) _ (by omega)
 have lg:=zO (D':=DD (oE sizes rows n)) h.gd (fun d e=>vf (bc sizes rows (row rows d) (d+1) (e-(d+1))).1) (fun d hd=>tq h (h.wf.rV hd) (h.wf.at2 hd) fun i hi=>h.gd.kb d hd i hi) (fun d hd i hi=>by
  show vf (bc sizes rows (row rows d) (d+1) (d+1-(d+1))).1 i=_
  rw [Nat.sub_self];rfl) fun d hd i hi=>by
  unfold DD;rw [og hd]
 refine ⟨⟨by simp [oE],fun r hr=>?_,fun r hr=>?_⟩,h.hs,h.sm,lg.1,fun d hd=>?_,fun d hd l h1 h2=>by omega,fun d hd=>?_,fun l hl=>?_⟩
 ·obtain ⟨d,hd,rfl⟩:=List.mem_map.mp hr
  exact (hl d (List.mem_range.mp hd)).1
 ·obtain ⟨d,hd,rfl⟩:=List.mem_map.mp hr
  exact (hl d (List.mem_range.mp hd)).2
 ·unfold DD PP
  rw [og hd]
  have:=sM h (f:=d+1) (h.wf.rV hd) (h.wf.at2 hd) (P₀:=fun _=>0) (B:=fun _=>0) (by
   have q:=h.led d hd
   intro i hi
   have:=q i hi
   simp only [Int.sub_zero];exact this) (n-(d+1)) (by omega)
  intro i hi
  have:=this i hi
  simp only [Int.sub_zero] at this
  exact this
 ·rw [og hd]
  exact (sG h (f:=d+1) (h.wf.rV hd) (h.wf.at2 hd) (fun i hi=>h.gd.kb d hd i hi) (Nat.le_refl _) (h.bd d hd) (n-(d+1)) (by omega)).mono (by omega)
 ·rcases Nat.lt_or_ge l m with q | q
  ·exact lg.2.2.2.2 n 0 (by omega) _ (h.cl l q)
  ·obtain rfl:l=m:=by omega
   exact G.ext (by omega) (fun i _=>(hA i).symm) (G.zero (by omega))
end
def pI (sizes:List Int) (Ls:List (List Int)) (R:List Row) (idle:List (List Int)):PV:=.obj aG (sA (jQ sizes Ls) R idle)
section
variable {sizes:List Int} {Ls:List (List Int)} {R:List Row} {idle:List (List Int)}
theorem Qo:(sA (jQ sizes Ls) R idle).lookup (Str.ofString "vault")=some (jQ sizes Ls):=rfl
theorem L_:(sA (jQ sizes Ls) R idle).lookup (Str.ofString "made_rows")=some (.lst (R.map mk)):=rfl
theorem JE:(sA (jQ sizes Ls) R idle).lookup (Str.ofString "idle_rows")=some (.lst (idle.map tI)):=rfl
theorem LK:(sA (jQ sizes Ls) R idle).lookup (Str.ofString "brought_down")=none:=rfl
theorem OM {g:ai->M PV} {env:ai} (h:g env=M.ok (pI sizes Ls R idle)):hG (fun c=>c==aG) "vault" g env=M.ok (jQ sizes Ls):=by
 rw [hG,h,M.aP]
 show cw _ (e6 (List.lookup _ _))=_
 rw [aA (beq_self_eq_true _),Qo];rfl
theorem Rn {g:ai->M PV} {env:ai} (h:g env=M.ok (pI sizes Ls R idle)):hG (fun c=>c==aG) "made_rows" g env=M.ok (.lst (R.map mk)):=by
 rw [hG,h,M.aP]
 show cw _ (e6 (List.lookup _ _))=_
 rw [aA (beq_self_eq_true _),L_];rfl
theorem Nu {g:ai->M PV} {env:ai} (h:g env=M.ok (pI sizes Ls R idle)):hG (fun c=>c==aG) "idle_rows" g env=M.ok (.lst (idle.map tI)):=by
 rw [hG,h,M.aP]
 show cw _ (e6 (List.lookup _ _))=_
 rw [aA (beq_self_eq_true _),JE];rfl
theorem w8:cS [pI sizes Ls R idle]=M.ok (.lst (idle.map tI)):=by
 unfold cS gJ
 dsimp? [Nu (sizes:=sizes) (Ls:=Ls) (R:=R) (idle:=idle) (g:=af 0) (env:=[some (.sh (pI sizes Ls R idle))]) rfl]
theorem CK {A:Nat->dC} {k:Nat} (S:Sz sizes) (hm:Ls.length<=8) (h:St sizes.length Ls.length sizes A k R) (hk:k<=9) {xs:List Int} (hx:EV sizes xs) (h0:∀ i,i<sizes.length->0<=vf xs i/\vf xs i<vf sizes i) :
  bq [pI sizes Ls R idle,tI xs]=M.ok (mk (bc sizes R (xs,List.replicate Ls.length 0) 0 sizes.length)):=by
 have lo:=o_ (f:=0) (B:=150*k+1) (r:=(xs,List.replicate Ls.length 0)) h S.h6 hm hx.len (by simp) h0 (Nat.le_refl _) (by omega) (fun x hx=>by rw [List.eq_of_mem_replicate hx];exact Nat.two_pow_pos _) (Nat.zero_le _)
 rw [Nat.sub_zero] at lo
 unfold bq bJ
 dsimp? [OM (sizes:=sizes) (Ls:=Ls) (R:=R) (idle:=idle) (g:=af 0) (env:=[some (.sh (pI sizes Ls R idle)),some (.sh (tI xs))]) rfl,Rn (sizes:=sizes) (Ls:=Ls) (R:=R) (idle:=idle) (g:=af 0) (env:=[some (.sh (pI sizes Ls R idle)),some (.sh (tI xs))]) rfl,Cr (levers:=Ls) S hx,mY (sizes:=sizes) hm xs,nW (sizes:=sizes) (levers:=Ls) (g:=hG (fun c=>c==aG) "vault" (af 0)) (env:=[some (.sh (pI sizes Ls R idle)),some (.sh (tI xs))]) (OM (R:=R) (idle:=idle) rfl),show e_ [tI sizes,.lst (R.map mk),mk (xs,List.replicate Ls.length 0),.int 0]=_ from lo]
end
def pH (xs:List Int):List Int:=xs.map fun x=>-x
theorem Fv (xs:List Int) (i:Nat):vf (pH xs) i=-vf xs i:=by
 rcases Nat.lt_or_ge i xs.length with h | h
 ·rw [bN (by simpa [pH] using h),bN h];simp [pH]
 ·rw [oW (by simpa [pH] using h),oW h];rfl
theorem Ez {B:Nat} {xs:List Int} (h:Bd B xs):Bd B (pH xs):=fun x hx=>by
 obtain ⟨y,hy,rfl⟩:=List.mem_map.mp hx
 rw [Int.natAbs_neg];exact h y hy
section
variable {sizes:List Int} {Ls:List (List Int)} {R:List Row} {idle:List (List Int)}
def told (sizes:List Int) (Ls:List (List Int)) (R:List Row) (idle:List (List Int)) (xs:List Int):List Int:=aI idle Ls.length (pH (bc sizes R (xs,List.replicate Ls.length 0) 0 sizes.length).2) Ls.length
theorem AR {A:Nat->dC} {k:Nat} (S:Sz sizes) (hm:Ls.length<=8) (h:St sizes.length Ls.length sizes A k R) (hk:k<=9) (I:yE sizes.length Ls.length (vf sizes) A Ls.length idle) {xs:List Int} (hx:EV sizes xs) (h0:∀ i,i<sizes.length->0<=vf xs i/\vf xs i<vf sizes i) (hg:G sizes.length (vf sizes) (DD R) sizes.length 0 (vf xs)) :
  cK [pI sizes Ls R idle,tI xs]=M.ok (tI (told sizes Ls R idle xs))/\(told sizes Ls R idle xs).length=Ls.length/\Led sizes.length (vf sizes) Ls.length A (vf xs) (vf (told sizes Ls R idle xs))/\∀ l,l<Ls.length->0<=vf (told sizes Ls R idle xs) l/\vf (told sizes Ls R idle xs) l<II idle l l:=by
 have l6:=S.h6
 have r2:(List.replicate Ls.length (0:Int)).length=Ls.length:=by simp
 have ll:=kf h (f:=0) (r:=(xs,List.replicate Ls.length 0)) hx.len r2 sizes.length (by omega)
 have dn:=tq h (f:=0) (r:=(xs,List.replicate Ls.length 0)) hx.len r2 h0
 have z:=dn.run h.gd sizes.length 0 (Nat.le_refl _) (by omega) (by rw [Nat.sub_self];exact hg)
 rw [Nat.sub_zero] at z
 have nz:(bc sizes R (xs,List.replicate Ls.length 0) 0 sizes.length).1=List.replicate sizes.length 0:=vV (by rw [ll.1];simp) fun i hi=>by rw [z i (by omega),iS]
 have b:=sG h (f:=0) (B:=150*k+1) (r:=(xs,List.replicate Ls.length 0)) hx.len r2 h0 (Nat.le_refl _) (fun x hx=>by rw [List.eq_of_mem_replicate hx];exact Nat.two_pow_pos _) sizes.length (by omega)
 have nl:(pH (bc sizes R (xs,List.replicate Ls.length 0) 0 sizes.length).2).length=Ls.length:=by rw [pH,List.length_map];exact ll.2
 have sp:=tM (B:=1500) I nl hm (Nat.le_refl _) (by decide) (by decide) (Ez (b.mono (by omega)))
 have led:=sM h (f:=0) (r:=(xs,List.replicate Ls.length 0)) hx.len r2 (P₀:=fun _=>0) (B:=vf xs) (by
  intro i hi
  rw [lE (g:=fun _=>0) fun l hl=>by
   show (vf (List.replicate Ls.length 0) l-0)*A l i=0
   rw [iS];simp,j6]
  show vf sizes i∣vf xs i-vf xs i-0
  rw [Int.sub_self];exact Int.dvd_zero _) sizes.length (by omega)
 have led2:Led sizes.length (vf sizes) Ls.length A (vf xs) (vf (pH (bc sizes R (xs,List.replicate Ls.length 0) 0 sizes.length).2)):=by
  refine Led.mix (a:=-1) (b:=0) led led (fun i hi=>?_) fun l hl=>?_
  ·rw [z i hi]
   exact ⟨0,by omega⟩
  ·rw [Fv];omega
 refine ⟨?_,span_len I nl _ (Nat.le_refl _),k_ I nl led2 _ (Nat.le_refl _),fun l hl=>tf I nl (Nat.le_refl _) _ (Nat.le_refl _) l (by omega) hl⟩
 have dk:=CK (idle:=idle) S hm h hk hx h0
 have md:∀ y,dB aG "brought_down" bq (af 0) (ah (af 1) az) [some (.sh (pI sizes Ls R idle)),some (.sh (tI xs)),y]=M.ok (mk (bc sizes R (xs,List.replicate Ls.length 0) 0 sizes.length)):=fun y=>by
  show M.bind (M.ok (pI sizes Ls R idle)) _=_
  rw [M.aP]
  show cw _ (M.bind (M.ok [tI xs]) _)=_
  rw [aA ⟨rfl,LK⟩,M.aP]
  exact dk
 have cm:cO (da 0) none (ny (af 0)) ((bc sizes R (xs,List.replicate Ls.length 0) 0 sizes.length).2.map PV.int) [none]=M.ok ((bc sizes R (xs,List.replicate Ls.length 0) 0 sizes.length).2.map fun x=>.int (-x)):=iW _ fun x _=>by dsimp? []
 have lz:(bc sizes R (xs,List.replicate Ls.length 0) 0 sizes.length).2.length<=sizeLine:=by rw [ll.2];exact aZ (by omega)
 have en:PV.tup ((bc sizes R (xs,List.replicate Ls.length 0) 0 sizes.length).2.map fun x=>PV.int (-x))=tI (pH (bc sizes R (xs,List.replicate Ls.length 0) 0 sizes.length).2):=by rw [tI,pH,List.map_map];rfl
 unfold cK dr
 dsimp? [md,tP,A1,OM (sizes:=sizes) (Ls:=Ls) (R:=R) (idle:=idle) (g:=af 0) (env:=[some (.sh (pI sizes Ls R idle)),some (.sh (tI xs)),some (.sh (mk (bc sizes R (xs,List.replicate Ls.length 0) 0 sizes.length)))]) rfl,rg (Ls:=Ls) l6,nz,Br,decide_true,Nu (sizes:=sizes) (Ls:=Ls) (R:=R) (idle:=idle) (g:=af 0) (env:=[some (.sh (pI sizes Ls R idle)),some (.sh (tI xs)),some (.sh (mk (bc sizes R (xs,List.replicate Ls.length 0) 0 sizes.length)))]) rfl,List.length_map,aA lz,cm,en,sp]
 rfl
end
theorem xu {i j:Int} (h0:0<j) (h:j<2^200):cD (.int i) (.int j)=M.ok (.int (i/j)):=by
 rw [mJ (by omega) (Nat.lt_of_lt_of_le (show j.natAbs<2^200 by omega) (Nat.pow_le_pow_right (by decide) (by decide))),Int.fdiv_eq_ediv_of_nonneg _ (by omega)]
theorem rE (ns:List Int) (k:Nat):∃ c,de [.jo (ns.map PV.int),.int (k:Int)]=M.ok (.int c):=by
 unfold de fP
 by_cases h:k<ns.length
 ·refine ⟨ns[k],?_⟩
  have h':(k:Int)<((ns.length:Nat):Int):=by omega
  have e:=cv (p:=.jo (ns.map PV.int)) (xs:=ns.map PV.int) (j:=k) (x:=.int ns[k]) rfl (by rw [List.getElem?_map,List.getElem?_eq_getElem h];rfl)
  dsimp? [List.length_map,h',decide_true,e]
 ·refine ⟨0,?_⟩
  have h':¬ (k:Int)<((ns.length:Nat):Int):=by omega
  dsimp? [List.length_map,h',decide_false]
theorem ml (c:Int) (p:PV) (bases:List Int) (hp:cx p=some (bases.map PV.int)) (hb:∀ b∈bases,0<b/\b<2^200) (hl:bases.length<=100):∃ xs:List Int,cY [.int c,p]=M.ok (lI xs)/\xs.length=bases.length/\∀ z∈xs.zip bases,0<=z.1/\z.1<z.2:=by
 suffices h:∃ env':ai,iK (da 4) (ay (iR 2 (av fc (af 3) (af 4))) (ay (bA 3 (av cD (af 3) (af 4))) aB)) (bases.map PV.int) [some (.sh (.int c)),some (.sh p),some (.ow []),some (.sh (.int c)),none]=M.ok (.nx env')/\∃ (d xs:List Int) (left:Int) (y:Option SV),env'=[some (.sh (.int c)),some (.sh p),some (.ow (xs.map PV.int)),some (.sh (.int left)),y]/\bases=d++[]/\xs.length=d.length/\∀ z∈xs.zip d,0<=z.1/\z.1<z.2 by
  obtain ⟨env',e,d,xs,left,y,rfl,hd,hx,hz⟩:=h
  rw [List.append_nil] at hd
  subst hd
  refine ⟨xs,?_,hx,hz⟩
  unfold cY c6
  dsimp? [dQ,hp,e]
  rfl
 refine lK (fun r env=>∃ (d xs:List Int) (left:Int) (y:Option SV),env=[some (.sh (.int c)),some (.sh p),some (.ow (xs.map PV.int)),some (.sh (.int left)),y]/\bases=d++r/\xs.length=d.length/\∀ z∈xs.zip d,0<=z.1/\z.1<z.2) ?_ bases _ ⟨[],[],c,none,rfl,rfl,rfl,fun _ h=>nomatch h⟩
 rintro b r env ⟨d,xs,left,y,rfl,hd,hx,hz⟩
 have hbb:=hb b (by rw [hd];simp)
 have dl:d.length<=100:=by
  have:=congrArg List.length hd
  rw [List.length_append] at this;omega
 refine ⟨_,[some (.sh (.int c)),some (.sh p),some (.ow ((xs++[left%b]).map PV.int)),some (.sh (.int (left/b))),some (.sh (.int b))],rfl,?_,d++[b],xs++[left%b],left/b,_,rfl,by rw [hd];simp,by simp [hx],fun z hz'=>?_⟩
 ·dsimp? []
  rw [rD (i:=2) rfl (p:=.int (left%b)) (by dsimp? [bf (i:=left) hbb.1]) (by simp;omega)]
  dsimp? [xu (i:=left) hbb.1 hbb.2,List.map_append]
 ·rw [List.zip_append hx] at hz'
  rcases List.mem_append.mp hz' with q | q
  ·exact hz z q
  ·rw [List.zip_cons_cons,List.zip_nil_left] at q
   rw [List.mem_singleton.mp q]
   exact ⟨Int.emod_nonneg _ (by omega),Int.emod_lt_of_pos _ hbb.1⟩
def uq (sizes xs ys:List Int) (t:Int):List Int:=(xs.zip (ys.zip sizes)).map fun z=>(z.1+t*z.2.1)%z.2.2
theorem uc {sizes xs ys:List Int} {t:Int} (h1:xs.length=sizes.length) (h2:ys.length=sizes.length):(uq sizes xs ys t).length=sizes.length:=by
 simp [uq];omega
theorem zx {sizes xs ys:List Int} {t:Int} {i:Nat} (h1:xs.length=sizes.length) (h2:ys.length=sizes.length) (hi:i<sizes.length):vf (uq sizes xs ys t) i=(vf xs i+t*vf ys i)%vf sizes i:=by
 rw [bN (by rw [uc h1 h2];exact hi),bN (by omega),bN (by omega),bN hi]
 simp [uq]
theorem z6 {sizes xs ys:List Int} {t:Int} {q:PV} (hs:∀ s∈sizes,0<s) (hl:sizes.length<=6) (h1:xs.length=sizes.length) (hq:cx q=some (ys.map PV.int)) (hy:Bd 200 ys) (ht:t.natAbs<2^200):eE [lI sizes,tI xs,q,.int t]=M.ok (tI (uq sizes xs ys t)):=by
 have k1:cO (qE 0 1 2) none (av fc (av iw (af 0) (av c_ (af 3) (af 1))) (af 2)) ((xs.zip (ys.zip sizes)).map fun z=>.tup [.int z.1,.int z.2.1,.int z.2.2]) [none,none,none,some (.sh (.int t))]=M.ok ((xs.zip (ys.zip sizes)).map fun z=>.int ((z.1+t*z.2.1)%z.2.2)):=by
  refine Fn (p:=fun z:Int×Int×Int=>PV.int z.1) (q:=fun z:Int×Int×Int=>PV.int z.2.1) (s:=fun z:Int×Int×Int=>PV.int z.2.2) (xs.zip (ys.zip sizes)) fun z hz=>?_
  obtain ⟨m1,m2⟩:=List.of_mem_zip (a:=z.1) (b:=z.2) hz
  obtain ⟨m3,m4⟩:=List.of_mem_zip (a:=z.2.1) (b:=z.2.2) m2
  dsimp? [bI (k:=200) (l:=200) ht (hy _ m3),bf (i:=z.1+t*z.2.1) (hs _ m4)]
 have z1:(xs.zip (ys.zip sizes)).length<=sizeLine:=by rw [List.length_zip];exact aZ (Nat.le_trans (Nat.min_le_left _ _) (by omega))
 unfold eE gz
 dsimp? [zr (p:=tI xs) (q:=q) (r:=lI sizes) xs ys sizes rfl hq rfl,List.length_map,aA z1,k1]
 rw [tI,uq,List.map_map];rfl
theorem qS {sizes xs P:List Int} {raw:List (List Int)} {q:PV} (hs:∀ s∈sizes,0<s) (hl:sizes.length<=6) (h1:xs.length=sizes.length) (hq:cx q=some (xs.map PV.int)) (hk:∀ i,i<sizes.length->0<=vf xs i/\vf xs i<vf sizes i)
  (hr:∀ l∈raw,l.length=sizes.length/\Bd 200 l) (hP:Bd 200 P) (hm:P.length=raw.length) {p2:PV} (Bu:cx p2=some (P.map PV.int)):∃ F:List Int,dD [lI sizes,.lst (raw.map lI),q,p2]=M.ok (tI F)/\F.length=sizes.length/\(∀ i,i<sizes.length->0<=vf F i/\vf F i<vf sizes i)/\∀ i,i<sizes.length->vf sizes i∣vf F i-(vf xs i+dy raw.length fun l=>vf P l*vf (raw.getD l []) i):=by
 have sp:∀ i,i<sizes.length->0<vf sizes i:=fun i hi=>by rw [bN hi];exact hs _ (List.getElem_mem hi)
 suffices h:∃ env':ai,iK (cT 5 6) (ay (bA 4 (au eE (ah (af 0) (ah (af 4) (ah (af 5) (ah (af 6) az)))))) aB) ((raw.zip P).map fun z=>.tup [lI z.1,.int z.2]) [some (.sh (lI sizes)),some (.sh (.lst (raw.map lI))),some (.sh q),some (.sh p2),some (.sh (tI xs)),none,none]=M.ok (.nx env')/\∃ (c:Nat) (F:List Int) (y z:Option SV),env'=[some (.sh (lI sizes)),some (.sh (.lst (raw.map lI))),some (.sh q),some (.sh p2),some (.sh (tI F)),y,z]/\c<=raw.length/\(raw.zip P).drop c=[]/\F.length=sizes.length/\(∀ i,i<sizes.length->0<=vf F i/\vf F i<vf sizes i)/\∀ i,i<sizes.length->vf sizes i∣vf F i-(vf xs i+dy c fun l=>vf P l*vf (raw.getD l []) i) by
  obtain ⟨env',e,c,F,y,z,rfl,hc,hd,fl,fk,fd⟩:=h
  have:c=raw.length:=by
   have:=congrArg List.length hd
   rw [List.length_drop,List.length_zip] at this
   simp at this
   omega
  subst this
  refine ⟨F,?_,fl,fk,fd⟩
  have e0:zip2 [.lst (raw.map lI),p2]=M.ok ((raw.zip P).map fun z=>.tup [lI z.1,.int z.2]):=gW (p:=.lst (raw.map lI)) (q:=p2) raw P rfl Bu
  unfold dD fx
  dsimp? [hq,e0]
  rw [show (PV.tup (xs.map PV.int))=tI xs from rfl,e]
  dsimp? []
 refine lK (fun zs env=>∃ (c:Nat) (F:List Int) (y z:Option SV),env=[some (.sh (lI sizes)),some (.sh (.lst (raw.map lI))),some (.sh q),some (.sh p2),some (.sh (tI F)),y,z]/\c<=raw.length/\(raw.zip P).drop c=zs/\F.length=sizes.length/\(∀ i,i<sizes.length->0<=vf F i/\vf F i<vf sizes i)/\∀ i,i<sizes.length->vf sizes i∣vf F i-(vf xs i+dy c fun l=>vf P l*vf (raw.getD l []) i)) ?_ (raw.zip P) _ ⟨0,xs,none,none,rfl,Nat.zero_le _,rfl,h1,hk,fun i hi=>by rw [dy];exact ⟨0,by omega⟩⟩
 rintro ⟨l,t⟩ r env ⟨c,F,y,z,rfl,hc,hd,fl,fk,fd⟩
 obtain ⟨c1,c2,c3⟩:=drop_cons hd
 rw [List.length_zip] at c1
 have hcr:c<raw.length:=by omega
 have hcp:c<P.length:=by omega
 have el:l=raw[c]/\t=P[c]:=by
  rw [List.getElem?_eq_getElem (by rw [List.length_zip];omega),List.getElem_zip] at c2
  have:=Option.some.inj c2
  injection this with a b
  exact ⟨a.symm,b.symm⟩
 have lr:=hr l (by rw [el.1];exact List.getElem_mem _)
 have tb:t.natAbs<2^200:=by rw [el.2];exact hP _ (List.getElem_mem _)
 refine ⟨_,[some (.sh (lI sizes)),some (.sh (.lst (raw.map lI))),some (.sh q),some (.sh p2),some (.sh (tI (uq sizes F l t))),some (.sh (lI l)),some (.sh (.int t))],rfl,?_,c+1,uq sizes F l t,_,_,rfl,by omega,c3,uc fl lr.1,fun i hi=>?_,fun i hi=>?_⟩
 ·dsimp? [z6 (q:=lI l) hs hl fl rfl lr.2 tb]
 ·rw [zx fl lr.1 hi]
  have:=sp i hi
  exact ⟨Int.emod_nonneg _ (by omega),Int.emod_lt_of_pos _ this⟩
 ·rw [zx fl lr.1 hi,dy]
  obtain ⟨a,ha⟩:=fd i hi
  obtain ⟨b,hb⟩:=fU (vf F i+t*vf l i) (vf sizes i)
  have e1:vf P c=t:=by rw [bN hcp,el.2]
  have e2:raw.getD c []=l:=by rw [List.getD_eq_getElem?_getD,List.getElem?_eq_getElem hcr,el.1];rfl
  rw [e1,e2]
  exact ⟨a+b,by rw [Int.mul_add];omega⟩
theorem l_ (c:Int) (m:Nat) (hm:m<=100):gf (cZ [.int c,.int (m:Int)]) fun p=>∃ xs:List Int,p=lI xs/\xs.length=m/\∀ x∈xs,0<=x/\x<2^31:=by
 unfold cZ c7
 dsimp? [dQ,bf (j:=2147483629) (i:=c) (by decide),lq (n:=(m:Int)) (by omega) (by omega)]
 refine gf.loop (xs:=List.range (m:Int).toNat) (inj:=fun (i:Nat)=>.int (i:Int)) (fun zs env=>∃ (xs:List Int) (u:Int) (y:Option SV),env=[some (.sh (.int c)),some (.sh (.int (m:Int))),some (.ow (xs.map PV.int)),some (.sh (.int u)),y]/\xs.length+zs.length=m/\(∀ z∈zs,z<m)/\0<=u/\u<2^31/\∀ x∈xs,0<=x/\x<2^31) ⟨[],c%2147483629+17,none,rfl,by simp,fun z hz=>by simpa using hz,by omega,by omega,fun x hx=>nomatch hx⟩ ?_ ?_
 ·rintro a r env ⟨xs,u,y,rfl,hl,hz,u0,u1,hx⟩
  have ha:=hz a List.mem_cons_self
  dsimp? [da,bI (i:=u) (j:=48271) (k:=31) (l:=31) (by omega) (by decide),bI (i:=7919) (j:=(a:Int)) (k:=31) (l:=31) (by decide) (by omega),bf (i:=u*48271+7919*(a:Int)+1) (j:=2147483647) (by decide),a0 (i:=(u*48271+7919*(a:Int)+1)%2147483647) (j:=5) (by decide) (by decide),gH,ownAt,gB (xs:=xs.map PV.int) (by simp at hl ⊢;omega),e7]
  exact ⟨_,rfl,_,_,_,rfl,by simp at hl ⊢;omega,fun z h=>hz z (List.mem_cons_of_mem _ h),by omega,by omega,fun x hx'=>by
    rcases List.mem_append.mp hx' with h | h
    ·exact hx x h
    ·rw [List.mem_singleton] at h;omega⟩
 ·rintro env ⟨xs,u,y,rfl,hl,_,_,_,hx⟩
  exact ⟨_,rfl,xs,rfl,by simpa using hl,hx⟩
theorem tK (p:PV) (n:Nat) (h8:n<=1000):c_ (.lst [p]) (.int (n:Int))=M.ok (.lst (List.replicate n p)):=by
 have h2:[p].length*(n:Int).toNat<=sizeLine:=by
  rw [Int.toNat_natCast]
  exact aZ (by show 1*n<=1000;omega)
 have h3:(n:Int)<2^63:=Int.lt_of_le_of_lt (Int.ofNat_le.mpr h8) (by decide)
 have h4:-(2^63)<=(n:Int):=Int.le_trans (by decide) (Int.natCast_nonneg n)
 rw [c_,aA ⟨h4,h3,h2⟩,Int.toNat_natCast,um]
theorem wy {n:Nat} {a b:Int} (h:b∈List.replicate n a):b=a:=List.eq_of_mem_replicate h
theorem zM:vA (.int 10) (.int 30)=M.ok (.int (10^30)):=by
 show cw (decide ((0:Int)<=30/\(30:Int)<=1000000/\(10:Int).natAbs<2^64)=true) _=_
 exact aA (by decide)
theorem uG (i:Int) (h0:0<=i) (h:i<2^60):gf (dY [.int i]) fun p=>∃ x:Int,p=.int x/\x.natAbs<2^199:=by
 unfold dY dZ
 dsimp? [bI (i:=i) (j:=618033988749894848204586834365) (k:=60) (l:=200) (by omega) (by decide),zM,bI (i:=2) (j:=10^30) (k:=60) (l:=200) (by decide) (by decide),bf (i:=i*618033988749894848204586834365) (j:=2*10^30-1) (by decide)]
 exact ⟨_,rfl,_,rfl,by omega⟩
theorem pick (l:List Int) (c:Int) (n:Nat) (hn:l.length=n) (h0:0<n):∃ x,x∈l/\aX (.lst (l.map PV.int)) (.int (c%(n:Int)))=M.ok (.int x):=by
 have h1:0<=c%(n:Int):=Int.emod_nonneg _ (by omega)
 have h2:c%(n:Int)<n:=Int.emod_lt_of_pos _ (by omega)
 obtain ⟨j,hj⟩:=Int.eq_ofNat_of_zero_le h1
 have hj':j<l.length:=by omega
 refine ⟨l[j],List.getElem_mem _,?_⟩
 rw [hj]
 exact cv (p:=.lst (l.map PV.int)) (j:=j) rfl (by rw [List.getElem?_map,List.getElem?_eq_getElem hj'];rfl)
theorem two {c:Int}:c%2=0\/c%2=1:=by omega
theorem xm (c:Int):gf (gN [.int c]) fun p=>∃ xs:List Int,p=lI xs/\Sz xs:=by
 obtain ⟨m,em,m1,m6⟩:∃ m:Nat,1+c/2%6=(m:Int)/\1<=m/\m<=6:=⟨(1+c/2%6).toNat,by omega,by omega,by omega⟩
 unfold gN gq
 dsimp? [a0 (i:=c) (j:=2) (by decide) (by decide),bf (i:=c/2) (j:=6) (by decide),em,bf (i:=c) (j:=2) (by decide),a0 (i:=c) (j:=12) (by decide) (by decide)]
 rcases two (c:=c) with h | h
 ·simp only [h,show ¬ (0:Int)=1 by decide,decide_false]
  obtain ⟨_,es,xs,rfl,xl,xb⟩:=l_ (c/12) m (by omega)
  dsimp? [dQ,es,a0 (i:=c) (j:=12) (by decide) (by decide)]
  refine gf.loop (xs:=xs) (inj:=PV.int) (fun zs env=>∃ (ss:List Int) (y:Option SV),env=[some (.sh (.int c)),some (.sh (.int (m:Int))),some (.ow (ss.map PV.int)),y]/\ss.length+zs.length=m/\(∀ s∈ss,2<=s/\s<=360)) ⟨[],none,rfl,by simpa using xl,fun _ h=>nomatch h⟩ ?_ ?_
  ·rintro a r env ⟨ss,y,rfl,hl,hs⟩
   have hl':(ss.map PV.int).length<1000:=by simp at hl ⊢;omega
   have fin:∀ v:Int,2<=v/\v<=360->(ss++[v]).length+r.length=m/\∀ s∈ss++[v],2<=s/\s<=360:=fun v hv=>⟨by simp at hl ⊢;omega,fun s h'=>by
    rcases List.mem_append.mp h' with q | q
    ·exact hs s q
    ·rw [List.mem_singleton.mp q];exact hv⟩
   dsimp? [da,a0 (i:=c) (j:=12) (by decide) (by decide),bf (i:=c/12) (j:=2) (by decide)]
   rcases two (c:=c/12) with h2 | h2
   ·obtain ⟨v,hv,ev⟩:=pick [2,3,4,6,8,9,12,16,24,27,32,36,64,72,81,128,243,256,360] a 19 rfl (by decide)
    simp only [h2,decide_true]
    dsimp? [bf (i:=a) (j:=19) (by decide),gH,ownAt]
    rw [show ((19:Nat):Int)=19 from rfl] at ev
    simp only [List.map_cons,List.map_nil] at ev
    rw [ev]
    dsimp? [gB hl',e7]
    obtain ⟨f1,f2⟩:=fin v (by simp at hv;omega)
    exact ⟨_,rfl,_,_,rfl,f1,f2⟩
   ·simp only [h2,show ¬ (1:Int)=0 by decide,decide_false]
    dsimp? [bf (i:=a) (j:=30) (by decide),bI (i:=12) (j:=1+a%30) (k:=31) (l:=31) (by decide) (by omega),gH,ownAt,gB hl',e7]
    obtain ⟨f1,f2⟩:=fin (12*(1+a%30)) (by omega)
    exact ⟨_,rfl,_,_,rfl,f1,f2⟩
  ·rintro env ⟨ss,y,rfl,hl,hs⟩
   refine ⟨_,rfl,ss,rfl,?_,?_,hs⟩
   ·simp at hl;omega
   ·simp at hl;omega
 ·simp only [h,decide_true]
  obtain ⟨xs,ex,xl,xb⟩:=ml (c/12) (.lst (List.replicate m (.int 359))) (List.replicate m 359) (by rw [List.map_replicate];rfl) (fun b hb=>by rw [wy hb];decide) (by simp;omega)
  rw [List.length_replicate] at xl
  dsimp? [a0 (i:=c) (j:=12) (by decide) (by decide),tK (.int 359) m (by omega),ex,List.length_map,aA (aZ (show xs.length<=1000 by omega)),iW (f:=av iw (fun _=>M.ok (.int 2)) (af 0)) (inj:=PV.int) (h:=fun x=>.int (2+x)) (rest:=[]) (x0:=none) xs fun a _=>by dsimp? []]
  refine ⟨_,rfl,xs.map (2+·),by rw [lI,List.map_map];rfl,by simp;omega,by simp;omega,fun x hx=>?_⟩
  obtain ⟨y,hy,rfl⟩:=List.mem_map.mp hx
  obtain ⟨i,hi,rfl⟩:=List.mem_iff_getElem.mp hy
  have:=xb (xs[i],359) (List.mem_iff_getElem.mpr ⟨i,by simp;omega,by simp⟩)
  simp at this;omega
theorem ym {sizes:List Int} (S:Sz sizes) (c:Int):gf (gI [.int c,lI sizes]) fun p=>∃ xs:List Int,p=lI xs/\xs.length=sizes.length/\Bd 200 xs:=by
 have l6:=S.h6
 obtain ⟨_,es,xs,rfl,xl,xb⟩:=l_ c sizes.length (by omega)
 unfold gI gm
 dsimp? [dQ,es,gW (p:=lI xs) (q:=lI sizes) xs sizes rfl rfl]
 refine gf.loop (xs:=xs.zip sizes) (inj:=fun z=>.tup [.int z.1,.int z.2]) (fun zs env=>∃ (ss:List Int) (y1 y2 y3:Option SV),env=[some (.sh (.int c)),some (.sh (lI sizes)),some (.ow (ss.map PV.int)),y1,y2,y3]/\ss.length+zs.length=sizes.length/\Bd 200 ss/\∀ z∈zs,z.1∈xs/\z.2∈sizes) ⟨[],none,none,none,rfl,by simp;omega,(fun _ h=>nomatch h),fun z hz=>nX hz⟩ ?_ ?_
 ·rintro ⟨a,s⟩ r env ⟨ss,y1,y2,y3,rfl,hl,hs,hm⟩
  obtain ⟨ma,ms⟩:=hm (a,s) List.mem_cons_self
  have ha:=xb a ma
  have hz:=S.hx s ms
  have hm':∀ z∈r,z.1∈xs/\z.2∈sizes:=fun z hz=>hm z (List.mem_cons_of_mem _ hz)
  have hl':(ss.map PV.int).length<1000:=by simp at hl ⊢;omega
  have fin:∀ v:Int,v.natAbs<2^200->(ss++[v]).length+r.length=sizes.length/\Bd 200 (ss++[v]):=fun v hv=>⟨by simp at hl ⊢;omega,fun s h'=>by
   rcases List.mem_append.mp h' with q | q
   ·exact hs s q
   ·rw [List.mem_singleton.mp q];exact hv⟩
  dsimp? [cT,bf (i:=a) (j:=4) (by decide)]
  by_cases h0:a%4=0
  ·obtain ⟨_,eg,v,rfl,hv⟩:=uG (a/4) (by omega) (by omega)
   simp only [h0,decide_true]
   dsimp? [a0 (i:=a) (j:=4) (by decide) (by decide),eg,gH,ownAt,gB hl',e7]
   obtain ⟨f1,f2⟩:=fin v (by omega)
   exact ⟨_,rfl,_,_,_,_,rfl,f1,f2,hm'⟩
  ·simp only [h0,decide_false]
   dsimp? [bf (i:=a) (j:=4) (by decide)]
   by_cases h1:a%4=1
   ·simp only [h1,decide_true]
    dsimp? [gH,ownAt,gB hl',e7]
    obtain ⟨f1,f2⟩:=fin 0 (by decide)
    exact ⟨_,rfl,_,_,_,_,rfl,f1,f2,hm'⟩
   ·simp only [h1,decide_false]
    obtain ⟨v,hv,ev⟩:=pick [1,1,2,3,4,6,12] (a/4) 7 rfl (by decide)
    rw [show ((7:Nat):Int)=7 from rfl] at ev
    simp only [List.map_cons,List.map_nil] at ev
    have hv':1<=v/\v<=12:=by simp at hv;omega
    dsimp? [a0 (i:=a) (j:=4) (by decide) (by decide),bf (i:=a/4) (j:=7) (by decide)]
    rw [ev]
    have b1:0<=a/28%s:=Int.emod_nonneg _ (by omega)
    have b2:a/28%s<s:=Int.emod_lt_of_pos _ (by omega)
    have b3:0<=a/28%s*v%s:=Int.emod_nonneg _ (by omega)
    have b4:a/28%s*v%s<s:=Int.emod_lt_of_pos _ (by omega)
    dsimp? [a0 (i:=a) (j:=28) (by decide) (by decide),bf (i:=a/28) (j:=s) (by omega),bI (i:=a/28%s) (j:=v) (k:=31) (l:=31) (by omega) (by omega),bf (i:=a/28%s*v) (j:=s) (by omega),gH,ownAt,gB hl',e7]
    obtain ⟨f1,f2⟩:=fin (a/28%s*v%s) (by omega)
    exact ⟨_,rfl,_,_,_,_,rfl,f1,f2,hm'⟩
 ·rintro env ⟨ss,y1,y2,y3,rfl,hl,hs,_⟩
  exact ⟨_,rfl,ss,rfl,by simpa using hl,hs⟩
theorem vZ (ns:List Int) {sizes:List Int} (S:Sz sizes):gf (fB [.jo (ns.map PV.int),lI sizes]) fun p=>∃ raw:List (List Int),p=.lst (raw.map lI)/\raw.length<=8/\∀ l∈raw,l.length=sizes.length/\Bd 200 l:=by
 have l6:=S.h6
 obtain ⟨c,ec⟩:=rE ns 1
 rw [show ((1:Nat):Int)=1 from rfl] at ec
 have h1:0<=c%9:=by omega
 have h2:c%9<9:=by omega
 unfold fB fH
 dsimp? [dQ,ec,bf (i:=c) (j:=9) (by decide),lq h1 (by omega)]
 refine gf.loop (xs:=List.range (c%9).toNat) (inj:=fun (i:Nat)=>.int (i:Int)) (fun zs env=>∃ (raw:List (List Int)) (y1 y2:Option SV),env=[some (.sh (.jo (ns.map PV.int))),some (.sh (lI sizes)),some (.ow (raw.map lI)),y1,y2]/\raw.length+zs.length=(c%9).toNat/\(∀ z∈zs,z<9)/\∀ l∈raw,l.length=sizes.length/\Bd 200 l) ⟨[],none,none,rfl,by simp,(fun z hz=>by rw [List.mem_range] at hz;omega),fun _ h=>nomatch h⟩ ?_ ?_
 ·rintro k r env ⟨raw,y1,y2,rfl,hl,hz,hr⟩
  have hk:=hz k List.mem_cons_self
  have hz':∀ z∈r,z<9:=fun z h=>hz z (List.mem_cons_of_mem _ h)
  obtain ⟨d,ed⟩:=rE ns (2+k)
  rw [show ((2+k:Nat):Int)=2+(k:Int) by omega] at ed
  have hl':(raw.map lI).length<1000:=by simp at hl ⊢;omega
  have fin:∀ v:List Int,v.length=sizes.length->Bd 200 v->(raw++[v]).length+r.length=(c%9).toNat/\∀ l∈raw++[v],l.length=sizes.length/\Bd 200 l:=fun v h1 h2=>⟨by simp at hl ⊢;omega,fun s h'=>by
   rcases List.mem_append.mp h' with q | q
   ·exact hr s q
   ·rw [List.mem_singleton.mp q];exact ⟨h1,h2⟩⟩
  dsimp? [da,ed,ec,a0 (i:=c) (j:=9) (by decide) (by decide),bf (i:=c/9) (j:=2) (by decide)]
  rcases two (c:=c/9) with h2 | h2
  ·simp only [h2,show ¬ (0:Int)=1 by decide,decide_false]
   obtain ⟨_,el,v,rfl,hv1,hv2⟩:=ym S (d+7919*(k:Int))
   dsimp? [bI (i:=7919) (j:=(k:Int)) (k:=31) (l:=31) (by decide) (by omega),el,gH,ownAt,gB hl']
   obtain ⟨f1,f2⟩:=fin v hv1 hv2
   exact ⟨_,rfl,raw++[v],_,_,by rw [List.map_append];rfl,f1,hz',f2⟩
  ·simp only [h2,decide_true]
   obtain ⟨v,ev,hv1,hv2⟩:=ml d (lI sizes) sizes rfl (fun b hb=>by have:=S.hx b hb;omega) (by omega)
   dsimp? [ev,gH,ownAt,gB hl']
   obtain ⟨f1,f2⟩:=fin v hv1 fun x hx=>by
    obtain ⟨i,hi,rfl⟩:=List.mem_iff_getElem.mp hx
    have h3:i<sizes.length:=by omega
    have:=hv2 (v[i],sizes[i]) (List.mem_iff_getElem.mpr ⟨i,by simp;omega,by simp⟩)
    have h4:=S.hx _ (List.getElem_mem h3)
    simp at this
    omega
   exact ⟨_,rfl,raw++[v],_,_,by rw [List.map_append];rfl,f1,hz',f2⟩
 ·rintro env ⟨raw,y1,y2,rfl,hl,_,hr⟩
  exact ⟨_,rfl,raw,rfl,by simp at hl;omega,hr⟩
theorem xA (c:Int) (m:Nat) (hm:m<=8):gf (gu [.int c,.int (m:Int)]) fun p=>∃ xs:List Int,p=tI xs/\xs.length=m/\Bd 199 xs:=by
 unfold gu gw
 dsimp? [bf (i:=c) (j:=2) (by decide),a0 (i:=c) (j:=2) (by decide) (by decide)]
 rcases two (c:=c) with h | h
 ·simp only [h,show ¬ (0:Int)=1 by decide,decide_false]
  obtain ⟨_,es,xs,rfl,xl,xb⟩:=l_ (c/2) m (by omega)
  dsimp? [dQ,es,a0 (i:=c) (j:=2) (by decide) (by decide)]
  refine gf.loop (xs:=xs) (inj:=PV.int) (fun zs env=>∃ (ss:List Int) (y:Option SV),env=[some (.sh (.int c)),some (.sh (.int (m:Int))),some (.ow (ss.map PV.int)),y]/\ss.length+zs.length=m/\Bd 199 ss/\∀ z∈zs,z∈xs) ⟨[],none,rfl,by simpa using xl,(fun _ h=>nomatch h),fun _ h=>h⟩ ?_ ?_
  ·rintro a r env ⟨ss,y,rfl,hl,hs,hz⟩
   have ha:=xb a (hz a List.mem_cons_self)
   have hl':(ss.map PV.int).length<1000:=by simp at hl ⊢;omega
   obtain ⟨_,eg,g,rfl,hg⟩:=uG (a/2) (by omega) (by omega)
   obtain ⟨v,hv,ev⟩:=pick [a/2%9-4,g] a 2 rfl (by decide)
   rw [show ((2:Nat):Int)=2 from rfl] at ev
   simp only [List.map_cons,List.map_nil] at ev
   dsimp? [da,a0 (i:=a) (j:=2) (by decide) (by decide),bf (i:=a/2) (j:=9) (by decide),eg,bf (i:=a) (j:=2) (by decide),gH,ownAt,ev,gB hl',e7]
   refine ⟨_,rfl,_,_,rfl,by simp at hl ⊢;omega,fun s h'=>?_,fun z h=>hz z (List.mem_cons_of_mem _ h)⟩
   rcases List.mem_append.mp h' with q | q
   ·exact hs s q
   ·rw [List.mem_singleton.mp q]
    simp at hv
    rcases hv with rfl | rfl
    ·omega
    ·exact hg
  ·rintro env ⟨ss,y,rfl,hl,hs,_⟩
   exact ⟨_,rfl,ss,rfl,by simpa using hl,hs⟩
 ·simp only [h,decide_true]
  obtain ⟨xs,ex,xl,xb⟩:=ml (c/2) (.lst (List.replicate m (.int (2*10^30-1)))) (List.replicate m (2*10^30-1)) (by rw [List.map_replicate];rfl) (fun b hb=>by rw [wy hb];decide) (by simp;omega)
  rw [List.length_replicate] at xl
  dsimp? [a0 (i:=c) (j:=2) (by decide) (by decide),zM,bI (i:=2) (j:=10^30) (k:=60) (l:=200) (by decide) (by decide),tK (.int (2*10^30-1)) m (by omega),ex,List.length_map,aA (aZ (show xs.length<=1000 by omega)),iW (f:=av g_ (af 0) (av g_ (av vA (fun _=>M.ok (.int 10)) (fun _=>M.ok (.int 30))) (fun _=>M.ok (.int 1)))) (inj:=PV.int) (h:=fun x=>.int (x-(10^30-1))) (rest:=[]) (x0:=none) xs fun a _=>by dsimp? [zM]]
  refine ⟨_,rfl,xs.map (·-(10^30-1)),by rw [tI,List.map_map];rfl,by simp;omega,fun x hx=>?_⟩
  obtain ⟨y,hy,rfl⟩:=List.mem_map.mp hx
  obtain ⟨i,hi,rfl⟩:=List.mem_iff_getElem.mp hy
  have:=xb (xs[i],2*10^30-1) (List.mem_iff_getElem.mpr ⟨i,by simp;omega,by simp⟩)
  simp at this
  show (xs[i]-(10^30-1)).natAbs<2^199
  omega
theorem Ek (m:Nat) (hm:m<=8):ya [.int (m:Int)]=M.ok ((List.range m).map fun (i:Nat)=>.int ((m:Int)-1-(i:Int))):=by
 rw [ya,Gi,aA (by omega),Int.toNat_natCast]
theorem zW {xs:List Int} {i:Nat} (h:i<xs.length):aX (lI xs) (.int (i:Int))=M.ok (.int (vf xs i)) :=
 cv (p:=lI xs) rfl (by rw [List.getElem?_map,List.getElem?_eq_getElem h,bN h];rfl)
theorem vm {n m:Nat} {s:dC} {A:Nat->dC} {idle:List (List Int)} {P:List Int} (I:yE n m s A m idle) (hm:m<=8) (hP:P.length=m) (hb:Bd 200 P) (hl:Led n s m A (fun _=>0) (vf P))
  (ord:∀ j,j<m->∀ P:dC,Zf (j+1) m P->Led n s m A (fun _=>0) P->II idle j j∣P j):cH [.lst (idle.map tI),lI P]=M.ok (lI (List.replicate m 0)):=by
 have il:=I.len
 refine gf.eq ?_
 unfold cH cG
 dsimp? [show (PV.lst (P.map PV.int))=lI P from rfl,List.length_map,il,Ek m hm]
 refine gf.loop (xs:=List.range m) (inj:=fun (i:Nat)=>.int ((m:Int)-1-(i:Int))) (fun zs env=>∃ (c:Nat) (y1 y2:Option SV),env=[some (.sh (.lst (idle.map tI))),some (.sh (lI P)),some (.sh (lI (aI idle m P c))),y1,y2]/\c<=m/\zs=(List.range m).drop c/\Zf (m-c) m (vf (aI idle m P c))) ⟨0,none,none,rfl,by omega,rfl,fun l h1 h2=>by omega⟩ ?_ ?_
 ·rintro k r env ⟨c,y1,y2,rfl,hc,hz,zf⟩
  obtain ⟨c1,c2,c3⟩:=drop_cons hz.symm
  rw [List.length_range] at c1
  have ek:k=c:=by rw [List.getElem?_range c1] at c2;exact (Option.some.inj c2).symm
  subst ek
  have sl:=span_len I hP k (by omega)
  have sb:=tm I hP (Nat.le_refl _) (B:=200) (by omega) hb k (by omega)
  have sd:=k_ I hP hl k (by omega)
  obtain ⟨j,hj⟩:∃ j,j=m-1-k:=⟨_,rfl⟩
  have ej:((m:Int)-1-(k:Int))=(j:Int):=by omega
  have jm:j<m:=by omega
  have rl:=I.l2 j jm
  have pj:=I.pos j jm
  have lj:=I.le j jm
  have bj:=I.bd jm (Nat.le_refl _)
  have zf':Zf (j+1) m (vf (aI idle m P k)):=by rw [show j+1=m-k by omega];exact zf
  have dv:=ord j jm _ zf' sd
  have key:cO (cT 0 1) none (av g_ (af 0) (av c_ (af 2) (af 1))) (((aI idle m P k).zip (idle.getD j [])).map fun z=>.tup [.int z.1,.int z.2]) [none,none,some (.sh (.int (vf (aI idle m P k) j/II idle j j)))]=M.ok ((aI idle m P (k+1)).map PV.int):=by
   rw [mq (p:=fun z:Int×Int=>PV.int z.1) (q:=fun z:Int×Int=>PV.int z.2) (h:=fun z=>.int (z.1-vf (aI idle m P k) j/II idle j j*z.2)) ((aI idle m P k).zip (idle.getD j [])) fun z hz=>?_]
   ·simp only [aI]
    rw [mF,← hj,List.map_map]
    refine congrArg M.ok (List.map_congr_left fun z _=>?_)
    show PV.int _=PV.int _
    rw [show vf (idle.getD j []) j=II idle j j from rfl]
    congr 1;grind
   ·have hd:(vf (aI idle m P k) j/II idle j j).natAbs<2^800:=by
     have h1:=sb.vf j
     have h2:(vf (aI idle m P k) j/II idle j j).natAbs<=(vf (aI idle m P k) j).natAbs:=Int.natAbs_ediv_le_natAbs _ _
     exact Nat.lt_of_le_of_lt h2 (Nat.lt_of_lt_of_le h1 (Nat.pow_le_pow_right (by decide) (by omega)))
    dsimp? [bI (k:=800) (l:=60) hd (bj _ (nX hz).2)]
  have z1:((aI idle m P k).zip (idle.getD j [])).length<=sizeLine:=by rw [List.length_zip];exact aZ (Nat.le_trans (Nat.min_le_left _ _) (by omega))
  have sl2:=span_len I hP (k+1) (by omega)
  have e0:vf (aI idle m P (k+1)) j=0:=by
   rw [kh I hP c1 jm,← hj,Int.ediv_mul_cancel dv];omega
  have fd:cD (.int (vf (aI idle m P k) j)) (.int (II idle j j))=M.ok (.int (vf (aI idle m P k) j/II idle j j)):=a0 pj (by omega)
  dsimp? [da,ej,zW (xs:=aI idle m P k) (i:=j) (by omega),wV (idle:=idle) (j:=j) (by omega),kS (xs:=idle.getD j []) (i:=j) (by omega),show vf (idle.getD j []) j=II idle j j from rfl,fd,gW (p:=lI (aI idle m P k)) (q:=tI (idle.getD j [])) (aI idle m P k) (idle.getD j []) rfl rfl,List.length_map,aA z1,key]
  have ei:aX (.lst ((aI idle m P (k+1)).map PV.int)) (.int (j:Int))=M.ok (.int 0):=(zW (xs:=aI idle m P (k+1)) (i:=j) (by omega)).trans (by rw [e0])
  dsimp? [ei,decide_true]
  refine ⟨_,rfl,k+1,_,_,rfl,by omega,c3.symm,fun l h1 h2=>?_⟩
  by_cases hlj:l=j
  ·rw [hlj];exact e0
  ·rw [kh I hP c1 h2,← hj,I.zero j jm l (by omega) h2,zf l (by omega) h2];simp
 ·rintro env ⟨c,y1,y2,rfl,hc,hz,zf⟩
  have:c=m:=by
   have:=congrArg List.length hz
   rw [List.length_drop,List.length_range] at this
   simp at this;omega
  subst this
  refine ⟨_,rfl,?_⟩
  rw [vV (xs:=aI idle c P c) (ys:=List.replicate c 0) (by rw [span_len I hP c (by omega)];simp) fun i hi=>by rw [span_len I hP c (by omega)] at hi;rw [iS,zf i (by omega) hi]]
theorem getD_at {α β:Type} (f:α->β) {xs:List α} {a:α} {b:β} {l:Nat} (h:l<xs.length):(xs.map f).getD l b=f (xs.getD l a):=by
 rw [List.getD_eq_getElem?_getD,List.getD_eq_getElem?_getD,List.getElem?_map,List.getElem?_eq_getElem h];rfl
theorem getD_mem {α:Type} {xs:List α} {a:α} {l:Nat} (h:l<xs.length):xs.getD l a∈xs:=by
 rw [List.getD_eq_getElem?_getD,List.getElem?_eq_getElem h];exact List.getElem_mem h
theorem zU {sizes:List Int} {raw:List (List Int)} (S:Sz sizes) (hr:∀ l∈raw,l.length=sizes.length/\Bd 200 l):Hv sizes.length raw.length sizes (raw.map fun l=>xV l sizes)/\∀ l,l<raw.length->∀ i,i<sizes.length->AA (raw.map fun l=>xV l sizes) l i=vf (raw.getD l []) i%vf sizes i:=by
 have e:∀ l,l<raw.length->∀ i,i<sizes.length->AA (raw.map fun l=>xV l sizes) l i=vf (raw.getD l []) i%vf sizes i:=fun l hl i hi=>by
  unfold AA
  rw [getD_at (a:=[]) _ hl,Az,jw (by rw [(hr _ (getD_mem hl)).1];exact hi) hi]
 refine ⟨⟨by simp,fun l hl=>?_,fun l hl i hi=>?_⟩,e⟩
 ·rw [getD_at (a:=[]) _ hl,Az,jr,(hr _ (getD_mem hl)).1];omega
 ·rw [e l hl i hi]
  have:=S.hx _ (List.getElem_mem hi)
  rw [← bN hi] at this
  exact ⟨Int.emod_nonneg _ (by omega),Int.emod_lt_of_pos _ (by omega)⟩
theorem Ho {sizes:List Int} (S:Sz sizes):∀ i,i<sizes.length->0<vf sizes i/\vf sizes i<=360:=fun i hi=>by
 have:=S.hx _ (List.getElem_mem hi)
 rw [← bN hi] at this
 omega
theorem EN {sizes xs:List Int} (h:xs.length=sizes.length) (h0:∀ i,i<sizes.length->0<=vf xs i/\vf xs i<vf sizes i):EV sizes xs:=⟨h,fun z hz=>by
 obtain ⟨i,hi,rfl⟩:=List.mem_iff_getElem.mp hz
 rw [List.length_zip] at hi
 have:=h0 i (by omega)
 rw [bN (by omega),bN (by omega)] at this
 simpa using this⟩
theorem w9 {m:Nat} {P B C:Nat->Int} {s:Int} (h:∀ l,l<m->s∣B l-C l):s∣(dy m fun l=>P l*B l)-dy m fun l=>P l*C l:=by
 induction m with
 | zero=>exact ⟨0,by simp [dy]⟩
 | succ m ih =>
  obtain ⟨a,ha⟩:=ih fun l hl=>h l (by omega)
  obtain ⟨b,hb⟩:=h m (by omega)
  exact ⟨a+P m*b,by rw [dy,dy];grind⟩
def pF (ns:List Int) (a b:Nat):List Int:=(ns.drop (HT.dU ns.length 0 (some (a:Int)))).take (HT.dU ns.length ns.length (some (b:Int))-HT.dU ns.length 0 (some (a:Int)))
theorem CU (ns:List Int) (a b:Nat):sT (.jo (ns.map PV.int)) (some (a:Int)) (some (b:Int))=M.ok (.lst ((pF ns a b).map PV.int)):=by
 show M.ok (PV.lst (vW (ns.map PV.int) _ _))=_
 rw [vW,pF,List.map_take,List.map_drop,List.length_map]
theorem qD (ns:List Int) (a b:Nat):(pF ns a b).length<=b-a:=by
 unfold pF
 rw [List.length_take,List.length_drop,HT.xc,HT.xc]
 omega
theorem x9 (xs:List Int) (h:xs.length<=100):iw (.lst (xs.map PV.int)) (.lst [.int 0])=M.ok (lI (xs++[0])):=by
 rw [iw,aA (aZ (by simp;omega)),lI,List.map_append];rfl
theorem ve {xs:List Int} {z:Int×Nat} (h:z∈xs.zipIdx):z.2<xs.length:=by
 obtain ⟨i,hi,rfl⟩:=List.mem_iff_getElem.mp h
 simp at hi ⊢;exact hi
theorem vb (xs:List Int):(xs.map fun _=>PV.int 0)=(List.replicate xs.length 0).map PV.int:=by
 rw [List.map_replicate];simp [List.map_const']
theorem vx (xs:List (List Int)):(xs.map fun _=>PV.int 0)=(List.replicate xs.length 0).map PV.int:=by
 rw [List.map_replicate];simp [List.map_const']
theorem ET (Ls:List (List Int)) (i:Nat):AA Ls Ls.length i=0:=by
 unfold AA
 rw [List.getD_eq_getElem?_getD,List.getElem?_eq_none (Nat.le_refl _)]
 exact oW (Nat.zero_le _)
theorem EA (ns:List Int):rA [.jo (ns.map PV.int)]=M.ok (.bl true):=by
 obtain ⟨c0,ec⟩:=rE ns 0
 rw [show ((0:Nat):Int)=0 from rfl] at ec
 obtain ⟨_,es,sizes,rfl,S⟩:=xm c0
 obtain ⟨_,el,raw,rfl,r8,hr⟩:=vZ ns S
 have l6:=S.h6
 have sp:=Ho S
 obtain ⟨LL,eA⟩:=zU S hr
 have mk1:=B6 sizes raw S r8 fun l h=>(hr l h).1
 have hm:raw.length=(raw.map fun l=>xV l sizes).length:=by simp
 generalize hLs:(raw.map fun l=>xV l sizes)=Ls at *
 rw [hm] at LL r8
 have K:=zC.all (c:=cf) rfl sp LL y0 l6 Ls.length (Nat.le_refl _)
 have mk2:=Bh S.h1 l6 r8 sp LL
 generalize RK cf sizes Ls sizes.length Ls.length Ls.length=rk at *
 have Sr:=Fx K.st l6 (ET Ls)
 generalize hR:oE sizes rk.1 sizes.length=R at *
 obtain ⟨_,idle⟩:=rk
 have I:=K.tF
 have ord:=K.ord
 simp only at I ord mk2
 change _=M.ok (pI sizes Ls R idle) at mk2
 have il:=I.len
 have sz0:∀ s∈sizes,0<s:=fun s hs=>by have:=S.hx s hs;omega
 have nl:(List.replicate sizes.length (0:Int)).length=sizes.length:=by simp
 have n0:∀ i,i<sizes.length->0<=vf (List.replicate sizes.length 0) i/\vf (List.replicate sizes.length 0) i<vf sizes i:=fun i hi=>by rw [iS];have:=sp i hi;omega
 have k0:∀ (x0:Option SV),cO (da 0) none (fun _=>M.ok (.int 0)) (sizes.map PV.int) [x0]=M.ok ((List.replicate sizes.length 0).map PV.int):=fun x0=>by
  rw [iW (h:=fun _=>.int 0) sizes fun a _=>rfl,vb]
 have k1:∀ (x0:Option SV),cO (da 0) none (fun _=>M.ok (.int 0)) (raw.map lI) [x0]=M.ok ((List.replicate Ls.length 0).map PV.int):=fun x0=>by
  rw [iW (h:=fun _=>.int 0) raw fun a _=>rfl,vx,hm]
 have mr:∀ (m:Str) (sem:List PV->M PV) (x:M (List PV)),(sA (jQ sizes Ls) R idle).lookup m=none->Av aG m sem (pI sizes Ls R idle) x=x.bind fun ps=>sem (pI sizes Ls R idle::ps):=fun m sem x h=>yj h
 refine gf.eq ?_
 unfold rA DA
 dsimp? [ec,es,el,mk1,mk2,oS,mr "idle" cS _ rfl,w8,List.length_map,aA (aZ (show sizes.length<=1000 by omega)),k0,hm,il,decide_true,vg,sZ,F3,show sT (.jo (ns.map PV.int)) (some 10) (some 40)=M.ok (.lst ((pF ns 10 40).map PV.int)) from CU ns 10 40,x9 (pF ns 10 40) (by have:=qD ns 10 40;omega),t9]
 rw [show PV.tup ((List.replicate sizes.length 0).map PV.int)=tI (List.replicate sizes.length 0) from rfl]
 refine gf.loop (xs:=(pF ns 10 40++[0]).zipIdx) (inj:=fun z=>.tup [.int (z.2:Int),.int z.1]) (fun zs env=>∃ (y6 y7 y8 y9 y10 y11:Option SV),env=[some (.sh (.jo (ns.map PV.int))),some (.sh (lI sizes)),some (.sh (.lst (raw.map lI))),some (.sh (pI sizes Ls R idle)),some (.sh (.lst (idle.map tI))),some (.sh (tI (List.replicate sizes.length 0))),y6,y7,y8,y9,y10,y11,none]/\∀ z∈zs,z.2<100) ⟨_,_,_,_,_,_,rfl,fun z hz=>by have:=ve hz;have:=qD ns 10 40;simp at *;omega⟩ ?_ ?_
 ·rintro ⟨a,k⟩ r env ⟨y6,y7,y8,y9,y10,y11,rfl,hz⟩
  have hk:=hz (a,k) List.mem_cons_self
  have hz':∀ z∈r,z.2<100:=fun z h=>hz z (List.mem_cons_of_mem _ h)
  simp only at hk
  obtain ⟨_,ep,P,rfl,Pl,Pb⟩:=xA (a+7919*(k:Int)) Ls.length r8
  obtain ⟨F,eF,Fl,F0,Fd⟩:=qS (q:=tI (List.replicate sizes.length 0)) (p2:=tI P) sz0 l6 nl rfl n0 hr (Pb.mono (by omega)) (by rw [Pl,hm]) rfl
  have ledP:Led sizes.length (vf sizes) Ls.length (AA Ls) (vf F) (vf P):=fun i hi=>by
   obtain ⟨x,hx⟩:=Fd i hi
   obtain ⟨y,hy⟩:=w9 (m:=Ls.length) (P:=vf P) (B:=fun l=>vf (raw.getD l []) i) (C:=fun l=>AA Ls l i) (s:=vf sizes i) fun l hl=>by
    rw [eA l (by omega) i hi];exact mK _ _
   rw [iS,hm] at hx
   exact ⟨x+y,by grind⟩
  have gF:G sizes.length (vf sizes) (DD R) sizes.length 0 (vf F):=by
   have g:=G.sum (A:=AA Ls) (P:=vf P) Sr.gd Ls.length fun l hl=>Sr.cl l (by omega)
   exact Sr.gd.rQ (by omega) (fun i hi=>ledP i hi) g
  obtain ⟨et,Tl,ledT,Tn⟩:=AR (k:=Ls.length+1) S r8 Sr (by omega) I (EN Fl F0) F0 gF
  generalize told sizes Ls R idle F=T at *
  have Lb:Bd 200 ((P.zip T).map fun z=>z.1-z.2):=fun x hx=>by
   obtain ⟨z,hz,rfl⟩:=List.mem_map.mp hx
   have h1:=Pb _ (nX hz).1
   obtain ⟨i,hi,ei⟩:=List.mem_iff_getElem.mp (nX hz).2
   have h2:=Tn i (by omega)
   rw [bN hi,ei] at h2
   have h3:=I.le i (by omega)
   show (z.1-z.2).natAbs<2^200
   omega
  have Ll:((P.zip T).map fun z=>z.1-z.2).length=Ls.length:=by simp;omega
  have vL:∀ l,l<Ls.length->vf ((P.zip T).map fun z=>z.1-z.2) l=1*vf P l+-1*vf T l:=fun l hl=>by
   rw [bN (by rw [Ll];exact hl),bN (by omega),bN (by omega)]
   simp;omega
  generalize hL:((P.zip T).map fun z=>z.1-z.2)=L at *
  have ledL:Led sizes.length (vf sizes) Ls.length (AA Ls) (fun _=>0) (vf L):=Led.mix ledP ledT (a:=1) (b:=-1) (fun i hi=>⟨0,by grind⟩) vL
  obtain ⟨F2,eF2,F2l,F20,F2d⟩:=qS (q:=tI (List.replicate sizes.length 0)) (p2:=lI L) sz0 l6 nl rfl n0 hr Lb (by rw [Ll,hm]) rfl
  have z2:F2=List.replicate sizes.length 0:=vV (by rw [F2l];simp) fun i hi=>by
   rw [F2l] at hi
   rw [iS]
   refine iF (F20 i hi).1 (F20 i hi).2 ?_
   obtain ⟨x,hx⟩:=F2d i hi
   obtain ⟨y,hy⟩:=w9 (m:=Ls.length) (P:=vf L) (B:=fun l=>vf (raw.getD l []) i) (C:=fun l=>AA Ls l i) (s:=vf sizes i) fun l hl=>by
    rw [eA l (by omega) i hi];exact mK _ _
   obtain ⟨z,hz⟩:=ledL i hi
   rw [iS,hm] at hx
   exact ⟨x+y-z,by grind⟩
  rw [z2] at eF2
  have bo:=vm I r8 Ll Lb ledL ord
  have kz:∀ (x0 x1:Option SV),cO (cT 0 1) none (av g_ (af 0) (af 1)) ((P.zip T).map fun z=>.tup [.int z.1,.int z.2]) [x0,x1]=M.ok (L.map PV.int):=fun x0 x1=>by
   rw [mq (p:=fun z:Int×Int=>PV.int z.1) (q:=fun z:Int×Int=>PV.int z.2) (h:=fun z=>.int (z.1-z.2)) (P.zip T) fun z hz=>by dsimp? [],← hL,List.map_map];rfl
  have zl:(P.zip T).length<=sizeLine:=by rw [List.length_zip];exact aZ (Nat.le_trans (Nat.min_le_left _ _) (by omega))
  have nn:AN (tI T) .c8=M.ok (.bl false):=rfl
  dsimp? [cT,bI (i:=7919) (j:=(k:Int)) (k:=31) (l:=31) (by decide) (by omega),List.length_map,hm,ep,eF,oS,mr "pulls_to" cK _ rfl,et,nn,Tl,decide_true,gW (p:=tI P) (q:=tI T) P T rfl rfl,aA zl,kz]
  rw [show PV.lst (L.map PV.int)=lI L from rfl]
  dsimp? [eF2,Br,decide_true,bo,List.length_map,aA (aZ (show raw.length<=1000 by omega)),k1]
  rw [show PV.lst ((List.replicate Ls.length 0).map PV.int)=lI (List.replicate Ls.length 0) from rfl]
  dsimp? [Et,decide_true]
  exact ⟨_,rfl,_,_,_,_,_,_,rfl,hz'⟩
 ·rintro env ⟨y6,y7,y8,y9,y10,y11,rfl,_⟩
  have mo:vc aG "idle" dA (pI sizes Ls R idle)=M.ok (idle.map tI):=by
   rw [pI,vH rfl]
   unfold dA
   rw [zp,itemsOf]
   have:=Nu (sizes:=sizes) (Ls:=Ls) (R:=R) (idle:=idle) (g:=af 0) (env:=[some (.sh (pI sizes Ls R idle))]) rfl
   rw [show i8 1 [.obj aG (sA (jQ sizes Ls) R idle)]=[some (.sh (pI sizes Ls R idle))] from rfl,this]
   rfl
  dsimp? [vJ,z0,mo,oS,mr "idle" cS _ rfl,w8,yd,decide_true]
  exact ⟨_,rfl,rfl⟩
end wB
theorem PySem.Challenge.cw_dialvault_k26_every_idle_way_holds : PySem.Challenge.rw_dialvault_k26_every_idle_way.Holds :=
  wB.hold HD.said fun ns _ _ => wB.EA ns