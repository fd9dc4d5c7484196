import PyProof.Rows.All
import Wide.All
import OpenK.AllK
import Wide.FinOn
import Lean
import PyProof.EqAt
import PyProof.EqKinds
import PyProof.TupleCall
import PySem.Challenge.RW_dialvault_k58_whole_locks_opened_or_shut
set_option Elab.async false
set_option linter.all false
set_option maxRecDepth 100000
set_option maxHeartbeats 0
noncomputable section
theorem aR(h:True:=by rfl):True:=h
theorem aD(h:True:=by decide):True:=h
theorem aI(h:True:=by intro _;rfl):True:=h
theorem aK(h:True:=by kernel_rfl):True:=h
theorem aF(h:True:=by first | exact .inl rfl | exact .inr rfl | assumption):True:=h
theorem aU(h:True:=by with_unfolding_all rfl):True:=h
theorem aN(h:True:=by decide +kernel):True:=h
theorem aG(h:True:=by first | exact .inl rfl | exact .inr rfl):True:=h
namespace L2
open PySem PySem.Spec PyProof.Rows
abbrev Key:=Sum Int Str
def G_:Key->Value->Bool
 | .inl k,v=>Value.isInt k v
 | .inr x,v=>Value.isStrOf x v
def MU(w:World):Key->Int
 | .inl k=>hashInt k
 | .inr x=>hashStr w x
theorem cY:∀ {k:Key} {v:Value},G_ k v=true->(∃ i t,k=Sum.inl i/\v=Value.int i t)\/(∃ x t,k=Sum.inr x/\v=Value.str x t)
 | .inl i,v,h=>by
  obtain⟨t,e⟩:=Value.isInt_shape (k:=i) (v:=v) h
  exact .inl ⟨i,t,rfl,e⟩
 | .inr x,v,h=>by
  obtain⟨t,e⟩:=Value.isStrOf_shape (x:=x) (v:=v) h
  exact .inr ⟨x,t,rfl,e⟩
theorem Ji(a b:Int):decide ((Sum.inl a:Key)=Sum.inl b)=(a==b):=by
 by_cases e:a=b
 ·subst e;simp
 ·have h:¬ (Sum.inl a:Key)=Sum.inl b:=λq=>e (Sum.inl.inj q)
  rw[decide_eq_false h]
  exact(beq_eq_false_iff_ne.mpr e).symm
theorem Ib(a b:Str):decide ((Sum.inr a:Key)=Sum.inr b)=decide (a=b):=by
 by_cases e:a=b
 ·subst e;simp
 ·have h:¬ (Sum.inr a:Key)=Sum.inr b:=λq=>e (Sum.inr.inj q)
  rw[decide_eq_false h,decide_eq_false e]
theorem Ki(a:Int)(b:Str):decide ((Sum.inl a:Key)=Sum.inr b)=false:=decide_eq_false (λq=>nomatch q)
theorem Ia(a:Str)(b:Int):decide ((Sum.inr a:Key)=Sum.inl b)=false:=decide_eq_false (λq=>nomatch q)
def zN(prog:Program)(w:World):PySem.KeyKind prog w Key where
 is:=G_
 hash:=MU w
 inj:=λv a b ha hb=>by
  rcases cY ha with ⟨i,t,rfl,rfl⟩ | ⟨x,t,rfl,rfl⟩
  ·rcases cY hb with ⟨j,u,rfl,e⟩ | ⟨y,u,rfl,e⟩
   ·injection e with e1 _;rw[e1]
   ·exact nomatch e
  ·rcases cY hb with ⟨j,u,rfl,e⟩ | ⟨y,u,rfl,e⟩
   ·exact nomatch e
   ·injection e with e1 _;rw[e1]
 byValue:=λk v h=>by
  rcases cY h with ⟨i,t,rfl,rfl⟩ | ⟨x,t,rfl,rfl⟩ <;> rfl
 pyHash:=λhv h=>by
  rcases cY hv with ⟨i,t,rfl,rfl⟩ | ⟨x,t,rfl,rfl⟩
  ·exact wpAny_pyHash_int h
  ·exact wpAny_pyHash_str h
 eqBool:=λhu hv h=>by
  rcases cY hu with ⟨i,t,rfl,rfl⟩ | ⟨x,t,rfl,rfl⟩
  ·rcases cY hv with ⟨j,u,rfl,rfl⟩ | ⟨y,u,rfl,rfl⟩
   ·rw[Ji] at h;exact wpAny_eqBool_int h
   ·rw[Ki] at h;exact SeqAt.EqAt.int_str i t y u _ _ _ _ h
  ·rcases cY hv with ⟨j,u,rfl,rfl⟩ | ⟨y,u,rfl,rfl⟩
   ·rw[Ia] at h;exact SeqAt.EqAt.str_int x t j u _ _ _ _ h
   ·rw[Ib] at h;exact wpAny_eqBool_str h
 «strs»:=λk x t v h=>by
  rcases cY h with ⟨i,u,rfl,e⟩ | ⟨y,u,rfl,e⟩
  ·exact nomatch e
  ·injection e with e1 _
   subst e1
   cases v <;> rfl
inductive V where
 | da | bl (b:Bool) | int (i:Int) | str (x:Str) | byt (b:Array UInt8) | GU (b:UInt64) | ref (a:Addr) | ty (n:String)
 deriving DecidableEq
def RelV:V->Value->Prop
 | .da,u=>u=Value.none
 | .bl b,u=>u=Value.bool b
 | .int i,u=>∃ t,u=Value.int i t
 | .str x,u=>∃ t,u=Value.str x t
 | .byt b,u=>∃ t,u=Value.bytes b t
 | .GU b,u=>∃ t,u=Value.float b t
 | .ref a,u=>u=Value.ref a
 | .ty n,u=>u=Value.type n
abbrev Vals:List V->List Value->Prop:=Paired RelV
theorem Vals.length{xs:List V}{us:List Value}(r:Vals xs us):xs.length=us.length:=Paired.length r
theorem Vals.get:∀ {xs:List V} {us:List Value} {i:Nat} {x:V},Vals xs us->xs[i]?=some x->∃ u,us[i]?=some u/\RelV x u
 | _,_,_,_,.nil,e=>by simp at e
 | _,_,0,_,.cons r _,e=>by simp at e;subst e;exact⟨_,rfl,r⟩
 | _,_,i+1,x,.cons _ t,e=>by
  obtain⟨u,h1,h2⟩:=Vals.get (i:=i) (x:=x) t (by simpa using e)
  exact⟨u,by simpa using h1,h2⟩
theorem Vals.set{x:V}{u:Value}(r:RelV x u):∀ {xs:List V} {us:List Value} (i:Nat),Vals xs us->Vals (xs.set i x) (us.set i u)
 | _,_,_,.nil=>.nil
 | _,_,0,.cons _ t=>.cons r t
 | _,_,i+1,.cons q t=>.cons q (Vals.set r i t)
theorem Vals.append:∀ {xs ys:List V} {us ws:List Value},Vals xs us->Vals ys ws->Vals (xs++ys) (us++ws)
 | _,_,_,_,.nil,s=>s
 | _,_,_,_,.cons r t,s=>.cons r (Vals.append t s)
theorem Vals.take:∀ {xs:List V} {us:List Value} (n:Nat),Vals xs us->Vals (xs.take n) (us.take n)
 | _,_,0,_=>.nil
 | _,_,_+1,.nil=>.nil
 | _,_,n+1,.cons r t=>.cons r (Vals.take n t)
theorem Vals.drop:∀ {xs:List V} {us:List Value} (n:Nat),Vals xs us->Vals (xs.drop n) (us.drop n)
 | _,_,0,r=>r
 | _,_,_+1,.nil=>.nil
 | _,_,n+1,.cons _ t=>Vals.drop n t
def nU:Option V->Option Value->Prop
 | some v,some u=>RelV v u
 | none,none=>True
 | _,_=>False
def KV{κ:Type}:List (κ×V)->List (κ×Value)->Prop:=Paired λ(p:κ×V) (q:κ×Value)=>p.1=q.1/\RelV p.2 q.2
def kV:Key->V
 | .inl i=>.int i
 | .inr x=>.str x
inductive HO where
 | lst (xs:List V)
 | tup (xs:List V)
 | dK (Qu:List (Key×V)) | dT (Qu:List (List Key×V))
 | set (S:Int->Bool) (n:Nat)
 | ins (C dx:Addr) (fs:List (Str×V))
 | own (x:Addr)
 | xd (fs:List (Str×V))
 | met (f x:Addr)
 | kz (lo hi:Int)
 | sG (o:Obj) (u:HO)
 | GP (ps:Array Value)
 | ext (φ:Heap->Prop)
abbrev Hp:=Addr->Option HO
def upd(H:Hp)(a:Addr)(o:HO):Hp:=λb=>if b=a then some o else H b
variable{a:Addr}{H:Hp}
theorem aC{o:HO}:upd H a o a=some o:=by unfold upd;rw[if_pos rfl]
variable{b:Addr}
theorem av{o:HO}(h:b≠a):upd H a o b=H b:=by unfold upd;rw[if_neg h]
theorem z_{o u:HO}:upd (upd H a o) a u=upd H a u:=by
 funext b;unfold upd;split <;> rfl
theorem cB{o:HO}(h:H a=some o)(h':H b=none):a≠b:=by
 intro e;subst e;rw[h] at h';cases h'
section
variable(P:Program)(w:World)
def cU(H:Hp)(h:Heap)(a:Addr):HO->Prop
 | .lst xs=>xs.length<=sizeLine/\∃ (Ph:List Value) (n:Nat),Vals xs Ph/\h.get? a=some { cls:=.type "list", data:=.seq Ph.toArray n }
 | .tup xs=>xs.length<=sizeLine/\∃ Ph:List Value,Vals xs Ph/\IsTup h a Ph.toArray
 | .dK Qu=>Qu.length<=sizeLine/\(a==sysModules)=false/\∃ vs,KV Qu vs/\h.DictOf (zN P w) a vs
 | .dT Qu=>Qu.length<=sizeLine/\(a==sysModules)=false/\∃ xs:List (List Key×Addr×Value),
   Paired (λ(p:List Key×V) (q:List Key×Addr×Value)=>p.1=q.1/\H q.2.1=some (.tup (p.1.map kV))/\RelV p.2 q.2.2) Qu xs ∧
   ∃ o es ep,h.get? a=some o/\o.ExactDict/\o.data=.dict es ep/\es.toList=xs.map (entryOfKey (tupleKind (zN P w)))/\(xs.map (·.1)).Nodup
 | .set S n=>h.SetOf (intKind P w) a S n
 | .ins C dx fs=>H dx=some (.own a)/\fs.length<=1000/\dx≠a/\h.get? a=some (PySem.W.instObj C dx) ∧
   ∃ mA,h.Ns1 dx mA/\(∀ f,nU (fs.lookup f) (mA f))/\PySem.Within mA (fs.map (·.1))
 | .own _=>∃ o,h.get? a=some o
 | .xd fs=>∃ mA,h.Ns1 a mA/\∀ f,nU (fs.lookup f) (mA f)
 | .kz lo hi=>∃ t u v,h.get? a=some { cls:=.type "range", data:=.fields #[.int lo t,.int hi u,.int 1 v] }
 | .sG o u=>h.get? a=some o/\cU H h a u
 | .GP ps=>h.get? a=some { cls:=.none,data:=.fields ps }
 | .met f x=>h.get? a=some (PySem.W.methodObj (.ref f) (.ref x))
 | .ext φ=>φ h/\(∃ o,h.get? a=some o)/\∀ h1 h2:Heap,φ h1->(∀ o,h1.get? a=some o->h2.get? a=some o)->φ h2
def oM(H:Hp)(h:Heap):Prop:=∀ a o,H a=some o->cU P w H h a o
end
variable{h h':Heap}{H':Hp}{w:World}{P:Program}
section
variable{o:HO}
theorem cU.lt(x:cU P w H h a o):a<h.objs.size:=by
 cases o with
 | lst xs=>obtain⟨_,_,_,_,e⟩:=x;exact Heap.lt_size e
 | tup xs=>obtain⟨_,_,_,p⟩:=x;exact p.lt
 | dK Qu=>obtain⟨_,_,_,_,o,_,_,e,_⟩:=x;exact Heap.lt_size e
 | dT Qu=>obtain⟨_,_,_,_,o,_,_,e,_⟩:=x;exact Heap.lt_size e
 | set S n=>obtain⟨o,_,_,_,e,_⟩:=x;exact Heap.lt_size e
 | ins C dx fs=>obtain⟨_,_,_,e,_⟩:=x;exact Heap.lt_size e
 | own y=>obtain⟨_,e⟩:=x;exact Heap.lt_size e
 | xd fs=>obtain⟨_,⟨_,_,_,e,_⟩,_⟩:=x;exact Heap.lt_size e
 | kz lo hi=>obtain⟨_,_,_,e⟩:=x;exact Heap.lt_size e
 | sG ob u=>obtain⟨e,_⟩:=x;exact Heap.lt_size e
 | GP ps=>exact Heap.lt_size (show h.get? a=some _ from x)
 | met f y=>exact Heap.lt_size (show h.get? a=some _ from x)
 | ext φ=>obtain⟨_,⟨_,e⟩,_⟩:=x;exact Heap.lt_size e
theorem Paired.Mn{α β:Type}{F G:α->β->Prop}:∀ {l₁:List α} {l₂:List β},Paired F l₁ l₂->(∀ a b,F a b->G a b)->Paired G l₁ l₂
 | _,_,.nil,_=>.nil
 | _,_,.cons r t,f=>.cons (f _ _ r) (Paired.Mn t f)
theorem cU.pB(x:cU P w H h a o)(k:∀ b u,(b=a\/H b=some (.own a))->h.get? b=some u->h'.get? b=some u)
  (ho:∀ b,H b=some (.own a)->H' b=some (.own a)) (ht:∀ b xs,H b=some (.tup xs)->H' b=some (.tup xs)):cU P w H' h' a o:=by
 induction o with
 | lst xs=>obtain⟨z,Ph,n,r,e⟩:=x;exact⟨z,Ph,n,r,k _ _ (.inl rfl) e⟩
 | tup xs=>obtain⟨z,Ph,r,ob,e,c⟩:=x;exact⟨z,Ph,r,ob,k _ _ (.inl rfl) e,c⟩
 | dK Qu=>obtain⟨z,y,vs,r,ob,es,ep,e,c⟩:=x;exact⟨z,y,vs,r,ob,es,ep,k _ _ (.inl rfl) e,c⟩
 | dT Qu =>
  obtain⟨z,y,xs,r,ob,es,ep,e,c⟩:=x
  exact⟨z,y,xs,Paired.Mn r λp q z=>⟨z.1,ht _ _ z.2.1,z.2.2⟩,ob,es,ep,k _ _ (.inl rfl) e,c⟩
 | set S n=>obtain⟨ob,es,ep,t,e,c⟩:=x;exact⟨ob,es,ep,t,k _ _ (.inl rfl) e,c⟩
 | ins C dx fs =>
  obtain⟨d,z,ne,e,mA,⟨od,es,ep,e2,c⟩,r⟩:=x
  exact⟨ho _ d,z,ne,k _ _ (.inl rfl) e,mA,⟨od,es,ep,k _ _ (.inr d) e2,c⟩,r⟩
 | own y=>obtain⟨ob,e⟩:=x;exact⟨ob,k _ _ (.inl rfl) e⟩
 | xd fs=>obtain⟨mA,⟨od,es,ep,e,c⟩,r⟩:=x;exact⟨mA,⟨od,es,ep,k _ _ (.inl rfl) e,c⟩,r⟩
 | kz lo hi=>obtain⟨t,u,v,e⟩:=x;exact⟨t,u,v,k _ _ (.inl rfl) e⟩
 | sG ob u ih=>obtain⟨e,q⟩:=x;exact⟨k _ _ (.inl rfl) e,ih q⟩
 | GP ps =>
  have e:h.get? a=some { cls:=.none,data:=.fields ps }:=x
  show h'.get? a=some { cls:=.none,data:=.fields ps }
  exact k a _ (.inl rfl) e
 | met f y =>
  have e:h.get? a=some (PySem.W.methodObj (.ref f) (.ref y)):=x
  show h'.get? a=some (PySem.W.methodObj (.ref f) (.ref y))
  exact k a _ (.inl rfl) e
 | ext φ=>obtain⟨p,⟨o,e⟩,st⟩:=x;exact⟨st _ _ p λo q=>k _ _ (.inl rfl) q,⟨o,k _ _ (.inl rfl) e⟩,st⟩
theorem oM.lt(x:oM P w H h)(e:H a=some o):a<h.objs.size:=(x a o e).lt
theorem oM.fresh(x:oM P w H h)(e:h.objs.size<=a):H a=none:=by
 cases q:H a with
 | none=>rfl
 | some u=>exact absurd (Nat.lt_of_lt_of_le (x.lt q) e) (Nat.lt_irrefl _)
theorem oM.kept(x:oM P w H h)(k:∀ b u,h.get? b=some u->h'.get? b=some u):oM P w H h':=λa o e =>
 (x a o e).pB (λb u _ q=>k b u q) (λ_ q=>q) λ_ _ q=>q
theorem oM.laid(x:oM P w H h)(k:∀ b u,h.get? b=some u->h'.get? b=some u)(hp:h.objs.size<=a)(new:cU P w (upd H a o) h' a o):oM P w (upd H a o) h':=λb u e=>by
 have hn:=x.fresh hp
 by_cases hb:b=a
 ·subst hb;rw[aC] at e;cases e;exact new
 ·rw[av hb] at e
  exact(x b u e).pB (λc v _ q=>k c v q) (λc q=>by rw[av (cB q hn)];exact q) λc xs q=>by rw[av (cB q hn)];exact q
end
def Rd(H:Hp)(a:Addr)(u:HO):Prop:=H a=some u\/∃ o,H a=some (.sG o u)
theorem Rd.ok{u:HO}(r:Rd H a u)(x:oM P w H h):cU P w H h a u:=by
 rcases r with r | ⟨o,r⟩
 ·exact x a u r
 ·obtain⟨_,q⟩:=x a _ r
  exact q
def MD:Option HO->Prop
 | some (.lst _)=>True
 | some (.dK _)=>True
 | some (.dT _)=>True
 | some (.set _ _)=>True
 | some (.ins _ _ _)=>True
 | some (.ext _)=>True
 | _=>False
section
variable{x e:Addr}{o':HO}
theorem oM.write(ok:oM P w H h)(mu:MD (H x))(he:e=x\/H e=some (.own x))(k:∀ b u,b≠e->h.get? b=some u->h'.get? b=some u)(SO:∃ u,h'.get? e=some u)
  (new:cU P w (upd H x o') h' x o'):oM P w (upd H x o') h':=λb u q=>by
 have Tq:∀ c y,H c=some (.own y)->c≠x:=λc y r z=>by subst z;rw[r] at mu;exact mu
 have ntup:∀ c xs,H c=some (.tup xs)->c≠x:=λc xs r z=>by subst z;rw[r] at mu;exact mu
 by_cases hb:b=x
 ·subst hb;rw[aC] at q;cases q;exact new
 ·rw[av hb] at q
  by_cases RI:b=e
  ·have q':H b=some (.own x):=by
    rcases he with z | z
    ·exact absurd (RI.trans z) hb
    ·rw[RI];exact z
   rw[q] at q';cases q'
   obtain⟨v,hv⟩:=SO
   exact⟨v,by rw[RI];exact hv⟩
  ·refine(ok b u q).pB (λc v hc r=>k c v ?_ r) (λc r=>by rw[av (Tq c b r)];exact r) λc xs r=>by rw[av (ntup c xs r)];exact r
   rcases hc with rfl | hc
   ·exact RI
   ·rintro rfl
    rcases he with z | z
    ·exact Tq c b hc z
    ·rw[hc] at z;cases z;exact hb rfl
end
structure Un (fs ex:List Addr) (H H':Hp) (h h':Heap):Prop where
 keep:∀ b o,h.get? b=some o->H b=none->b ∉ fs->b ∉ ex->h'.get? b=some o
 slot:∀ b o,h.get? b=some o->H b=none->b∈fs->b ∉ ex->∃ sl,h'.get? b=some { o with slots:=sl }
 free:∀ b o,h.get? b=some o->H b=none->b ∉ ex->H' b=none
 there:∀ b o,h.get? b=some o->b ∉ ex->∃ o',h'.get? b=some o'
 u7:∀ b xs,H b=some (.tup xs)->H' b=some (.tup xs)
 oI:∀ b o u,H b=some (.sG o u)->H' b=some (.sG o u)
 vz:∀ b ps,H b=some (.GP ps)->∃ more,H' b=some (.GP (ps++more))
section
variable{fs So ex ex':List Addr}{H1 H2:Hp}{h1 h2:Heap}{x e:Addr}{o:HO}
theorem Un.any(u:Un fs ex H H1 h h1){ob:Obj}(q:h.get? b=some ob)(n:H b=none)(hx:b ∉ ex):∃ sl,h1.get? b=some { ob with slots:=sl }:=by
 by_cases hb:b∈fs
 ·exact u.slot b ob q n hb hx
 ·exact⟨ob.slots,u.keep b ob q n hb hx⟩
theorem Un.kept(k:∀ b u,h.get? b=some u->h'.get? b=some u):Un fs ex H H h h' :=
 ⟨λb ob q _ _ _=>k b ob q,λb ob q _ _ _=>⟨ob.slots,k b ob q⟩,λ_ _ _ n _=>n,λb ob q _=>⟨ob,k b ob q⟩,λ_ _ q=>q,λ_ _ _ q=>q,λ_ ps q=>⟨#[],by rw[q];simp⟩⟩
theorem Un.refl:Un fs ex H H h h:=Un.kept λ_ _ q=>q
theorem Un.laid(k:∀ b u,h.get? b=some u->h'.get? b=some u)(hp:h.objs.size<=a)(hn:H a=none):Un fs ex H (upd H a o) h h' where
 keep:=λb u q _ _ _=>k b u q
 slot:=λb u q _ _ _=>⟨u.slots,k b u q⟩
 free:=λb u q n _=>by rw[av (Nat.ne_of_lt (Nat.lt_of_lt_of_le (Heap.lt_size q) hp))];exact n
 there:=λb u q _=>⟨u,k b u q⟩
 u7:=λb xs q=>by rw[av (cB q hn)];exact q
 oI:=λb u xs q=>by rw[av (cB q hn)];exact q
 vz:=λb ps q=>⟨#[],by rw[av (cB q hn),q];simp⟩
theorem Un.write(mu:MD (H x))(he:e=x\/H e=some (.own x))(k:∀ b u,b≠e->h.get? b=some u->h'.get? b=some u)(SO:∃ u,h'.get? e=some u):Un fs ex H (upd H x o) h h':=by
 have hx:∀ b,H b=none->b≠x:=λb n z=>by subst z;rw[n] at mu;exact mu
 have hb:∀ b,H b=none->b≠e:=λb n z=>by
  subst z
  rcases he with r | r
  ·exact hx b n r
  ·rw[n] at r;cases r
 have hm:∀ b u,H b=some u->¬ MD (some u)->b≠x:=λb u q nm z=>by subst z;rw[q] at mu;exact nm mu
 refine⟨λb u q n _ _=>k b u (hb b n) q,λb u q n _ _=>⟨u.slots,k b u (hb b n) q⟩,λb u q n _=>by rw[av (hx b n)];exact n,λb u q _=>?_,
  λb xs q=>by rw[av (hm b _ q λz=>z)];exact q,λb u xs q=>by rw[av (hm b _ q λz=>z)];exact q,λb ps q=>⟨#[],by rw[av (hm b _ q λz=>z),q];simp⟩⟩
 by_cases RI:b=e
 ·subst RI;exact SO
 ·exact⟨u,k b u RI q⟩
end
def MC(h:Heap)(H:Hp):List Addr:=(List.range h.objs.size).filter λa=>(H a).isSome
def uL(h:Heap)(H:Hp):Heap:=PySem.W.hideAll h (MC h H)
theorem Bk(h:Heap)(H:Hp):(uL h H).objs.size=h.objs.size:=PySem.W.hideAll_size _ _
variable{o:Obj}
theorem DC(e:h.get? b=some o)(n:H b=none):(uL h H).get? b=some o :=
 PySem.W.hideAll_get _ e λhm=>by
  have q:(H b).isSome=true:=(List.mem_filter.mp hm).2
  rw[n] at q;simp at q
theorem Fx(e:(uL h H).get? b=some o):h.get? b=some o/\H b=none:=by
 have e':h.get? b=some o:=PySem.W.of_hideAll (MC h H) e
 refine⟨e',?_⟩
 cases q:H b with
 | none=>rfl
 | some x =>
  have hm:b∈MC h H:=List.mem_filter.mpr ⟨List.mem_range.mpr (Heap.lt_size e'),by simp[q]⟩
  have z:(uL h H).get? b=none:=PySem.W.hideAll_none (MC h H) hm
  rw[z] at e;cases e
def FK(g h:Heap)(L:Addr):List (Addr×Obj):=(List.range h.objs.size).filterMap λa=>if a=L\/(g.get? a).isSome=true then none else (h.get? a).map λo=>(a,o)
def rest(g h:Heap)(L d:Addr):List (Addr×Obj):=(FK g h L).filter λp=>decide (p.1≠d)
structure Mod (K:PySem.W.Frag) (mg:Str->Option Value) (base:Heap):Prop where
 Hj:K.In base
 glob:base.Ns mainGlobals mg
 blt:∃ mb,base.Ns builtinsNs mb/\∀ x:Str,x ≠ "__name__" -> mb x=bootBuiltins x
 nolimit:base.NoLimit
structure Cx where
 prog:Program
 w:World
 K:PySem.W.Frag
 mg:Str->Option Value
 base:Heap
 A:Around
 N:List Str
 s₀:Shared
 H₀:Hp
 env:Env
 outer:List Env
 stack:List Env
 ex:List Addr
 fn:Str->Bool
 calm:Bool
 pn:List (Addr×Obj)
 xe:Value->Shared->Prop
def xP(l:List Env):List Addr:=l.filterMap (·.frame)
abbrev Cx.fs(X:Cx):List Addr:=xP X.outer
def EN(sc:Scope)(x:Str):Prop:=sc.names.lookup x=some .local\/sc.names.lookup x=some .cell\/sc.names.lookup x=some .free
def Loc(sc:Scope)(x:Str):Prop:=sc.names.lookup x=some .local\/sc.names.lookup x=some .cell
def Look(env:Env)(h:Heap)(m:Str->Option Value)(x:Str)(u:Value):Prop :=
 (env.kindOf x=some .local/\m x=some u)\/((env.kindOf x=some .cell\/env.kindOf x=some .free)/\∃ c,env.cells.lookup x=some c/\h.IsCell c (some u))
structure Cx.Ok (X:Cx):Prop where
 mod:Mod X.K X.mg X.base
 kind:X.env.scope.kind=.function
 glob:X.env.globals=mainGlobals
 blt:X.env.builtins=builtinsNs
 above:X.s₀.heap.objs.size<=X.env.locals
 inj:∀ x y c,X.env.cells.lookup x=some c->X.env.cells.lookup y=some c->x=y
 has:∀ x,(X.env.kindOf x=some .cell\/X.env.kindOf x=some .free)->∃ c,X.env.cells.lookup x=some c
 LS:∀ x c,X.fn x=true->X.env.cells.lookup x=some c->X.s₀.heap.objs.size<=c
 hd:X.calm=true->X.A.handled=none
 frames:X.A.frames=some X.stack
 MH:X.stack=X.outer\/(X.stack=X.env::X.outer/\X.env.frame=some X.env.locals)
 MK:∀ b∈X.ex,b≠X.env.locals/\∀ x c,X.env.cells.lookup x=some c->c≠b
 bs:∀ b o,X.base.get? b=some o->X.s₀.heap.get? b=some o/\X.H₀ b=none
 G0:X.base.objs.size<=X.s₀.heap.objs.size
 Aw:∀ b o,X.base.get? b=some o->b ∉ X.ex
 Dj:∀ b∈X.ex,b ∉ X.fs
 pD:X.s₀.heap.FunFrames X.base X.outer
 HK:∀ b∈X.fs,X.H₀ b=none
structure Inv (X:Cx) (Pf:List (Addr×Obj)) (σ:List (Option V)) (H:Hp) (s:Shared):Prop where
 ok:X.Ok
 os:s.os=X.s₀.os
 bare:AllBare s.gens
 base:Un X.fs X.ex X.H₀ H X.s₀.heap s.heap
 loc:∃ m,s.heap.Ns X.env.locals m/\∀ (i:Nat) (x:Str) (v:V),X.N[i]?=some x->σ[i]?=some (some v)->EN X.env.scope x->∃ u,RelV v u/\Look X.env s.heap m x u
 cell:∀ x c,X.env.cells.lookup x=some c->∃ v,s.heap.IsCell c v
 free:H X.env.locals=none
 mi:∀ x c,X.env.cells.lookup x=some c->H c=none
 pin:∀ p∈X.pn++Pf,s.heap.get? p.1=some p.2/\H p.1=none/\p.1≠X.env.locals/\p.1 ∉ X.fs/\∀ v,p.2.data≠.cell v
 cp:oM X.prog X.w H s.heap
 len:σ.length=X.N.length
variable{s:Shared}{Pf:List (Addr×Obj)}{X:Cx}
variable{ch:List Addr}{d':Drawn}{t':Nat}{g':Array GenState}
variable{it:Addr}
variable{x:Str}{i:Nat}{N:List Str}
variable{u:Value}{v:V}{E:Value->Shared->Prop}{A:Around}
section
variable{σ:List (Option V)}
theorem Cx.Ok.MN(ok:X.Ok)(e:X.base.get? b=some o):b ∉ X.fs:=λhb=>by
 have:=(ok.pD.mem hb).1
 rw[e] at this;cases this
theorem Inv.bs(I:Inv X Pf σ H s):∀ b o,X.base.get? b=some o->s.heap.get? b=some o/\H b=none:=λb o e =>
 ⟨I.base.keep b o (I.ok.bs b o e).1 (I.ok.bs b o e).2 (I.ok.MN e) (I.ok.Aw b o e),I.base.free b o (I.ok.bs b o e).1 (I.ok.bs b o e).2 (I.ok.Aw b o e)⟩
theorem Inv.bk(I:Inv X Pf σ H s):∀ b o,X.base.get? b=some o->s.heap.get? b=some o:=λb o e=>(I.bs b o e).1
theorem Inv.mod(I:Inv X Pf σ H s):Mod X.K X.mg X.base:=I.ok.mod
theorem Inv.kG(I:Inv X Pf σ H s):X.K.In s.heap:=I.ok.mod.Hj.keeps I.bk
theorem Inv.lt(I:Inv X Pf σ H s):X.env.locals<s.heap.objs.size:=let ⟨_,hn,_⟩:=I.loc;hn.lt
theorem Inv.sz(I:Inv X Pf σ H s):X.s₀.heap.objs.size<=s.heap.objs.size:=Nat.le_trans I.ok.above (Nat.le_of_lt I.lt)
theorem Inv.Nh(I:Inv X Pf σ H s)(h:s.heap.objs.size<=a):a ∉ X.fs:=λhb=>by
 obtain⟨_,o,ho,_⟩:=I.ok.pD.mem hb
 exact absurd (Nat.lt_of_lt_of_le (Heap.lt_size ho) (Nat.le_trans I.sz h)) (Nat.lt_irrefl _)
theorem Inv.Ic(I:Inv X Pf σ H s):∀ x c,X.env.cells.lookup x=some c->c≠X.env.locals:=λx c e z=>by
 obtain⟨v,o,ho,hd⟩:=I.cell x c e
 obtain⟨m,⟨o',es,ep,Rh,S6,_⟩,_⟩:=I.loc
 rw[z,Rh] at ho;cases ho;rw[S6] at hd;cases hd
theorem Inv.pD(I:Inv X Pf σ H s):s.heap.FunFrames X.base X.outer:=by
 have all:∀ (l:List Env),(∀ b∈xP l,b∈X.fs)->X.s₀.heap.FunFrames X.base l->s.heap.FunFrames X.base l:=by
  intro l
  induction l with
  | nil=>intro _ _;trivial
  | cons env r ih =>
   intro hs hl
   obtain⟨hk,⟨L,o,hf,hn,ho,hd⟩,hr⟩:=hl
   have hL:L∈X.fs:=hs L (by unfold xP;rw[List.filterMap_cons,hf];exact List.mem_cons_self)
   obtain⟨sl,e⟩:=I.base.slot L o ho (I.ok.HK L hL) hL λz=>I.ok.Dj L z hL
   exact⟨hk,⟨L,_,hf,hn,e,hd⟩,ih (λb hb=>hs b (by unfold xP;rw[List.filterMap_cons,hf];exact List.mem_cons_of_mem _ hb)) hr⟩
 exact all X.outer (λ_ hb=>hb) I.ok.pD
theorem Inv.stack(I:Inv X Pf σ H s):s.heap.FunFrames X.base X.stack:=by
 rcases I.ok.MH with e | ⟨e,hf⟩
 ·rw[e];exact I.pD
 ·rw[e]
  obtain⟨m,hn,_⟩:=I.loc
  refine .cons (by rw[I.ok.kind];decide) hf hn ?_ I.pD
  exact Heap.get?_none_of_le (Nat.le_trans I.ok.G0 I.ok.above)
theorem Inv.uC(I:Inv X Pf σ H s):∀ b∈xP X.stack,b∈X.env.locals::X.fs:=λb hb=>by
 rcases I.ok.MH with e | ⟨e,hf⟩
 ·rw[e] at hb;exact List.mem_cons_of_mem _ hb
 ·rw[e] at hb
  unfold xP at hb
  rw[List.filterMap_cons,hf] at hb
  exact hb
theorem Inv.uH(I:Inv X Pf σ H s):∀ b∈xP X.stack,H b=none:=λb hb=>by
 rcases List.mem_cons.mp (I.uC b hb) with e | hb
 ·rw[e];exact I.free
 ·obtain⟨_,o,ho,_⟩:=I.ok.pD.mem hb
  exact I.base.free b o ho (I.ok.HK b hb) λz=>I.ok.Dj b z hb
theorem Inv.step(I:Inv X Pf σ H s)
  (Rl:∀ b∈ch,(b∈X.ex\/X.s₀.heap.objs.size<=b)/\b≠X.env.locals/\(∀ x c,X.env.cells.lookup x=some c->c≠b)/\∀ p∈X.pn++Pf,p.1≠b)
  (keep:∀ b o,b≠X.env.locals->b ∉ X.fs->b ∉ ch->s.heap.get? b=some o->H b=none->h'.get? b=some o)
  (slot:∀ b o,b≠X.env.locals->b∈X.fs->b ∉ ch->s.heap.get? b=some o->H b=none->∃ sl,h'.get? b=some { o with slots:=sl }) (free:∀ b o,b ∉ ch->s.heap.get? b=some o->H b=none->H' b=none)
  (there:∀ b o,b ∉ ch->s.heap.get? b=some o->∃ o',h'.get? b=some o')
  (u7:∀ b xs,H b=some (.tup xs)->H' b=some (.tup xs)) (oI:∀ b o u,H b=some (.sG o u)->H' b=some (.sG o u)) (vz:∀ b ps,H b=some (.GP ps)->∃ more,H' b=some (.GP (ps++more)))
  (ns:∀ m,s.heap.Ns X.env.locals m->h'.Ns X.env.locals m) (cp:oM X.prog X.w H' h') (hg:AllBare g') :
  Inv X Pf σ H' { s with heap:=h',gens:=g',drawn:=d',toks:=t' }:=by
 have neL:∀ b o,X.s₀.heap.get? b=some o->b≠X.env.locals:=λb o e=>Nat.ne_of_lt (Nat.lt_of_lt_of_le (Heap.lt_size e) I.ok.above)
 have neC:∀ b o,X.s₀.heap.get? b=some o->b ∉ X.ex->b ∉ ch:=λb o e hx hb=>by
  rcases(Rl b hb).1 with z | z
  ·exact hx z
  ·exact absurd (Nat.lt_of_lt_of_le (Heap.lt_size e) z) (Nat.lt_irrefl _)
 have cellK:∀ x c,X.env.cells.lookup x=some c->∀ v,s.heap.IsCell c v->h'.IsCell c v:=λx c e v ⟨o,ho,hd⟩=>by
  have Tp:c ∉ ch:=λz=>(Rl c z).2.2.1 x c e rfl
  by_cases hc:c∈X.fs
  ·obtain⟨sl,q⟩:=slot c o (I.Ic x c e) hc Tp ho (I.mi x c e)
   exact⟨_,q,hd⟩
  ·exact⟨o,keep c o (I.Ic x c e) hc Tp ho (I.mi x c e),hd⟩
 refine⟨I.ok,I.os,hg,⟨λb o e n hb hx=>?_,λb o e n hb hx=>?_,λb o e n hx=>?_,λb o e hx=>?_,λb xs e=>u7 b xs (I.base.u7 b xs e),λb o xs e=>oI b o xs (I.base.oI b o xs e),λb ps e=>?_⟩,?_,λx c e=>?_,?_,λx c e=>?_,λp hp=>?_,cp,I.len⟩
 ·exact keep b o (neL b o e) hb (neC b o e hx) (I.base.keep b o e n hb hx) (I.base.free b o e n hx)
 ·obtain⟨sl,e1⟩:=I.base.slot b o e n hb hx
  obtain⟨sl',e2⟩:=slot b _ (neL b o e) hb (neC b o e hx) e1 (I.base.free b o e n hx)
  exact⟨sl',e2⟩
 ·obtain⟨o',e1⟩:=I.base.there b o e hx
  exact free b o' (neC b o e hx) e1 (I.base.free b o e n hx)
 ·obtain⟨o',e1⟩:=I.base.there b o e hx
  exact there b o' (neC b o e hx) e1
 ·obtain⟨m1,e1⟩:=I.base.vz b ps e
  obtain⟨m2,e2⟩:=vz b _ e1
  exact⟨m1++m2,by rw[e2,Array.append_assoc]⟩
 ·obtain⟨m,hn,hl⟩:=I.loc
  refine⟨m,ns m hn,λi x v e1 e2 e3=>?_⟩
  obtain⟨u,r,l⟩:=hl i x v e1 e2 e3
  refine⟨u,r,?_⟩
  rcases l with l | ⟨k,c,e,z⟩
  ·exact .inl l
  ·exact .inr ⟨k,c,e,cellK x c e _ z⟩
 ·obtain⟨v,z⟩:=I.cell x c e
  exact⟨v,cellK x c e v z⟩
 ·obtain⟨m,⟨o,_,_,ho,_⟩,_⟩:=I.loc
  exact free _ o (λz=>(Rl _ z).2.1 rfl) ho I.free
 ·obtain⟨v,o,ho,hd⟩:=I.cell x c e
  exact free c o (λz=>(Rl c z).2.2.1 x c e rfl) ho (I.mi x c e)
 ·obtain⟨e,n,ne,nf,d⟩:=I.pin p hp
  have Tp:p.1 ∉ ch:=λz=>(Rl p.1 z).2.2.2 p hp rfl
  exact⟨keep p.1 p.2 ne nf Tp e n,free p.1 p.2 Tp e n,ne,nf,d⟩
theorem Inv.un(I:Inv X Pf σ H s)(u:Un X.fs [] H H' s.heap h')(cp:oM X.prog X.w H' h'):Inv X Pf σ H' { s with heap:=h',toks:=t' }:=by
 obtain⟨m,⟨o,es,ep,ho,r⟩,_⟩:=id I.loc
 obtain⟨sl,hL⟩:=u.any ho I.free (by simp)
 exact I.step (g':=s.gens) (d':=s.drawn) (ch:=[]) (λ_ z=>nomatch z) (λb o _ hb _ e n=>u.keep b o e n hb (by simp)) (λb o _ hb _ e n=>u.slot b o e n hb (by simp)) (λb o _ e n=>u.free b o e n (by simp)) (λb o _ e=>u.there b o e (by simp)) u.u7 u.oI u.vz (λm' hm=>by
  obtain⟨o',es',ep',Rh,r'⟩:=hm
  rw[ho] at Rh;cases Rh
  exact⟨_,es',ep',hL,r'⟩) cp I.bare
theorem Inv.call(I:Inv X Pf σ H s)(u:Un (xP X.stack) ch H H' s.heap h')(cp:oM X.prog X.w H' h')(hg:AllBare g')
  (Rl:∀ b∈ch,(b∈X.ex\/X.s₀.heap.objs.size<=b)/\b≠X.env.locals/\(∀ x c,X.env.cells.lookup x=some c->c≠b)/\∀ p∈X.pn++Pf,p.1≠b) :
  Inv X Pf σ H' { s with heap:=h',gens:=g',drawn:=d',toks:=t' }:=by
 obtain⟨m,⟨o,es,ep,ho,r⟩,_⟩:=id I.loc
 obtain⟨sl,hL⟩:=u.any ho I.free λz=>(Rl _ z).2.1 rfl
 exact I.step (ch:=ch) Rl (λb o hL hb hc e n=>u.keep b o e n (λz=>(List.mem_cons.mp (I.uC b z)).elim hL hb) hc) (λb o _ _ hc e n=>u.any e n hc) (λb o hc e n=>u.free b o e n hc) (λb o hc e=>u.there b o e hc) u.u7 u.oI u.vz (λm' hm=>by
  obtain⟨o',es',ep',Rh,r'⟩:=hm
  rw[ho] at Rh;cases Rh
  exact⟨_,es',ep',hL,r'⟩) cp hg
theorem Inv.turned(I:Inv X Pf σ H s)(k:∀ b o,b≠it->s.heap.get? b=some o->h'.get? b=some o)(hn:H it=none)(hL:it≠X.env.locals)
  (h1:it∈X.ex\/X.s₀.heap.objs.size<=it) (h2:∀ x c,X.env.cells.lookup x=some c->c≠it) (h3:∀ p∈X.pn++Pf,p.1≠it):Inv X Pf σ H { s with heap:=h',toks:=t' }:=by
 have nit:∀ b u,H b=some u->b≠it:=λb u e z=>by rw[z,hn] at e;cases e
 refine I.step (g':=s.gens) (d':=s.drawn) (ch:=[it]) (λb hb=>?_) (λb o _ _ hc e _=>k b o (λz=>hc (by simp[z])) e) (λb o _ _ hc e _=>⟨o.slots,k b o (λz=>hc (by simp[z])) e⟩) (λ_ _ _ _ n=>n)
  (λb o hc e=>⟨o,k b o (λz=>hc (by simp[z])) e⟩) (λ_ _ e=>e) (λ_ _ _ e=>e) (λb ps e=>⟨#[],by rw[e];simp⟩) (λm hm=>?_) (λb u e=>?_) I.bare
 ·have e:b=it:=by simpa using hb
  subst e
  exact⟨h1,hL,h2,h3⟩
 ·obtain⟨o,es,ep,ho,r⟩:=hm
  exact⟨o,es,ep,k _ o (Ne.symm hL) ho,r⟩
 ·refine(I.cp b u e).pB (λc v hc q=>k c v ?_ q) (λ_ q=>q) λ_ _ q=>q
  rcases hc with z | z
  ·rw[z];exact nit b u e
  ·exact nit c _ z
theorem Inv.tok(I:Inv X Pf σ H s)(t:Nat):Inv X Pf σ H { s with toks:=t }:=I.un (h':=s.heap) (t':=t) Un.refl I.cp
theorem Inv.kept{t':Nat}(I:Inv X Pf σ H s)(k:∀ b u,s.heap.get? b=some u->h'.get? b=some u):Inv X Pf σ H { s with heap:=h',toks:=t' }:=I.un (Un.kept k) (I.cp.kept k)
theorem Inv.laid{a:Addr}{o:HO}{t':Nat}(I:Inv X Pf σ H s)(k:∀ b u,s.heap.get? b=some u->h'.get? b=some u)(hp:s.heap.objs.size<=a)(new:cU X.prog X.w (upd H a o) h' a o) :
  Inv X Pf σ (upd H a o) { s with heap:=h',toks:=t' }:=I.un (Un.laid k hp (I.cp.fresh hp)) (I.cp.laid k hp new)
theorem Inv.write{x e:Addr}{o:HO}{t':Nat}(I:Inv X Pf σ H s)(mu:MD (H x))(he:e=x\/H e=some (.own x))(k:∀ b u,b≠e->s.heap.get? b=some u->h'.get? b=some u)(SO:∃ u,h'.get? e=some u)
  (new:cU X.prog X.w (upd H x o) h' x o):Inv X Pf σ (upd H x o) { s with heap:=h',toks:=t' }:=I.un (Un.write mu he k SO) (I.cp.write mu he k SO new)
theorem Inv.zp{R9:List (Addr×Obj)}(I:Inv X Pf σ H s)(h:∀ p∈R9,s.heap.get? p.1=some p.2/\H p.1=none/\p.1≠X.env.locals/\p.1 ∉ X.fs/\∀ v,p.2.data≠.cell v):Inv X R9 σ H s :=
 ⟨I.ok,I.os,I.bare,I.base,I.loc,I.cell,I.free,I.mi,λp hp=>(List.mem_append.mp hp).elim (λz=>I.pin p (List.mem_append_left _ z)) (h p),I.cp,I.len⟩
theorem vS(hN:N.Nodup){j:Nat}(a:N[i]?=some x)(b:N[j]?=some x):i=j:=by
 obtain⟨h1,e1⟩:=List.getElem?_eq_some_iff.mp a
 obtain⟨h2,e2⟩:=List.getElem?_eq_some_iff.mp b
 exact(List.getElem_inj hN).mp (e1.trans e2.symm)
theorem oz{M:Model}{Q:Unit->Shared->Prop}(I:Inv X Pf σ H s)(hN:X.N.Nodup)(hi:X.N[i]?=some x)(hx:Loc X.env.scope x)(r:RelV v u)
  (h:∀ s',Inv X Pf (σ.set i (some v)) H s'->(∃ a,Heap.SameBut a s.heap s'.heap/\(a=X.env.locals\/X.env.cells.lookup x=some a))->Q () s') (hf:autoParam (X.fn x=true\/X.env.scope.names.lookup x=some .local) aF._auto_1):wpAny M A (storeName X.env x u) Q E s:=by
 obtain⟨m,hn,hl⟩:=id I.loc
 have hcls:(X.env.scope.kind==.class||(X.env.scope.kind==.module&&X.env.locals != X.env.globals))=false:=by rw[I.ok.kind];rfl
 have hiσ:i<σ.length:=by rw[I.len];exact(List.getElem?_eq_some_iff.mp hi).1
 have Ic:=I.Ic
 have tracked:∀ {a:Addr} {h':Heap},(∃ o,s.heap.get? a=some o/\H a=none)->Heap.SameBut a s.heap h'->oM X.prog X.w H h':=λ{a h'} ha hs b ob e=>by
  obtain⟨_,_,RD⟩:=ha
  refine(I.cp b ob e).pB (λc w' hc q=>(hs.2 c ?_).trans q) (λ_ q=>q) λ_ _ q=>q
  rintro rfl
  rcases hc with rfl | hc
  ·rw[RD] at e;cases e
  ·rw[RD] at hc;cases hc
 rcases hx with hk | hk
 ·refine wpAny_storeName_local hk hn (λh' hn' hs=>?_) hcls
  obtain⟨oL,_,_,hoL,_⟩:=id hn
  refine h _ ⟨I.ok,I.os,I.bare,⟨λb o e n hb hx=>?_,λb o e n hb hx=>?_,I.base.free,λb o e hx=>?_,I.base.u7,I.base.oI,I.base.vz⟩,⟨_,hn',λj y v' e1 e2 e3=>?_⟩,λy c e=>?_,I.free,I.mi,λp hp=>?_,tracked ⟨oL,hoL,I.free⟩ hs,by simpa using I.len⟩ ⟨_,hs,.inl rfl⟩
  ·exact(hs.2 b (Nat.ne_of_lt (Nat.lt_of_lt_of_le (Heap.lt_size e) I.ok.above))).trans (I.base.keep b o e n hb hx)
  ·obtain⟨sl,e1⟩:=I.base.slot b o e n hb hx
   exact⟨sl,(hs.2 b (Nat.ne_of_lt (Nat.lt_of_lt_of_le (Heap.lt_size e) I.ok.above))).trans e1⟩
  ·obtain⟨o',e1⟩:=I.base.there b o e hx
   exact⟨o',(hs.2 b (Nat.ne_of_lt (Nat.lt_of_lt_of_le (Heap.lt_size e) I.ok.above))).trans e1⟩
  ·by_cases hj:j=i
   ·subst hj
    rw[hi] at e1;cases e1
    rw[List.getElem?_set_self hiσ] at e2
    cases e2
    exact⟨u,r,.inl ⟨hk,by simp⟩⟩
   ·rw[List.getElem?_set_ne (Ne.symm hj)] at e2
    obtain⟨u',r',q⟩:=hl j y v' e1 e2 e3
    refine⟨u',r',?_⟩
    rcases q with ⟨k,e⟩ | ⟨k,c,e,z⟩
    ·refine .inl ⟨k,?_⟩
     have:y≠x:=λe=>hj (vS hN e1 (e▸hi))
     simp[this,e]
    ·exact .inr ⟨k,c,e,z.sameBut hs (Ic y c e)⟩
  ·obtain⟨w',z⟩:=I.cell y c e
   exact⟨w',z.sameBut hs (Ic y c e)⟩
  ·obtain⟨e,n,ne,nf,d⟩:=I.pin p hp
   exact⟨(hs.2 p.1 ne).trans e,n,ne,nf,d⟩
 ·have hfn:X.fn x=true:=by
   rcases hf with z | z
   ·exact z
   ·rw[z] at hk;cases hk
  obtain⟨c,hc⟩:=I.ok.has x (.inl hk)
  obtain⟨w',z⟩:=I.cell x c hc
  refine wpAny_storeName_cell I.ok.kind hk hc z (λh' Sg hs=>?_)
  obtain⟨oc,hoc,hocd⟩:=id z
  refine h { s with heap:=h' } ⟨I.ok,I.os,I.bare,⟨λb o e n hb hx=>?_,λb o e n hb hx=>?_,I.base.free,λb o e hx=>?_,I.base.u7,I.base.oI,I.base.vz⟩,⟨m,hn.sameBut hs (Ne.symm (Ic x c hc)),λj y v' e1 e2 e3=>?_⟩,λy c' e=>?_,I.free,I.mi,λp hp=>?_,tracked ⟨oc,hoc,I.mi x c hc⟩ hs,by simpa using I.len⟩ ⟨c,hs,.inr hc⟩
  ·exact(hs.2 b (Nat.ne_of_lt (Nat.lt_of_lt_of_le (Heap.lt_size e) (I.ok.LS x c hfn hc)))).trans (I.base.keep b o e n hb hx)
  ·obtain⟨sl,e1⟩:=I.base.slot b o e n hb hx
   exact⟨sl,(hs.2 b (Nat.ne_of_lt (Nat.lt_of_lt_of_le (Heap.lt_size e) (I.ok.LS x c hfn hc)))).trans e1⟩
  ·obtain⟨o',e1⟩:=I.base.there b o e hx
   exact⟨o',(hs.2 b (Nat.ne_of_lt (Nat.lt_of_lt_of_le (Heap.lt_size e) (I.ok.LS x c hfn hc)))).trans e1⟩
  ·by_cases hj:j=i
   ·subst hj
    rw[hi] at e1;cases e1
    rw[List.getElem?_set_self hiσ] at e2
    cases e2
    exact⟨u,r,.inr ⟨.inl hk,c,hc,Sg⟩⟩
   ·rw[List.getElem?_set_ne (Ne.symm hj)] at e2
    obtain⟨u',r',q⟩:=hl j y v' e1 e2 e3
    refine⟨u',r',?_⟩
    rcases q with q | ⟨k,c',e,z'⟩
    ·exact .inl q
    ·refine .inr ⟨k,c',e,z'.sameBut hs ?_⟩
     rintro rfl
     exact hj (vS hN e1 (I.ok.inj _ _ _ e hc▸hi))
  ·by_cases hcc:c'=c
   ·subst hcc;exact⟨_,Sg⟩
   ·obtain⟨w2,z2⟩:=I.cell y c' e
    exact⟨w2,z2.sameBut hs hcc⟩
  ·obtain⟨e,n,ne,nf,d⟩:=I.pin p hp
   refine⟨(hs.2 p.1 ?_).trans e,n,ne,nf,d⟩
   intro q
   rw[q,hoc] at e
   have q':oc=p.2:=Option.some.inj e
   exact d w' (by rw[← q'];exact hocd)
theorem nL{M:Model}{Q:Unit->Shared->Prop}(I:Inv X Pf σ H s)(hN:X.N.Nodup)(hi:X.N[i]?=some x)(hx:Loc X.env.scope x)(r:RelV v u)
  (h:∀ s',Inv X Pf (σ.set i (some v)) H s'->Q () s') (hf:autoParam (X.fn x=true\/X.env.scope.names.lookup x=some .local) aF._auto_1):wpAny M A (storeName X.env x u) Q E s :=
 oz I hN hi hx r (λs' I' _=>h s' I') hf
theorem Inv.BQ{s':Shared}(I:Inv X Pf σ H s)(ho:s'.os=s.os)(u:Un (xP X.stack) ch H H' s.heap s'.heap)(cp:oM X.prog X.w H' s'.heap)(hg:AllBare s'.gens)
  (Rl:∀ b∈ch,(b∈X.ex\/X.s₀.heap.objs.size<=b)/\b≠X.env.locals/\(∀ x c,X.env.cells.lookup x=some c->c≠b)/\∀ p∈X.pn++Pf,p.1≠b):Inv X Pf σ H' s':=by
 obtain⟨h',g',d',t',o'⟩:=s'
 have e:o'=s.os:=ho
 subst e
 exact I.call (g':=g') (t':=t') (d':=d') u cp hg Rl
end
abbrev XK:=Value->Option Addr->Hp->Prop
abbrev St:=List (Option V)
abbrev VK:=V->Hp->Prop
abbrev TE:=St->Hp->VK->Prop
abbrev TT:=St->Hp->(Bool->Hp->Prop)->Prop
abbrev TA:=St->Hp->(List V->Hp->Prop)->Prop
structure Ends where
 nx:St->Hp->Prop
 rt:VK
 bk:St->Hp->Prop:=λ_ _=>False
 ct:St->Hp->Prop:=λ_ _=>False
abbrev TS:=Ends->St->Hp->Prop
def EP(X:Cx)(Pf:List (Addr×Obj))(σ:St)(Q:VK)(u:Value)(s':Shared):Prop:=∃ v H',Inv X Pf σ H' s'/\RelV v u/\Q v H'
def TP(X:Cx)(Pf:List (Addr×Obj))(σ:St)(Q:Bool->Hp->Prop)(b:Bool)(s':Shared):Prop:=∃ H',Inv X Pf σ H' s'/\Q b H'
def AP(X:Cx)(Pf:List (Addr×Obj))(σ:St)(Q:List V->Hp->Prop)(us:List Value)(s':Shared):Prop:=∃ vs H',Inv X Pf σ H' s'/\Vals vs us/\Q vs H'
def SP(X:Cx)(Pf:List (Addr×Obj))(D:Ends)(f:Flow)(s':Shared):Prop :=
 match f with
 | .next=>∃ σ' H',Inv X Pf σ' H' s'/\D.nx σ' H'
 | .brk=>∃ σ' H',Inv X Pf σ' H' s'/\D.bk σ' H'
 | .cont=>∃ σ' H',Inv X Pf σ' H' s'/\D.ct σ' H'
 | .ret u=>∃ v σ' H',Inv X Pf σ' H' s'/\RelV v u/\D.rt v H'
def PE(X:Cx)(e:Expr)(t:TE):Prop :=
 ∀ (Pf:List (Addr×Obj)) (s:Shared) (σ:St) (H:Hp) (Q:VK),Inv X Pf σ H s->t σ H Q->wpAny (model X.prog X.w) X.A (eval e X.env) (EP X Pf σ Q) X.xe s
def PT(X:Cx)(e:Expr)(t:TT):Prop :=
 ∀ (Pf:List (Addr×Obj)) (s:Shared) (σ:St) (H:Hp) (Q:Bool->Hp->Prop),Inv X Pf σ H s->t σ H Q->wpAny (model X.prog X.w) X.A (isTrue e X.env (eval e X.env)) (TP X Pf σ Q) X.xe s
def PW(X:Cx)(e:Expr)(t:TT):Prop :=
 ∀ (whole:Sem Value) (Pf:List (Addr×Obj)) (s:Shared) (σ:St) (H:Hp) (Q:Bool->Hp->Prop),Inv X Pf σ H s->t σ H Q->wpAny (model X.prog X.w) X.A (isTrue e X.env whole) (TP X Pf σ Q) X.xe s
variable{e:Expr}
theorem PW.pt{t:TT}(h:PW X e t):PT X e t:=h _
def PA(X:Cx)(es:List Expr)(t:TA):Prop :=
 ∀ (pos:Pos) (Pf:List (Addr×Obj)) (s:Shared) (σ:St) (H:Hp) (Q:List V->Hp->Prop),Inv X Pf σ H s->t σ H Q->wpAny (model X.prog X.w) X.A (spliced (backTo pos (starEach es X.env))) (AP X Pf σ Q) X.xe s
def PS(X:Cx)(st:Stmt)(t:TS):Prop :=
 ∀ (Pf:List (Addr×Obj)) (s:Shared) (σ:St) (H:Hp) (D:Ends),Inv X Pf σ H s->t D σ H->wpAny (model X.prog X.w) X.A (exec st X.env) (SP X Pf D) X.xe s
def nQ(X:Cx)(st:List Stmt)(t:TS):Prop :=
 ∀ (Pf:List (Addr×Obj)) (s:Shared) (σ:St) (H:Hp) (D:Ends),Inv X Pf σ H s->t D σ H->wpAny (model X.prog X.w) X.A (execs st X.env) (SP X Pf D) X.xe s
theorem c9{α:Type}{t:Sem α}{Q Q':α->Shared->Prop}{M:Model}(h:wpAny M A t Q E s)(hQ:∀ a s,Q a s->Q' a s):wpAny M A t Q' E s:=wpAny_mono h hQ λ_ _ x=>x
variable{Q:Value->Shared->Prop}{σ:St}
variable{ta:TE}
variable{c:Expr}
section
def MX(i:Nat):TE:=fun σ H Q=>∃ v,σ[i]?=some (some v)/\Q v H
def tC(v:V):TE:=λ_ H Q=>Q v H
theorem oh{pos:Pos}(hN:X.N[i]?=some x)(hv:EN X.env.scope x)(hd:autoParam ((x==("__debug__" : Str))=false) aD._auto_1)(QP:autoParam ((x==("__classdict__" : Str))=false) aD._auto_1):PE X (.Name x pos) (MX i):=by
 intro Pf s σ H Q I h
 obtain⟨v,e,h⟩:=h
 obtain⟨m,hn,hl⟩:=I.loc
 obtain⟨u,r,l⟩:=hl i x v hN e hv
 have fin:EP X Pf σ Q u s:=⟨v,H,I,r,h⟩
 rcases l with ⟨hk,hm⟩ | ⟨hk,c,hc,RC⟩
 ·exact wpAny_Name (wpAny_loadName_local I.ok.kind hk hn hm fin) hd
 ·rcases hk with hk | hk
  ·exact wpAny_Name (wpAny_loadName_cell I.ok.kind hk hc RC fin) hd
  ·exact wpAny_Name (wpAny_loadName_free I.ok.kind hk hc RC fin QP) hd
theorem JV{i j pos}:PE X (.Constant (.int i) j pos) (tC (.int i)):=λ_ _ _ H _ I h=>wpAny_Constant_int ⟨.int i,H,I.tok _,⟨_,rfl⟩,h⟩
theorem LZ{b j pos}:PE X (.Constant (.bool b) j pos) (tC (.bl b)):=λ_ _ _ H _ I h=>Constant_bool ⟨.bl b,H,I,rfl,h⟩
theorem HS{j pos}:PE X (.Constant .none j pos) (tC .da):=λ_ _ _ H _ I h=>Constant_none ⟨.da,H,I,rfl,h⟩
theorem Jx{x j pos}:PE X (.Constant (.str x) j pos) (tC (.str x)):=λ_ _ _ H _ I h=>Calls.Constant_str ⟨.str x,H,I.tok _,⟨_,rfl⟩,h⟩
def Gl(X:Cx)(x:Str):Prop:=X.env.kindOf x=some .globalImplicit
theorem mI{pos:Pos}(I:Inv X Pf σ H s)(hg:Gl X x)(hm:X.mg x=some u)(h:Q u s)
  (hd:autoParam ((x==("__debug__" : Str))=false) aD._auto_1):wpAny (model X.prog X.w) X.A (eval (.Name x pos) X.env) Q E s :=
 Calls.Name_function_global I.ok.kind hg (Calls.loadGlobal_global (by rw[I.ok.glob];exact I.mod.glob.keeps I.bk) hm h) hd
theorem ki{pos:Pos}(I:Inv X Pf σ H s)(hg:Gl X x)(hm:X.mg x=none)(hv:bootBuiltins x=some u)(h:Q u s)
  (hn:autoParam (x ≠ "__name__") aD._auto_1) (hd:autoParam ((x==("__debug__" : Str))=false) aD._auto_1):wpAny (model X.prog X.w) X.A (eval (.Name x pos) X.env) Q E s:=by
 obtain⟨mb,h1,h2⟩:=I.mod.blt
 exact Calls.Name_function_global I.ok.kind hg (Calls.loadGlobal_builtin (by rw[I.ok.glob];exact I.mod.glob.keeps I.bk) hm (by rw[I.ok.blt];exact h1.keeps I.bk) ((h2 x hn).trans hv) h) hd
theorem zQ{pos:Pos}(hg:Gl X x)(hm:X.mg x=some u)(r:RelV v u)(hd:autoParam ((x==("__debug__" : Str))=false) aD._auto_1):PE X (.Name x pos) (tC v) :=
 λ_ _ _ H _ I h=>mI I hg hm ⟨v,H,I,r,h⟩ hd
theorem fe{pos:Pos}(hg:Gl X x)(hm:X.mg x=none)(hv:bootBuiltins x=some u)(r:RelV v u)(hn:autoParam (x ≠ "__name__") aD._auto_1)(hd:autoParam ((x==("__debug__" : Str))=false) aD._auto_1):PE X (.Name x pos) (tC v) :=
 λ_ _ _ H _ I h=>ki I hg hm hv ⟨v,H,I,r,h⟩ hn hd
variable{a b:Expr}{tb:TE}{pos:Pos}
def tB(t:TE):TT:=fun σ H Q=>t σ H λx H1=>∃ c,x=.bl c/\Q c H1
theorem IV{t:TE}(h:PE X e t)(he:autoParam (∀ whole,isTrue e X.env whole=(do let v ← whole;standAt e.pos;holding [v] (truthy v))) aI._auto_1):PT X e (tB t):=by
 intro Pf s σ H Q I hw
 refine isTrue_plain (c9 (h Pf s σ H _ I hw) λv s1 ⟨x,H1,I1,r1,q1⟩=>?_) (he _)
 obtain⟨d,rfl,q⟩:=q1
 cases r1
 exact wpAny_truthy_bool ⟨H1,I1,q⟩
variable{tA tB':TT}{rest:List Expr}
def M0(t u:TT):TT:=fun σ H Q=>t σ H λc H1=>if c=true then u σ H1 Q else Q false H1
def ON(t u:TT):TT:=fun σ H Q=>t σ H λc H1=>if c=true then Q true H1 else u σ H1 Q
def M1(t:TT):TT:=fun σ H Q=>t σ H λc H1=>Q (!c) H1
theorem pw_and1(ha:PT X a tA):PW X (.BoolOp .And [a] pos) tA:=by
 intro wh Pf s σ H Q I h
 refine isTrue_and (c9 (ha Pf s σ H Q I h) λc s1 e=>?_)
 cases c with
 | true=>exact isTrue_and_nil e
 | false=>exact e
theorem pw_or1(ha:PT X a tA):PW X (.BoolOp .Or [a] pos) tA:=by
 intro wh Pf s σ H Q I h
 refine isTrue_or (c9 (ha Pf s σ H Q I h) λc s1 e=>?_)
 cases c with
 | false=>exact isTrue_or_nil e
 | true=>exact e
theorem pw_and(ha:PT X a tA)(hb:PW X (.BoolOp .And (b::rest) pos) tB'):PW X (.BoolOp .And (a::b::rest) pos) (M0 tA tB'):=by
 intro wh Pf s σ H Q I h
 refine isTrue_and (c9 (ha Pf s σ H _ I h) λc s1 ⟨H1,I1,q1⟩=>?_)
 cases c with
 | true=>exact hb wh Pf s1 σ H1 Q I1 q1
 | false=>exact⟨H1,I1,q1⟩
theorem pw_or(ha:PT X a tA)(hb:PW X (.BoolOp .Or (b::rest) pos) tB'):PW X (.BoolOp .Or (a::b::rest) pos) (ON tA tB'):=by
 intro wh Pf s σ H Q I h
 refine isTrue_or (c9 (ha Pf s σ H _ I h) λc s1 ⟨H1,I1,q1⟩=>?_)
 cases c with
 | true=>exact⟨H1,I1,q1⟩
 | false=>exact hb wh Pf s1 σ H1 Q I1 q1
theorem Jj(ha:PT X a tA):PT X (.UnaryOp .Not a pos) (M1 tA):=by
 intro Pf s σ H Q I h
 exact isTrue_not (ha Pf s σ H (λc H1=>Q (!c) H1) I h)
def Md(ta tb:TE):TE:=fun σ H Q=>ta σ H λx H1=>∃ c,x=.bl c/\if c=true then tb σ H1 Q else Q (.bl false) H1
def Lo(ta:TE):TE:=fun σ H Q=>ta σ H λx H1=>∃ c,x=.bl c/\Q (.bl (!c)) H1
theorem x_{op}{t:TE}(h:PE X a t):PE X (.BoolOp op [a] pos) t:=λPf s σ H Q I hw=>BoolOp_one (h Pf s σ H Q I hw)
theorem JT(ha:PE X a ta)(hb:PE X (.BoolOp .And (b::rest) pos) tb):PE X (.BoolOp .And (a::b::rest) pos) (Md ta tb):=by
 intro Pf s σ H Q I h
 refine BoolOp_and (c9 (ha Pf s σ H _ I h) λv s1 ⟨x,H1,I1,r1,q1⟩=>?_)
 obtain⟨c,rfl,q1⟩:=q1
 cases r1
 refine wpAny_truthy_bool ?_
 cases c with
 | true=>exact hb Pf s1 σ H1 Q I1 q1
 | false=>exact⟨.bl false,H1,I1,rfl,q1⟩
theorem Ke(ha:PE X a ta):PE X (.UnaryOp .Not a pos) (Lo ta):=by
 intro Pf s σ H Q I h
 refine UnaryOp_ (c9 (ha Pf s σ H _ I h) λv s1 ⟨x,H1,I1,r1,q1⟩=>?_)
 obtain⟨c,rfl,q1⟩:=q1
 cases r1
 exact not_of (wpAny_truthy_bool ⟨.bl (!c),H1,I1,rfl,q1⟩)
def O9(t:TT)(ta tb:TE):TE:=fun σ H Q=>t σ H λc H1=>if c=true then ta σ H1 Q else tb σ H1 Q
theorem DP(hc:PT X c tA)(ha:PE X a ta)(hb:PE X b tb):PE X (.IfExp c a b pos) (O9 tA ta tb):=by
 intro Pf s σ H Q I h
 refine wpAny_IfExp (c9 (hc Pf s σ H _ I h) λd s1 ⟨H1,I1,q1⟩=>?_)
 cases d with
 | true=>exact ha Pf s1 σ H1 Q I1 q1
 | false=>exact hb Pf s1 σ H1 Q I1 q1
end
def iT(K:PySem.W.Frag)(H:Hp)(a:Addr)(xs:List V):Prop :=
 Rd H a (.lst xs) ∨
  ∃ (o:Obj) (Ph:Array Value) (n:Nat),K.lookup a=some o/\o.cls=.type "list" /\ o.dict=none/\o.data=.seq Ph n/\Ph.size<=sizeLine/\Vals xs Ph.toList
def iD(K:PySem.W.Frag)(H:Hp)(a:Addr)(xs:List V):Prop :=
 Rd H a (.tup xs) ∨
  ∃ (o:Obj) (Ph:Array Value) (n:Nat),K.lookup a=some o/\o.cls=.type "tuple" /\ o.data=.seq Ph n/\Ph.size<=sizeLine/\Vals xs Ph.toList
def NK:Value->Option V
 | .none=>some .da
 | .bool b=>some (.bl b)
 | .int i _=>some (.int i)
 | .str x _=>some (.str x)
 | .bytes b _=>some (.byt b)
 | .float b _=>some (.GU b)
 | .ref a=>some (.ref a)
 | .type n=>some (.ty n)
 | _=>none
theorem RelV.abs{x:V}(r:RelV x u):NK u=some x:=by
 cases x with
 | da=>cases r;rfl
 | bl _=>cases r;rfl
 | int _=>obtain⟨t,rfl⟩:=r;rfl
 | str _=>obtain⟨t,rfl⟩:=r;rfl
 | byt _=>obtain⟨t,rfl⟩:=r;rfl
 | GU _=>obtain⟨t,rfl⟩:=r;rfl
 | ref _=>cases r;rfl
 | ty _=>cases r;rfl
theorem RelV.inj{x y:V}{u:Value}(r:RelV x u)(q:RelV y u):x=y:=Option.some.inj (r.abs.symm.trans q.abs)
theorem Vals.inj:∀ {xs ys:List V} {us:List Value},Vals xs us->Vals ys us->xs=ys
 | _,_,_,.nil,.nil=>rfl
 | _,_,_,.cons r t,.cons r' t'=>by rw[r.inj r',Vals.inj t t']
section
variable{xs ys:List V}
theorem iT.of{K:PySem.W.Frag}(h:H a=some (.lst xs)):iT K H a xs:=.inl (.inl h)
theorem iD.of{K:PySem.W.Frag}(h:H a=some (.tup xs)):iD K H a xs:=.inl (.inl h)
theorem Inv.list(I:Inv X Pf σ H s)(h:iT X.K H a xs):∃ Ph:List Value,Vals xs Ph/\PlainL s.heap a Ph.toArray/\xs.length<=sizeLine:=by
 rcases h with h | ⟨o,Ph,n,hk,hc,hd,hs,hz,r⟩
 ·obtain⟨z,Ph,n,r,e⟩:=h.ok I.cp
  exact⟨Ph,r,⟨_,n,e,rfl,rfl,rfl⟩,z⟩
 ·refine⟨Ph.toList,r,⟨o,n,I.kG a o hk,hc,hd,by simpa using hs⟩,?_⟩
  have e:=r.length
  simp only[Array.length_toList] at e
  omega
theorem Inv.tuple(I:Inv X Pf σ H s)(h:iD X.K H a xs):∃ Ph:List Value,Vals xs Ph/\IsTup s.heap a Ph.toArray/\xs.length<=sizeLine:=by
 rcases h with h | ⟨o,Ph,n,hk,hc,hs,hz,r⟩
 ·obtain⟨z,Ph,r,p⟩:=h.ok I.cp
  exact⟨Ph,r,p,z⟩
 ·refine⟨Ph.toList,r,⟨o,I.kG a o hk,hc,n,by simpa using hs⟩,?_⟩
  have e:=r.length
  simp only[Array.length_toList] at e
  omega
theorem Inv.rD(I:Inv X Pf σ H s)(h:iT X.K H a xs)(h':iT X.K H a ys):xs=ys:=by
 obtain⟨Ph,r,⟨o,n,e,_,_,d⟩,_⟩:=I.list h
 obtain⟨its',r',⟨o',n',e',_,_,d'⟩,_⟩:=I.list h'
 rw[e] at e';cases e'
 rw[d] at d'
 injection d' with d1 _
 have:Ph=its':=by simpa using congrArg Array.toList d1
 subst this
 exact r.inj r'
theorem Inv.oE(I:Inv X Pf σ H s)(h:iD X.K H a xs)(h':iD X.K H a ys):xs=ys:=by
 obtain⟨Ph,r,⟨o,e,_,n,d⟩,_⟩:=I.tuple h
 obtain⟨its',r',⟨o',e',_,n',d'⟩,_⟩:=I.tuple h'
 rw[e] at e';cases e'
 rw[d] at d'
 injection d' with d1 _
 have:Ph=its':=by simpa using congrArg Array.toList d1
 subst this
 exact r.inj r'
end
abbrev Cx.sd(X:Cx)(E:Value->Shared->Prop):Cx:={ X with xe:=E }
theorem Cx.Ok.sd{X:Cx}(ok:X.Ok)(E:Value->Shared->Prop):(X.sd E).Ok :=
 ⟨ok.mod,ok.kind,ok.glob,ok.blt,ok.above,ok.inj,ok.has,ok.LS,ok.hd,ok.frames,ok.MH,ok.MK,ok.bs,ok.G0,ok.Aw,ok.Dj,ok.pD,ok.HK⟩
theorem Cx.Ok.ji(ok:(X.sd E).Ok):X.Ok :=
 ⟨ok.mod,ok.kind,ok.glob,ok.blt,ok.above,ok.inj,ok.has,ok.LS,ok.hd,ok.frames,ok.MH,ok.MK,ok.bs,ok.G0,ok.Aw,ok.Dj,ok.pD,ok.HK⟩
theorem Inv.sd(I:Inv X Pf σ H s)(E:Value->Shared->Prop):Inv (X.sd E) Pf σ H s:=⟨I.ok.sd E,I.os,I.bare,I.base,I.loc,I.cell,I.free,I.mi,I.pin,I.cp,I.len⟩
theorem Inv.ji(I:Inv (X.sd E) Pf σ H s):Inv X Pf σ H s:=⟨I.ok.ji,I.os,I.bare,I.base,I.loc,I.cell,I.free,I.mi,I.pin,I.cp,I.len⟩
theorem SP.ji{D:Ends}{f:Flow}{s':Shared}(h:SP (X.sd E) Pf D f s'):SP X Pf D f s':=by
 cases f with
 | next=>obtain⟨σ',H',I,q⟩:=h;exact⟨σ',H',I.ji,q⟩
 | brk=>obtain⟨σ',H',I,q⟩:=h;exact⟨σ',H',I.ji,q⟩
 | cont=>obtain⟨σ',H',I,q⟩:=h;exact⟨σ',H',I.ji,q⟩
 | ret u=>obtain⟨v,σ',H',I,r,q⟩:=h;exact⟨v,σ',H',I.ji,r,q⟩
variable{te:TE}
variable{tc:TT}
section
variable{st:Stmt}{rest:List Stmt}{t u:TS}{pos:Pos}
def K6:TS:=λD σ H=>D.nx σ H
def NX(t u:TS):TS:=λD σ H=>t { D with nx:=u D } σ H
theorem Gf:nQ X [] K6:=λ_ _ σ H _ I h=>wpAny_execs_nil ⟨σ,H,I,h⟩
theorem Du(h1:PS X st t)(h2:nQ X rest u):nQ X (st::rest) (NX t u):=by
 intro Pf s σ H D I h
 refine wpAny_execs_cons (c9 (h1 Pf s σ H { D with nx:=u D } I h) λf s1 q=>?_)
 cases f with
 | next =>
  obtain⟨σ',H',I',q⟩:=q
  exact h2 Pf s1 σ' H' D I' q
 | ret v=>exact q
 | brk=>exact q
 | cont=>exact q
theorem Fo(h1:PS X st t):nQ X [st] t:=by
 intro Pf s σ H D I h
 refine wpAny_execs_cons (c9 (h1 Pf s σ H D I h) λf s1 q=>?_)
 cases f with
 | next=>exact wpAny_execs_nil q
 | ret v=>exact q
 | brk=>exact q
 | cont=>exact q
theorem Inv.quiet(I:Inv X Pf σ H s):interactive X.env=false:=by simp[interactive,I.ok.kind]
def Ma(te:TE):TS:=λD σ H=>te σ H λ_ H1=>D.nx σ H1
theorem Ad(he:PE X e te)(hs:autoParam (swapsWith e none pos.line X.env=pure false) aR._auto_1):PS X (.Expr e pos) (Ma te):=by
 intro Pf s σ H D I h
 exact wpAny_Expr_any (c9 (he Pf s σ H _ I h) λv s1 ⟨x,H1,I1,r1,q1⟩=>⟨σ,H1,I1,q1⟩) I.quiet hs
def MO(te:TE):TS:=λD σ H=>te σ H D.rt
theorem Jq(he:PE X e te):PS X (.Return (some e) pos) (MO te):=by
 intro Pf s σ H D I h
 exact wpAny_Return_some (c9 (he Pf s σ H _ I h) λv s1 ⟨x,H1,I1,r1,q1⟩=>⟨x,σ,H1,I1,r1,q1⟩)
def NG(c:TT)(t u:TS):TS:=λD σ H=>c σ H λb H1=>if b=true then t D σ H1 else u D σ H1
theorem K7{a b:List Stmt}(hc:PT X c tc)(ha:nQ X a t)(hb:nQ X b u):PS X (.If c a b pos) (NG tc t u):=by
 intro Pf s σ H D I h
 refine wpAny_If (c9 (hc Pf s σ H _ I h) λd s1 ⟨H1,I1,q1⟩=>?_)
 cases d with
 | true=>exact ha Pf s1 σ H1 D I1 q1
 | false=>exact hb Pf s1 σ H1 D I1 q1
end
abbrev TG:=V->St->Hp->(St->Hp->Prop)->Prop
abbrev Iv:=List V->St->Hp->(St->Hp->Prop)->Prop
def PG(X:Cx)(target:Expr)(t:TG):Prop :=
 ∀ (Pf:List (Addr×Obj)) (s:Shared) (σ:St) (H:Hp) (v:V) (u:Value) (Q:St->Hp->Prop),Inv X Pf σ H s->RelV v u->t v σ H Q ->
  wpAny (model X.prog X.w) X.A (assign target X.env u) (λ_ s'=>∃ σ' H',Inv X Pf σ' H' s'/\Q σ' H') X.xe s
def MG(X:Cx)(ts:List Expr)(t:Iv):Prop :=
 ∀ (Pf:List (Addr×Obj)) (s:Shared) (σ:St) (H:Hp) (vs:List V) (us:List Value) (Q:St->Hp->Prop),Inv X Pf σ H s->Vals vs us->t vs σ H Q ->
  wpAny (model X.prog X.w) X.A (assignInOrder ((assignEach ts X.env).map (·.2)) us) (λ_ s'=>∃ σ' H',Inv X Pf σ' H' s'/\Q σ' H') X.xe s
abbrev J0:=V->V->V->Hp->(Hp->Prop)->Prop
def LG(X:Cx)(t:J0):Prop :=
 ∀ (Pf:List (Addr×Obj)) (s:Shared) (σ:St) (H:Hp) (o i v:V) (ov iv u:Value) (Q:Hp->Prop),Inv X Pf σ H s->RelV o ov->RelV i iv->RelV v u->t o i v H Q ->
  wpAny (model X.prog X.w) X.A (setItem ov iv u) (λ_ s'=>∃ H',Inv X Pf σ H' s'/\Q H') X.xe s
variable{es:List Expr}
variable{n k:Nat}
variable{tg:Expr}
section
variable{pos:Pos}
def aE(i:Nat):TG:=λv σ H Q=>Q (σ.set i (some v)) H
theorem E2(hN:X.N.Nodup)(hi:X.N[i]?=some x)(hx:Loc X.env.scope x)(hf:autoParam (X.fn x=true\/X.env.scope.names.lookup x=some .local) aF._auto_1):PG X (.Name x pos) (aE i):=by
 intro Pf s σ H v u Q I r h
 exact wpAny_assign_Name (nL I hN hi hx r (λs' I'=>⟨_,H,I',h⟩) hf)
def fV:Iv:=λvs σ H Q=>vs=[]/\Q σ H
def bh(t:TG)(u:Iv):Iv:=λvs σ H Q=>∃ v r,vs=v::r/\t v σ H fun σ' H'=>u r σ' H' Q
theorem bS:MG X [] fV:=by
 intro Pf s σ H vs us Q I r h
 obtain⟨e,h⟩:=h
 subst e
 cases r
 exact assignInOrder_nil ⟨σ,H,I,h⟩
theorem aB{t:TG}{u:Iv}(h1:PG X e t)(h2:MG X es u)
  (hs:autoParam ((assignEach (e::es) X.env).map (·.2)=assign e X.env::(assignEach es X.env).map (·.2)) aR._auto_1):MG X (e::es) (bh t u):=by
 intro Pf s σ H vs us Q I r h
 obtain⟨v,vr,e1,h⟩:=h
 subst e1
 cases r with
 | cons r rr =>
  rw[hs]
  refine assignInOrder_cons (c9 (h1 Pf s σ H _ _ _ I r h) λ_ s1 ⟨σ1,H1,I1,q1⟩=>?_)
  exact h2 Pf s1 σ1 H1 _ _ Q I1 rr q1
def fM(K:PySem.W.Frag)(n:Nat)(t:Iv):TG:=λv σ H Q=>∃ a xs,v=.ref a/\iD K H a xs/\xs.length=n/\t xs σ H Q
theorem cJ{t:Iv}(hc:X.calm=true)(h:MG X es t)
  (hn:autoParam ((assignEach es X.env).length=n) aR._auto_1) (PY:autoParam ((assignEach es X.env).findIdx? (·.1)=none) aR._auto_1):PG X (.Tuple es k pos) (fM X.K n t):=by
 intro Pf s σ H v u Q I r hw
 obtain⟨a,xs,e1,hq,hl,hw⟩:=hw
 subst e1
 cases r
 obtain⟨Ph,rv,ht,hz⟩:=I.tuple hq
 refine assign_Tuple_tuple (I.ok.hd hc) ht (by simp[hn,← hl,rv.length]) PY λh' hx=>?_
 have I1:Inv X Pf σ H { s with heap:=h' }:=I.kept (t':=s.toks) λb o e=>hx b o (Nat.ne_of_lt (Heap.lt_size e)) e
 exact h Pf _ σ H xs _ Q I1 (by simpa using rv) hw
def NQ(to ti:TE)(t:J0):TG:=λv σ H Q=>to σ H λo H1=>ti σ H1 λi H2=>t o i v H2 λH3=>Q σ H3
theorem JK{o i:Expr}{to ti:TE}{t:J0}(ho:PE X o to)(hi:PE X i ti)(hs:LG X t)
  (ha:autoParam (∀ v,assign (.Subscript o i pos) X.env v=(do
   let ov ← holding [v] (eval o X.env)
   let iv ← holding [v,ov] (eval i X.env)
   standAt pos
   holding [v,ov,iv] (setItem ov iv v)
   release [v,ov,iv] [])) aI._auto_1):PG X (.Subscript o i pos) (NQ to ti t):=by
 intro Pf s σ H v u Q I r h
 rw[ha]
 refine wpAny_bind (wpAny_holding (c9 (ho Pf s σ H _ I h) λov s1 ⟨x,H1,I1,r1,q1⟩=>?_))
 refine wpAny_bind (wpAny_holding (c9 (hi Pf s1 σ H1 _ I1 q1) λiv s2 ⟨y,H2,I2,r2,q2⟩=>?_))
 refine wpAny_bind (wpAny_standAt (wpAny_bind (wpAny_holding (c9 (hs Pf s2 σ H2 x y v ov iv u _ I2 r1 r2 r q2) λ_ s3 ⟨H3,I3,q3⟩=>?_))))
 exact wpAny_release ⟨σ,H3,I3,q3⟩
def FL(te:TE)(g:TG):TS:=λD σ H=>te σ H λx H1=>g x σ H1 D.nx
theorem J1{g:TG}(he:PE X e te)(hg:PG X tg g)(hs:autoParam (swapsWithSole [tg] e pos.line X.env=pure false) aR._auto_1)(hw:autoParam (swappedStores [tg] e X.env=pure none) aR._auto_1)
  (h1:autoParam ((assignEach [tg] X.env).map (·.2)=[assign tg X.env]) aR._auto_1):PS X (.Assign [tg] e pos) (FL te g):=by
 intro Pf s σ H D I h
 refine wpAny_Assign_stores (c9 (he Pf s σ H _ I h) λv s1 ⟨x,H1,I1,r1,q1⟩=>?_) hs hw
 rw[h1]
 exact c9 (hg Pf s1 σ H1 x v _ I1 r1 q1) λ_ s2 q=>q
theorem EI{pos':Pos}(hN:X.N.Nodup)(hi:X.N[i]?=some x)(hx:Loc X.env.scope x)(he:PE X e te)(hs:autoParam (swapsWith e (some (.Name x pos')) pos.line X.env=pure false) aR._auto_1)(hf:autoParam (X.fn x=true\/X.env.scope.names.lookup x=some .local) aF._auto_1) :
  PS X (.Assign [.Name x pos'] e pos) (FL te (aE i)):=by
 intro Pf s σ H D I h
 refine wpAny_Assign_Name (c9 (he Pf s σ H _ I h) λv s1 ⟨y,H1,I1,r1,q1⟩=>?_) hs
 exact nL I1 hN hi hx r1 (λs2 I2=>⟨_,H1,I2,q1⟩) hf
def N8(i j:Nat)(ta:TA):TS:=λD σ H=>ta σ H λvs H1=>∃ v w,vs=[v,w]/\D.nx ((σ.set i (some v)).set j (some w)) H1
theorem Kl{j:Nat}{y:Str}{a b:Expr}{ta:TA}{px py pt:Pos}{kt k2 SJ}(hc:X.calm=true)(hN:X.N.Nodup)(hi:X.N[i]?=some x)(hj:X.N[j]?=some y)(hij:i≠j)
  (hx:X.env.scope.names.lookup x=some .local) (hy:X.env.scope.names.lookup y=some .local) (ha:PA X [a,b] ta)
  (hw:swappedStores [.Tuple [.Name x px,.Name y py] kt pt] (.Tuple [a,b] k2 SJ) X.env=pure (some [x,y]))
  (hs:autoParam (swapsWithSole [.Tuple [.Name x px,.Name y py] kt pt] (.Tuple [a,b] k2 SJ) pos.line X.env=pure false) aR._auto_1) :
  PS X (.Assign [.Tuple [.Name x px,.Name y py] kt pt] (.Tuple [a,b] k2 SJ) pos) (N8 i j ta):=by
 intro Pf s σ H D I h
 rw[exec_Assign_arm]
 refine wpAny_bind (wpAny_standAt ?_)
 rw[hs]
 refine wpAny_bind (wpAny_pure ?_)
 rw[if_neg (by decide)]
 refine wpAny_bind (Tuple_ (c9 (ha _ Pf s σ H _ I h) λus s1 ⟨vs,H1,I1,r1,q1⟩=>?_))
 obtain⟨v,w,e1,q1⟩:=q1
 subst e1
 obtain⟨u1,u2,rfl,rv,Ra⟩:∃ u1 u2,us=[u1,u2]/\RelV v u1/\RelV w u2:=by
  cases r1 with
  | cons p q =>
   cases q with
   | cons p' q' =>
    cases q'
    exact⟨_,_,rfl,p,p'⟩
 refine wpAny_newObj_type ?_ (by show 2<=sizeLine;decide)
 have I2:Inv X Pf σ H1 { s1 with heap:=s1.heap.push { cls:=.type "tuple", data:=.seq [u1,u2].toArray } }:=I1.kept (t':=s1.toks) λb o e=>Heap.get?_push_of_some _ e
 rw[hw]
 refine wpAny_bind (wpAny_pure ?_)
 show wpAny (model X.prog X.w) X.A (do rule "assign.swapped-stores";let items ← unpackItems (.ref s1.heap.objs.size) 2 none;assignInOrder [λv=>bindName X.env y v,λv=>bindName X.env x v] items.reverse;pure Flow.next) _ _ _
 refine wpAny_bind (wpAny_rule (wpAny_bind (unpackItems_tuple (items:=#[u1,u2]) (I.ok.hd hc) (IsTup.new s1.heap _) λh' Te=>?_)))
 have I3:=I2.kept (h':=h') (t':=s1.toks) λb o e=>Te b o (Nat.ne_of_lt (Heap.lt_size e)) e
 show wpAny _ _ (assignInOrder [λv=>bindName X.env y v,λv=>bindName X.env x v] [u2,u1] >>= λ_=>pure Flow.next) _ _ _
 refine wpAny_bind (assignInOrder_cons (wpAny_bindName (nL I3 hN hj (.inl hy) Ra (λs2 I4=>?_) (.inr hy))))
 refine assignInOrder_cons (wpAny_bindName (nL I4 hN hi (.inl hx) rv (λs3 I5=>assignInOrder_nil (wpAny_pure ?_)) (.inr hx)))
 rw[List.set_comm _ _ (Ne.symm hij)] at I5
 exact⟨_,H1,I5,q1⟩
end
variable{tb:TS}{body:List Stmt}
section
variable{pos:Pos}
def HP(c:TT)(tb:TS):TS:=λD σ H=>∃ W:Nat->St->Hp->Prop,(∃ m,W m σ H)/\∀ m σ H,W m σ H ->
 c σ H λb H1=>if b=true then ∃ N:St->Hp->Prop,(∀ σ' H',N σ' H'->∃ m',m'<m/\W m' σ' H')/\tb { D with nx:=N,ct:=N,bk:=D.nx } σ H1 else D.nx σ H1
theorem Cq(hp:PassesOwn (model X.prog X.w) X.A X.env X.xe)(hc:PT X c tc)(hb:nQ X body tb):PS X (.While c body [] pos) (HP tc tb):=by
 intro Pf s σ H D I h
 obtain⟨W,⟨m0,w0⟩,turn⟩:=h
 refine wpAny_While (codeAny_whileLoop (λn s'=>∃ σ' H',Inv X Pf σ' H' s'/\W n σ' H') ?_ m0 ⟨σ,H,I,w0⟩)
 rintro n s1 ⟨σ1,H1,I1,w1⟩
 refine wpAny_passesOwn hp (c9 (hc Pf s1 σ1 H1 _ I1 (turn n σ1 H1 w1)) λb s2 ⟨H2,I2,q2⟩=>?_)
 cases b with
 | true =>
  obtain⟨N,hN,q2⟩:=q2
  rw[if_pos rfl]
  refine wpAny_passesOwn hp (c9 (hb Pf s2 σ1 H2 _ I2 q2) λf s3 q3=>?_)
  cases f with
  | next =>
   obtain⟨σ3,H3,I3,n3⟩:=q3
   obtain⟨m',hm,w3⟩:=hN σ3 H3 n3
   exact⟨m',hm,σ3,H3,I3,w3⟩
  | cont =>
   obtain⟨σ3,H3,I3,n3⟩:=q3
   obtain⟨m',hm,w3⟩:=hN σ3 H3 n3
   exact⟨m',hm,σ3,H3,I3,w3⟩
  | brk=>exact q3
  | ret v=>exact q3
 | false =>
  rw[if_neg Bool.false_ne_true]
  exact wpAny_execs_nil ⟨σ1,H2,I2,q2⟩
end
structure It where
 go:Nat->Hp->Prop
 w4:Nat->Hp->V->Hp->Prop
 stop:Nat->Hp->Prop
def mG(X:Cx)(Pf:List (Addr×Obj))(H:Hp)(b:Addr):Prop :=
 H b=none/\b≠X.env.locals/\b ∉ X.fs/\(b∈X.ex\/X.s₀.heap.objs.size<=b)/\(∀ x c,X.env.cells.lookup x=some c->c≠b)/\∀ p∈X.pn++Pf,p.1≠b
theorem Inv.vo(I:Inv X Pf σ H s)(hb:s.heap.objs.size<=b)(hn:H' b=none):mG X Pf H' b:=by
 refine⟨hn,Nat.ne_of_gt (Nat.lt_of_lt_of_le I.lt hb),I.Nh hb,.inr (Nat.le_trans I.sz hb),λx c e z=>?_,λp hp z=>?_⟩
 ·obtain⟨v,q⟩:=I.cell x c e
  exact absurd (Nat.lt_of_lt_of_le q.lt (by rw[z];exact hb)) (Nat.lt_irrefl _)
 ·exact absurd (Nat.lt_of_lt_of_le (Heap.lt_size (I.pin p hp).1) (by rw[z];exact hb)) (Nat.lt_irrefl _)
structure Turn (P:Program) (w:World) (K:PySem.W.Frag) (tg:Expr) (J:It) (fp:List Addr) (it:Addr) (tn:Nat->Heap->Prop):Prop where
 mem:it∈fp
 obj:∀ i h,tn i h->∀ b∈fp,∃ o,h.get? b=some o/\∀ v,o.data≠.cell v
 keep:∀ i h h',tn i h->(∀ b∈fp,∀ o,h.get? b=some o->h'.get? b=some o)->tn i h'
 item:∀ (X:Cx),X.prog=P->X.w=w->X.K=K->X.calm=true->∀ (i:Nat) (Pf:List (Addr×Obj)) (s:Shared) (σ:St) (H:Hp) (E:Value->Shared->Prop),Inv X Pf σ H s->(∀ b∈fp,mG X Pf H b)->tn i s.heap->J.go i H ->
  wpAny (model P w) X.A (pyNext (.ref it)) (λr s1=>∃ u,r=some u ∧
   wpAny (model P w) X.A (letOwnedTupleGo tg (.ref it) u) (λ_ s2=>∃ x H',Inv X Pf σ H' s2/\RelV x u/\J.w4 i H x H'/\tn (i+1) s2.heap/\∀ b∈fp,H' b=none) E s1) E s
 done:∀ (X:Cx),X.prog=P->X.w=w->X.K=K->X.calm=true->∀ (i:Nat) (Pf:List (Addr×Obj)) (s:Shared) (σ:St) (H:Hp) (E:Value->Shared->Prop),Inv X Pf σ H s->(∀ b∈fp,mG X Pf H b)->tn i s.heap->J.stop i H ->
  wpAny (model P w) X.A (pyNext (.ref it)) (λr s1=>r=none/\Inv X Pf σ H s1) E s
 self:∀ (A:Around) (i:Nat) (s:Shared) (Q:Value->Shared->Prop) (E:Value->Shared->Prop),tn i s.heap->Q (.ref it) s->wpAny (model P w) A (pyIter (.ref it)) Q E s
abbrev TI:=St->Hp->(It->Hp->Prop)->Prop
def NS(X:Cx)(Pf:List (Addr×Obj))(σ:St)(tg:Expr)(R:It->Hp->Prop)(itv:Value)(s2:Shared):Prop :=
 ∃ (it:Addr) (fp:List Addr) (tn:Nat->Heap->Prop) (J:It) (H':Hp),itv=.ref it/\Inv X Pf σ H' s2/\Turn X.prog X.w X.K tg J fp it tn/\tn 0 s2.heap/\(∀ b∈fp,mG X Pf H' b)/\R J H'
def PI(X:Cx)(tg iter:Expr)(wi:TI):Prop :=
 ∀ (Pf:List (Addr×Obj)) (s:Shared) (σ:St) (H:Hp) (R:It->Hp->Prop),Inv X Pf σ H s->wi σ H R ->
  wpAny (model X.prog X.w) X.A (eval iter X.env) (λv s1=>wpAny (model X.prog X.w) X.A (pyIter v) (NS X Pf σ tg R) X.xe s1) X.xe s
theorem zS {M : Model} {n : String} {vs : Array Value} {Q : Unit -> Shared -> Prop} (ho : s.heap.get? it = some o) (hc : o.cls = .type n) (hd : o.data = .fields vs)
    (hn : ["enumerate", "zip", "dict_itemiterator", "dict_reverseitemiterator", "odict_iterator", "itertools.zip_longest", "itertools.pairwise"].contains n = false) (hQ : Q () s) : wpAny M A (letOwnedTupleGo tg (.ref it) u) Q E s := by
  unfold letOwnedTupleGo
  cases tg <;> first
    | exact wpAny_pure hQ
    | (cases u <;> first
        | exact wpAny_pure hQ
        | (refine wpAny_bind (wpAny_load ho ?_)
           rw [hc, hd]
           show wpAny M A (if (["enumerate", "zip", "dict_itemiterator", "dict_reverseitemiterator", "odict_iterator", "itertools.zip_longest", "itertools.pairwise"].contains n && vs[0]? == some (rawInt _)) = true then _ else _) Q E s
           rw [if_neg (by intro h; rw [hn, Bool.false_and] at h; cases h)]
           exact wpAny_pure hQ))
def Oy(K:PySem.W.Frag)(a:Addr):It :=
 ⟨λi H=>∃ xs x,iT K H a xs/\xs[i]?=some x,λi H x H'=>H'=H/\∀ xs,iT K H a xs->xs[i]?=some x,λi H=>∃ xs,iT K H a xs/\xs.length<=i⟩
def OB(K:PySem.W.Frag)(a:Addr):It :=
 ⟨λi H=>∃ xs x,iD K H a xs/\xs[i]?=some x,λi H x H'=>H'=H/\∀ xs,iD K H a xs->xs[i]?=some x,λi H=>∃ xs,iD K H a xs/\xs.length<=i⟩
def L6(lo:Int)(n:Nat):It:=⟨λi _=>i<n,λi H x H'=>H'=H/\x=.int (lo+i),λi _=>n<=i⟩
theorem Al{K:PySem.W.Frag}(a it:Addr):Turn P w K tg (Oy K a) [it] it (λi h=>h.IsListIter it a i) where
 mem:=by simp
 obj:=λi h st b hb=>by
  have e:b=it:=by simpa using hb
  subst e
  obtain⟨o,e,c,d⟩:=st
  exact⟨o,e,λv z=>by rw[d] at z;cases z⟩
 keep:=λi h h' st k=>st.at λo e=>k it (by simp) o e
 item:=by
  intro X hP hw hK hc i Pf s σ H E I hf st hg
  subst hP hw hK
  obtain⟨xs,x,hq,hx⟩:=hg
  obtain⟨Ph,rv,p,hz⟩:=I.list hq
  obtain⟨u,hu,ru⟩:=rv.get hx
  obtain⟨f0,f1,f2,f3,f4,f5⟩:=hf it (by simp)
  refine wpAny_pyNext_list_item st p.isList (x:=u) (by simpa using hu) λh' QE sb=>?_
  have I1:Inv X Pf σ H { s with heap:=h' }:=I.turned (t':=s.toks) (λb o hb e=>(sb.2 b hb).trans e) f0 f1 f3 f4 f5
  obtain⟨o,e,c,d⟩:=id QE
  exact⟨u,rfl,zS (s:={ s with heap:=h' }) e c d (by decide) ⟨x,H,I1,ru,⟨rfl,λys hy=>by rw[I.rD hy hq];exact hx⟩,QE,λb hb=>(hf b hb).1⟩⟩
 done:=by
  intro X hP hw hK hc i Pf s σ H E I hf st hg
  subst hP hw hK
  obtain⟨xs,hq,hx⟩:=hg
  obtain⟨Ph,rv,p,hz⟩:=I.list hq
  obtain⟨f0,f1,f2,f3,f4,f5⟩:=hf it (by simp)
  have hl:=rv.length
  exact wpAny_pyNext_list_end (I.ok.hd hc) st p.isList (by simp;omega) λh' eb=>⟨rfl,I.turned (t':=s.toks) (λb o hb e=>eb b o hb e) f0 f1 f3 f4 f5⟩
 self:=λ_ _ _ _ _ st h=>wpAny_pyIter_listiter st h
theorem yq{K:PySem.W.Frag}(a it:Addr):Turn P w K tg (OB K a) [it] it (λi h=>h.IsTupleIter it a i) where
 mem:=by simp
 obj:=λi h st b hb=>by
  have e:b=it:=by simpa using hb
  subst e
  obtain⟨o,e,c,d⟩:=st
  exact⟨o,e,λv z=>by rw[d] at z;cases z⟩
 keep:=λi h h' st k=>st.at λo e=>k it (by simp) o e
 item:=by
  intro X hP hw hK hc i Pf s σ H E I hf st hg
  subst hP hw hK
  obtain⟨xs,x,hq,hx⟩:=hg
  obtain⟨Ph,rv,p,hz⟩:=I.tuple hq
  obtain⟨u,hu,ru⟩:=rv.get hx
  obtain⟨f0,f1,f2,f3,f4,f5⟩:=hf it (by simp)
  refine wpAny_pyNext_tuple_item st (show s.heap.IsTuple a Ph.toArray from p) (x:=u) (by simpa using hu) λh' QE sb=>?_
  have I1:Inv X Pf σ H { s with heap:=h' }:=I.turned (t':=s.toks) (λb o hb e=>(sb.2 b hb).trans e) f0 f1 f3 f4 f5
  obtain⟨o,e,c,d⟩:=id QE
  exact⟨u,rfl,zS (s:={ s with heap:=h' }) e c d (by decide) ⟨x,H,I1,ru,⟨rfl,λys hy=>by rw[I.oE hy hq];exact hx⟩,QE,λb hb=>(hf b hb).1⟩⟩
 done:=by
  intro X hP hw hK hc i Pf s σ H E I hf st hg
  subst hP hw hK
  obtain⟨xs,hq,hx⟩:=hg
  obtain⟨Ph,rv,p,hz⟩:=I.tuple hq
  obtain⟨f0,f1,f2,f3,f4,f5⟩:=hf it (by simp)
  have hl:=rv.length
  exact wpAny_pyNext_tuple_end (I.ok.hd hc) st (show s.heap.IsTuple a Ph.toArray from p) (by simp;omega) λh' eb=>⟨rfl,I.turned (t':=s.toks) (λb o hb e=>eb b o hb e) f0 f1 f3 f4 f5⟩
 self:=λ_ _ _ _ _ st h=>wpAny_pyIter_tupleiter st h
theorem zd{K:PySem.W.Frag}(it:Addr)(lo:Int)(n:Nat):Turn P w K tg (L6 lo n) [it] it (λi h=>IsRangeIter h it (lo+(i:Nat)*1) ((n:Int)-(i:Nat)) 1) where
 mem:=by simp
 obj:=λi h st b hb=>by
  have e:b=it:=by simpa using hb
  subst e
  exact⟨_,st,λv z=>by
   have z':Data.fields _=Data.cell v:=z
   cases z'⟩
 keep:=λi h h' st k=>k it (by simp) _ st
 item:=by
  intro X hP hw hK hc i Pf s σ H E I hf st hg
  subst hP hw hK
  obtain⟨f0,f1,f2,f3,f4,f5⟩:=hf it (by simp)
  have W:=Walks.range (prog:=X.prog) (w:=X.w) (I.ok.hd hc) it lo 1 n
  refine W.item i s _ _ hg st λv h' tk hv QE kk=>?_
  obtain⟨t,rfl⟩:=hv
  have I1:Inv X Pf σ H { s with heap:=h',toks:=tk }:=I.turned (λb o hb e=>kk b o (by simpa using hb) e) f0 f1 f3 f4 f5
  refine⟨_,rfl,zS (s:={ s with heap:=h',toks:=tk }) (n := "range_iterator") QE rfl rfl (by decide) ⟨.int (lo+i),H,I1,⟨t,?_⟩,⟨rfl,rfl⟩,QE,λb hb=>(hf b hb).1⟩⟩
  rw[Int.mul_one]
 done:=by
  intro X hP hw hK hc i Pf s σ H E I hf st hg
  subst hP hw hK
  obtain⟨f0,f1,f2,f3,f4,f5⟩:=hf it (by simp)
  exact wpAny_pyNext_range_end (I.ok.hd hc) st (by have:n<=i:=hg;omega) λh' eb=>⟨rfl,I.turned (t':=s.toks) (λb o hb e=>eb b o hb e) f0 f1 f3 f4 f5⟩
 self:=λ_ _ _ _ _ st h=>wpAny_pyIter_rangeiter st h
variable{p:Pos}
variable{fp:List Addr}
theorem vW{R:It->Hp->Prop}{lo hi:Int}{t u v:Tok}{tk:Nat}(I:Inv X Pf σ H s)(h1:-(2^62)<=lo)(h2:lo<2^62)(h3:-(2^62)<=hi)(h4:hi<2^62)
  (q:R (L6 lo (hi-lo).toNat) H):wpAny (model X.prog X.w) X.A (pyIter (.ref s.heap.objs.size)) (NS X Pf σ tg R) E { s with heap:=s.heap.push { cls:=.type "range", data:=.fields #[.int lo t,.int hi u,.int 1 v] },toks:=tk }:=by
 refine wpAny_pyIter_range (IsRange.new ..) (small_one h1 h2 h3 h4) ?_
 have I1:Inv X Pf σ H { s with heap:=s.heap.push { cls:=.type "range", data:=.fields #[.int lo t,.int hi u,.int 1 v] },toks:=tk }:=I.kept λb o e=>Heap.get?_push_of_some _ e
 refine⟨(s.heap.push { cls:=.type "range", data:=.fields #[.int lo t,.int hi u,.int 1 v] }).objs.size,[(s.heap.push { cls:=.type "range", data:=.fields #[.int lo t,.int hi u,.int 1 v] }).objs.size],_,_,H,rfl,
  I1.kept (t':=tk) λb o e=>Heap.get?_push_of_some _ e,zd _ lo (hi-lo).toNat,?_,λb hb=>?_,q⟩
 ·have e1:lo+((0:Nat):Int)*1=lo:=by simp
  have e2:(((hi-lo).toNat:Nat):Int)-((0:Nat):Int)=Builtin.Range.rangeSize lo hi 1:=by rw[rangeSize_one];split <;> omega
  show IsRangeIter _ _ (lo+((0:Nat):Int)*1) ((((hi-lo).toNat:Nat):Int)-((0:Nat):Int)) 1
  rw[e1,e2]
  exact Heap.get?_push_size _ rfl
 ·have e:b=(s.heap.push { cls:=.type "range", data:=.fields #[.int lo t,.int hi u,.int 1 v] }).objs.size:=by simpa using hb
  subst e
  exact I1.vo (Nat.le_refl _) (I1.cp.fresh (Nat.le_refl _))
def Ho(ta:TA):TI:=fun σ H R=>ta σ H λvs H1=>∃ j:Int,vs=[.int j]/\-(2^62)<=j/\j<2^62/\R (L6 0 j.toNat) H1
def GR(ta:TA):TI:=fun σ H R=>ta σ H λvs H1=>∃ i j:Int,vs=[.int i,.int j]/\(-(2^62)<=i/\i<2^62/\-(2^62)<=j/\j<2^62)/\R (L6 i (j-i).toNat) H1
theorem fL{a:Expr}{ta:TA}{pos:Pos}(hg:Gl X "range")(hm:X.mg "range" = none)(ha:PA X [a] ta)(hs:autoParam (starEach [a] X.env=[(false,eval a X.env)]) aR._auto_1):PI X tg (.Call (.Name "range" p) [a] [] pos) (Ho ta):=by
 intro Pf s σ H R I h
 refine Call_ (ki I hg hm boot_range (PyProof.Rows.callWith_type1 (c9 (ha pos Pf s σ H _ I h) λus s1 ⟨vs,H1,I1,r1,q1⟩=>?_) hs rfl))
 obtain⟨j,e,q1,q2,q⟩:=q1
 subst e
 cases r1 with
 | cons r rr =>
  cases rr
  obtain⟨t,rfl⟩:=r
  exact call_range_1 (vW I1 (by omega) (by omega) q1 q2 (by simpa using q))
theorem t7{a b:Expr}{ta:TA}{pos:Pos}(hg:Gl X "range")(hm:X.mg "range" = none)(ha:PA X [a,b] ta)(hs:autoParam (starEach [a,b] X.env=[(false,eval a X.env),(false,eval b X.env)]) aR._auto_1)(Q2:autoParam (starEach [b] X.env=[(false,eval b X.env)]) aR._auto_1) :
  PI X tg (.Call (.Name "range" p) [a,b] [] pos) (GR ta):=by
 intro Pf s σ H R I h
 refine Call_ (ki I hg hm boot_range (PyProof.Rows.callWith_type1 (c9 (ha pos Pf s σ H _ I h) λus s1 ⟨vs,H1,I1,r1,q1⟩=>?_) (by rw[hs,Q2]) (by rw[Q2];rfl)))
 obtain⟨i,j,e,⟨q1,q2,q3,q4⟩,q⟩:=q1
 subst e
 cases r1 with
 | cons r rr =>
  cases rr with
  | cons r' rr =>
   cases rr
   obtain⟨t,rfl⟩:=r
   obtain⟨t',rfl⟩:=r'
   exact call_range_2 (vW I1 q1 q2 q3 q4 q)
def NV(wi:TI)(g:TG)(tb:TS):TS:=λD σ H=>wi σ H λJ H1=>∃ W:Nat->Nat->St->Hp->Prop,(∃ m,W 0 m σ H1)/\∀ i m σ H,W i m σ H ->
 (J.stop i H/\D.nx σ H)\/(J.go i H/\∃ N:St->Hp->Prop,(∀ σ' H',N σ' H'->∃ m',m'<m/\W (i+1) m' σ' H')/\∀ x H',J.w4 i H x H'->g x σ H' fun σ2 H2=>tb { D with nx:=N,ct:=N,bk:=D.nx } σ2 H2)
def nW(fp:List Addr)(h:Heap):List (Addr×Obj):=fp.filterMap λb=>(h.get? b).map λo=>(b,o)
theorem kn(hb:b∈fp)(e:h.get? b=some o):(b,o)∈nW fp h:=List.mem_filterMap.mpr ⟨b,hb,by rw[e];rfl⟩
theorem Ak{p:Addr×Obj}(hp:p∈nW fp h):p.1∈fp/\h.get? p.1=some p.2:=by
 obtain⟨b,hb,e⟩:=List.mem_filterMap.mp hp
 cases q:h.get? b with
 | none=>rw[q] at e;cases e
 | some o =>
  rw[q] at e
  have e':(b,o)=p:=Option.some.inj e
  subst e'
  exact⟨hb,q⟩
theorem Inv.pinned(I:Inv X Pf σ H s)(hf:∀ b∈fp,mG X Pf H b)(ho:∀ b∈fp,∃ o,s.heap.get? b=some o/\∀ v,o.data≠.cell v):Inv X (Pf++nW fp s.heap) σ H s :=
 I.zp λp hp=>(List.mem_append.mp hp).elim (λz=>I.pin p (List.mem_append_right _ z)) λz=>by
  obtain⟨hb,e⟩:=Ak z
  obtain⟨f0,f1,f2,_⟩:=hf p.1 hb
  obtain⟨o,e',d⟩:=ho p.1 hb
  rw[e] at e';cases e'
  exact⟨e,f0,f1,f2,d⟩
theorem Inv.mH{pl:List (Addr×Obj)}(I:Inv X (Pf++pl) σ H s):Inv X Pf σ H s:=I.zp λp hp=>I.pin p (List.mem_append_right _ (List.mem_append_left _ hp))
theorem J4{iter:Expr}{wi:TI}{g:TG}{pos:Pos}(hp:PassesOwn (model X.prog X.w) X.A X.env X.xe)(hc:X.calm=true)(hi:PI X tg iter wi)(hg:PG X tg g)(hb:nQ X body tb)
  (hs:autoParam (∀ x,foldedSetIterable iter X.env x=pure x) aI._auto_1):PS X (.For tg iter body [] pos) (NV wi g tb):=by
 intro Pf s σ H D I h
 refine wpAny_For (c9 (hi Pf s σ H _ I h) λv s1 h1=>c9 h1 λitv s2 h2=>?_) hs
 obtain⟨it,fp,tn,J,H2,e,I2,T,Sw,f2,W,⟨m0,w0⟩,turn⟩:=h2
 subst e
 have Rz:∀ {H':Hp},(∀ b∈fp,H' b=none)->∀ b∈fp,mG X Pf H' b:=λhn b hb=>⟨hn b hb,(f2 b hb).2⟩
 refine codeAny_forLoop_any (λn s'=>∃ i σ' H',Inv X Pf σ' H' s'/\tn i s'.heap/\(∀ b∈fp,H' b=none)/\W i n σ' H') ?_ m0 ⟨0,σ,H2,I2,Sw,λb hb=>(f2 b hb).1,w0⟩
 rintro n s3 ⟨i,σ3,H3,I3,st3,fr3,w3⟩
 rcases turn i n σ3 H3 w3 with ⟨stop,qn⟩ | ⟨go,N,hN,step⟩
 ·refine wpAny_passesOwn hp (c9 (T.done X rfl rfl rfl hc i Pf s3 σ3 H3 X.xe I3 (Rz fr3) st3 stop) λr s4 ⟨hr,I4⟩=>?_)
  subst hr
  exact wpAny_execs_nil ⟨σ3,H3,I4,qn⟩
 ·refine wpAny_passesOwn hp (c9 (T.item X rfl rfl rfl hc i Pf s3 σ3 H3 X.xe I3 (Rz fr3) st3 go) λr s4 ⟨u,hr,h4⟩=>?_)
  subst hr
  refine wpAny_passesOwn hp (c9 h4 λ_ s5 ⟨x,H5,I5,r5,y5,st5,fr5⟩=>?_)
  have I5':=I5.pinned (Rz fr5) (T.obj _ _ st5)
  refine wpAny_passesOwn hp (c9 (hg _ s5 σ3 H5 x u _ I5' r5 (step x H5 y5)) λ_ s6 ⟨σ6,H6,I6,q6⟩=>?_)
  refine wpAny_passesOwn hp (c9 (hb _ s6 σ6 H6 _ I6 q6) λf s7 q7=>?_)
  have again:∀ {σ7:St} {H7:Hp},Inv X (Pf++nW fp s5.heap) σ7 H7 s7->N σ7 H7->∃ m,m<n/\∃ i σ' H',Inv X Pf σ' H' s7/\tn i s7.heap/\(∀ b∈fp,H' b=none)/\W i m σ' H':=λ{σ7 H7} I7 n7=>by
   obtain⟨m',hm,w7⟩:=hN σ7 H7 n7
   refine⟨m',hm,i+1,σ7,H7,I7.mH,T.keep _ _ _ st5 λb hb o e=>(I7.pin (b,o) (List.mem_append_right _ (List.mem_append_right _ (kn hb e)))).1,λb hb=>?_,w7⟩
   obtain⟨o,e,d⟩:=T.obj _ _ st5 b hb
   exact(I7.pin (b,o) (List.mem_append_right _ (List.mem_append_right _ (kn hb e)))).2.1
  cases f with
  | next=>obtain⟨σ7,H7,I7,n7⟩:=q7;exact again I7 n7
  | cont=>obtain⟨σ7,H7,I7,n7⟩:=q7;exact again I7 n7
  | brk=>obtain⟨σ7,H7,I7,q7⟩:=q7;exact⟨σ7,H7,I7.mH,q7⟩
  | ret v=>obtain⟨x7,σ7,H7,I7,r7,q7⟩:=q7;exact⟨x7,σ7,H7,I7.mH,r7,q7⟩
abbrev R2:=V->V->Hp->VK->Prop
def iu(X:Cx)(f:Value->Value->Sem Value)(r:R2):Prop :=
 ∀ (Pf:List (Addr×Obj)) (s:Shared) (σ:St) (H:Hp) (x y:V) (v u:Value) (Q:VK),Inv X Pf σ H s->RelV x v->RelV y u->r x y H Q ->
  wpAny (model X.prog X.w) X.A (f v u) (EP X Pf σ Q) X.xe s
def N4(X:Cx)(f:Value->Sem Value)(r:V->Hp->VK->Prop):Prop :=
 ∀ (Pf:List (Addr×Obj)) (s:Shared) (σ:St) (H:Hp) (x:V) (v:Value) (Q:VK),Inv X Pf σ H s->RelV x v->r x H Q ->
  wpAny (model X.prog X.w) X.A (f v) (EP X Pf σ Q) X.xe s
def dW(X:Cx)(f:Value)(r:List V->Hp->VK->Prop):Prop :=
 ∀ (Pf:List (Addr×Obj)) (s:Shared) (σ:St) (H:Hp) (xs:List V) (us:List Value) (Q:VK),Inv X Pf σ H s->Vals xs us->r xs H Q ->
  wpAny (model X.prog X.w) X.A (call f us) (EP X Pf σ Q) X.xe s
def Mg(r:R2)(ta tb:TE):TE:=fun σ H Q=>ta σ H λx H1=>tb σ H1 λy H2=>r x y H2 Q
def OF(r:V->Hp->VK->Prop)(ta:TE):TE:=fun σ H Q=>ta σ H λx H1=>r x H1 Q
def rI(C:Int->Int->Prop)(g:Int->Int->V):R2:=λx y H Q=>∃ i j,x=.int i/\y=.int j/\C i j/\Q (g i j) H
def zy(g:Int->Int->V):R2:=λx y H Q=>∃ i j,x=.int i/\y=.int j/\Q (g i j) H
def rU(g:Int->V):V->Hp->VK->Prop:=λx H Q=>∃ i,x=.int i/\Q (g i) H
variable{f:Value->Value->Sem Value}
variable{r:R2}
section
variable{a b:Expr}{tb tc:TE}{pos:Pos}
theorem Ja(ha:PE X a ta)(hb:PE X b tb){R:V->V->Hp->Prop}(I:Inv X Pf σ H s)
  (h:ta σ H λx H1=>tb σ H1 λy H2=>R x y H2)
  (hf:∀ v u s2 x y H2,Inv X Pf σ H2 s2->RelV x v->RelV y u->R x y H2->wpAny (model X.prog X.w) X.A (f v u) Q X.xe s2) :
  wpAny (model X.prog X.w) X.A (eval a X.env) (λv s₁=>wpAny (model X.prog X.w) X.A (eval b X.env) (λu s₂=>wpAny (model X.prog X.w) X.A (f v u) Q X.xe s₂) X.xe s₁) X.xe s:=by
 refine c9 (ha Pf s σ H _ I h) λv s1 ⟨x,H1,I1,r1,q1⟩=>?_
 refine c9 (hb Pf s1 σ H1 _ I1 q1) λu s2 ⟨y,H2,I2,r2,q2⟩=>?_
 exact hf v u s2 x y H2 I2 r1 r2 q2
theorem Hd{op:Operator}(ho:iu X (binaryOp op) r)(ha:PE X a ta)(hb:PE X b tb):PE X (.BinOp a op b pos) (Mg r ta tb):=by
 intro Pf s σ H Q I h
 exact wpAny_BinOp (Ja ha hb I h λv u s2 x y H2 I2 rx ry q=>ho Pf s2 σ H2 x y v u Q I2 rx ry q)
theorem Mm{op:UnaryOp}{r:V->Hp->VK->Prop}(ho:N4 X (unaryOp op) r)(ha:PE X a ta):PE X (.UnaryOp op a pos) (OF r ta):=by
 intro Pf s σ H Q I h
 exact UnaryOp_ (c9 (ha Pf s σ H _ I h) λv s1 ⟨x,H1,I1,r1,q1⟩=>ho Pf s1 σ H1 x v Q I1 r1 q1)
theorem Oo{C:Int->Int->Prop}{g:Int->Int->Int}
  (rule:∀ (i j:Int) (t u:Tok) (s:Shared) (Q:Value->Shared->Prop) (E:Value->Shared->Prop),C i j->Q (.int (g i j) s.toks) { s with toks:=s.toks+1 }->wpAny (model X.prog X.w) X.A (f (.int i t) (.int j u)) Q E s) :
  iu X f (rI C λi j=>.int (g i j)):=by
 intro Pf s σ H x y v u Q I rx ry h
 obtain⟨i,j,rfl,rfl,hc,q⟩:=h
 obtain⟨t,rfl⟩:=rx
 obtain⟨t',rfl⟩:=ry
 exact rule i j t t' s _ _ hc ⟨.int (g i j),H,I.tok _,⟨_,rfl⟩,q⟩
theorem KR{g:Int->Int->Int}
  (rule:∀ (i j:Int) (t u:Tok) (s:Shared) (Q:Value->Shared->Prop) (E:Value->Shared->Prop),Q (.int (g i j) s.toks) { s with toks:=s.toks+1 }->wpAny (model X.prog X.w) X.A (f (.int i t) (.int j u)) Q E s) :
  iu X f (zy λi j=>.int (g i j)):=by
 intro Pf s σ H x y v u Q I rx ry h
 obtain⟨i,j,rfl,rfl,q⟩:=h
 obtain⟨t,rfl⟩:=rx
 obtain⟨t',rfl⟩:=ry
 exact rule i j t t' s _ _ ⟨.int (g i j),H,I.tok _,⟨_,rfl⟩,q⟩
theorem Gx{g:Int->Int->Bool}
  (rule:∀ (i j:Int) (t u:Tok) (s:Shared) (Q:Value->Shared->Prop) (E:Value->Shared->Prop),Q (.bool (g i j)) s->wpAny (model X.prog X.w) X.A (f (.int i t) (.int j u)) Q E s) :
  iu X f (zy λi j=>.bl (g i j)):=by
 intro Pf s σ H x y v u Q I rx ry h
 obtain⟨i,j,rfl,rfl,q⟩:=h
 obtain⟨t,rfl⟩:=rx
 obtain⟨t',rfl⟩:=ry
 exact rule i j t t' s _ _ ⟨.bl (g i j),H,I,rfl,q⟩
theorem IU:iu X (binaryOp .Add) (zy λi j=>.int (i+j)):=KR λ_ _ _ _ _ _ _ q=>add_int q
theorem IX:iu X (binaryOp .Sub) (zy λi j=>.int (i-j)):=KR λ_ _ _ _ _ _ _ q=>sub_int q
theorem GB:iu X (binaryOp .Mod) (rI (λ_ j=>j≠0) λi j=>.int (i.fmod j)):=Oo λ_ _ _ _ _ _ _ hc q=>mod_int' hc q
theorem O_{f:Value->Sem Value}{g:Int->Int}
  (rule:∀ (i:Int) (t:Tok) (s:Shared) (Q:Value->Shared->Prop) (E:Value->Shared->Prop),Q (.int (g i) s.toks) { s with toks:=s.toks+1 }->wpAny (model X.prog X.w) X.A (f (.int i t)) Q E s) :
  N4 X f (rU λi=>.int (g i)):=by
 intro Pf s σ H x v Q I rx h
 obtain⟨i,rfl,q⟩:=h
 obtain⟨t,rfl⟩:=rx
 exact rule i t s _ _ ⟨.int (g i),H,I.tok _,⟨_,rfl⟩,q⟩
theorem Jy:N4 X (unaryOp .USub) (rU λi=>.int (-i)):=O_ λ_ _ _ _ _ q=>neg_int q
end
variable{op:CmpOp}
variable{us:List Value}
section
variable{a b:Expr}{tb tc:TE}{pos:Pos}
theorem ua{Q:VK}{k k':Bool}(I:Inv X Pf σ H s)(q:Q (.bl k) H)(e:k=k'):EP X Pf σ Q (.bool k') s:=by
 subst e
 exact⟨.bl k,H,I,rfl,q⟩
theorem zH:iu X (compareOp .Lt) (zy λi j=>.bl (decide (i<j))):=Gx λ_ _ _ _ _ _ _ q=>lt_int q
theorem tf:iu X (compareOp .LtE) (zy λi j=>.bl (decide (i<=j))):=Gx λ_ _ _ _ _ _ _ q=>le_int q
theorem Hy:iu X (compareOp .Gt) (zy λi j=>.bl (decide (j<i))):=Gx λ_ _ _ _ _ _ _ q=>gt_int q
theorem GX:iu X (compareOp .GtE) (zy λi j=>.bl (decide (j<=i))):=Gx λ_ _ _ _ _ _ _ q=>ge_int q
theorem CD:iu X (compareOp .Is) (λx y H Q=>y=.da/\Q (.bl (decide (x=.da))) H):=by
 intro Pf s σ H x y v u Q I rx ry h
 obtain⟨rfl,q⟩:=h
 cases ry
 refine is_none_gen (ua I q ?_)
 cases x <;> first
  | (cases rx;rfl)
  | (obtain⟨t,rfl⟩:=rx;rfl)
theorem zG:iu X (compareOp .IsNot) (λx y H Q=>y=.da/\Q (.bl (!decide (x=.da))) H):=by
 intro Pf s σ H x y v u Q I rx ry h
 obtain⟨rfl,q⟩:=h
 cases ry
 refine isnot_none_gen (ua I q ?_)
 cases x <;> first
  | (cases rx;rfl)
  | (obtain⟨t,rfl⟩:=rx;rfl)
theorem iu.or{r':R2}(h:iu X f r)(h':iu X f r'):iu X f (λx y H Q=>r x y H Q\/r' x y H Q):=by
 intro Pf s σ H x y v u Q I rx ry q
 rcases q with q | q
 ·exact h Pf s σ H x y v u Q I rx ry q
 ·exact h' Pf s σ H x y v u Q I rx ry q
theorem eK(b:Expr)(h:autoParam (op≠.In) aD._auto_1)(h2:autoParam (op≠.NotIn) aD._auto_1):behindInMarks op b=false:=by
 have e1:(op==CmpOp.In)=false:=by cases op <;> first | rfl | exact absurd rfl h
 have e2:(op==CmpOp.NotIn)=false:=by cases op <;> first | rfl | exact absurd rfl h2
 cases b <;> simp[behindInMarks,e1,e2]
theorem Gy(ho:iu X (compareOp op) r)(ha:PE X a ta)(hb:PE X b tb)(hm:behindInMarks op b=false):PE X (.Compare a [op] [b] pos) (Mg r ta tb):=by
 intro Pf s σ H Q I h
 exact wpAny_Compare1 (Ja ha hb I h λv u s2 x y H2 I2 rx ry q=>ho Pf s2 σ H2 x y v u Q I2 rx ry q) hm
def Hg(t:TE):TT:=fun σ H Q=>t σ H λx H'=>∃ k,x=.bl k/\Q k H'
theorem Fz(ho:iu X (compareOp op) r)(ha:PE X a ta)(hb:PE X b tb)(hm:behindInMarks op b=false):PT X (.Compare a [op] [b] pos) (Hg (Mg r ta tb)):=by
 intro Pf s σ H Q I h
 refine wpAny_isTrue_Compare1 (c9 (ha Pf s σ H _ I h) λv s1 ⟨x,H1,I1,r1,q1⟩=>c9 (hb Pf s1 σ H1 _ I1 q1) λu s2 ⟨y,H2,I2,r2,q2⟩ =>
  c9 (ho Pf s2 σ H2 x y v u _ I2 r1 r2 q2) λc s3 ⟨z,H3,I3,r3,k,e,q3⟩=>?_) hm
 subst e
 cases r3
 exact wpAny_truthy_bool ⟨H3,I3,q3⟩
def yc(r r':R2)(ta tb tc:TE):TE:=fun σ H Q=>ta σ H λx H1=>tb σ H1 λy H2=>r x y H2 λz H3=>∃ k,z=.bl k ∧
 (if k=true then tc σ H3 λw' H4=>r' y w' H4 Q else Q (.bl false) H3)
theorem Dk{Rx:CmpOp}{r':R2}(ho:iu X (compareOp op) r)(Rh:iu X (compareOp Rx) r')(ha:PE X a ta)(hb:PE X b tb)(hc:PE X c tc)
  (hm:autoParam (lastMarks [op,Rx] [b,c]=false) aU._auto_1):PE X (.Compare a [op,Rx] [b,c] pos) (yc r r' ta tb tc):=by
 intro Pf s σ H Q I h
 refine Compare_chain (c9 (ha Pf s σ H _ I h) λv s1 ⟨x,H1,I1,r1,q1⟩=>chain_link (c9 (hb Pf s1 σ H1 _ I1 q1) λu s2 ⟨y,H2,I2,r2,q2⟩ =>
  c9 (ho Pf s2 σ H2 x y v u _ I2 r1 r2 q2) λd s3 ⟨z,H3,I3,r3,k,e,q3⟩=>?_)) hm
 subst e
 cases r3
 refine wpAny_truthy_bool ?_
 cases k with
 | false=>exact ite_ff ⟨.bl false,H3,I3,rfl,q3⟩
 | true=>exact ite_tt (chain_last (c9 (hc Pf s3 σ H3 _ I3 q3) λw' s4 ⟨z',H4,I4,r4,q4⟩=>Rh Pf s4 σ H4 y z' u w' Q I4 r2 r4 q4))
theorem De{Rx:CmpOp}{r':R2}(ho:iu X (compareOp op) r)(Rh:iu X (compareOp Rx) r')(ha:PE X a ta)(hb:PE X b tb)(hc:PE X c tc)
  (hm:autoParam (lastMarks [op,Rx] [b,c]=false) aU._auto_1):PT X (.Compare a [op,Rx] [b,c] pos) (Hg (yc r r' ta tb tc)):=by
 intro Pf s σ H Q I h
 refine isTrue_chain (c9 (ha Pf s σ H _ I h) λv s1 ⟨x,H1,I1,r1,q1⟩=>test_link (c9 (hb Pf s1 σ H1 _ I1 q1) λu s2 ⟨y,H2,I2,r2,q2⟩ =>
  c9 (ho Pf s2 σ H2 x y v u _ I2 r1 r2 q2) λd s3 ⟨z,H3,I3,r3,k,e,q3⟩=>?_)) hm
 subst e
 cases r3
 refine wpAny_truthy_bool ?_
 cases k with
 | false =>
  obtain⟨k',e',q'⟩:=q3
  cases e'
  exact ite_ff ⟨H3,I3,q'⟩
 | true =>
  refine ite_tt (test_last (c9 (hc Pf s3 σ H3 _ I3 q3) λw' s4 ⟨z',H4,I4,r4,q4⟩=>c9 (Rh Pf s4 σ H4 y z' u w' _ I4 r2 r4 q4) λd' s5 ⟨z2,H5,I5,r5,k2,e2,q5⟩=>?_))
  subst e2
  cases r5
  exact wpAny_truthy_bool ⟨H5,I5,q5⟩
theorem oy:(sizeLine:Nat)<2^63:=by rw[sizeLine_eq];decide
theorem yi:iu X (binaryOp .Add) (λx y H Q=>∃ i j,x=.str i/\y=.str j/\i.length+j.length<=sizeLine/\Q (.str (i++j)) H):=by
 intro Pf s σ H x y v u Q I rx ry h
 obtain⟨i,j,rfl,rfl,hz,q⟩:=h
 obtain⟨t,rfl⟩:=rx
 obtain⟨t',rfl⟩:=ry
 exact add_str (λt' tk=>⟨.str (i++j),H,I.tok _,⟨_,rfl⟩,q⟩) hz
theorem vals1{x:V}(r:Vals [x] us):∃ u,us=[u]/\RelV x u:=by
 cases r with
 | cons r1 r2=>cases r2;exact⟨_,rfl,r1⟩
theorem vals2{x y:V}(r:Vals [x,y] us):∃ u w',us=[u,w']/\RelV x u/\RelV y w':=by
 cases r with
 | cons r1 r2 =>
  cases r2 with
  | cons r3 r4=>cases r4;exact⟨_,_,rfl,r1,r3⟩
theorem A6(hc:X.calm=true):dW X (.builtin "max") (λxs H Q=>∃ i j,xs=[.int i,.int j]/\Q (.int (if j>i then j else i)) H):=by
 intro Pf s σ H xs us Q I r h
 obtain⟨i,j,rfl,q⟩:=h
 obtain⟨u,w',rfl,⟨t,rfl⟩,⟨t',rfl⟩⟩:=vals2 r
 refine max_two_ints (I.ok.hd hc) λh' tk k=>⟨_,H,I.kept k,?_,q⟩
 by_cases hj:j>i
 ·rw[if_pos hj,if_pos hj];exact⟨_,rfl⟩
 ·rw[if_neg hj,if_neg hj];exact⟨_,rfl⟩
end
structure yx (h:Heap) (x dx C:Addr) (mA:Str->Option Value):Prop where
 obj:h.get? x=some (PySem.W.instObj C dx)
 ns:h.Ns1 dx mA
 ne:dx≠x
variable{mA:Str->Option Value}{dx:Addr}
theorem oG(n:h.Ns1 dx mA):∃ od,h.get? dx=some od/\∀ name,PySem.W.lookIn name od=some (mA name):=by
 obtain⟨o,es,ep,ho,hd,hk,_,hm⟩:=n
 refine⟨o,ho,λname=>?_⟩
 have e:=hm name
 unfold nsFind findBy at e
 rw[← Array.find?_toList] at e
 unfold PySem.W.lookIn
 rw[hd]
 dsimp only
 split
 ·rename_i y q
  rw[q] at e
  exact congrArg some e
 ·rename_i q
  rw[q] at e
  have a:es.toList.any (·.refKey)=false:=by
   rw[List.any_eq_false]
   intro y hy
   obtain⟨z,t,hkey⟩:=hk y (Array.mem_toList_iff.mp hy)
   simp[DictEntry.refKey,hkey]
  have a':¬ es.toList.any (·.refKey)=true:=by rw[a];exact Bool.false_ne_true
  rw[if_neg a']
  exact congrArg some e
variable{C:Addr}
theorem yx.look{x:Addr}(I:yx h x dx C mA):∃ od,PySem.W.InstAt h x (PySem.W.instObj C dx) C (some od)/\∀ name,PySem.W.lookIn name od=some (mA name) :=
 let ⟨od,ho,hl⟩:=oG I.ns
 ⟨od,⟨I.obj,rfl,rfl,ho⟩,hl⟩
variable{prog:Program}
variable{pl:Sem Bool}
variable{kw:List (Str×Value)}
section
variable{K:PySem.W.Frag}{x f:Addr}{name:Str}{v:Value}
theorem get_map{expr:Bool}(X:K.In s.heap)(I:yx s.heap x dx C mA)(hg:PySem.W.plainGet K C name=true)(hh:PySem.W.hasDictIn K C=true)
  (ha:PySem.W.findIn K (.ref C) name=some none) (hv:mA name=some v) (SH:PySem.W.handedIn v=true) (h:Q v { s with toks:=s.toks+1 }) :
  wpAny (model prog w) A (getAttr (.ref x) name expr) Q E s:=by
 obtain⟨od,J,hl⟩:=I.look
 exact PySem.W.get_value X J (PySem.W.plainGet_of hg).1 (PySem.W.findObj_own hh ha rfl (by rw[hl,hv])) SH h
theorem Eh{Q:Value×List Value->Shared->Prop}(X:K.In s.heap)(I:yx s.heap x dx C mA)(hg:PySem.W.plainGet K C name=true)
  (hf:PySem.W.findIn K (.ref C) name=some (some (.ref f))) (ht:PySem.W.isFn K (.ref f)=true) (hv:mA name=none) (h:Q (.ref f,[.ref x]) s) :
  wpAny (model prog w) A (getMethod (.ref x) name pl) Q E s:=by
 obtain⟨od,J,hl⟩:=I.look
 exact PySem.W.method_fn X J (PySem.W.plainGet_of hg).1 (PySem.W.plainGet_of hg).2 hf (beq_iff_eq.mp ht) (by show (PySem.W.lookIn name od).map (·.isSome)=some false;rw[hl,hv];rfl) h
theorem FR{ns:List Str}{Q:Unit->Shared->Prop}(X:K.In s.heap)(I:yx s.heap x dx C mA)
  (hs:PySem.W.findIn K (.ref C) "__setattr__" = some (some (.builtin "object.__setattr__"))) (hp:PySem.W.plainOver K C=true) (ht:PySem.W.takerIn K C name=some none) (hh:PySem.W.hasDictIn K C=true)
  (hw:PySem.Within mA ns) (Q8:ns.length<=sizeLine)
  (h:∀ h',yx h' x dx C (λy=>if y=name then some v else mA y)->Heap.SameBut dx s.heap h'->Q () { s with heap:=h',toks:=s.toks+2 }) :
  wpAny (model prog w) A (setAttr (.ref x) name v) Q E s:=by
 obtain⟨od,J,hl⟩:=I.look
 refine PySem.W.set_plain X J hs (PySem.W.osa_open (s:={ s with toks:=s.toks+1 }) (r:=none) X J hp ht λb=>?_)
 obtain⟨cd,hc,S6⟩:=PySem.W.any_some hh
 have hx:s.heap.get? x=some ⟨.ref C,some dx,.plain,#[]⟩:=I.obj
 refine wpAny_bind (wpAny_pure (wpAny_bind (wpAny_bind (wpAny_loadPart hx (wpAny_bind (PySem.W.Looks.here (s:={ s with toks:=s.toks+1 }) (PySem.W.looks_clsIn X hc) ?_))))))
 rw[S6]
 refine wpAny_pure (a:=some dx) (wpAny_bind (wpAny_pure (wpAny_bind ?_)))
 refine wpAny_nsSet1 (s:={ s with toks:=s.toks+1 }) I.ns λh' RX Q2=>?_
 obtain⟨oD,esD,epD,hoD,hdD,RR⟩:=RX.count (PySem.Within.cons name v hw)
 refine wpAny_bind (wpAny_lookBehind hoD (by rw[hdD];exact pastItsLine_dict (Nat.le_trans RR (by rw[List.length_cons];omega))) ?_)
 exact wpAny_pure (h _ ⟨(Q2.2 _ (Ne.symm I.ne)).trans I.obj,RX,I.ne⟩ Q2)
theorem D9{R:Result->Shared->Prop}{vs:List Value}(X:K.In s.heap)(hm:PySem.W.makesIn K C=true)
  (hi:PySem.W.findIn K (.ref C) "__init__" = some (some (.ref f))) (hf:PySem.W.typeIn K (.ref f)=some (.type "function"))
  (h:codeAny (model prog w) (A.under (.builtin "type.__call__" ⟨.ref C::vs,kw⟩)) (.call (.ref f) ⟨.ref (s.heap.objs.size+1)::vs,kw⟩) (PySem.W.InitBack (s.heap.objs.size+1) R)
   { s with heap:=(s.heap.push PySem.W.emptyDict).push (PySem.W.instObj C s.heap.objs.size) }) :
  codeAny (model prog w) A (.call (.ref C) ⟨vs,kw⟩) R s:=by
 obtain⟨hh,g,d,t,os⟩:=s
 exact PySem.W.make_core (PySem.W.makes_of X hm) (PySem.W.looks_findIn X hi) (λself=>PySem.W.bind_fn X self hf) (.inl rfl) h
end
def kB(f:Str)(v:V):List (Str×V)->List (Str×V)
 | []=>[(f,v)]
 | (g,x)::r=>if g=f then (g,v)::r else (g,x)::kB f v r
theorem oO(f g:Str)(v:V):∀ fs:List (Str×V),(kB f v fs).lookup g=if g=f then some v else fs.lookup g
 | []=>by
  show List.lookup g [(f,v)]=_
  by_cases h:g=f
  ·have hb:(g==f)=true:=beq_iff_eq.mpr h
   simp only[List.lookup,hb,if_pos h]
  ·have hb:(g==f)=false:=beq_eq_false_iff_ne.mpr h
   simp only[List.lookup,hb,if_neg h]
 | (k,x)::r=>by
  have ih:=oO f g v r
  rw[show kB f v ((k,x)::r)=(if k=f then (k,v)::r else (k,x)::kB f v r) from rfl]
  by_cases hk:k=f
  ·rw[if_pos hk]
   by_cases h:g=k
   ·have hb:(g==k)=true:=beq_iff_eq.mpr h
    simp only[List.lookup,hb,if_pos (h.trans hk)]
   ·have hb:(g==k)=false:=beq_eq_false_iff_ne.mpr h
    simp only[List.lookup,hb,if_neg (λe:g=f=>h (e.trans hk.symm))]
  ·rw[if_neg hk]
   by_cases h:g=k
   ·have hb:(g==k)=true:=beq_iff_eq.mpr h
    simp only[List.lookup,hb,if_neg (λe:g=f=>hk (h.symm.trans e))]
   ·have hb:(g==k)=false:=beq_eq_false_iff_ne.mpr h
    simp only[List.lookup,hb]
    exact ih
theorem oC(f:Str)(v:V):∀ fs:List (Str×V),f∈(kB f v fs).map (·.1)/\∀ g,g∈fs.map (·.1)->g∈(kB f v fs).map (·.1)
 | []=>⟨by simp[kB],λg h=>by simp at h⟩
 | (k,x)::r=>by
  obtain⟨i1,i2⟩:=oC f v r
  rw[show kB f v ((k,x)::r)=(if k=f then (k,v)::r else (k,x)::kB f v r) from rfl]
  by_cases hk:k=f
  ·rw[if_pos hk]
   subst hk
   exact⟨by simp,λg h=>by simpa using h⟩
  ·rw[if_neg hk]
   refine⟨?_,λg h=>?_⟩
   ·rw[List.map_cons]
    exact List.mem_cons_of_mem _ i1
   ·rw[List.map_cons] at h ⊢
    rcases List.mem_cons.mp h with e | e
    ·exact List.mem_cons.mpr (.inl e)
    ·exact List.mem_cons_of_mem _ (i2 g e)
theorem oW(f:Str)(v:V):∀ fs:List (Str×V),(kB f v fs).length<=fs.length+1
 | []=>by simp[kB]
 | (k,x)::r=>by
  have ih:=oW f v r
  rw[show kB f v ((k,x)::r)=(if k=f then (k,v)::r else (k,x)::kB f v r) from rfl]
  by_cases hk:k=f
  ·rw[if_pos hk,List.length_cons,List.length_cons];omega
  ·rw[if_neg hk,List.length_cons,List.length_cons];omega
theorem nU.some_of{o:Option Value}(r:nU (some v) o):∃ u,o=some u/\RelV v u:=by
 cases o with
 | none=>exact(show False from r).elim
 | some u=>exact⟨u,rfl,r⟩
theorem nU.none_of{o:Option Value}(r:nU none o):o=none:=by
 cases o with
 | none=>rfl
 | some u=>exact(show False from r).elim
theorem Az(r:RelV v u):PySem.W.handedIn u=true:=by
 cases v with
 | da=>cases (show u=Value.none from r);rfl
 | bl b=>cases (show u=Value.bool b from r);rfl
 | int i=>obtain⟨t,e⟩:=(show ∃ t,u=Value.int i t from r);cases e;rfl
 | str x=>obtain⟨t,e⟩:=(show ∃ t,u=Value.str x t from r);cases e;rfl
 | byt b=>obtain⟨t,e⟩:=(show ∃ t,u=Value.bytes b t from r);cases e;rfl
 | GU b=>obtain⟨t,e⟩:=(show ∃ t,u=Value.float b t from r);cases e;rfl
 | ref a=>cases (show u=Value.ref a from r);rfl
 | ty n=>cases (show u=Value.type n from r);rfl
section
variable{fs So:List (Str×V)}
theorem nM(cp:oM P w H h)(e:H a=some (.ins C dx fs)):∃ mA,yx h a dx C mA/\(∀ f,nU (fs.lookup f) (mA f))/\PySem.Within mA (fs.map (·.1))/\fs.length<=1000/\H dx=some (.own a):=by
 obtain⟨d,z,ne,ob,mA,n,r,q⟩:=(show cU P w H h a (.ins C dx fs) from cp a _ e)
 exact⟨mA,⟨ob,n,ne⟩,r,q,z,d⟩
end
structure jl (K:PySem.W.Frag) (C:Addr):Prop where
 pg:PySem.W.plainGet K C Str.empty=true
 hd:PySem.W.hasDictIn K C=true
 po:PySem.W.plainOver K C=true
 sa:PySem.W.findIn K (.ref C) "__setattr__" = some (some (.builtin "object.__setattr__"))
theorem jl.get{K:PySem.W.Frag}(c:jl K C)(f:Str):PySem.W.plainGet K C f=true:=c.pg
def bC(K:PySem.W.Frag)(C:Addr)(f:Str):Prop:=PySem.W.findIn K (.ref C) f=some none
theorem bC.Hu{K:PySem.W.Frag}{f:Str}(n:bC K C f):PySem.W.takerIn K C f=some none:=by
 unfold PySem.W.takerIn
 rw[show PySem.W.findIn K (.ref C) f=some none from n]
 rfl
structure Meth (K:PySem.W.Frag) (C:Addr) (m:Str) (f:Addr):Prop where
 at_:PySem.W.findIn K (.ref C) m=some (some (.ref f))
 fn:PySem.W.isFn K (.ref f)=true
 kp:PySem.W.keepIn K (.ref f)=true
variable{m:Str}
section
variable{fs:List (Str×V)}{f:Str}
theorem yf{b:Bool}(I:Inv X Pf σ H s)(e:H a=some (.ins C dx fs))(c:jl X.K C)(n:bC X.K C f)(l:fs.lookup f=some v)
  (h:∀ u s',Inv X Pf σ H s'->RelV v u->Q u s'):wpAny (model X.prog X.w) A (getAttr (.ref a) f b) Q E s:=by
 obtain⟨mA,O,r,_,_,_⟩:=nM I.cp e
 obtain⟨u,hu,ru⟩:=nU.some_of (v:=v) (o:=mA f) (by rw[← l];exact r f)
 exact get_map I.kG O (c.get f) c.hd n hu (Az ru) (h u _ (I.tok _) ru)
theorem mj{g:Addr}{Q:Value×List Value->Shared->Prop}(I:Inv X Pf σ H s)(e:H a=some (.ins C dx fs))(c:jl X.K C)(k:Meth X.K C m g)(l:fs.lookup m=none)
  (h:Q (.ref g,[.ref a]) s):wpAny (model X.prog X.w) A (getMethod (.ref a) m pl) Q E s:=by
 obtain⟨mA,O,r,_,_,_⟩:=nM I.cp e
 have hn:mA m=none:=nU.none_of (by rw[← l];exact r m)
 exact Eh I.kG O (c.get m) k.at_ k.fn hn h
theorem za{y:V}{Q:Unit->Shared->Prop}(I:Inv X Pf σ H s)(e:H a=some (.ins C dx fs))(c:jl X.K C)(n:bC X.K C f)(hl:fs.length<1000)(ry:RelV y u)
  (h:∀ s',Inv X Pf σ (upd H a (.ins C dx (kB f y fs))) s'->Q () s'):wpAny (model X.prog X.w) A (setAttr (.ref a) f u) Q E s:=by
 obtain⟨mA,O,r,wi,_,ho⟩:=nM I.cp e
 have hz:(fs.map (·.1)).length<=sizeLine:=by rw[List.length_map,sizeLine_eq];omega
 refine FR I.kG O c.sa c.po n.Hu c.hd wi hz λh' O' sb=>h _ ?_
 have hd:∃ o,h'.get? dx=some o:=let ⟨o,_,_,e',_⟩:=O'.ns;⟨o,e'⟩
 refine I.write (x:=a) (e:=dx) (by rw[e];exact True.intro) (.inr ho) (λb q hb z=>(sb.2 b hb).trans z) hd ?_
 refine⟨by rw[av O.ne];exact ho,?_,O.ne,O'.obj,_,O'.ns,λg=>?_,λg hg=>?_⟩
 ·have:=oW f y fs;omega
 ·show nU ((kB f y fs).lookup g) (if g=f then some u else mA g)
  rw[oO]
  by_cases q:g=f
  ·rw[if_pos q,if_pos q];exact ry
  ·rw[if_neg q,if_neg q];exact r g
 ·by_cases q:g=f
  ·rw[q];exact(oC f y fs).1
  ·refine(oC f y fs).2 g (wi g λz=>hg ?_)
   show (if g=f then some u else mA g)=none
   rw[if_neg q];exact z
theorem Inv.made(I:Inv X Pf σ H s):Inv X Pf σ (upd (upd H s.heap.objs.size (.own (s.heap.objs.size+1))) (s.heap.objs.size+1) (.ins C s.heap.objs.size []))
  { s with heap:=(s.heap.push PySem.W.emptyDict).push (PySem.W.instObj C s.heap.objs.size) }:=by
 have e1:(s.heap.push PySem.W.emptyDict).get? s.heap.objs.size=some PySem.W.emptyDict:=Heap.get?_push_size s.heap rfl
 have e2:((s.heap.push PySem.W.emptyDict).push (PySem.W.instObj C s.heap.objs.size)).get? (s.heap.objs.size+1)=some (PySem.W.instObj C s.heap.objs.size):=by
  have:=Heap.get?_push_size (s.heap.push PySem.W.emptyDict) (o:=PySem.W.instObj C s.heap.objs.size) rfl
  rwa [Heap.size_push] at this
 have e3:(s.heap.push PySem.W.emptyDict).Ns s.heap.objs.size (λ_=>none):=⟨PySem.W.emptyDict,#[],_,e1,rfl,(λe he=>absurd he (by simp)),λ_=>rfl⟩
 have I1:=I.laid (a:=s.heap.objs.size) (o:=.own (s.heap.objs.size+1)) (h':=s.heap.push PySem.W.emptyDict) (t':=s.toks) (λb u q=>Heap.get?_push_of_some _ q) (Nat.le_refl _) ⟨_,e1⟩
 refine I1.laid (a:=s.heap.objs.size+1) (o:=.ins C s.heap.objs.size []) (t':=s.toks) (λb u q=>Heap.get?_push_of_some _ q) (Nat.le_of_eq (Heap.size_push _ _)) ?_
 have ne:s.heap.objs.size≠s.heap.objs.size+1:=Nat.ne_of_lt (Nat.lt_succ_self _)
 refine⟨by rw[av ne,aC],Nat.zero_le _,ne,e2,λ_=>none,(Heap.Ns1.of_empty e3).at λo q=>Heap.get?_push_of_some _ q,λ_=>True.intro,λy hy=>absurd rfl hy⟩
theorem Gg{env:Env}{f:Str}{pos:Pos}(hb:attributeBase e f env (eval e env)=eval e env)
  (h:wpAny (model prog w) A (eval e env) (λo s₁=>wpAny (model prog w) A (getAttr o f true) Q E s₁) E s):wpAny (model prog w) A (eval (.Attribute e f pos) env) Q E s :=
 Attribute_any_ h (by rw[arm_eval_Attribute,hb])
end
def Nv(K:PySem.W.Frag)(ta:TE)(f:Str):TE:=fun σ H Q=>ta σ H λx H1=>∃ a C dx fs v,x=.ref a/\H1 a=some (.ins C dx fs)/\jl K C/\bC K C f/\fs.lookup f=some v/\Q v H1
def M4(K:PySem.W.Frag)(ta tv:TE)(f:Str):TS:=λD σ H=>tv σ H λy H1=>ta σ H1 λx H2=>∃ a C dx fs,x=.ref a/\H2 a=some (.ins C dx fs)/\jl K C/\bC K C f/\fs.length<1000 ∧
 D.nx σ (upd H2 a (.ins C dx (kB f y fs)))
section
variable{o value:Expr}{f:Str}{pos pos' tpos:Pos}{tv:TE}
theorem JD(he:PE X e ta)(hb:attributeBase e f X.env (eval e X.env)=eval e X.env):PE X (.Attribute e f pos) (Nv X.K ta f):=by
 intro Pf s σ H Q I h
 refine Gg hb (c9 (he Pf s σ H _ I h) λu s1 ⟨x,H1,I1,rx,a,C,dx,fs,v,ex,ea,c,n,l,q⟩=>?_)
 subst ex
 obtain rfl:u=Value.ref a:=rx
 exact yf I1 ea c n l λu' s2 I2 ru=>⟨v,H1,I2,ru,q⟩
theorem IM(ha:PE X o ta)(hv:PE X value tv)(hs:swapsWith value (some (.Attribute o f pos')) pos.line X.env=pure false):PS X (.Assign [.Attribute o f pos'] value pos) (M4 X.K ta tv f):=by
 intro Pf s σ H D I h
 refine plainObj_wpAny_Assign_Attribute (c9 (hv Pf s σ H _ I h) λu s1 ⟨y,H1,I1,ry,q⟩=>c9 (ha Pf s1 σ H1 _ I1 q) λov s2 ⟨x,H2,I2,rx,a,C,dx,fs,ex,ea,c,n,l,q2⟩=>?_) hs
 subst ex
 obtain rfl:ov=Value.ref a:=rx
 exact za I2 ea c n l ry λs3 I3=>⟨σ,_,I3,q2⟩
end
section
variable{c:Value}{b:Bool}
inductive kA (K:PySem.W.Frag) (H:Hp):V->Value->Prop where
 | da:kA K H .da (.type "NoneType")
 | bl (x:Bool):kA K H (.bl x) (.type "bool")
 | int (i:Int):kA K H (.int i) (.type "int")
 | str (x:Str):kA K H (.str x) (.type "str")
 | GU (x:UInt64):kA K H (.GU x) (.type "float")
 | lst {a:Addr} {xs:List V} (e:H a=some (.lst xs)):kA K H (.ref a) (.type "list")
 | sG {a:Addr} {o:Obj} {xs:List V} (e:H a=some (.sG o (.lst xs))):kA K H (.ref a) (.type "list")
 | tup {a:Addr} {xs:List V} (e:H a=some (.tup xs)):kA K H (.ref a) (.type "tuple")
 | dK {a:Addr} {Qu:List (Key×V)} (e:H a=some (.dK Qu)):kA K H (.ref a) (.type "dict")
 | dT {a:Addr} {Qu:List (List Key×V)} (e:H a=some (.dT Qu)):kA K H (.ref a) (.type "dict")
 | ins {a C dx:Addr} {fs:List (Str×V)} (e:H a=some (.ins C dx fs)) (cl:jl K C) (ha:PySem.W.findIn K (.ref C) "__class__" = some (some (.builtin "object.__class__")))
   (hn:PySem.W.specialIn K (.builtin "object.__class__") "__get__" = some (some (.builtin "getset_descriptor.__get__"))) (Kv:PySem.W.takesIn K (.builtin "object.__class__")=some true)
   (hm:PySem.W.mroIn K C (.type "object")=some true):kA K H (.ref a) (.ref C)
theorem tF{x:V}{t:Value}(I:Inv X Pf σ H s)(rx:RelV x u)(ty:kA X.K H x t)(e:PySem.W.kitOne X.K t c=some b)(h:∀ tk,Q (.bool b) { s with toks:=tk }) :
  wpAny (model X.prog X.w) A (call (.builtin "isinstance") [u,c]) Q E s:=by
 cases ty with
 | da=>cases (show u=Value.none from rx);exact PySem.W.kia_one PySem.W.kitx_none I.kG True.intro e (λz=>nomatch z) h
 | bl y=>cases (show u=Value.bool y from rx);exact PySem.W.kia_one PySem.W.kitx_bool I.kG True.intro e (λz=>nomatch z) h
 | int i=>obtain⟨t,q⟩:=(show ∃ t,u=Value.int i t from rx);cases q;exact PySem.W.kia_one PySem.W.kitx_int I.kG True.intro e (λz=>nomatch z) h
 | str y=>obtain⟨t,q⟩:=(show ∃ t,u=Value.str y t from rx);cases q;exact PySem.W.kia_one PySem.W.kitx_str I.kG True.intro e (λz=>nomatch z) h
 | GU y=>obtain⟨t,q⟩:=(show ∃ t,u=Value.float y t from rx);cases q;exact PySem.W.kia_one PySem.W.kitx_float I.kG True.intro e (λz=>nomatch z) h
 | @lst a xs ea =>
  cases (show u=Value.ref a from rx)
  obtain⟨_,_,n,_,h1⟩:=(show cU X.prog X.w H s.heap a (.lst xs) from I.cp a _ ea)
  exact PySem.W.kia_one PySem.W.kitx_list I.kG ⟨_,h1,rfl⟩ e (λz=>nomatch z) h
 | @sG a ob xs ea =>
  cases (show u=Value.ref a from rx)
  obtain⟨_,_,_,n,_,h1⟩:=(show cU X.prog X.w H s.heap a (.sG ob (.lst xs)) from I.cp a _ ea)
  exact PySem.W.kia_one PySem.W.kitx_list I.kG ⟨_,h1,rfl⟩ e (λz=>nomatch z) h
 | @tup a xs ea =>
  cases (show u=Value.ref a from rx)
  obtain⟨_,_,_,p⟩:=(show cU X.prog X.w H s.heap a (.tup xs) from I.cp a _ ea)
  obtain⟨o,h1,h2,_⟩:=p
  exact PySem.W.kia_one PySem.W.kitx_tuple I.kG ⟨o,h1,h2⟩ e (λz=>nomatch z) h
 | @dK a Qu ea =>
  cases (show u=Value.ref a from rx)
  obtain⟨_,_,vs,_,p⟩:=(show cU X.prog X.w H s.heap a (.dK Qu) from I.cp a _ ea)
  obtain⟨o,es,ep,h1,h2,_⟩:=p
  exact PySem.W.kia_one PySem.W.kitx_dict I.kG ⟨o,h1,h2.1⟩ e (λz=>nomatch z) h
 | @dT a Qu ea =>
  cases (show u=Value.ref a from rx)
  obtain⟨_,_,xs,_,o,es,ep,h1,h2,_⟩:=(show cU X.prog X.w H s.heap a (.dT Qu) from I.cp a _ ea)
  exact PySem.W.kia_one PySem.W.kitx_dict I.kG ⟨o,h1,h2.1⟩ e (λz=>nomatch z) h
 | @ins a C dx fs ea cl ha hn Kv hm =>
  cases (show u=Value.ref a from rx)
  obtain⟨mA,O,_⟩:=nM I.cp ea
  obtain⟨od,J,_⟩:=O.look
  exact PySem.W.kia_one (PySem.W.kitx_own (cl.get _) cl.hd ha hn Kv hm) I.kG J e (λz=>nomatch z) h
end
structure cV (k:Nat) (A:Around):Prop where
 hd:A.handled=none
 dp:A.depth+3*k+5<recursionLimit
 un:A.units+16*k+200<cLine
theorem cV.mono{j:Nat}(r:cV k A)(h:j<=k):cV j A:=⟨r.hd,by have:=r.dp;omega,by have:=r.un;omega⟩
theorem cV.deeper{k:Nat}{A:Around}(r:cV (k+1) A)(env:Env):cV k (A.deeper env) :=
 ⟨r.hd,by have:=r.dp;show A.depth+1+3*k+5<_;omega,by have:=r.un;show A.units+3+16*k+200<_;omega⟩
theorem yd:(A.under (.builtin "type.__call__" ⟨.ref C::us,kw⟩)).depth=A.depth+1:=by
 first | rfl | simp[Around.under,Code.weight,Code.isCreation,Code.isGuard,Code.isCaller,Code.frames,Code.isFrame,guardIds]
theorem yh:(A.under (.builtin "type.__call__" ⟨.ref C::us,kw⟩)).units=A.units+1:=by
 first | rfl | simp[Around.under,Code.cUnits,Code.frames,Code.isFrame]
theorem cV.make(r:cV (k+1) A)(C:Addr)(us:List Value)(kw:List (Str×Value)):cV k (A.under (.builtin "type.__call__" ⟨.ref C::us,kw⟩)) :=
 ⟨r.hd,by have:=r.dp;rw[yd];omega,by have:=r.un;rw[yh];omega⟩
theorem cV.depth{k:Nat}{A:Around}(r:cV k A):A.depth<recursionLimit:=by have:=r.dp;omega
theorem cV.units{k:Nat}{A:Around}(r:cV k A):A.units+64<cLine:=by have:=r.un;omega
def Mi:TA:=λ_ H Q=>Q [] H
def Lb(ta:TE)(tr:TA):TA:=fun σ H Q=>ta σ H λx H1=>tr σ H1 λxs H2=>Q (x::xs) H2
variable{t:TA}
section
variable{pos:Pos}
theorem mD:PA X [] Mi:=λ_ _ _ _ H Q I h=>Calls.spliced_nil ⟨[],H,I,.nil,h⟩
theorem fF(ha:PE X e te)(hr:PA X es t)(hs:autoParam (starEach (e::es) X.env=(false,eval e X.env)::starEach es X.env) aR._auto_1):PA X (e::es) (Lb te t):=by
 intro pos Pf s σ H Q I h
 rw[hs]
 show wpAny _ _ (spliced ((false,eval e X.env)::backTo pos (starEach es X.env))) _ _ s
 refine Calls.spliced_cons (c9 (ha Pf s σ H _ I h) λu s1 ⟨x,H1,I1,r1,q1⟩=>?_)
 exact c9 (hr pos Pf s1 σ H1 _ I1 q1) λus s2 ⟨xs,H2,I2,r2,q2⟩=>⟨x::xs,H2,I2,.cons r1 r2,q2⟩
def NJ(t:TA):TE:=fun σ H Q=>t σ H λxs H1=>xs.length<=sizeLine/\∀ p,H1 p=none->Q (.ref p) (upd H1 p (.tup xs))
def NU(t:TA):TE:=fun σ H Q=>t σ H λxs H1=>xs.length<=sizeLine/\∀ p,H1 p=none->Q (.ref p) (upd H1 p (.lst xs))
theorem Co{x1}(h:PA X es t):PE X (.Tuple es x1 pos) (NJ t):=by
 intro Pf s σ H Q I hq
 refine wpAny_Tuple_spliced (c9 (h pos Pf s σ H _ I hq) λus s1 ⟨xs,H1,I1,r,z,q⟩=>⟨by rw[← r.length];exact z,?_⟩)
 have hf:H1 s1.heap.objs.size=none:=I1.cp.fresh (Nat.le_refl _)
 refine⟨.ref s1.heap.objs.size,upd H1 s1.heap.objs.size (.tup xs),I1.laid (t':=s1.toks) (λb u e=>Heap.get?_push_of_some _ e) (Nat.le_refl _) ?_,rfl,q _ hf⟩
 exact⟨z,us,r,⟨_,Heap.get?_push_size _ rfl,rfl,_,rfl⟩⟩
theorem Dh(h:PA X es t):PE X (.List es pos) (NU t):=by
 intro Pf s σ H Q I hq
 refine wpAny_List_spliced (c9 (h pos Pf s σ H _ I hq) λus s1 ⟨xs,H1,I1,r,z,q⟩=>⟨by rw[← r.length];exact z,?_⟩)
 have hf:H1 s1.heap.objs.size=none:=I1.cp.fresh (Nat.le_refl _)
 refine⟨.ref s1.heap.objs.size,upd H1 s1.heap.objs.size (.lst xs),I1.laid (t':=s1.toks) (λb u e=>Heap.get?_push_of_some _ e) (Nat.le_refl _) ?_,rfl,q _ hf⟩
 exact⟨z,us,0,r,Heap.get?_push_size _ rfl⟩
end
abbrev Sp:=List V->Hp->VK->XK->Prop
abbrev Ky:=List Env->Hp->Shared->XK->Value->Shared->Prop
structure yG (P:Program) (w:World) (K:PySem.W.Frag) (mg:Str->Option Value) (base:Heap) (A:Around) (outer:List Env) (s:Shared) (H:Hp):Prop where
 frames:A.frames=some outer
 mod:Mod K mg base
 bs:∀ b o,base.get? b=some o->s.heap.get? b=some o/\H b=none
 G0:base.objs.size<=s.heap.objs.size
 pD:s.heap.FunFrames base outer
 HK:∀ b∈xP outer,H b=none
 cp:oM P w H s.heap
 bare:AllBare s.gens
def CE(outer:List Env)(P:Program)(w:World)(H:Hp)(s:Shared)(Q:VK)(u:Value)(s':Shared):Prop :=
 ∃ v H',s'.os=s.os/\AllBare s'.gens/\Un (xP outer) [] H H' s.heap s'.heap/\oM P w H' s'.heap/\RelV v u/\Q v H'
def CR(CX:Ky)(outer:List Env)(P:Program)(w:World)(H:Hp)(s:Shared)(Q:VK)(E:XK)(r:Result)(s':Shared):Prop :=
 match r with
 | .ok (.ret u)=>CE outer P w H s Q u s'
 | .ok _=>False
 | .error e=>CX outer H s E e s'
structure aO (P:Program) (w:World) (K:PySem.W.Frag) (mg:Str->Option Value) (base:Heap) (CX:Ky) (k:Nat) (f:Addr) (fd:FuncData) (ps:List Str) (sp:Sp):Prop where
 len:∀ vs H Q E,sp vs H Q E->vs.length=ps.length
 run:∀ (A:Around) (outer:List Env) (s:Shared) (H:Hp) (args:Args) (us:List Value) (vs:List V) (Q:VK) (E:XK),cV k A->yG P w K mg base A outer s H->BindsTo s fd args (ps.zip us)->Vals vs us->sp vs H Q E ->
  codeAny (model P w) A (.call (.ref f) args) (CR CX outer P w H s Q E) s
variable{outer:List Env}{base:Heap}{mg:Str->Option Value}
theorem yG.make{K:PySem.W.Frag}(e:yG P w K mg base A outer s H)(C:Addr)(us:List Value)(kw:List (Str×Value)) :
  yG P w K mg base (A.under (.builtin "type.__call__" ⟨.ref C::us,kw⟩)) outer s H:=⟨by first | exact e.frames | (simpa [Around.under,Code.envs,Code.isFrame,pushEnvs] using e.frames),e.mod,e.bs,e.G0,e.pD,e.HK,e.cp,e.bare⟩
section
variable{s':Shared}
theorem Inv.mF(I:Inv X Pf σ H s):yG X.prog X.w X.K X.mg X.base X.A X.stack s H :=
 ⟨I.ok.frames,I.ok.mod,I.bs,Nat.le_trans I.ok.G0 I.sz,I.stack,I.uH,I.cp,I.bare⟩
theorem Inv.after{Q:VK}(I:Inv X Pf σ H s)(h:CE X.stack X.prog X.w H s Q u s'):EP X Pf σ Q u s':=by
 obtain⟨v,H',os,bare,un,cp,r,q⟩:=h
 obtain⟨hh,g,d,t,os'⟩:=s'
 obtain rfl:os'=s.os:=os
 exact⟨v,H',I.call (h':=hh) (g':=g) (d':=d) (t':=t) (ch:=[]) un cp bare (λb z=>absurd z (by simp)),r,q⟩
end
def Binds(K:PySem.W.Frag)(fd:FuncData)(ps:List Str)(ds:List Value):Prop :=
 ∀ (s:Shared) (us:List Value),K.In s.heap->(us++ds).length=ps.length->BindsTo s fd ⟨us,[]⟩ (ps.zip (us++ds))
variable{ps:List Str}{fd:FuncData}
theorem Binds.all{K:PySem.W.Frag}(h:∀ us:List Value,us.length=ps.length->bindArgs fd ⟨us,[]⟩=pure (ps.zip us)):Binds K fd ps []:=λs us _ hl=>by
 rw[List.append_nil] at hl ⊢
 exact .of_eq (h us hl)
variable{sp:Sp}{CX:Ky}
section
variable{f:Addr}{Qp:List V}{ds:List Value}{E:XK}{pos apos:Pos}{o:Expr}
structure Mk (K:PySem.W.Frag) (C f:Addr):Prop where
 makes:PySem.W.makesIn K C=true
 init:PySem.W.findIn K (.ref C) "__init__" = some (some (.ref f))
 fn:PySem.W.isFn K (.ref f)=true
 kp:PySem.W.keepIn K (.ref C)=true
end
section
variable{f:Addr}{ks:List Str}{E:XK}{pos apos kpos:Pos}{o:Expr}{kws:List Keyword}{tk:TA}{nm:Option Str}
variable{g:List Value->List Value->List Value}{gV:List V->List V->List V}
end
structure cv (N P:List Str) (sc:Scope):Prop where
 kind:sc.kind=.function
 co:sc.isCoroutine=false
 gen:sc.isGenerator=false
 nd:N.Nodup
 pre:N.take P.length=P
 par:∀ x∈P,sc.names.lookup x=some .local\/sc.names.lookup x=some .cell
 JC:∀ y∈sc.names,y.2≠.free
theorem tV{kindOf:Str->Option NameKind}{x:Str}:∀ {binds:List (Str×Value)} {m:Str->Option Value},(∀ v,(x,v) ∉ binds)->bindL kindOf binds m x=m x
 | [],_,_=>rfl
 | (n,v)::r,m,h=>by
  unfold bindL
  rw[tV λw hw=>h w (List.mem_cons_of_mem _ hw)]
  split
  ·have:x≠n:=by rintro rfl;exact h v List.mem_cons_self
   simp[this]
  ·rfl
theorem t8{kindOf:Str->Option NameKind}{x:Str}:∀ {binds:List (Str×Value)} {m:Str->Option Value},(∀ v,(x,v) ∉ binds)->bindC kindOf binds m x=m x
 | [],_,_=>rfl
 | (n,v)::r,m,h=>by
  unfold bindC
  rw[t8 λw hw=>h w (List.mem_cons_of_mem _ hw)]
  split
  ·rfl
  ·have:x≠n:=by rintro rfl;exact h v List.mem_cons_self
   simp[this]
theorem sT{kindOf:Str->Option NameKind}{x:Str}{v:Value}:∀ {P:List Str} {vs:List Value} {i:Nat} {m:Str->Option Value},P.Nodup->P[i]?=some x->vs[i]?=some v->kindOf x=some .local ->
  bindL kindOf (P.zip vs) m x=some v
 | [],_,_,_,_,h,_,_=>by simp at h
 | _::_,[],_,_,_,_,h,_=>by simp at h
 | p::P,w::vs,0,m,nd,h1,h2,hk=>by
  simp at h1 h2;subst h1;subst h2
  show bindL kindOf ((p,w)::P.zip vs) m p=_
  unfold bindL
  rw[tV λv hv=>(List.nodup_cons.mp nd).1 (List.of_mem_zip hv).1,if_pos hk]
  simp
 | p::P,w::vs,i+1,m,nd,h1,h2,hk=>by
  show bindL kindOf ((p,w)::P.zip vs) m x=_
  unfold bindL
  exact sT (i:=i) (List.nodup_cons.mp nd).2 (by simpa using h1) (by simpa using h2) hk
theorem sQ{kindOf:Str->Option NameKind}{x:Str}{v:Value}:∀ {P:List Str} {vs:List Value} {i:Nat} {m:Str->Option Value},P.Nodup->P[i]?=some x->vs[i]?=some v->kindOf x≠some .local ->
  bindC kindOf (P.zip vs) m x=some v
 | [],_,_,_,_,h,_,_=>by simp at h
 | _::_,[],_,_,_,_,h,_=>by simp at h
 | p::P,w::vs,0,m,nd,h1,h2,hk=>by
  simp at h1 h2;subst h1;subst h2
  show bindC kindOf ((p,w)::P.zip vs) m p=_
  unfold bindC
  rw[t8 λv hv=>(List.nodup_cons.mp nd).1 (List.of_mem_zip hv).1,if_neg hk]
  simp
 | p::P,w::vs,i+1,m,nd,h1,h2,hk=>by
  show bindC kindOf ((p,w)::P.zip vs) m x=_
  unfold bindC
  exact sQ (i:=i) (List.nodup_cons.mp nd).2 (by simpa using h1) (by simpa using h2) hk
def start(N:List Str)(vs:List V):St:=vs.map some++List.replicate (N.length-vs.length) none
def mJ(CX:Ky)(P:Program)(w:World)(K:PySem.W.Frag)(mg:Str->Option Value)(base:Heap)(N:List Str)(qual:Str)(scope:Scope)(f:Addr)(cd:Value)(A:Around)(outer:List Env)(s:Shared)(H:Hp)(E:XK):Cx where
 prog:=P
 w:=w
 K:=K
 mg:=mg
 base:=base
 A:=A.deeper (envOfC qual scope s.heap.objs.size f cd)
 N:=N
 s₀:=s
 H₀:=H
 env:=envOfC qual scope s.heap.objs.size f cd
 outer:=outer
 stack:=envOfC qual scope s.heap.objs.size f cd::outer
 ex:=[]
 calm:=true
 fn:=λ_=>true
 pn:=[]
 xe:=λe s'=>wpAny (model P w) (A.deeper (envOfC qual scope s.heap.objs.size f cd)) (leaving (envOfC qual scope s.heap.objs.size f cd) e) (λ_ Tt=>CX outer H s E e Tt) (λe' Tt=>CX outer H s E e' Tt) s'
theorem wz{sc:Scope}(h:sc.names.lookup x=some .cell):∃ c,(cellsFrom n sc.names []).lookup x=some c:=by
 have q:=PySem.W.cellsFrom_some sc.names n [] (.inl h)
 exact Option.isSome_iff_exists.mp q
variable{scope:Scope}
theorem AF{K:PySem.W.Frag}{qual:Str}{f:Addr}{cd:Value}{s1:Shared}{E:XK}{vs:List V}
  (S:cv N ps scope) (hd:A.handled=none) (e0:yG P w K mg base A outer s H) (hl:vs.length=ps.length) (r:Vals vs us)
  (x:InCallC s s.heap.objs.size (bindL (envOfC qual scope s.heap.objs.size f cd).kindOf (ps.zip us) λ_=>none) (cellsFrom (s.heap.objs.size+1) scope.names []) (bindC (envOfC qual scope s.heap.objs.size f cd).kindOf (ps.zip us) λ_=>none) s1) :
  Inv (mJ CX P w K mg base N qual scope f cd A outer s H E) [] (start N vs) H s1:=by
 have PK:ps.length<=N.length:=by have:=congrArg List.length S.pre;rw[List.length_take] at this;omega
 obtain⟨h1,tk,rfl,hk⟩:=x.done
 have nI:∀ b:Addr,b ∉ (mJ CX P w K mg base N qual scope f cd A outer s H E).ex:=λb z=>absurd (show b∈([]:List Addr) from z) (by simp)
 refine⟨⟨e0.mod,S.kind,rfl,rfl,Nat.le_refl _,λy z c h1 h2=>?_,λy hy=>?_,λy c _ h=>?_,λ_=>hd,Around.frames_deeper e0.frames,.inr ⟨rfl,rfl⟩,λb z=>absurd z (nI b),e0.bs,e0.G0,λb _ _=>nI b,λb z=>absurd z (nI b),e0.pD,e0.HK⟩,
  rfl,e0.bare,Un.kept hk,⟨_,x.toInCall.ns,λi y v h1 h2 h3=>?_⟩,λy c h=>⟨_,x.cell y c h⟩,e0.cp.fresh (Nat.le_refl _),λy c h=>?_,λp hp=>absurd (show p∈([]:List (Addr×Obj)) from hp) (by simp),e0.cp.kept hk,?_⟩
 ·exact name_of_addr x.apart (PySem.mem_of_lookup h1) (PySem.mem_of_lookup h2)
 ·have hy:scope.names.lookup y=some .cell\/scope.names.lookup y=some .free:=hy
  rcases hy with hy | hy
  ·exact wz hy
  ·exact absurd rfl (S.JC _ (PySem.mem_of_lookup hy))
 ·exact Nat.le_of_lt (x.above y c (PySem.mem_of_lookup h))
 ·have hi:i<vs.length:=by
   unfold start at h2
   by_cases hi:i<vs.length
   ·exact hi
   ·rw[List.getElem?_append_right (by simpa using hi)] at h2
    rw[List.getElem?_replicate] at h2
    split at h2 <;> cases h2
  have ha:vs[i]?=some v:=by
   unfold start at h2
   rw[List.getElem?_append_left (by simpa using hi),List.getElem?_map] at h2
   cases e:vs[i]? with
   | none=>rw[e] at h2;cases h2
   | some a=>rw[e] at h2;cases h2;rfl
  obtain⟨u,hu,rv⟩:=r.get ha
  have hp:ps[i]?=some y:=by
   rw[← S.pre,List.getElem?_take_of_lt (by omega)];exact h1
  have ndP:ps.Nodup:=by rw[← S.pre];exact S.nd.sublist (List.take_sublist _ _)
  refine⟨u,rv,?_⟩
  rcases S.par y (List.mem_of_getElem? hp) with k | k
  ·exact .inl ⟨k,sT ndP hp hu k⟩
  ·obtain⟨c,e⟩:=wz (n:=s.heap.objs.size+1) k
   refine .inr ⟨.inl k,c,e,?_⟩
   have q:=x.cell y c e
   rw[sQ ndP hp hu (by show scope.names.lookup y≠_;rw[k];decide)] at q
   exact q
 ·exact e0.cp.fresh (Nat.le_of_lt (x.above y c (PySem.mem_of_lookup h)))
 ·unfold start
  show _=N.length
  rw[List.length_append,List.length_map,List.length_replicate]
  omega
theorem LR{K:PySem.W.Frag}{f:Addr}{name qual:Str}{params:Arguments}{dV kV doc pm PD ct oc:Value}{an od:Option Addr}
  {R8:Array (Option Value)} (lk:K.lookup f=some ⟨oc,od,.func (PySem.W.fnOf name qual params body scope dV kV doc pm an PD ct),R8⟩) (QP:PySem.W.codeIn K PD qual=true) (S:cv N ps scope)
  (len:∀ vs H Q E,sp vs H Q E->vs.length=ps.length)
  (RQ:∀ (A:Around) (outer:List Env) (s:Shared) (H:Hp) (vs:List V) (Q:VK) (E:XK),cV k (A.deeper (envOfC qual scope s.heap.objs.size f PD))->sp vs H Q E ->
   ∃ t,nQ (mJ CX P w K mg base N qual scope f PD A outer s H E) body t/\t { nx:=λ_ H'=>Q .da H',rt:=Q } (start N vs) H) :
  aO P w K mg base CX (k+1) f (PySem.W.fnOf name qual params body scope dV kV doc pm an PD ct) ps sp:=by
 refine⟨len,λA outer s H args us vs Q E hr e0 hb r hsp=>?_⟩
 have hl:=len _ _ _ _ hsp
 have KX:K.In s.heap:=e0.mod.Hj.keeps λb o e=>(e0.bs b o e).1
 have lim:s.heap.NoLimit:=e0.mod.nolimit.keeps λb o e=>(e0.bs b o e).1
 have S_:∀ y∈ps.zip us,scope.names.lookup y.1=some .local\/(scope.names.lookup y.1=some .cell/\((cellsFrom (s.heap.objs.size+1) scope.names []).lookup y.1).isSome=true):=λ⟨n,v⟩ hy=>by
  rcases S.par n (List.of_mem_zip hy).1 with q | q
  ·exact .inl q
  ·exact .inr ⟨q,PySem.W.cellsFrom_some _ _ _ (.inl q)⟩
 refine codeAny_call_function hr.depth (KX _ _ lk) rfl S.co S.gen rfl (PySem.W.codeRec_of KX QP) (hb _ _ _ _ ?_)
 refine wpAny_newFunctionEnv_cells S.kind S_ λenv he s1 x=>?_
 subst he
 refine⟨lim.keeps x.toInCall.keep,codeAny_func ?_⟩
 obtain⟨t,ht,hq⟩:=RQ A outer s H vs Q E (hr.deeper _) hsp
 have I:Inv (mJ CX P w K mg base N qual scope f PD A outer s H E) [] (start N vs) H s1:=AF S hr.hd e0 hl r x
 refine wpAny_mono (ht [] s1 (start N vs) H _ I hq) (λfl s' hs=>?_) λe s' hs=>hs
 have fin:∀ {σ':St} {H':Hp} {v:V} {u:Value},Inv (mJ CX P w K mg base N qual scope f PD A outer s H E) [] σ' H' s'->RelV v u->Q v H'->CE outer P w H s Q u s' :=
  λ{σ' H' v u} J rv q=>⟨v,H',J.os,J.bare,J.base,J.cp,rv,q⟩
 cases fl with
 | ret u =>
  obtain⟨v,σ',H',J,rv,q⟩:=hs
  exact fin J rv q
 | next =>
  obtain⟨σ',H',J,q⟩:=hs
  exact fin (v:=V.da) (u:=Value.none) J rfl q
 | brk =>
  obtain⟨_,_,_,q⟩:=hs
  exact False.elim q
 | cont =>
  obtain⟨_,_,_,q⟩:=hs
  exact False.elim q
section
variable{pos:Pos}{id T:String}{r:List V->Hp->VK->Prop}
def M_(r:List V->Hp->VK->Prop)(t:TA):TE:=fun σ H Q=>t σ H λvs H1=>r vs H1 Q
theorem mM(hc:dW X (.builtin id) r)(hg:Gl X x)(hm:X.mg x=none)(hv:bootBuiltins x=some (.builtin id))(ha:PA X (e::es) t)(hn:autoParam (x ≠ "__name__") aD._auto_1)(QD:autoParam ((x==("__debug__" : Str))=false) aD._auto_1)
  (he:autoParam (starEach (e::es) X.env=(false,eval e X.env)::starEach es X.env) aR._auto_1) (PK:autoParam ((backTo pos (starEach es X.env)).any (·.1)=false) aR._auto_1):PE X (.Call (.Name x p) (e::es) [] pos) (M_ r t):=by
 intro Pf s σ H Q I h
 refine wpAny_Call_Name_kw (ki I hg hm hv ?_ hn QD)
 exact PyProof.Rows.callWith_builtin1 (c9 (ha pos Pf s σ H _ I h) λus s1 ⟨vs,H1,I1,r1,q1⟩=>hc Pf s1 σ H1 vs us Q I1 r1 q1) he PK
theorem AK(hc:dW X (.type T) r)(hg:Gl X x)(hm:X.mg x=none)(hv:bootBuiltins x=some (.type T))(ha:PA X (e::es) t)(hn:autoParam (x ≠ "__name__") aD._auto_1)(QD:autoParam ((x==("__debug__" : Str))=false) aD._auto_1)
  (he:autoParam (starEach (e::es) X.env=(false,eval e X.env)::starEach es X.env) aR._auto_1) (PK:autoParam ((backTo pos (starEach es X.env)).any (·.1)=false) aR._auto_1):PE X (.Call (.Name x p) (e::es) [] pos) (M_ r t):=by
 intro Pf s σ H Q I h
 refine wpAny_Call_Name_kw (ki I hg hm hv ?_ hn QD)
 exact PyProof.Rows.callWith_type1 (c9 (ha pos Pf s σ H _ I h) λus s1 ⟨vs,H1,I1,r1,q1⟩=>hc Pf s1 σ H1 vs us Q I1 r1 q1) he PK
end
end L2
namespace HT
open PySem PyProof.Rows
section
open PySem.SeqAt
open PySem.AutoSeq1 (wpAny_loadPart')
open PySem.MeetsSeq PySem.MeetsSeq2 PySem.MeetsSeq3
end
variable{Q:Value->Shared->Prop}
section
variable{prog:Program}{w:World}{A:Around}{E:Value->Shared->Prop}{s:Shared}
theorem GD{t b:Addr}{vs ws:List Value}(ht:IsTup s.heap t vs.toArray)(hb:IsTup s.heap b ws.toArray)(hv:vs≠[])
  (h1:ws=[]->Q (.ref t) s) (h2:ws≠[]->Q (.ref s.heap.objs.size) { s with heap:=s.heap.push { cls:=.type "tuple", data:=.seq (vs++ws).toArray } })
  (Q8:vs.length+ws.length<=sizeLine):wpAny (model prog w) A (binaryOp .Add (.ref t) (.ref b)) Q E s:=by
 obtain⟨⟨cls,dd,data,sl⟩,ho,hc,n,hd⟩:=id ht
 obtain⟨⟨cls2,SX,data2,sl2⟩,RL,Sh,n2,hd2⟩:=id hb
 simp only at hc hd Sh hd2
 subst hc hd Sh hd2
 have e:vs.toArray++ws.toArray=(vs++ws).toArray:=by simp
 by_cases hw:ws=[]
 ·exact concat_meets ⟨_,ho,rfl⟩ ⟨_,RL,rfl⟩ noFill_tuple_add seq_tuple_add PySem.F.slot_tuple_add PySem.F.entry_tuple_add (PySem.F.args_tuple_add_2 _ _)
   (tuple_addW1 t b vs.toArray ws.toArray n n2 dd SX sl sl2 (by simpa using hv) (by simp[hw])) ⟨ho,RL,h1 hw⟩
 ·refine concat_meets ⟨_,ho,rfl⟩ ⟨_,RL,rfl⟩ noFill_tuple_add seq_tuple_add PySem.F.slot_tuple_add PySem.F.entry_tuple_add (PySem.F.args_tuple_add_2 _ _)
   (tuple_addW2 t b vs.toArray ws.toArray n n2 dd SX sl sl2 (by simpa using hv) (by simpa using hw) (by rw[List.size_toArray,List.size_toArray];exact Q8)) ⟨ho,RL,?_⟩
  rw[e]
  exact h2 hw
def d_(n d:Nat):Option Int->Nat
 | none=>d
 | some v=>if v<0 then (v+(n:Int)).toNat else min v.toNat n
theorem wg(n d:Nat):d_ n d none=d:=rfl
theorem pV(n d k:Nat):d_ n d (some (k:Int))=min k n:=by
 show (if (k:Int)<0 then ((k:Int)+(n:Int)).toNat else min (k:Int).toNat n)=min k n
 rw[if_neg (by omega),Int.toNat_natCast]
theorem Ii(n d:Nat)(hd:d<=n)(o:Option Int):d_ n d o<=n:=by
 cases o with
 | none=>exact hd
 | some v =>
  show (if v<0 then (v+(n:Int)).toNat else min v.toNat n)<=n
  by_cases hv:v<0
  ·rw[if_pos hv];omega
  ·rw[if_neg hv];exact Nat.min_le_right _ _
theorem zP(v:Int)(n d:Nat):(if v<0 then max (v+(n:Int)) 0 else min v (n:Int))=((d_ n d (some v):Nat):Int):=by
 show (if v<0 then max (v+(n:Int)) 0 else min v (n:Int))=(((if v<0 then (v+(n:Int)).toNat else min v.toNat n):Nat):Int)
 by_cases hv:v<0
 ·simp only[if_pos hv];omega
 ·simp only[if_neg hv];omega
theorem yt(lo hi:Option Int)(n:Nat):Builtin.Slice.sliceAdjust lo hi 1 (n:Int)=(((d_ n 0 lo:Nat):Int),((d_ n n hi:Nat):Int)):=by
 have h1:¬ ((1:Int)<0):=by omega
 unfold Builtin.Slice.sliceAdjust
 simp only[h1,if_false]
 refine Prod.ext ?_ ?_
 ·cases lo with
  | none=>rfl
  | some v=>exact zP v n 0
 ·cases hi with
  | none=>rfl
  | some v=>exact zP v n n
theorem yn(i j:Nat):Builtin.Slice.slicePlaces (i:Int) (j:Int) 1=j-i:=by
 unfold Builtin.Slice.slicePlaces
 have h1:(1:Int)>0:=by omega
 simp only[h1,if_true,Int.ediv_one]
 split <;> omega
theorem qf{v:Value}{o:Option Int}{Q:Option Int->Shared->Prop}(p:IsPart v o)(h:Q o s):wpAny (model prog w) A (Builtin.Slice.slicePartIndex v) Q E s:=by
 cases p with
 | none=>exact slicePart_none h
 | int i t=>exact slicePart_int h
theorem jL{sl:Addr}{vl vu:Value}{lo hi:Option Int}{n:Nat}{Q:Int×Int×Nat->Shared->Prop}(hs:s.heap.IsSliceOf sl vl vu .none)(pl:IsPart vl lo)(pu:IsPart vu hi)
  (h:Q (((d_ n 0 lo:Nat):Int),1,d_ n n hi-d_ n 0 lo) s):wpAny (model prog w) A (Builtin.Slice.sliceApplied (.ref sl) (pure (n:Int))) Q E s:=by
 obtain⟨os,SE,hcs,S7⟩:=id hs
 unfold Builtin.Slice.sliceApplied Builtin.Slice.sliceFields
 refine wpAny_bind (wpAny_bind (wpAny_field SE S7 (x:=vl) rfl (wpAny_bind (wpAny_field SE S7 (x:=vu) rfl (wpAny_bind (wpAny_field SE S7 (x:=.none) rfl (wpAny_pure ?_)))))))
 refine wpAny_bind (slicePart_none ?_)
 show wpAny _ _ (if ((1:Int)==0)=true then _ else _) _ _ s
 rw[if_neg (by decide)]
 refine wpAny_bind (qf pl (wpAny_bind (qf pu (wpAny_bind (wpAny_pure ?_)))))
 show wpAny _ _ (match Builtin.Slice.sliceAdjust lo hi 1 (n:Int) with | (lo,hi)=>pure (lo,(1:Int),Builtin.Slice.slicePlaces lo hi 1)) _ _ s
 rw[yt lo hi n]
 show wpAny _ _ (pure (((d_ n 0 lo:Nat):Int),(1:Int),Builtin.Slice.slicePlaces ((d_ n 0 lo:Nat):Int) ((d_ n n hi:Nat):Int) 1)) _ _ s
 rw[yn]
 exact wpAny_pure h
theorem BV(xs:Array Value)(i k:Nat):((List.range k).filterMap λ(m:Nat)=>xs[((i:Int)+(m:Int)*1).toNat]?).toArray=((xs.toList.drop i).take k).toArray:=by
 have e:(λ(m:Nat)=>xs[((i:Int)+(m:Int)*1).toNat]?)=λm=>xs[i+m]?:=by
  funext m
  have:((i:Int)+(m:Int)*1).toNat=i+m:=by omega
  rw[this]
 rw[e]
 have:=pick_run xs i k
 rw[List.filterMap_map] at this
 have e2:((λx=>xs[x]?)∘λx=>i+x)=λm=>xs[i+m]?:=rfl
 rw[e2] at this
 rw[this]
theorem nF{t sl:Addr}{items:Array Value}{vl vu:Value}{lo hi:Option Int}(ht:IsTup s.heap t items)(hs:s.heap.IsSliceOf sl vl vu .none)(pl:IsPart vl lo)(pu:IsPart vu hi)
  (hw:¬ (d_ items.size 0 lo=0/\d_ items.size items.size hi=items.size))
  (h:Q (.ref s.heap.objs.size) { s with heap:=s.heap.push { cls:=.type "tuple", data:=.seq ((items.toList.drop (d_ items.size 0 lo)).take (d_ items.size items.size hi-d_ items.size 0 lo)).toArray } })
  (Q8:items.size<=sizeLine):wpAny (model prog w) A (getItem (.ref t) (.ref sl)) Q E s:=by
 have RF:sizeOk (.seq ((items.toList.drop (d_ items.size 0 lo)).take (d_ items.size items.size hi-d_ items.size 0 lo)).toArray):=by
  show ((items.toList.drop (d_ items.size 0 lo)).take (d_ items.size items.size hi-d_ items.size 0 lo)).toArray.size<=sizeLine
  rw[List.size_toArray,List.length_take,List.length_drop,Array.length_toList]
  omega
 have hj:d_ items.size items.size hi<=items.size:=Ii _ _ (Nat.le_refl _) hi
 obtain⟨os,SE,hcs,S7⟩:=id hs
 have hTs:s.TypeIs (.ref sl) "slice" := ⟨os,SE,hcs⟩
 unfold getItem
 try with_reducible refine wpAny_holding ?_
 first | refine wpAny_bind (wpAny_pure ?_) | skip
 refine wpAny_bind (wpAny_sequenceKey ht.typeIs (by decide) ?_)
 refine wpAny_bind (wpAny_callSpecial?_slot (name:=Str.ofString "__getitem__") ht.typeIs PyProof.Rows.slot_tuple_getitem
  (wpAny_call_entry PyProof.Rows.slot_tuple_getitem ht.typeIs entry_tuple_getitem ?_ (args_tuple_getitem _ _)))
 show wpAny _ _ (Builtin.Tuple.tupleItemsOf (.ref t) >>= _) _ _ s
 refine wpAny_bind (tupleItemsOf_ ht ?_)
 refine wpAny_bind (wpAny_typeOf hTs ?_)
 rw[if_pos (by decide)]
 refine wpAny_bind (jL hs pl pu ?_)
 have hno:¬ ((((d_ items.size 0 lo:Nat):Int)==0&&(1:Int)==1&&(d_ items.size items.size hi-d_ items.size 0 lo)==items.size)=true):=by
  intro q
  rw[Bool.and_eq_true,Bool.and_eq_true] at q
  have q1:((d_ items.size 0 lo:Nat):Int)=0:=eq_of_beq q.1.1
  have q2:d_ items.size items.size hi-d_ items.size 0 lo=items.size:=eq_of_beq q.2
  exact hw ⟨by omega,by omega⟩
 show wpAny _ _ (if (((d_ items.size 0 lo:Nat):Int)==0&&(1:Int)==1&&(d_ items.size items.size hi-d_ items.size 0 lo)==items.size)=true then _ else _) _ _ s
 rw[if_neg hno,BV]
 first
  | exact wpAny_bind (m:=Builtin.Tuple.tupleExact _) (wpAny_newObj_type (wpAny_pure ⟨_,rfl,wpAny_pure h⟩) RF)
  | exact wpAny_bind (m:=Builtin.Tuple.tupleExact _) (wpAny_newObj_type (wpAny_bind (wpAny_pure (wpAny_pure ⟨_,rfl,wpAny_pure h⟩))) RF)
  | exact wpAny_bind (wpAny_bind (m:=Builtin.Tuple.tupleExact _) (wpAny_newObj_type (wpAny_pure (wpAny_pure ⟨_,rfl,wpAny_pure h⟩)) RF))
  | exact wpAny_bind (wpAny_bind (m:=Builtin.Tuple.tupleExact _) (wpAny_newObj_type (wpAny_pure ⟨_,rfl,wpAny_pure h⟩) RF))
end
end HT
namespace L2
open PySem PySem.Spec PyProof.Rows
abbrev TO:=St->Hp->(Option Int->Hp->Prop)->Prop
def PO(X:Cx)(e:Option Expr)(t:TO):Prop :=
 ∀ (Pf:List (Addr×Obj)) (s:Shared) (σ:St) (H:Hp) (Q:Option Int->Hp->Prop),Inv X Pf σ H s->t σ H Q ->
  wpAny (model X.prog X.w) X.A (evalPart e X.env) (λu s'=>∃ o H',Inv X Pf σ H' s'/\IsPart u o/\Q o H') X.xe s
def GG:TO:=λ_ H Q=>Q none H
def Lu(t:TE):TO:=fun σ H Q=>t σ H λx H1=>∃ i,x=.int i/\Q (some i) H1
theorem intsAre_of{ns:List Int}:∀ {us:List Value},Vals (ns.map V.int) us->IntsAre us ns:=by
 induction ns with
 | nil=>intro us r;rw[List.map_nil] at r;cases r;exact .nil
 | cons n ns ih =>
  intro us r
  rw[List.map_cons] at r
  cases r with
  | cons r1 r2 =>
   obtain⟨t,e⟩:=r1
   subst e
   exact .cons n t (ih r2)
variable{e:Expr}{X:Cx}
variable{r:V->Option Int->Option Int->Hp->VK->Prop}
variable{xs:List V}
section
variable{te:TE}{lo hi:Option Expr}{tl th:TO}{pos p2:Pos}
theorem Fm:PO X none GG:=by
 intro Pf s σ H Q I h
 rw[evalPart_none]
 exact wpAny_pure ⟨none,H,I,.none,h⟩
theorem Gm(h:PE X e te):PO X (some e) (Lu te):=by
 intro Pf s σ H Q I hw
 rw[evalPart_some]
 refine c9 (h Pf s σ H _ I hw) λu s1 ⟨x,H1,I1,r1,q1⟩=>?_
 obtain⟨i,rfl,q⟩:=q1
 obtain⟨t,rfl⟩:=r1
 exact⟨some i,H1,I1,.int i t,q⟩
def EL(X:Cx)(r:V->Option Int->Option Int->Hp->VK->Prop):Prop :=
 ∀ (Pf:List (Addr×Obj)) (s:Shared) (σ:St) (H:Hp) (x:V) (v vl vu:Value) (lo hi:Option Int) (sl:Addr) (Q:VK),Inv X Pf σ H s->RelV x v->s.heap.IsSliceOf sl vl vu .none->IsPart vl lo->IsPart vu hi->r x lo hi H Q ->
  ∃ T id,typeLookup (.type T) "__getitem__" = pure (some (.builtin id))/\s.TypeIs v T/\wpAny (model X.prog X.w) X.A (getItem v (.ref sl)) (EP X Pf σ Q) X.xe s
theorem EL.or{r':V->Option Int->Option Int->Hp->VK->Prop}(h:EL X r)(h':EL X r'):EL X (λx lo hi H Q=>r x lo hi H Q\/r' x lo hi H Q):=by
 intro Pf s σ H x v vl vu lo hi sl Q I rx hs pl pu q
 rcases q with q | q
 ·exact h Pf s σ H x v vl vu lo hi sl Q I rx hs pl pu q
 ·exact h' Pf s σ H x v vl vu lo hi sl Q I rx hs pl pu q
def Pd(r:V->Option Int->Option Int->Hp->VK->Prop)(te:TE)(tl th:TO):TE:=fun σ H Q=>te σ H λx H1=>tl σ H1 λl H2=>th σ H2 λu H3=>r x l u H3 Q
theorem EB(hr:EL X r)(he:PE X e te)(hl:PO X lo tl)(hu:PO X hi th):PE X (.Subscript e (.Slice lo hi none p2) pos) (Pd r te tl th):=by
 intro Pf s σ H Q I h
 refine Subscript_ (c9 (he Pf s σ H _ I h) λv s1 ⟨x,H1,I1,r1,q1⟩=>?_)
 refine wpAny_Slice (c9 (hl Pf s1 σ H1 _ I1 q1) λvl s2 ⟨l,H2,I2,pl,q2⟩=>c9 (hu Pf s2 σ H2 _ I2 q2) λvu s3 ⟨u,H3,I3,pu,q3⟩=>?_)
 rw[evalPart_none]
 refine wpAny_pure ?_
 have I4:Inv X Pf σ H3 { s3 with heap:=s3.heap.push { cls:=.type "slice", data:=.fields #[vl,vu,.none] } }:=I3.kept (t':=s3.toks) λb ob q=>Heap.get?_push_of_some _ q
 obtain⟨T,id,hT,ht,hg⟩:=hr Pf { s3 with heap:=s3.heap.push { cls:=.type "slice", data:=.fields #[vl,vu,.none] } } σ H3 x v vl vu l u s3.heap.objs.size Q I4 r1 (Heap.IsSliceOf.new ..) pl pu q3
 show wpAny (model X.prog X.w) X.A (subscriptTail e (.Slice lo hi none p2) v (.ref s3.heap.objs.size)) (EP X Pf σ Q) X.xe { s3 with heap:=s3.heap.push { cls:=.type "slice", data:=.fields #[vl,vu,.none] } }
 exact tail_any (ops:=[.ref s3.heap.objs.size,v]) ht hT hg (by with_unfolding_all rfl)
def w_(xs:List V)(lo hi:Option Int):List V:=(xs.drop (HT.d_ xs.length 0 lo)).take (HT.d_ xs.length xs.length hi-HT.d_ xs.length 0 lo)
theorem oV(xs:List V)(lo hi:Option Int):(w_ xs lo hi).length<=xs.length:=by
 unfold w_
 rw[List.length_take,List.length_drop]
 omega
def Oi(K:PySem.W.Frag):V->Option Int->Option Int->Hp->VK->Prop:=λx lo hi H Q=>∃ a xs,x=.ref a/\iD K H a xs ∧
 ¬ (HT.d_ xs.length 0 lo=0/\HT.d_ xs.length xs.length hi=xs.length)/\∀ p,H p=none->Q (.ref p) (upd H p (.tup (w_ xs lo hi)))
theorem Jl:EL X (Oi X.K):=by
 intro Pf s σ H x v vl vu lo hi sl Q I rx hs pl pu h
 obtain⟨a,xs,rfl,hx,hw,q⟩:=h
 cases rx
 obtain⟨Ph,r,ht,hz⟩:=I.tuple hx
 have hlen:Ph.toArray.size=xs.length:=by rw[List.size_toArray];exact r.length.symm
 refine⟨"tuple", _,PyProof.Rows.slot_tuple_getitem.lookup,ht.typeIs,?_⟩
 refine HT.nF ht hs pl pu (by rw[hlen];exact hw) ?_ (by rw[hlen];exact hz)
 rw[hlen]
 refine⟨.ref s.heap.objs.size,_,I.laid (t':=s.toks) (o:=.tup (w_ xs lo hi)) (λb ob q=>Heap.get?_push_of_some _ q) (Nat.le_refl _) ?_,rfl,q _ (I.cp.fresh (Nat.le_refl _))⟩
 exact⟨Nat.le_trans (oV xs lo hi) hz,_,(r.drop (HT.d_ xs.length 0 lo)).take (HT.d_ xs.length xs.length hi-HT.d_ xs.length 0 lo),IsTup.new _ _⟩
def Hf(K:PySem.W.Frag):R2:=λx y H Q=>∃ a b xs ys,x=.ref a/\y=.ref b/\iD K H a xs/\iD K H b ys/\xs≠[]/\xs.length+ys.length<=sizeLine ∧
 (ys=[]->Q (.ref a) H)/\(ys≠[]->∀ p,H p=none->Q (.ref p) (upd H p (.tup (xs++ys))))
theorem Vals.mY{us:List Value}(r:Vals xs us):us=[] ↔ xs=[]:=by
 cases r with
 | nil=>simp
 | cons _ _=>simp
theorem Gh:iu X (binaryOp .Add) (Hf X.K):=by
 intro Pf s σ H x y v u Q I rx ry h
 obtain⟨a,b,xs,ys,rfl,rfl,ha,hb,hx,hz,q1,q2⟩:=h
 cases rx
 cases ry
 obtain⟨Ph,r1,p1,_⟩:=I.tuple ha
 obtain⟨Rc,r2,p2,_⟩:=I.tuple hb
 refine HT.GD p1 p2 (λz=>hx (r1.mY.mp z)) (λz=>⟨.ref a,H,I,rfl,q1 (r2.mY.mp z)⟩) (λz=>?_) (by rw[← r1.length,← r2.length];exact hz)
 refine⟨.ref s.heap.objs.size,_,I.laid (t':=s.toks) (o:=.tup (xs++ys)) (λb ob q=>Heap.get?_push_of_some _ q) (Nat.le_refl _) ?_,rfl,q2 (λw=>z (r2.mY.mpr w)) _ (I.cp.fresh (Nat.le_refl _))⟩
 exact⟨by rw[List.length_append];exact hz,_,r1.append r2,IsTup.new _ _⟩
end
def BH(n:Nat)(i:Int):Option Nat:=if 0<=i then (if i<n then some i.toNat else none) else if -(n:Int)<=i then some (i+n).toNat else none
variable{α:Type}
def vO(xs:List α)(i:Int):Option α:=(BH xs.length i).bind λj=>xs[j]?
variable{j n:Nat}{i:Int}
theorem zI(h:BH n i=some j):seqIndex? i n=some j/\j<n/\-(n:Int)<=i/\i<n:=by
 unfold BH at h
 by_cases h0:0<=i
 ·rw[if_pos h0] at h
  by_cases h1:i<n
  ·rw[if_pos h1] at h
   have e:i.toNat=j:=Option.some.inj h
   exact⟨by rw[seqIndex_of h0 h1,e],by omega,by omega,h1⟩
  ·rw[if_neg h1] at h;cases h
 ·rw[if_neg h0] at h
  by_cases h1:-(n:Int)<=i
  ·rw[if_pos h1] at h
   have e:(i+n).toNat=j:=Option.some.inj h
   exact⟨by rw[seqIndex_neg (by omega) h1,e],by omega,h1,by omega⟩
  ·rw[if_neg h1] at h;cases h
theorem uT{xs:List α}{v:α}(h:vO xs i=some v):∃ j,seqIndex? i xs.length=some j/\xs[j]?=some v/\j<xs.length/\-(xs.length:Int)<=i/\i<xs.length:=by
 unfold vO at h
 cases e:BH xs.length i with
 | none=>rw[e] at h;cases h
 | some j =>
  rw[e] at h
  obtain⟨h1,h2,h3,h4⟩:=zI e
  exact⟨j,h1,h,h2,h3,h4⟩
theorem vv{xs:List α}{v:α}(h:xs[j]?=some v):vO xs (j:Int)=some v:=by
 have hj:j<xs.length:=(List.getElem?_eq_some_iff.mp h).1
 have e:BH xs.length (j:Int)=some j:=by
  unfold BH
  rw[if_pos (by omega),if_pos (by omega)];simp
 unfold vO;rw[e];exact h
def uZ(b:Expr):Prop:=∀ o i,subscripted b false o i=operate [o,i] (getItem o i)
def Fc(X:Cx)(r:R2):Prop :=
 ∀ (value slice:Expr) (Pf:List (Addr×Obj)) (s:Shared) (σ:St) (H:Hp) (x y:V) (v u:Value) (Q:VK),Inv X Pf σ H s->RelV x v->RelV y u->r x y H Q ->
  subscripted slice false v u=operate [v,u] (getItem v u)->wpAny (model X.prog X.w) X.A (subscriptTail value slice v u) (EP X Pf σ Q) X.xe s
def Ow(X:Cx)(id:String)(r:V->List V->Hp->VK->Prop):Prop :=
 ∀ (Pf:List (Addr×Obj)) (s:Shared) (σ:St) (H:Hp) (x:V) (xs:List V) (v:Value) (us:List Value) (Q:VK),Inv X Pf σ H s->RelV x v->Vals xs us->r x xs H Q ->
  wpAny (model X.prog X.w) X.A (call (.builtin id) (v::us)) (EP X Pf σ Q) X.xe s
variable{Ph:List Value}{s:Shared}{H:Hp}{σ:St}{Pf:List (Addr×Obj)}
section
variable{a b:Expr}{ta tb:TE}{pos:Pos}
theorem Fc.or{r r':R2}(h:Fc X r)(h':Fc X r'):Fc X (λx y H Q=>r x y H Q\/r' x y H Q):=by
 intro value slice Pf s σ H x y v u Q I rx ry q hs
 rcases q with q | q
 ·exact h value slice Pf s σ H x y v u Q I rx ry q hs
 ·exact h' value slice Pf s σ H x y v u Q I rx ry q hs
theorem Le{r:R2}(hr:Fc X r)(ha:PE X a ta)(hb:PE X b tb)(hs:uZ b):PE X (.Subscript a b pos) (Mg r ta tb):=by
 intro Pf s σ H Q I h
 exact Subscript_ (Ja ha hb I h λv u s2 x y H2 I2 rx ry q=>hr a b Pf s2 σ H2 x y v u Q I2 rx ry q (hs _ _))
def Mr(K:PySem.W.Frag):R2:=λx y H Q=>∃ p xs i v,x=.ref p/\y=.int i/\iT K H p xs/\vO xs i=some v/\Q v H
def LM(K:PySem.W.Frag):R2:=λx y H Q=>∃ p xs i v,x=.ref p/\y=.int i/\iD K H p xs/\vO xs i=some v/\Q v H
def Mo:R2:=λx y H Q=>∃ z i c,x=.str z/\y=.int i/\z.length<=sizeLine/\vO z.cps.toList i=some c/\Q (.str ⟨#[c]⟩) H
theorem F6:Fc X (Mr X.K):=by
 intro value slice Pf s σ H x y v u Q I rx ry h hs
 obtain⟨p,xs,i,z,rfl,rfl,hq,he,q⟩:=h
 cases rx
 obtain⟨t,rfl⟩:=ry
 obtain⟨Ph,r,pl,hz⟩:=I.list hq
 obtain⟨j,h1,h2,h3,h4,h5⟩:=uT he
 obtain⟨w,ew,Ra⟩:=r.get h2
 have hl:=r.length
 have hn:=oy
 have fin:EP X Pf σ Q w s:=⟨z,H,I,Ra,q⟩
 by_cases h0:0<=i
 ·have hj:i.toNat=j:=by
   rw[seqIndex_of h0 h5] at h1
   exact Option.some.inj h1
  exact item_listR pl.isList h0 (by omega) (by rw[hj];simpa using ew) fin hs
 ·have hj:(i+(Ph.toArray.size:Int)).toNat=j:=by
   rw[seqIndex_neg (by omega) h4] at h1
   rw[List.size_toArray,← hl]
   exact Option.some.inj h1
  exact subscriptTail_builtinR (x:=w) pl.isList.typeIs slot_list_getitem.lookup
   (wpAny_getItem_list_neg (Q:=λr s'=>r=w/\EP X Pf σ Q r s') pl.isList (by omega) (by rw[List.size_toArray] <;> omega) (by omega) (by rw[hj];simpa using ew) ⟨rfl,fin⟩) hs
theorem JG:Fc X (LM X.K):=by
 intro value slice Pf s σ H x y v u Q I rx ry h hs
 obtain⟨p,xs,i,z,rfl,rfl,hq,he,q⟩:=h
 cases rx
 obtain⟨t,rfl⟩:=ry
 obtain⟨Ph,r,pl,hz⟩:=I.tuple hq
 obtain⟨j,h1,h2,h3,h4,h5⟩:=uT he
 obtain⟨w,ew,Ra⟩:=r.get h2
 have hl:=r.length
 have hn:=oy
 have fin:EP X Pf σ Q w s:=⟨z,H,I,Ra,q⟩
 exact subscriptTail_builtinR (x:=w) pl.typeIs slot_tuple_getitem.lookup
  (getItem_tuple (j:=j) (Q:=λr s'=>r=w/\EP X Pf σ Q r s') pl (by omega) (by omega) (by rw[List.size_toArray,← hl];exact h1) (by simpa using ew) ⟨rfl,fin⟩) hs
theorem I0:Fc X Mo:=by
 intro value slice Pf s σ H x y v u Q I rx ry h hs
 obtain⟨z,i,c,rfl,rfl,hz,he,q⟩:=h
 obtain⟨t,rfl⟩:=rx
 obtain⟨t',rfl⟩:=ry
 obtain⟨j,h1,h2,h3,h4,h5⟩:=uT he
 have hl:z.cps.toList.length=z.length:=by simp[Str.length]
 rw[hl] at h1 h4 h5
 have hn:=oy
 exact tail_any (typeIs_str s z t) slot_str_getitem.lookup (getItem_str (c:=c) (by
  have e1:decide (i < -(2^63:Int))=false:=decide_eq_false (by omega)
  have e2:decide (i>=2^63)=false:=decide_eq_false (by omega)
  rw[e1,e2,Bool.or_false]) (by rw[h1];simpa using h2) ⟨.str ⟨#[c]⟩,H,I.tok _,⟨_,rfl⟩,q⟩) hs
def Oq(K:PySem.W.Frag):R2:=λx y H Q=>Mr K x y H Q\/LM K x y H Q\/Mo x y H Q
theorem JY:Fc X (Oq X.K):=F6.or (JG.or I0)
theorem zk(Ph:List Value)(n j:Nat)(u:Value):Obj.mapSeq (·.setIfInBounds j u) { cls:=.type "list", data:=.seq Ph.toArray n }={ cls:=.type "list", data:=.seq (Ph.set j u).toArray n }:=by
 simp[Obj.mapSeq]
theorem Inv.lst{Pf:List (Addr×Obj)}{σ:St}{H:Hp}{s:Shared}{p:Addr}{xs:List V}(I:Inv X Pf σ H s)(h:H p=some (.lst xs)) :
  ∃ (Ph:List Value) (n:Nat),Vals xs Ph/\s.heap.get? p=some { cls:=.type "list", data:=.seq Ph.toArray n }/\xs.length<=sizeLine:=by
 obtain⟨z,Ph,n,r,e⟩:=I.cp p _ h
 exact⟨Ph,n,r,e,z⟩
theorem Inv.J_{p:Addr}{ys:List V}{its':List Value}{n':Nat}{f:Obj->Obj}(I:Inv X Pf σ H s)(h:H p=some (.lst xs))
  (ho:s.heap.get? p=some { cls:=.type "list", data:=.seq Ph.toArray n }) (hf:f { cls:=.type "list", data:=.seq Ph.toArray n }={ cls:=.type "list", data:=.seq its'.toArray n' }) (r:Vals ys its') (hz:ys.length<=sizeLine) (t:Nat) :
  Inv X Pf σ (upd H p (.lst ys)) { s with heap:=s.heap.update p f,toks:=t }:=by
 have e:(s.heap.update p f).get? p=some { cls:=.type "list", data:=.seq its'.toArray n' }:=by
  rw[Heap.get?_update_self f ho (by rw[hf] <;> rfl),hf]
 refine I.write (x:=p) (e:=p) (by rw[h];trivial) (.inl rfl) (λb u hb q=>(Heap.get?_update_other _ _ (Ne.symm hb)).trans q) ⟨_,e⟩ ?_
 exact⟨hz,its',n',r,e⟩
def LO:V->V->V->Hp->(Hp->Prop)->Prop:=λo i v H Q=>∃ p xs k j,o=.ref p/\i=.int k/\H p=some (.lst xs)/\BH xs.length k=some j/\Q (upd H p (.lst (xs.set j v)))
theorem set_list:LG X LO:=by
 intro Pf s σ H o i v ov iv u Q I ro ri rv h
 obtain⟨p,xs,k,j,rfl,rfl,hp,hj,q⟩:=h
 cases ro
 obtain⟨t,rfl⟩:=ri
 obtain⟨Ph,n,r,ho,hz⟩:=I.lst hp
 obtain⟨h1,h2,h3,h4⟩:=zI hj
 have hl:=r.length
 have hn:=oy
 have I':Inv X Pf σ (upd H p (.lst (xs.set j v))) { s with heap:=s.heap.update p (Obj.mapSeq (·.setIfInBounds j u)) } :=
  I.J_ hp ho (zk Ph n j u) (r.set rv j) (by rw[List.length_set];exact hz) s.toks
 by_cases h0:0<=k
 ·have hk:k.toNat=j:=by
   rw[seqIndex_of h0 h4] at h1
   exact Option.some.inj h1
  exact PySem.W.ki_setAt ho h0 (by omega) (by rw[List.size_toArray,← hl];exact h4) (by rw[hk];exact⟨_,I',q⟩)
 ·have hk:(k+(Ph.toArray.size:Int)).toNat=j:=by
   rw[seqIndex_neg (by omega) h3] at h1
   rw[List.size_toArray,← hl]
   exact Option.some.inj h1
  exact PySem.W.ki_setBack ho (by omega) (by rw[List.size_toArray,← hl];exact h3) (by omega) (by rw[hk];exact⟨_,I',q⟩)
theorem ue(lo hi:Option Int)(n:Nat):(sliceBounds lo hi none n).1=((HT.d_ n 0 lo:Nat):Int)/\(sliceBounds lo hi none n).2.1=((HT.d_ n n hi:Nat):Int)/\(sliceBounds lo hi none n).2.2=1:=by
 refine⟨?_,?_,rfl⟩
 ·cases lo with
  | none=>simp[sliceBounds,HT.d_]
  | some i =>
   simp only[sliceBounds,HT.d_,Option.getD_none,show (1:Int)>0 by decide,if_true]
   by_cases h:i<0
   ·simp only[h,if_true] <;> omega
   ·simp only[h,if_false] <;> omega
 ·cases hi with
  | none=>simp[sliceBounds,HT.d_]
  | some i =>
   simp only[sliceBounds,HT.d_,Option.getD_none,show (1:Int)>0 by decide,if_true]
   by_cases h:i<0
   ·simp only[h,if_true] <;> omega
   ·simp only[h,if_false] <;> omega
theorem sN(Ph:List Value)(lo hi:Option Int):slicePick Ph.toArray lo hi none=((Ph.drop (HT.d_ Ph.length 0 lo)).take (HT.d_ Ph.length Ph.length hi-HT.d_ Ph.length 0 lo)).toArray:=by
 obtain⟨h1,h2,h3⟩:=ue lo hi Ph.toArray.size
 unfold slicePick
 rw[h1,h2,h3]
 simp only[sliceRange_one,pick_run,List.size_toArray] <;> rfl
def Ni(K:PySem.W.Frag):V->Option Int->Option Int->Hp->VK->Prop:=λx lo hi H Q=>∃ a xs,x=.ref a/\iT K H a xs/\∀ p,H p=none->Q (.ref p) (upd H p (.lst (w_ xs lo hi)))
theorem Fn:EL X (Ni X.K):=by
 intro Pf s σ H x v vl vu lo hi sl Q I rx hs pl pu h
 obtain⟨a,xs,rfl,hx,q⟩:=h
 cases rx
 obtain⟨Ph,r,ht,hz⟩:=I.list hx
 have hlen:=r.length
 refine⟨"list", _,slot_list_getitem.lookup,ht.isList.typeIs,?_⟩
 refine wpAny_getItem_list_slice ht.isList hs pl pu .none (by simp) ?_ (by rw[List.size_toArray] <;> omega)
 rw[sN,← hlen]
 refine⟨.ref s.heap.objs.size,_,I.laid (t':=s.toks) (o:=.lst (w_ xs lo hi)) (λb ob q=>Heap.get?_push_of_some _ q) (Nat.le_refl _) ?_,rfl,q _ (I.cp.fresh (Nat.le_refl _))⟩
 exact⟨Nat.le_trans (oV xs lo hi) hz,_,0,(r.drop (HT.d_ xs.length 0 lo)).take (HT.d_ xs.length xs.length hi-HT.d_ xs.length 0 lo),Heap.get?_push_size _ rfl⟩
theorem va:dW X (.builtin "len") (λxs H Q=>∃ p ys,xs=[.ref p]/\(iT X.K H p ys\/iD X.K H p ys)/\Q (.int ys.length) H):=by
 intro Pf s σ H xs us Q I r h
 obtain⟨p,ys,rfl,hq,q⟩:=h
 obtain⟨u,rfl,rx⟩:=vals1 r
 cases rx
 have hn:=oy
 rcases hq with hq | hq
 ·obtain⟨Ph,r',pl,hz⟩:=I.list hq
  have hlen:=r'.length
  exact Calls.call_len_list pl.isList (by simp only[List.size_toArray] <;> omega) ⟨.int ys.length,H,I.tok _,⟨s.toks+1,by rw[List.size_toArray,hlen]⟩,q⟩
 ·obtain⟨Ph,r',pl,hz⟩:=I.tuple hq
  have hlen:=r'.length
  exact len_tuple pl (by simp only[List.size_toArray] <;> omega) ⟨.int ys.length,H,I.tok _,⟨s.toks+1,by rw[List.size_toArray,hlen]⟩,q⟩
theorem vn:dW X (.builtin "len") (λxs H Q=>∃ z,xs=[.str z]/\z.length<=sizeLine/\Q (.int z.length) H):=by
 intro Pf s σ H xs us Q I r h
 obtain⟨z,rfl,hz,q⟩:=h
 obtain⟨u,rfl,t,rfl⟩:=vals1 r
 have hn:=oy
 exact len_str (by omega) ⟨.int z.length,H,I.tok _,⟨_,rfl⟩,q⟩
theorem dW.or{f:Value}{r r':List V->Hp->VK->Prop}(h:dW X f r)(h':dW X f r'):dW X f (λxs H Q=>r xs H Q\/r' xs H Q):=by
 intro Pf s σ H xs us Q I rs q
 rcases q with q | q
 ·exact h Pf s σ H xs us Q I rs q
 ·exact h' Pf s σ H xs us Q I rs q
theorem ur:dW X (.type "list") (λxs H Q=>∃ p ys,xs=[.ref p]/\(iT X.K H p ys\/iD X.K H p ys)/\∀ l,H l=none->Q (.ref l) (upd H l (.lst ys))):=by
 intro Pf s σ H xs us Q I r h
 obtain⟨p,ys,rfl,hq,q⟩:=h
 obtain⟨u,rfl,rx⟩:=vals1 r
 cases rx
 have fin:∀ (Ph:List Value),Vals ys Ph->ys.length<=sizeLine->∀ (h':Heap) (c':Nat),(∀ b o',s.heap.get? b=some o'->h'.get? b=some o') ->
   h'.get? s.heap.objs.size=some { cls:=.type "list", dict:=none,data:=.seq Ph.toArray c',slots:=#[] }->EP X Pf σ Q (.ref s.heap.objs.size) { s with heap:=h' }:=λPh r' hz h' c' kp e =>
  ⟨.ref s.heap.objs.size,_,I.laid (t':=s.toks) kp (Nat.le_refl _) (show cU X.prog X.w _ h' _ (.lst ys) from ⟨hz,Ph,c',r',e⟩),rfl,q _ (I.cp.fresh (Nat.le_refl _))⟩
 rcases hq with hq | hq
 ·obtain⟨Ph,r',pl,hz⟩:=I.list hq
  have hlen:=r'.length
  obtain⟨o,ho,hc,n,hd⟩:=pl.isList
  exact call_list_seq p (.inl rfl) ho hc hd (λh' c' kp e=>fin Ph r' hz h' c' kp e) (by simp only[List.size_toArray] <;> omega)
 ·obtain⟨Ph,r',pl,hz⟩:=I.tuple hq
  have hlen:=r'.length
  obtain⟨o,ho,hc,n,hd⟩:=pl
  exact call_list_seq p (.inr rfl) ho hc hd (λh' c' kp e=>fin Ph r' hz h' c' kp e) (by simp only[List.size_toArray] <;> omega)
theorem sO:dW X (.type "tuple") (λxs H Q=>∃ p ys,xs=[.ref p]/\((iT X.K H p ys/\∀ l,H l=none->Q (.ref l) (upd H l (.tup ys)))\/(iD X.K H p ys/\Q (.ref p) H))):=by
 intro Pf s σ H xs us Q I r h
 obtain⟨p,ys,rfl,h⟩:=h
 obtain⟨u,rfl,rx⟩:=vals1 r
 cases rx
 rcases h with ⟨hq,q⟩ | ⟨hq,q⟩
 ·obtain⟨Ph,r',pl,hz⟩:=I.list hq
  have hlen:=r'.length
  refine call_tuple_list pl.isList (λh' kp=>?_) (by simp only[List.size_toArray] <;> omega)
  have I1:Inv X Pf σ H { s with heap:=h' }:=I.kept (t':=s.toks) kp
  have I2:Inv X Pf σ (upd H h'.objs.size (.tup ys)) { s with heap:=h'.push { cls:=.type "tuple", data:=.seq Ph.toArray } } :=
   I1.laid (t':=s.toks) (λb o e=>Heap.get?_push_of_some _ e) (Nat.le_refl _) (show cU X.prog X.w _ _ _ (.tup ys) from ⟨hz,Ph,r',IsTup.new _ _⟩)
  exact⟨.ref h'.objs.size,_,I2,rfl,q _ (I1.cp.fresh (Nat.le_refl _))⟩
 ·obtain⟨Ph,r',pl,hz⟩:=I.tuple hq
  exact call_tuple_same pl ⟨.ref p,H,I,rfl,q⟩
def Ot(K:PySem.W.Frag)(T:String)(x:V)(H:Hp):Prop:=match x with
 | .str _=>T = "str"
 | .int _=>T = "int"
 | .ref p=>(T = "list" /\ ∃ xs,iT K H p xs)\/(T = "tuple" /\ ∃ o,K.lookup p=some o/\o.cls=.type "tuple" /\ o.dict=none) ∨
   (T = "dict" /\ ((∃ Qu,H p=some (.dK Qu))\/∃ Qu,H p=some (.dT Qu)))\/(T = "set" /\ ∃ S n,H p=some (.set S n))
 | _=>False
theorem JS{T:String}{x:V}{v:Value}(I:Inv X Pf σ H s)(r:RelV x v)(ty:Ot X.K T x H) :
  s.TypeIs v T/\∀ a,v=.ref a->∃ ob,s.heap.get? a=some ob/\ob.dict=none:=by
 cases x with
 | str z =>
  obtain⟨t,rfl⟩:=r
  cases (show T = "str" from ty)
  exact⟨typeIs_str s z t,λ_ e=>nomatch e⟩
 | int i =>
  obtain⟨t,rfl⟩:=r
  cases (show T = "int" from ty)
  exact⟨typeIs_int s i t,λ_ e=>nomatch e⟩
 | ref p =>
  cases r
  rcases ty with ⟨rfl,xs,hq⟩ | ⟨rfl,o,hk,hc,hd⟩ | ⟨rfl,hk⟩ | ⟨rfl,S,n,hk⟩
  ·obtain⟨Ph,_,pl,_⟩:=I.list hq
   refine⟨pl.isList.typeIs,λa e=>?_⟩
   cases e
   obtain⟨o,n,e,c,hd,_⟩:=pl
   exact⟨o,e,hd⟩
  ·refine⟨⟨o,I.kG p o hk,hc⟩,λa e=>?_⟩
   cases e
   exact⟨o,I.kG _ o hk,hd⟩
  ·have z:∃ o,s.heap.get? p=some o/\o.ExactDict:=by
    rcases hk with ⟨Qu,hk⟩ | ⟨Qu,hk⟩
    ·obtain⟨_,_,_,_,o,_,_,e,ex,_⟩:=I.cp p _ hk
     exact⟨o,e,ex⟩
    ·obtain⟨_,_,_,_,o,_,_,e,ex,_⟩:=I.cp p _ hk
     exact⟨o,e,ex⟩
   obtain⟨o,e,ex⟩:=z
   refine⟨⟨o,e,ex.1⟩,λa e2=>?_⟩
   cases e2
   exact⟨o,e,ex.2.1⟩
  ·obtain⟨o,_,_,_,e,ex,_⟩:=I.cp p _ hk
   refine⟨⟨o,e,ex.1⟩,λa e2=>?_⟩
   cases e2
   exact⟨o,e,ex.2.1⟩
 | _=>exact False.elim ty
def OX(K:PySem.W.Frag)(T:String)(r:V->List V->Hp->VK->Prop)(to:TE)(t:TA):TE:=fun σ H Q=>to σ H λx H1=>Ot K T x H1/\t σ H1 λxs H2=>r x xs H2 Q
variable{o:Expr}{es:List Expr}{to:TE}{t:TA}{name:Str}{apos Pz:Pos}{T id:String}{r:V->List V->Hp->VK->Prop}
theorem G9(pa:PlainAttrs T)(slot:Slot T name id)(hty:typeOf (.builtin id)=pure (.type "method_descriptor"))(hm:Ow X id r)(ho:PE X o to)(ha:PA X (e::es) t)
  (Ro:autoParam (attributeBase o name X.env (eval o X.env)=eval o X.env) aR._auto_1)
  (RU:autoParam (((backTo Pz (starEach (e::es) X.env)).all (λx=>!x.1)&&(backToKw Pz (keywordEach [] X.env)).all (λx=>x.1.isSome)
   && decide ((e::es).length+([]:List Keyword).length+(if ([]:List Keyword).isEmpty then 0 else 1)<30))=true) aR._auto_1)
  (Rp:autoParam ((apos.endLine==Pz.line)=true) aR._auto_1) (hs:autoParam (starEach (e::es) X.env=(false,eval e X.env)::starEach es X.env) aR._auto_1) (Q7:autoParam ((backTo Pz (starEach es X.env)).any (·.1)=false) aR._auto_1) :
  PE X (.Call (.Attribute o name apos) (e::es) [] Pz) (OX X.K T r to t):=by
 intro Pf s σ H Q I h
 refine wpAny_Call_method_late Ro RU Rp rfl (c9 (ho Pf s σ H _ I h) λv s1 ⟨x,H1,I1,r1,ty,q1⟩=>?_)
 obtain⟨h1,h2⟩:=JS I1 r1 ty
 refine⟨T,id,pa,slot,hty,h1,h2,?_⟩
 have hA:=ha Pz Pf s1 σ H1 _ I1 q1
 rw[hs] at hA ⊢
 refine Calls.callWith_builtin (by show (false||(backTo Pz (starEach es X.env)).any (·.1))=false;rw[Q7] <;> rfl) (Calls.evalArgs_plain ?_)
 exact c9 hA λus s2 ⟨vs,H2,I2,r2,q2⟩=>hm Pf s2 σ H2 x vs v us Q I2 r1 r2 q2
end
def O2(X:Cx)(id:String)(r:V->List V->Hp->VK->Prop):Prop :=
 ∀ (Pf:List (Addr×Obj)) (s:Shared) (σ:St) (H:Hp) (x:V) (xs:List V) (v:Value) (us:List Value) (Q:VK),Inv X Pf σ H s->RelV x v->Vals xs us->r x xs H Q ->
  wpAny (model X.prog X.w) X.A (call (.builtin id) (v::us)) (EP X Pf σ Q) X.xe s
theorem Vals.one:∀ {x:V} {us:List Value},Vals [x] us->∃ u,us=[u]/\RelV x u
 | _,_,.cons r .nil=>⟨_,rfl,r⟩
theorem Vals.rep{xs:List V}{us:List Value}(h:Vals xs us):∀ k:Nat,Vals (List.replicate k xs).flatten (List.replicate k us).flatten
 | 0=>.nil
 | k+1=>by
  rw[List.replicate_succ,List.replicate_succ,List.flatten_cons,List.flatten_cons]
  exact Vals.append h (Vals.rep h k)
theorem foldl_rep(Ph:List Value):∀ (k:Nat) (acc:List Value),
  List.foldl (λx1 x2=>x1++x2) acc.toArray (List.replicate k Ph.toArray)=(acc++(List.replicate k Ph).flatten).toArray
 | 0,acc=>by simp
 | k+1,acc=>by
  have e:acc.toArray++Ph.toArray=(acc++Ph).toArray:=by simp
  have e2:(acc++Ph)++(List.replicate k Ph).flatten=acc++(List.replicate (k+1) Ph).flatten:=by
   rw[List.replicate_succ,List.flatten_cons,List.append_assoc]
  rw[← e2,← foldl_rep Ph k (acc++Ph),← e,List.replicate_succ,List.foldl_cons]
variable{t':Nat}
section
variable{l b:Addr}{ys zs:List V}
theorem Inv.N9{its':List Value}{f:Array Value->Array Value}(I:Inv X Pf σ H s)(hH:H l=some (.lst xs))
  (e:s.heap.get? l=some { cls:=.type "list", data:=.seq Ph.toArray n }) (hf:f Ph.toArray=its'.toArray) (hv:Vals ys its') (hz:ys.length<=sizeLine) :
  Inv X Pf σ (upd H l (.lst ys)) { s with heap:=s.heap.update l (Obj.mapSeq f),toks:=t' }:=by
 have q:=PySem.IsL.update e f
 rw[hf] at q
 refine I.write (x:=l) (e:=l) (by rw[hH];exact trivial) (.inl rfl) (λb' u hb hu=>(Heap.get?_update_other s.heap (Obj.mapSeq f) (Ne.symm hb)).trans hu) ⟨_,q⟩ ?_
 exact⟨hz,its',_,hv,q⟩
theorem Inv.Ld(I:Inv X Pf σ H s)(hv:Vals ys Ph)(hz:ys.length<=sizeLine) :
  Inv X Pf σ (upd H s.heap.objs.size (.lst ys)) { s with heap:=s.heap.push { cls:=.type "list", data:=.seq Ph.toArray },toks:=t' } :=
 I.laid (λ_ _ q=>Heap.get?_push_of_some _ q) (Nat.le_refl _) ⟨hz,Ph,0,hv,Heap.get?_push_size _ rfl⟩
theorem Inv.fresh(I:Inv X Pf σ H s):H s.heap.objs.size=none:=I.cp.fresh (Nat.le_refl _)
theorem Inv.Gu(I:Inv X Pf σ H s)(hH:H l=some (.lst xs)):xs.length<=sizeLine/\∃ (Ph:List Value) (n:Nat),Vals xs Ph/\xs.length=Ph.length/\s.heap.get? l=some { cls:=.type "list", data:=.seq Ph.toArray n }:=by
 obtain⟨z,Ph,n,r,e⟩:=I.cp l _ hH
 exact⟨z,Ph,n,r,r.length,e⟩
theorem CO(h:n<=sizeLine):Builtin.List.listTooLong n=false:=by
 unfold Builtin.List.listTooLong
 exact decide_eq_false (by omega)
end
def Ge:V->List V->Hp->VK->Prop:=λx vs H Q=>∃ l xs y,x=.ref l/\vs=[y]/\H l=some (.lst xs)/\xs.length<sizeLine/\Q .da (upd H l (.lst (xs++[y])))
theorem sR:O2 X "list.append" Ge:=by
 intro Pf s σ H x vs v us Q I rx rv h
 obtain⟨l,xs,y,rfl,rfl,hH,hz,q⟩:=h
 cases rx
 obtain⟨u,rfl,ru⟩:=rv.one
 obtain⟨z,Ph,n,r,hl,e⟩:=I.Gu hH
 refine call_meets F.slot_list_append ⟨_,e,rfl⟩ F.entry_list_append (F.args_list_append_2 _ _) (PySem.list_append l Ph.toArray n u (by rw[List.size_toArray];omega)) ⟨e,?_⟩
 refine⟨.da,_,I.N9 (its':=Ph++[u]) hH e (by simp) (r.append (.cons ru .nil)) ?_,rfl,q⟩
 rw[List.length_append,List.length_singleton]
 omega
def KD:R2:=λx y H Q=>∃ l b xs zs,x=.ref l/\y=.ref b/\H l=some (.lst xs)/\H b=some (.lst zs)/\xs.length+zs.length<=sizeLine/\∀ p,H p=none->Q (.ref p) (upd H p (.lst (xs++zs)))
theorem HB:iu X (binaryOp .Add) KD:=by
 intro Pf s σ H x y v u Q I rx ry h
 obtain⟨l,b,xs,zs,rfl,rfl,hH,hB,hz,q⟩:=h
 cases rx
 cases ry
 obtain⟨z,Ph,n,r,hl,e⟩:=I.Gu hH
 obtain⟨z2,Rc,n2,r2,QZ,e2⟩:=I.Gu hB
 refine PySem.P.add_list e e2 ?_ (by rw[List.size_toArray,List.size_toArray];omega)
 have ea:Ph.toArray++Rc.toArray=(Ph++Rc).toArray:=by simp
 rw[ea]
 exact⟨.ref _,_,I.Ld (t':=s.toks) (r.append r2) (by rw[List.length_append];omega),rfl,q _ I.fresh⟩
def KP:R2:=λx y H Q=>∃ l k xs,x=.ref l/\y=.int k/\H l=some (.lst xs)/\-(2^63)<=k/\k<2^63/\xs.length*k.toNat<=sizeLine ∧
 ∀ p,H p=none->Q (.ref p) (upd H p (.lst (List.replicate k.toNat xs).flatten))
theorem len_rep(xs:List α)(k:Nat):(List.replicate k xs).flatten.length=k*xs.length:=by
 induction k with
 | zero=>simp
 | succ k ih=>rw[List.replicate_succ,List.flatten_cons,List.length_append,ih,Nat.succ_mul,Nat.add_comm]
theorem DN:iu X (binaryOp .Mult) KP:=by
 intro Pf s σ H x y v u Q I rx ry h
 obtain⟨l,k,xs,rfl,rfl,hH,h1,h2,hz,q⟩:=h
 cases rx
 obtain⟨t,rfl⟩:=ry
 obtain⟨z,Ph,n,r,hl,e⟩:=I.Gu hH
 have hlen:Ph.toArray.size*k.toNat<=sizeLine:=by rw[List.size_toArray,← hl];exact hz
 have hcap:¬ Ph.toArray.size*k.toNat>(2^63-1)/8:=by
  have:(sizeLine:Nat)<=(2^63-1)/8:=by decide
  omega
 have hfit:¬ (!Builtin.List.listFitsIndex k)=true:=by
  rw[fitsIndex_both h1 h2]
  exact Bool.false_ne_true
 have Ta:¬ Builtin.List.listTooLong (Ph.toArray.size*k.toNat)=true:=by
  rw[CO hlen]
  exact Bool.false_ne_true
 have Q0:List.foldl (λx1 x2=>x1++x2) #[] (List.replicate (if Ph.toArray.isEmpty=true then 0 else k.toNat) Ph.toArray)=(List.replicate k.toNat Ph).flatten.toArray:=by
  have f0:∀ m:Nat,List.foldl (λx1 x2=>x1++x2) #[] (List.replicate m Ph.toArray)=(List.replicate m Ph).flatten.toArray:=λm=>by
   have:=foldl_rep Ph m []
   rw[List.nil_append] at this
   exact this
  rw[f0]
  cases Ph with
  | nil=>simp
  | cons a r'=>rw[if_neg (by simp)]
 refine wpAny_binaryOp_repeat_ref (T := "list") (U := "int") (by decide) ⟨_,e,rfl⟩ (λs'=>typeIs_int s' k t) noFill_list_mul F.fills_int_mul F.slot_int_rmul repeat_list F.slot_int_index.lookup
  (call_meets F.slot_int_rmul (typeIs_int s k t) F.entry_int_rmul (F.args_int_rmul_2 _ _) (int___rmul___int_list k t l Ph.toArray n)
   ⟨e,rfl,⟨_,e,rfl⟩,call_meets F.slot_list_mul ⟨_,e,rfl⟩ F.entry_list_mul (F.args_list_mul_2 _ _) (AutoListH.list___mul___list_int_3 l Ph.toArray n k t hfit hcap Ta) ⟨e,?_⟩⟩)
 rw[Q0]
 exact⟨.ref _,_,I.Ld (t':=s.toks) (r.rep k.toNat) (by rw[len_rep,Nat.mul_comm];exact hz),rfl,q _ I.fresh⟩
variable{E:Value->Shared->Prop}{A:Around}{w:World}
section
variable{prog:Program}
end
section
variable{κ:Type}[DecidableEq κ]
end
variable{a:Addr}
section
variable{P:Program}{h:Heap}
end
variable{o:Option V}{u:Value}
section
variable{y v:V}{r:Value}
end
variable{Qu:List (Key×V)}
section
variable{k:Key}
end
section
variable{o i value:Expr}{pos pos' tpos:Pos}{td ty tv:TE}
end
section
variable{pos:Pos}
end
section
variable{y d:V}{r:Value}
end
section
variable{o f:Expr}{apos Pz:Pos}{td ty tx:TE}
end
section
variable{y:V}
end
end L2
namespace Att
open PySem PySem.W PySem.Calls PyProof.Rows
variable{h:Heap}{P:Params}
theorem o8:∀ (ns:List Int) (vs:List Value),WellAll P h vs (ns.map WData.int)->IntsAre vs ns:=by
 intro ns
 induction ns with
 | nil =>
  intro vs w
  rw[List.map_nil] at w
  cases w
  exact .nil
 | cons n ns ih =>
  intro vs w
  rw[List.map_cons] at w
  cases w with
  | cons a b =>
   cases a
   exact .cons _ _ (ih _ b)
theorem As{l:OpenLaw}{n:Nat}(hn:l.most=some n){args:List WData}{vals:List Value}
  (A1:l.row.toRowW.claim.pre args=true) (hwl:WellAll P h vals args) :
  ∃ a vs ns,vals=[Value.ref a]/\args=[WData.list (ns.map WData.int)]/\h.get? a=some { cls:=.type "list", data:=.seq vs.toArray }/\IntsAre vs ns/\ns.length<=n:=by
 have hsh:WShape.hasAll [] args [.list .int]=true:=(pre_splitW A1).1
 have hc:l.pre.holds [] { args:=args }=true:=(pre_splitW A1).2
 obtain⟨d,r,rfl,h1,h2⟩:=hasAllW_cons hsh
 obtain rfl:=hasAllW_nil h2
 obtain⟨xs,rfl,h3⟩:=hasW_list h1
 obtain⟨ns,rfl⟩:=items_int h3
 have hlen:ns.length<=n:=by
  unfold OpenLaw.pre at hc
  have h4:(WTm.not (.lt (.lit (.int (n:Int))) (.len (.arg 0)))).holds [] { args:=[.list (ns.map .int)] }=true:=by
   have h4:=(holds_andW hc).1
   rw[hn] at h4
   exact h4
  have h5:=condW_of h4 (w_not (w_lt w_lit (w_len_list (w_arg rfl))))
  rw[List.length_map] at h5
  refine Nat.le_of_not_lt λq=>?_
  have q':(n:Int)<((ns.length:Nat):Int):=by omega
  first
   | (rw[decide_eq_true q'] at h5;exact absurd h5 (by decide))
   | (simp at h5;omega)
 cases hwl with
 | cons w1 w2 =>
  cases w2
  cases w1 with
  | list ho hall=>exact⟨_,_,ns,rfl,rfl,ho,o8 ns _ hall,hlen⟩
theorem Bt(l:OpenLaw)(args:List WData):l.row.toRowW.claim.post args (.bool true) args=true :=
 postW_of (r:=l.row.toRowW) (X:=(true==true))
  (show WShape.has [] (.bool true) .bool=true by first | rfl | decide | simp[WShape.has,WShape.arms,WShape.armsAll])
  (show (WTm.eq .res (.lit (.bool true))).value [] { args:=args,res:=some (.bool true),after:=args }=some (.bool (true==true)) from w_eq_bool (w_res rfl) w_lit) rfl
section
variable{prog:Program}{w:World}{A:Around}{E:Value->Shared->Prop}{s:Shared}{K:Frag}
end
end Att
namespace L2
open PySem PySem.Spec PyProof.Rows
theorem sY:∀ {vs:List Value} {ns:List Int},IntsAre vs ns->Vals (ns.map V.int) vs
 | _,_,.nil=>.nil
 | _,_,.cons n t h=>.cons ⟨t,rfl⟩ (sY h)
def L_(H:Hp):Prop:=∀ b,H b=none\/∃ o xs,H b=some (.sG o (.lst xs))
variable{mg:Str->Option Value}{w:World}{P:Program}
theorem EC{K:PySem.W.Frag}{mb:Str->Option Value}{CX:Ky}{k:Nat}{fa a:Addr}{fd:FuncData}{x:Str}{sp:Sp}{s₁:Shared}{vs:List Value}{ns:List Int}
  (KX:K.In s₁.heap) (hns:s₁.heap.Ns mainGlobals mg) (hb:s₁.heap.Ns builtinsNs mb) (S3:∀ x:Str,x ≠ "__name__" -> mb x=bootBuiltins x) (hlim:s₁.heap.NoLimit) (hg:s₁.gens=#[])
  (ha:s₁.heap.get? a=some { cls:=.type "list", data:=.seq vs.toArray }) (hi:IntsAre vs ns) (hl:ns.length<=sizeLine) (hr:cV k callerA)
  (F:∀ base:Heap,K.In base->base.Ns mainGlobals mg->aO P w K mg base CX k fa fd [x] sp) (S4:∀ (s:Shared) (u:Value),BindsTo s fd ⟨[u],[]⟩ [(x,u)])
  (hsp:∀ H:Hp,L_ H->iT K H a (ns.map V.int)->sp [.ref a] H (λv _=>v=.bl true) λ_ _ _=>False)
  (hCX:∀ H e s',CX [] H s₁ (λ_ _ _=>False) e s'->False) :
  codeAny (model P w) callerA (.call (.ref fa) ⟨[.ref a],[]⟩) (λr s'=>r=.ok (.ret (.bool true))/\OldK s₁.heap s'.heap/\s'.os=s₁.os/\AllBare s'.gens) s₁:=by
 have rv:=sY hi
 have lenV:=hi.length
 have core:∀ H:Hp,L_ H->iT K H a (ns.map V.int)->oM P w H s₁.heap->(∀ b,H b≠none->b=a)->(H a≠none->K.lookup a=none) ->
   codeAny (model P w) callerA (.call (.ref fa) ⟨[.ref a],[]⟩) (λr s'=>r=.ok (.ret (.bool true))/\OldK s₁.heap s'.heap/\s'.os=s₁.os/\AllBare s'.gens) s₁:=by
  intro H hO hS cp hA hK
  have RA:∀ {b:Addr} {o:Obj},s₁.heap.get? b=some o->H b=none->(uL s₁.heap H).get? b=some o:=λe n=>DC e n
  have nI:∀ {b:Addr} {o:Obj} {es:Array DictEntry} {ep:Nat},s₁.heap.get? b=some o->o.data=.dict es ep->H b=none:=λ{b o es ep} e d=>by
   cases q:H b with
   | none=>rfl
   | some u =>
    have e':b=a:=hA b (by rw[q];simp)
    subst e'
    rw[ha] at e;cases e
    have d':Data.seq vs.toArray _=Data.dict es ep:=d
    cases d'
  have nsK:∀ {b:Addr} {m:Str->Option Value},s₁.heap.Ns b m->(uL s₁.heap H).Ns b m:=λ{b m} ⟨o,es,ep,e,d,r⟩=>⟨o,es,ep,RA e (nI e d),d,r⟩
  have hKb:K.In (uL s₁.heap H):=λb o e=>RA (KX b o e) (by
   cases q:H b with
   | none=>rfl
   | some u =>
    have e':b=a:=hA b (by rw[q];simp)
    subst e'
    rw[hK (by rw[q];simp)] at e;cases e)
  have hM:Mod K mg (uL s₁.heap H):=⟨hKb,nsK hns,⟨mb,nsK hb,S3⟩,let ⟨mc,h1,h2⟩:=hlim;⟨mc,nsK h1,h2⟩⟩
  have e0:yG P w K mg (uL s₁.heap H) callerA [] s₁ H:=⟨rfl,hM,λb o e=>Fx e,Nat.le_of_eq (Bk _ _),trivial,λb hb=>absurd (show b∈([]:List Addr) from hb) (by simp),cp,.of_eq hg⟩
  refine codeAny_mono ((F _ hKb (nsK hns)).run callerA [] s₁ H ⟨[.ref a],[]⟩ [.ref a] [.ref a] _ _ hr e0 (S4 s₁ (.ref a)) (.cons rfl .nil) (hsp H hO hS)) λr s' h=>?_
  cases r with
  | error e=>exact(hCX H e s' h).elim
  | ok fl =>
   cases fl with
   | next=>exact False.elim h
   | brk=>exact False.elim h
   | cont=>exact False.elim h
   | ret u =>
    obtain⟨v,H',os,bare,un,hok',r',q⟩:=h
    have q':v=.bl true:=q
    subst q'
    obtain rfl:u=Value.bool true:=r'
    refine⟨rfl,OldK.of_keep λb o e=>?_,os,bare⟩
    cases q:H b with
    | none=>exact un.keep b o e q (by intro z;exact absurd (show b∈([]:List Addr) from z) (by simp)) (by simp)
    | some u =>
     rcases hO b with z | ⟨ob,xs,z⟩
     ·rw[q] at z;cases z
     ·have z2:=un.oI b ob _ z
      obtain⟨e1,_⟩:=cp b _ z
      obtain⟨e2,_⟩:=hok' b _ z2
      rw[e] at e1;cases e1
      exact e2
 cases hk:K.lookup a with
 | some o =>
  have e:=KX a o hk
  rw[ha] at e
  cases e
  refine core (λ_=>none) (λ_=>.inl rfl) (.inr ⟨_,vs.toArray,_,hk,rfl,rfl,rfl,by rw[List.size_toArray,lenV];exact hl,by simpa using rv⟩) (λb u z=>by have z':(none:Option HO)=some u:=z;cases z') (λb z=>absurd rfl z) λz=>absurd rfl z
 | none =>
  refine core (λb=>if b=a then some (.sG { cls:=.type "list", data:=.seq vs.toArray } (.lst (ns.map V.int))) else none) (λb=>?_) (.inl (.inr ⟨{ cls:=.type "list", data:=.seq vs.toArray },if_pos rfl⟩)) (λb u z=>?_) (λb z=>?_) λ_=>hk
  ·by_cases hb:b=a
   ·exact .inr ⟨_,_,if_pos hb⟩
   ·exact .inl (if_neg hb)
  ·by_cases hb:b=a
   ·have z':=(if_pos hb).symm.trans z
    cases z'
    subst hb
    exact⟨ha,by rw[List.length_map];exact hl,vs,_,rv,ha⟩
   ·have z':=(if_neg hb).symm.trans z
    cases z'
  ·by_cases hb:b=a
   ·exact hb
   ·exact absurd (if_neg hb) z
def inClass(s:Stmt)(j:Nat):Stmt:=match s with
 | .ClassDef _ _ _ body _ _ _ _ _ _ _=>body.getD j (.Pass ⟨0,0,0,0⟩)
 | _=>.Pass ⟨0,0,0,0⟩
def i6(s:Stmt):Arguments:=match s with
 | .FunctionDef _ a _ _ _ _ _ _ _ _=>a
 | _=>{ posonlyargs:=[],args:=[],vararg:=none,kwonlyargs:=[],kw_defaults:=[],kwarg:=none,defaults:=[] }
def fD(s:Stmt):List Stmt:=match s with
 | .FunctionDef _ _ b _ _ _ _ _ _ _=>b
 | _=>[]
def a_(s:Stmt):Scope:=match s with
 | .FunctionDef _ _ _ _ _ _ sc _ _ _=>sc
 | _=>{ kind:=.function,names:=[],isGenerator:=false,isCoroutine:=false }
abbrev E0:XK:=λ_ _ _=>False
section
variable{K:PySem.W.Frag}{base:Heap}
end
theorem oA{n:Nat}(h:n<=1000):n<sizeLine:=Nat.lt_of_le_of_lt h (by decide)
section
variable{X:Cx}
end
def bM(H H':Hp):Prop:=∀ b o,H b=some o->H' b=some o
end L2
section
namespace HD
open PySem PySem.W L2
abbrev pw:Program:=PySem.Challenge.pw_dialvault_k58_whole_locks_opened_or_shut
noncomputable section
noncomputable def st(s:String)(t:Nat):Value:=.str (Str.ofString s) t
def en(P:Params)(s:String)(t:Nat)(v:Value):DictEntry:=⟨PyData.keyHash P (Str.ofString s),st s t,v⟩
def tu(xs:List Value):Obj:=⟨.type "tuple", none,.seq ⟨xs⟩ 0,⟨[]⟩⟩
def di(n:Nat)(es:List DictEntry):Obj:=⟨.type "dict", none,.dict ⟨es⟩ n,⟨[]⟩⟩
def tp(i:Nat):Stmt:=pw.main.body.getD i (.Pass ⟨0,0,0,0⟩)
def mp(i j:Nat):Stmt:=inClass (tp i) j
def co(a b:String)(t:Nat)(l n:Int)(x1 x2 x3 x4 x5:Nat)(u:Nat):Obj:=⟨.type "code", none,.fields ⟨[st a t,st b (t+1),st "/claim/cut.py" (t+2),.int l 0,.int n 0,.int 0 0,.int 0 0,.int 3 0,.ref x1,.bool true,.int 181 0,.ref x2,.none,.ref x3,.ref x4,.ref x5,.int u 0,.int l 0,st "/claim/cut.py" (u+1)]⟩,⟨[]⟩⟩
def ft(a b:String)(s:Stmt):Obj:=⟨.none,none,.func ⟨Str.ofString a,Str.ofString b,i6 s,.stmts (fD s),a_ s,0,[],.none,.none,.none,.none,none,.none,.none,0⟩,⟨[]⟩⟩
def fo(a b:String)(s:Stmt)(df pm:Value)(cd:Nat):Obj:=⟨.type "function", none,.func ⟨Str.ofString a,Str.ofString b,i6 s,.stmts (fD s),a_ s,3,[],df,.none,.none,pm,none,.ref cd,.none,0⟩,⟨[]⟩⟩
def Kb:List Obj->List Obj
 | []=>[]
 | [a]=>[a]
 | a::_::r=>a::Kb r
def bt:Nat->List Obj->BT
 | 0,_=>.nil
 | _+1,[]=>.nil
 | n+1,a::r=>.node a (bt n (Kb r)) (bt n (Kb (r.drop 1)))
def S(L:Params->List Obj)(n k:Nat)(w:World)(os:OsState):SharedT:=⟨bt 14 (L w.params),n,{},⟨[]⟩,⟨0,0,0,0⟩,k,os⟩
def F(L:Params->List Obj)(k:Nat)(w:World)(os:OsState):Shared:=⟨⟨⟨L w.params⟩,{}⟩,⟨[]⟩,⟨0,0,0,0⟩,k,os⟩
def cc(a:String)(t:Nat)(l:Int)(x y u:Nat):Obj:=⟨.type "code", none,.fields ⟨[st a t,st a (t+1),st "/claim/cut.py" (t+2),.int l 0,.int 0 0,.int 0 0,.int 0 0,.int 0 0,.ref x,.bool false,.int 181 0,.ref y,.none,.none,.none,.none,.int u 0,.int l 0,st "/claim/cut.py" (u+1)]⟩,⟨[]⟩⟩
def fr(a b:Nat)(s:String)(t:Nat):Obj:=⟨.type "frame", none,.plain,⟨[some (.ref a),some (.ref 3),some (.ref b),none,some (st s t),none,some (.ref 0)]⟩⟩
def su(a:Nat):Obj:=⟨.type "super", none,.fields ⟨[.ref a,.ref a,.ref a]⟩,⟨[]⟩⟩
def ii(a:Nat):Obj:=⟨.type "builtin_function_or_method", none,.fields ⟨[.builtin "object.__init_subclass__", .ref a]⟩,⟨[]⟩⟩
def xQ:List Nat->List Value
 | a::b::c::r=>.int a 0::.int b 0::.ref c::xQ r
 | _=>[]
def fi(xs:List Nat):Obj:=⟨.none,none,.fields ⟨xQ xs⟩,⟨[]⟩⟩
def cl(n:Str)(bs ms:List Value)(k:Nat)(ss:List Value)(sl:List (Option Value)):Obj:=⟨.type "type", none,.cls ⟨n,bs,ms,k,n,true,[],ss,false,none,false⟩,⟨sl⟩⟩
def pt(L:List Obj)(us:List (Nat×Obj))(ns:List Obj):List Obj:=us.foldl (λl u=>l.set u.1 u.2) L++ns
abbrev b0:=boot_o_0
abbrev b1:=boot_o_1
abbrev b2:=boot_o_2
abbrev b3:=boot_o_3
abbrev b4:=boot_o_4
abbrev b5:=boot_o_5
abbrev b6:=boot_o_6
abbrev b7:=boot_o_7
abbrev b8:=boot_o_8
abbrev b9:=boot_o_9
abbrev O7:=boot_o_10
def m0:Value:=st "__main__" 164
def m1:Value:=st "dialvault.errors" 194
def m2:Value:=st "dialvault.wholes" 418
def m3:Value:=st "dialvault.vault" 466
def m4:Value:=st "dialvault.papers" 645
def m5:Value:=st "dialvault.rungs" 795
def m6:Value:=st "dialvault.locks" 981
def m7:Value:=st "law_dialvault_k58_whole_locks_opened_or_shut" 1111
def nl:List String->Nat->List Value
 | [],_=>[]
 | x::r,t=>st x t::nl r (t+1)
def fA(P:Params)(a t:Nat)(x q:String)(s:Stmt)(l n:Int)(vs:List String)(df pm:Value):List Obj:=[b7 P,b8 P,tu (nl vs (t+3)),b7 P,ft x q s,co x q t l n a (a+1) (a+2) (a+3) (a+4) (t+3+vs.length),fo x q s df pm (a+5)]
def fT(P:Params)(a t:Nat)(x:String)(s:Stmt)(l n:Int)(vs:List String)(pm:Value):List Obj:=fA P a t x x s l n vs .none pm
def fB(P:Params)(a t:Nat)(x q:String)(s:Stmt)(l n:Int)(df pm:Value):List Obj:=[b7 P,b8 P,ft x q s,⟨.type "code", none,.fields ⟨[st x t,st q (t+1),st "/claim/cut.py" (t+2),.int l 0,.int n 0,.int 0 0,.int 0 0,.int 3 0,.ref a,.bool true,.int 181 0,.ref (a+1),.none,.none,.none,.ref (a+2),.int (t+3) 0,.int l 0,st "/claim/cut.py" (t+4)]⟩,⟨[]⟩⟩,fo x q s df pm (a+3)]
def dB(P:Params)(n t:Nat)(m:Value)(l:Int)(r:List DictEntry):Obj:=di n (en P "__module__" t m::en P "__firstlineno__" (t+4) (.int l (t+3))::r)
def dA(P:Params)(n t:Nat)(m:Value)(x:String)(l:Int)(r:List DictEntry):Obj:=di n (en P "__module__" t m::en P "__qualname__" (t+2) (st x (t+1))::en P "__firstlineno__" (t+4) (.int l (t+3))::r)
def gw(t a:Nat):Obj:=⟨.type "getset_descriptor", none,.fields ⟨[st "__weakref__" t,.ref a,.builtin "ExceptionGroup.__weakref__", .none]⟩,⟨[]⟩⟩
def gd(t a:Nat):Obj:=⟨.type "getset_descriptor", none,.fields ⟨[st "__dict__" t,.ref a,.builtin "function.__dict__", .builtin "function.__dict__#set"]⟩,⟨[]⟩⟩
def ce(x:String)(b a k:Nat)(ss:List Value)(d t u:Nat):Obj:=cl x [.ref b] [.ref a,.ref b,.type "ValueError", .type "Exception", .type "BaseException", .type "object"] k ss [some (.ref d),none,some (st x t),some (st x u),some (.builtin "ValueError.__new__"),some (.bool true)]
def gl P:=[en P "__doc__" 166 .none,en P "__package__" 167 .none,en P "__loader__" 168 (.builtin "__main__.__loader__#opaque"),en P "__spec__" 169 .none,en P "__annotations__" 170 (.ref 6),en P "__builtins__" 171 (.ref 4),en P "__file__" 173 (st "/claim/cut.py" 172),en P "__cached__" 174 .none,en P "_wall" 193 (.ref 21),en P "VaultError" 220 (.ref 38),en P "NoDial" 252 (.ref 65),en P "NoLever" 284 (.ref 91),en P "NoPrice" 316 (.ref 117),en P "NoSetting" 339 (.ref 136),en P "NoPulls" 362 (.ref 155),en P "TooMany" 385 (.ref 174),en P "NoLock" 417 (.ref 200),en P "is_whole" 426 (.ref 209),en P "is_row" 432 (.ref 214),en P "common" 444 (.ref 221),en P "multiple_of" 453 (.ref 228),en P "unit_row" 459 (.ref 233),en P "rest_sum" 465 (.ref 238),en P "MOST_DIALS" 469 (.int 6 468),en P "LEAST_SIZE" 471 (.int 2 470),en P "MOST_SIZE" 473 (.int 360 472),en P "MOST_LEVERS" 475 (.int 8 474),en P "LEAST_PRICE" 477 (.int 1 476),en P "MOST_PRICE" 479 (.int 1000 478),en P "Vault" 537 (.ref 282),en P "is_within" 546 (.ref 293),en P "need_sizes" 555 (.ref 300),en P "need_levers" 565 (.ref 307),en P "prices_for" 574 (.ref 314),en P "rests" 580 (.ref 319),en P "nought" 587 (.ref 326),en P "is_setting" 593 (.ref 331),en P "is_pulls" 601 (.ref 338),en P "need_setting" 609 (.ref 345),en P "need_pulls" 617 (.ref 352),en P "added" 623 (.ref 357),en P "turned" 635 (.ref 364),en P "between" 644 (.ref 371),en P "weigh" 652 (.ref 376),en P "weighs_no_lever" 658 (.ref 381),en P "Paper" 702 (.ref 412),en P "Way" 751 (.ref 454),en P "Bar" 794 (.ref 487),en P "mixed" 802 (.ref 494),en P "mixed_made" 814 (.ref 501),en P "unpulled" 822 (.ref 508),en P "pulled_once" 831 (.ref 515),en P "step_size" 841 (.ref 522),en P "taken_in" 856 (.ref 529),en P "lowered" 868 (.ref 536),en P "in_spans" 878 (.ref 543),en P "Rungs" 962 (.ref 608),en P "first_turned" 968 (.ref 617),en P "bring" 980 (.ref 624),en P "MOST_LOCKS" 984 (.int 6 983),en P "LEAST_NUMBER" 986 (.int 2 985),en P "MOST_NUMBER" 988 (.int 360 987),en P "Lock" 1021 (.ref 641),en P "is_fit" 1027 (.ref 650),en P "need_locks" 1038 (.ref 657),en P "turns_of" 1044 (.ref 662),en P "wants_of" 1050 (.ref 667),en P "lock_vault" 1056 (.ref 672),en P "open_from" 1067 (.ref 679),en P "Shut" 1110 (.ref 710),en P "_law_cell" 1120 (.ref 719),en P "_law_mix" 1129 (.ref 726),en P "_law_digits" 1139 (.ref 733),en P "_law_size" 1146 (.ref 740),en P "_law_sizes" 1152 (.ref 745),en P "_law_lever" 1165 (.ref 752),en P "_law_divisor" 1173 (.ref 759),en P "_law_lock" 1179 (.ref 764),en P "_law_sums" 1185 (.ref 769),en P "_law_met" 1191 (.ref 774),en P "_law_round" 1200 (.ref 781),en P "_law_shared" 1206 (.ref 786),en P "_law_bars" 1212 (.ref 791),en P "_law_led" 1218 (.ref 796),en P "_law_paper" 1224 (.ref 801),en P "_law_others" 1230 (.ref 806),en P "law" 1236 (.ref 811)]
def LA(P:Params):List Obj:=[b0 P,b1 P,b2 P,b3 P,b4 P,b5 P,b6 P,b7 P,b8 P,b9 P,O7 P,b7 P,b8 P,cc "<module>" 182 1 11 12 185,fr 13 3 "__main__" 164]
def o9:Obj:=⟨.type "builtin_function_or_method", none,(.fields ⟨[.builtin "type.__prepare__", .type "type"]⟩),⟨[]⟩⟩
def OO:Obj:=gw 216 38
def H0:=tu [.ref 38]
def L0 P:=pt (LA P) [(3,di 15 (en P "__name__" 165 m1::(gl P).take 14)),(12,fi [1,0,20,5,0,27,9,0,47,16,0,73,23,0,99,30,0,125])] (fT P 15 187 "_wall" (tp 0) 1 1 ["k"] m0++([tu [.type "ValueError"],o9,dA P 5 203 m1 "VaultError" 5 [en P "word" 214 (.ref 35),en P "__static_attributes__" 215 (.ref 36)],b7 P,fi [7,4,34],cc "VaultError" 198 5 25 26 201,fr 27 24 "dialvault.errors" 194]++(fA P 29 208 "word" "VaultError.word" (mp 2 0) 7 1 ["self"] .none m1++([b7 P,dB P 3 203 m1 5 [en P "word" 214 (.ref 35),en P "__static_attributes__" 215 (.ref 36),en P "__weakref__" 217 (.ref 39),en P "__doc__" 218 .none],cl "VaultError" [.type "ValueError"] [.ref 38,.type "ValueError", .type "Exception", .type "BaseException", .type "object"] 37 [.ref 65,.ref 91,.ref 117,.ref 136] [some (.ref 22),none,some (st "VaultError" 196),some (st "VaultError" 204),some (.builtin "ValueError.__new__"),some (.bool true)],OO,su 38,ii 38,H0,o9,dA P 6 228 m1 "NoDial" 9 [en P "__init__" 240 (.ref 55),en P "word" 247 (.ref 62),en P "__static_attributes__" 249 (.ref 63)],b7 P,fi [11,4,54,14,4,61],cc "NoDial" 223 9 45 46 226,fr 47 44 "dialvault.errors" 194]++(fA P 49 233 "__init__" "NoDial.__init__" (mp 3 0) 11 2 ["self", "dial"] .none m1++(fA P 56 241 "word" "NoDial.word" (mp 3 1) 14 1 ["self"] .none m1++([tu [st "dial" 248],dB P 2 228 m1 9 [en P "__init__" 240 (.ref 55),en P "word" 247 (.ref 62),en P "__static_attributes__" 249 (.ref 63),en P "__doc__" 250 .none],ce "NoDial" 38 65 64 [] 42 221 229,su 65,ii 65,H0,o9,dA P 6 260 m1 "NoLever" 16 [en P "__init__" 272 (.ref 81),en P "word" 279 (.ref 88),en P "__static_attributes__" 281 (.ref 89)],b7 P,fi [18,4,80,21,4,87],cc "NoLever" 255 16 71 72 258,fr 73 70 "dialvault.errors" 194]++(fA P 75 265 "__init__" "NoLever.__init__" (mp 4 0) 18 2 ["self", "lever"] .none m1++(fA P 82 273 "word" "NoLever.word" (mp 4 1) 21 1 ["self"] .none m1++([tu [st "lever" 280],dB P 2 260 m1 16 [en P "__init__" 272 (.ref 81),en P "word" 279 (.ref 88),en P "__static_attributes__" 281 (.ref 89),en P "__doc__" 282 .none],ce "NoLever" 38 91 90 [] 68 253 261,su 91,ii 91,H0,o9,dA P 6 292 m1 "NoPrice" 23 [en P "__init__" 304 (.ref 107),en P "word" 311 (.ref 114),en P "__static_attributes__" 313 (.ref 115)],b7 P,fi [25,4,106,28,4,113],cc "NoPrice" 287 23 97 98 290,fr 99 96 "dialvault.errors" 194]++(fA P 101 297 "__init__" "NoPrice.__init__" (mp 5 0) 25 2 ["self", "lever"] .none m1++(fA P 108 305 "word" "NoPrice.word" (mp 5 1) 28 1 ["self"] .none m1++([tu [st "lever" 312],dB P 2 292 m1 23 [en P "__init__" 304 (.ref 107),en P "word" 311 (.ref 114),en P "__static_attributes__" 313 (.ref 115),en P "__doc__" 314 .none],ce "NoPrice" 38 117 116 [] 94 285 293,su 117,ii 117,H0,o9,dA P 5 324 m1 "NoSetting" 30 [en P "word" 335 (.ref 133),en P "__static_attributes__" 336 (.ref 134)],b7 P,fi [32,4,132],cc "NoSetting" 319 30 123 124 322,fr 125 122 "dialvault.errors" 194]++(fA P 127 329 "word" "NoSetting.word" (mp 6 0) 32 1 ["self"] .none m1++([b7 P,dB P 2 324 m1 30 [en P "word" 335 (.ref 133),en P "__static_attributes__" 336 (.ref 134),en P "__doc__" 337 .none],ce "NoSetting" 38 136 135 [] 120 317 325,su 136,ii 136])))))))))))))))
def M8:Obj:=gd 531 282
def N3:Obj:=gw 533 282
def L1 P:=pt (L0 P) [(3,di 35 (en P "__name__" 165 m3::(gl P).take 34)),(12,fi [1,0,20,5,0,27,9,0,47,16,0,73,23,0,99,30,0,125,34,0,144,38,0,163,42,0,182,50,0,208,52,0,213,56,0,220,67,0,227,72,0,232,74,0,237,83,0,244,104,0,292,106,0,299,114,0,306,120,0,313]),(38,cl "VaultError" [.type "ValueError"] [.ref 38,.type "ValueError", .type "Exception", .type "BaseException", .type "object"] 37 [.ref 65,.ref 91,.ref 117,.ref 136,.ref 155,.ref 174,.ref 200] [some (.ref 22),none,some (st "VaultError" 196),some (st "VaultError" 204),some (.builtin "ValueError.__new__"),some (.bool true)])] ([H0,o9,dA P 5 347 m1 "NoPulls" 34 [en P "word" 358 (.ref 152),en P "__static_attributes__" 359 (.ref 153)],b7 P,fi [36,4,151],cc "NoPulls" 342 34 142 143 345,fr 144 141 "dialvault.errors" 194]++(fA P 146 352 "word" "NoPulls.word" (mp 7 0) 36 1 ["self"] .none m1++([b7 P,dB P 2 347 m1 34 [en P "word" 358 (.ref 152),en P "__static_attributes__" 359 (.ref 153),en P "__doc__" 360 .none],ce "NoPulls" 38 155 154 [] 139 340 348,su 155,ii 155,H0,o9,dA P 5 370 m1 "TooMany" 38 [en P "word" 381 (.ref 171),en P "__static_attributes__" 382 (.ref 172)],b7 P,fi [40,4,170],cc "TooMany" 365 38 161 162 368,fr 163 160 "dialvault.errors" 194]++(fA P 165 375 "word" "TooMany.word" (mp 8 0) 40 1 ["self"] .none m1++([b7 P,dB P 2 370 m1 38 [en P "word" 381 (.ref 171),en P "__static_attributes__" 382 (.ref 172),en P "__doc__" 383 .none],ce "TooMany" 38 174 173 [] 158 363 371,su 174,ii 174,H0,o9,dA P 6 393 m1 "NoLock" 42 [en P "__init__" 405 (.ref 190),en P "word" 412 (.ref 197),en P "__static_attributes__" 414 (.ref 198)],b7 P,fi [44,4,189,47,4,196],cc "NoLock" 388 42 180 181 391,fr 182 179 "dialvault.errors" 194]++(fA P 184 398 "__init__" "NoLock.__init__" (mp 9 0) 44 2 ["self", "lock"] .none m1++(fA P 191 406 "word" "NoLock.word" (mp 9 1) 47 1 ["self"] .none m1++([tu [st "lock" 413],dB P 2 393 m1 42 [en P "__init__" 405 (.ref 190),en P "word" 412 (.ref 197),en P "__static_attributes__" 414 (.ref 198),en P "__doc__" 415 .none],ce "NoLock" 38 200 199 [] 177 386 394,su 200,ii 200]++(fT P 203 420 "is_whole" (tp 11) 50 1 ["thing"] m2++(fB P 210 427 "is_row" "is_row" (tp 12) 52 2 .none m2++(fT P 215 433 "common" (tp 13) 56 2 ["one", "other", "row", "behind", "times", "rest"] m2++(fT P 222 445 "multiple_of" (tp 14) 67 1 ["numbers", "multiple", "number"] m2++(fB P 229 454 "unit_row" "unit_row" (tp 15) 72 2 .none m2++(fB P 234 460 "rest_sum" "rest_sum" (tp 16) 74 3 .none m2++([b7 P,o9,dA P 9 487 m3 "Vault" 83 [en P "__init__" 497 (.ref 251),en P "sizes" 504 (.ref 258),en P "levers" 511 (.ref 265),en P "prices" 518 (.ref 272),en P "around" 525 (.ref 279),en P "__static_attributes__" 530 (.ref 280)],b7 P,fi [85,4,250,93,4,257,96,4,264,99,4,271,102,4,278],cc "Vault" 482 83 242 243 485,fr 244 241 "dialvault.vault" 466,tu [.none]]++(fB P 247 492 "__init__" "Vault.__init__" (mp 24 0) 85 4 (.ref 246) m3++(fA P 252 498 "sizes" "Vault.sizes" (mp 24 1) 93 1 ["self"] .none m3++(fA P 259 505 "levers" "Vault.levers" (mp 24 2) 96 1 ["self"] .none m3++(fA P 266 512 "prices" "Vault.prices" (mp 24 3) 99 1 ["self"] .none m3++(fA P 273 519 "around" "Vault.around" (mp 24 4) 102 1 ["self"] .none m3++([tu [st "dial_sizes" 526,st "least_round" 527,st "lever_prices" 528,st "lever_settings" 529],dB P 4 487 m3 83 [en P "__init__" 497 (.ref 251),en P "sizes" 504 (.ref 258),en P "levers" 511 (.ref 265),en P "prices" 518 (.ref 272),en P "around" 525 (.ref 279),en P "__static_attributes__" 530 (.ref 280),en P "__dict__" 532 (.ref 283),en P "__weakref__" 534 (.ref 284),en P "__doc__" 535 .none],cl "Vault" [.type "object"] [.ref 282,.type "object"] 281 [] [none,none,some (st "Vault" 480),some (st "Vault" 488),some (.builtin "object.__new__"),some (.bool true)],M8,N3,su 282,ii 282]++(fT P 287 538 "is_within" (tp 25) 104 3 ["thing", "least", "most"] m3++(fT P 294 547 "need_sizes" (tp 26) 106 1 ["sizes", "dial", "size"] m3++(fT P 301 556 "need_levers" (tp 27) 114 2 ["levers", "dials", "place", "lever"] m3++(fT P 308 566 "prices_for" (tp 28) 120 2 ["levers", "prices", "place"] m3)))))))))))))))))))))))))
def Nt:Obj:=gd 696 412
def Nl:Obj:=gw 698 412
def Ka:=tu [.ref 412]
def L2 P:=pt (L1 P) [(3,di 56 (en P "__name__" 165 m5::(gl P).take 55)),(12,fi [1,0,20,5,0,27,9,0,47,16,0,73,23,0,99,30,0,125,34,0,144,38,0,163,42,0,182,50,0,208,52,0,213,56,0,220,67,0,227,72,0,232,74,0,237,83,0,244,104,0,292,106,0,299,114,0,306,120,0,313,129,0,318,131,0,325,133,0,330,138,0,337,140,0,344,143,0,351,146,0,356,149,0,363,156,0,370,161,0,375,167,0,380,169,0,387,181,0,422,196,0,462,210,0,493,212,0,500,215,0,507,217,0,514,220,0,521,223,0,528,232,0,535])] (fB P 315 575 "rests" "rests" (tp 29) 129 2 .none m3++(fT P 320 581 "nought" (tp 30) 131 1 ["vault"] m3++(fB P 327 588 "is_setting" "is_setting" (tp 31) 133 2 .none m3++(fT P 332 594 "is_pulls" (tp 32) 138 2 ["vault", "thing"] m3++(fT P 339 602 "need_setting" (tp 33) 140 2 ["vault", "thing"] m3++(fT P 346 610 "need_pulls" (tp 34) 143 2 ["vault", "thing"] m3++(fB P 353 618 "added" "added" (tp 35) 146 4 .none m3++(fT P 358 624 "turned" (tp 36) 149 3 ["vault", "setting", "pulls", "reached", "lever", "times"] m3++(fT P 365 636 "between" (tp 37) 156 3 ["vault", "one", "other"] m3++(fB P 372 647 "weigh" "weigh" (tp 39) 161 3 .none m4++(fB P 377 653 "weighs_no_lever" "weighs_no_lever" (tp 40) 167 2 .none m4++([b7 P,o9,dA P 7 666 m4 "Paper" 169 [en P "brings" 677 (.ref 395),en P "shows" 687 (.ref 402),en P "words" 694 (.ref 409),en P "__static_attributes__" 695 (.ref 410)],b7 P,fi [171,4,394,174,4,401,179,4,408],cc "Paper" 661 169 385 386 664,fr 387 384 "dialvault.papers" 645]++(fA P 389 671 "brings" "Paper.brings" (mp 41 0) 171 1 ["self"] .none m4++(fA P 396 678 "shows" "Paper.shows" (mp 41 1) 174 4 ["self", "vault", "one", "other"] .none m4++(fA P 403 688 "words" "Paper.words" (mp 41 2) 179 1 ["self"] .none m4++([b7 P,dB P 4 666 m4 169 [en P "brings" 677 (.ref 395),en P "shows" 687 (.ref 402),en P "words" 694 (.ref 409),en P "__static_attributes__" 695 (.ref 410),en P "__dict__" 697 (.ref 413),en P "__weakref__" 699 (.ref 414),en P "__doc__" 700 .none],cl "Paper" [.type "object"] [.ref 412,.type "object"] 411 [.ref 454,.ref 487] [none,none,some (st "Paper" 659),some (st "Paper" 667),some (.builtin "object.__new__"),some (.bool true)],Nt,Nl,su 412,ii 412,Ka,o9,dA P 8 710 m4 "Way" 181 [en P "__init__" 722 (.ref 430),en P "brings" 729 (.ref 437),en P "shows" 739 (.ref 444),en P "words" 746 (.ref 451),en P "__static_attributes__" 748 (.ref 452)],b7 P,fi [183,4,429,186,4,436,189,4,443,194,4,450],cc "Way" 705 181 420 421 708,fr 422 419 "dialvault.papers" 645]++(fA P 424 715 "__init__" "Way.__init__" (mp 42 0) 183 2 ["self", "pulls"] .none m4++(fA P 431 723 "brings" "Way.brings" (mp 42 1) 186 1 ["self"] .none m4++(fA P 438 730 "shows" "Way.shows" (mp 42 2) 189 4 ["self", "vault", "one", "other"] .none m4++(fA P 445 740 "words" "Way.words" (mp 42 3) 194 1 ["self"] .none m4++([tu [st "pulls" 747],dB P 2 710 m4 181 [en P "__init__" 722 (.ref 430),en P "brings" 729 (.ref 437),en P "shows" 739 (.ref 444),en P "words" 746 (.ref 451),en P "__static_attributes__" 748 (.ref 452),en P "__doc__" 749 .none],cl "Way" [.ref 412] [.ref 454,.ref 412,.type "object"] 453 [] [some (.ref 417),none,some (st "Way" 703),some (st "Way" 711),some (.builtin "object.__new__"),some (.bool true)],su 454,ii 454,Ka,o9,dA P 7 759 m4 "Bar" 196 [en P "__init__" 771 (.ref 470),en P "shows" 782 (.ref 477),en P "words" 789 (.ref 484),en P "__static_attributes__" 791 (.ref 485)],b7 P,fi [198,4,469,201,4,476,207,4,483],cc "Bar" 754 196 460 461 757,fr 462 459 "dialvault.papers" 645]++(fA P 464 764 "__init__" "Bar.__init__" (mp 43 0) 198 2 ["self", "weights"] .none m4++(fA P 471 772 "shows" "Bar.shows" (mp 43 1) 201 4 ["self", "vault", "one", "other", "difference"] .none m4++(fA P 478 783 "words" "Bar.words" (mp 43 2) 207 1 ["self"] .none m4++([tu [st "weights" 790],dB P 2 759 m4 196 [en P "__init__" 771 (.ref 470),en P "shows" 782 (.ref 477),en P "words" 789 (.ref 484),en P "__static_attributes__" 791 (.ref 485),en P "__doc__" 792 .none],cl "Bar" [.ref 412] [.ref 487,.ref 412,.type "object"] 486 [] [some (.ref 457),none,some (st "Bar" 752),some (st "Bar" 760),some (.builtin "object.__new__"),some (.bool true)],su 487,ii 487]++(fB P 490 797 "mixed" "mixed" (tp 45) 210 4 .none m5++(fT P 495 803 "mixed_made" (tp 46) 212 5 ["sizes", "made", "times", "other", "others", "doing"] m5++(fT P 502 815 "unpulled" (tp 47) 215 2 ["vault", "setting"] m5++(fT P 509 823 "pulled_once" (tp 48) 217 2 ["vault", "lever", "levers"] m5++(fT P 516 832 "step_size" (tp 49) 220 3 ["sizes", "made_rows", "dial", "notch"] m5++(fT P 523 842 "taken_in" (tp 50) 223 3 ["sizes", "made_rows", "left", "wider", "dial", "made", "step", "notch", "found"] m5++(fT P 530 857 "lowered" (tp 51) 232 4 ["sizes", "made_rows", "made", "first", "dial", "times"] m5))))))))))))))))))))))))))))))))
def ND:Obj:=gd 956 608
def Nd:Obj:=gw 958 608
def Od:Obj:=gd 1015 641
def NZ:Obj:=gw 1017 641
def L3 P:=pt (L2 P) [(3,di 77 (en P "__name__" 165 m7::(gl P).take 76)),(12,fi [1,0,20,5,0,27,9,0,47,16,0,73,23,0,99,30,0,125,34,0,144,38,0,163,42,0,182,50,0,208,52,0,213,56,0,220,67,0,227,72,0,232,74,0,237,83,0,244,104,0,292,106,0,299,114,0,306,120,0,313,129,0,318,131,0,325,133,0,330,138,0,337,140,0,344,143,0,351,146,0,356,149,0,363,156,0,370,161,0,375,167,0,380,169,0,387,181,0,422,196,0,462,210,0,493,212,0,500,215,0,507,217,0,514,220,0,521,223,0,528,232,0,535,237,0,542,242,0,549,294,0,616,296,0,623,307,0,630,313,0,649,320,0,656,327,0,661,329,0,666,332,0,671,334,0,678,341,0,685,356,0,718,360,0,725,364,0,732,370,0,739,374,0,744,379,0,751]),(412,cl "Paper" [.type "object"] [.ref 412,.type "object"] 411 [.ref 454,.ref 487,.ref 710] [none,none,some (st "Paper" 659),some (st "Paper" 667),some (.builtin "object.__new__"),some (.bool true)])] (fT P 537 869 "in_spans" (tp 52) 237 2 ["pulls", "idle_rows", "lever", "row"] m5++([b7 P,o9,dA P 13 886 m5 "Rungs" 242 [en P "__init__" 896 (.ref 555),en P "steps" 902 (.ref 560),en P "rows" 909 (.ref 567),en P "spans" 916 (.ref 574),en P "idle" 923 (.ref 581),en P "brought_down" 931 (.ref 588),en P "least" 939 (.ref 595),en P "pulls_to" 945 (.ref 600),en P "weights_at" 951 (.ref 605),en P "__static_attributes__" 955 (.ref 606)],b7 P,fi [244,4,554,256,4,559,260,4,566,263,4,573,266,4,580,269,4,587,273,4,594,276,4,599,282,4,604],cc "Rungs" 881 242 547 548 884,fr 549 546 "dialvault.rungs" 795]++(fB P 551 891 "__init__" "Rungs.__init__" (mp 53 0) 244 2 .none m5++(fB P 556 897 "steps" "Rungs.steps" (mp 53 1) 256 1 .none m5++(fA P 561 903 "rows" "Rungs.rows" (mp 53 2) 260 1 ["self"] .none m5++(fA P 568 910 "spans" "Rungs.spans" (mp 53 3) 263 1 ["self"] .none m5++(fA P 575 917 "idle" "Rungs.idle" (mp 53 4) 266 1 ["self"] .none m5++(fA P 582 924 "brought_down" "Rungs.brought_down" (mp 53 5) 269 2 ["self", "setting"] .none m5++(fA P 589 932 "least" "Rungs.least" (mp 53 6) 273 2 ["self", "setting"] .none m5++(fB P 596 940 "pulls_to" "Rungs.pulls_to" (mp 53 7) 276 2 .none m5++(fB P 601 946 "weights_at" "Rungs.weights_at" (mp 53 8) 282 2 .none m5++([tu [st "idle_rows" 952,st "made_rows" 953,st "vault" 954],dB P 4 886 m5 242 [en P "__init__" 896 (.ref 555),en P "steps" 902 (.ref 560),en P "rows" 909 (.ref 567),en P "spans" 916 (.ref 574),en P "idle" 923 (.ref 581),en P "brought_down" 931 (.ref 588),en P "least" 939 (.ref 595),en P "pulls_to" 945 (.ref 600),en P "weights_at" 951 (.ref 605),en P "__static_attributes__" 955 (.ref 606),en P "__dict__" 957 (.ref 609),en P "__weakref__" 959 (.ref 610),en P "__doc__" 960 .none],cl "Rungs" [.type "object"] [.ref 608,.type "object"] 607 [] [none,none,some (st "Rungs" 879),some (st "Rungs" 887),some (.builtin "object.__new__"),some (.bool true)],ND,Nd,su 608,ii 608]++(fB P 613 963 "first_turned" "first_turned" (tp 54) 294 1 .none m5++(fT P 618 969 "bring" (tp 55) 296 3 ["vault", "one", "other", "difference", "rungs", "pulls"] m5++([b7 P,o9,dA P 5 996 m6 "Lock" 307 [en P "__init__" 1010 (.ref 638),en P "__static_attributes__" 1014 (.ref 639)],b7 P,fi [309,4,637],cc "Lock" 991 307 628 629 994,fr 630 627 "dialvault.locks" 981]++(fA P 632 1001 "__init__" "Lock.__init__" (mp 60 0) 309 4 ["self", "factors", "number", "rest"] .none m6++([tu [st "factors" 1011,st "number" 1012,st "rest" 1013],dB P 4 996 m6 307 [en P "__init__" 1010 (.ref 638),en P "__static_attributes__" 1014 (.ref 639),en P "__dict__" 1016 (.ref 642),en P "__weakref__" 1018 (.ref 643),en P "__doc__" 1019 .none],cl "Lock" [.type "object"] [.ref 641,.type "object"] 640 [] [none,none,some (st "Lock" 989),some (st "Lock" 997),some (.builtin "object.__new__"),some (.bool true)],Od,NZ,su 641,ii 641]++(fB P 646 1022 "is_fit" "is_fit" (tp 61) 313 2 .none m6++(fT P 651 1028 "need_locks" (tp 62) 320 3 ["vault", "setting", "locks", "place", "lock"] m6++(fB P 658 1039 "turns_of" "turns_of" (tp 63) 327 2 .none m6++(fB P 663 1045 "wants_of" "wants_of" (tp 64) 329 2 .none m6++(fB P 668 1051 "lock_vault" "lock_vault" (tp 65) 332 2 .none m6++(fT P 673 1057 "open_from" (tp 66) 334 3 ["vault", "setting", "locks", "dials", "paper"] m6++([Ka,o9,dA P 7 1075 m6 "Shut" 341 [en P "__init__" 1087 (.ref 693),en P "words" 1094 (.ref 700),en P "bars" 1105 (.ref 707),en P "__static_attributes__" 1107 (.ref 708)],b7 P,fi [343,4,692,346,4,699,349,4,706],cc "Shut" 1070 341 683 684 1073,fr 685 682 "dialvault.locks" 981]++(fA P 687 1080 "__init__" "Shut.__init__" (mp 67 0) 343 2 ["self", "shares"] .none m6++(fA P 694 1088 "words" "Shut.words" (mp 67 1) 346 1 ["self"] .none m6++(fA P 701 1095 "bars" "Shut.bars" (mp 67 2) 349 4 ["self", "vault", "setting", "locks", "dials"] .none m6++([tu [st "shares" 1106],dB P 2 1075 m6 341 [en P "__init__" 1087 (.ref 693),en P "words" 1094 (.ref 700),en P "bars" 1105 (.ref 707),en P "__static_attributes__" 1107 (.ref 708),en P "__doc__" 1108 .none],cl "Shut" [.ref 412] [.ref 710,.ref 412,.type "object"] 709 [] [some (.ref 680),none,some (st "Shut" 1068),some (st "Shut" 1076),some (.builtin "object.__new__"),some (.bool true)],su 710,ii 710]++(fT P 713 1113 "_law_cell" (tp 69) 356 2 ["_law_script", "_law_k"] m7++(fT P 720 1121 "_law_mix" (tp 70) 360 2 ["_law_cell_here", "_law_k", "_law_number"] m7++(fT P 727 1130 "_law_digits" (tp 71) 364 2 ["_law_cell_here", "_law_sizes_here", "_law_row", "_law_size_here"] m7++(fT P 734 1140 "_law_size" (tp 72) 370 1 ["_law_number"] m7++(fB P 741 1147 "_law_sizes" "_law_sizes" (tp 73) 374 1 .none m7++(fT P 746 1153 "_law_lever" (tp 74) 379 2 ["_law_cell_here", "_law_sizes_here", "_law_factor", "_law_row", "_law_k", "_law_size_here", "_law_number"] m7))))))))))))))))))))))))))))))))))
def L4 P:=pt (L3 P) [(3,di 88 (en P "__name__" 165 m7::gl P)),(12,fi [1,0,20,5,0,27,9,0,47,16,0,73,23,0,99,30,0,125,34,0,144,38,0,163,42,0,182,50,0,208,52,0,213,56,0,220,67,0,227,72,0,232,74,0,237,83,0,244,104,0,292,106,0,299,114,0,306,120,0,313,129,0,318,131,0,325,133,0,330,138,0,337,140,0,344,143,0,351,146,0,356,149,0,363,156,0,370,161,0,375,167,0,380,169,0,387,181,0,422,196,0,462,210,0,493,212,0,500,215,0,507,217,0,514,220,0,521,223,0,528,232,0,535,237,0,542,242,0,549,294,0,616,296,0,623,307,0,630,313,0,649,320,0,656,327,0,661,329,0,666,332,0,671,334,0,678,341,0,685,356,0,718,360,0,725,364,0,732,370,0,739,374,0,744,379,0,751,388,0,758,392,0,763,403,0,768,405,0,773,407,0,780,412,0,785,415,0,790,426,0,795,431,0,800,442,0,805,451,0,810])] (fT P 753 1166 "_law_divisor" (tp 75) 388 2 ["_law_one", "_law_other"] m7++(fB P 760 1174 "_law_lock" "_law_lock" (tp 76) 392 3 .none m7++(fB P 765 1180 "_law_sums" "_law_sums" (tp 77) 403 2 .none m7++(fB P 770 1186 "_law_met" "_law_met" (tp 78) 405 2 .none m7++(fT P 775 1192 "_law_round" (tp 79) 407 1 ["_law_numbers", "_law_found", "_law_number"] m7++(fB P 782 1201 "_law_shared" "_law_shared" (tp 80) 412 3 .none m7++(fB P 787 1207 "_law_bars" "_law_bars" (tp 81) 415 4 .none m7++(fB P 792 1213 "_law_led" "_law_led" (tp 82) 426 4 .none m7++(fB P 797 1219 "_law_paper" "_law_paper" (tp 83) 431 5 .none m7++(fB P 802 1225 "_law_others" "_law_others" (tp 84) 442 5 .none m7++(fB P 807 1231 "law" "law" (tp 85) 451 1 .none m7)))))))))))
def LF(P:Params):=L4 P
def bE:List Stmt:=behindTheImports pw
def env:Env:={ scope:=pw.main.scope,locals:=mainNs,globals:=mainNs,cells:=[],code:=.ref 13,frame:=some 14 }
def cE:Code:=.body bE env
abbrev B:List Frame:=[topFrame ⟨0,0,0,0⟩]
abbrev ann:Option Value:=(some (.ref 6))
def JE:List Stmt:=(bE.drop 0).take 7
def HN:List Stmt:=(bE.drop 7).take 22
def IT:List Stmt:=(bE.drop 29).take 23
def Kr:List Stmt:=(bE.drop 52).take 23
def HR:List Stmt:=(bE.drop 75).take 11
end
theorem A1:∀ w:World,(λos=>topGo treeTable pw w 11 ann 12 ⟨boot_heap w.params,⟨[]⟩,boot_drawn,boot_toks,os⟩ (topStub pw))=λos=>some (F LA 187 w os,⟨denote treeTable cE,cE,⟨0,0,0,0⟩,B⟩):=λw=>by
 rw[PySem.W.Fast.te15667345088766844465,PySem.W.Fast.te14364793385576792824,PySem.W.Fast.te11892475500146522536]
 kernel_rfl
theorem N2:∀ w:World,(λos=>segRun treeTable pw w 11 ann 1 1 (F LA 187 w os) (blockOf bE env cE ⟨0,0,0,0⟩ B))=λos=>some (Flow.next,(S LA 15 187 w os).abs,cE,⟨0,0,0,0⟩):=λw=>by
 rw[PySem.W.Fast.te14374325043358763698,PySem.W.Fast.te14364793385576792824]
 kernel_rfl
theorem OV:∀ w:World,(λos=>segRunT treeTable pw w 11 ann 1 1326 (S LA 15 187 w os) (piecesOf JE env cE ⟨0,0,0,0⟩ B))=λos=>some (Flow.next,S L0 139 340 w os,cE,⟨30,0,33,16⟩):=λw=>by
 rw[PySem.W.Fast.te10110043849684766642,PySem.W.Fast.te14364793385576792824]
 kernel_rfl
theorem OK:∀ w:World,(λos=>segRunT treeTable pw w 11 ann 1 1478 (S L0 139 340 w os) (piecesOf HN env cE ⟨30,0,33,16⟩ B))=λos=>some (Flow.next,S L1 315 575 w os,cE,⟨120,0,128,24⟩):=λw=>by
 rw[PySem.W.Fast.te10110043849684766642,PySem.W.Fast.te14364793385576792824]
 kernel_rfl
theorem Hw:∀ w:World,(λos=>segRunT treeTable pw w 11 ann 1 1494 (S L1 315 575 w os) (piecesOf IT env cE ⟨120,0,128,24⟩ B))=λos=>some (Flow.next,S L2 537 869 w os,cE,⟨232,0,236,15⟩):=λw=>by
 rw[PySem.W.Fast.te10110043849684766642,PySem.W.Fast.te14364793385576792824]
 kernel_rfl
theorem OM:∀ w:World,(λos=>segRunT treeTable pw w 11 ann 1 1489 (S L2 537 869 w os) (piecesOf Kr env cE ⟨232,0,236,15⟩ B))=λos=>some (Flow.next,S L3 753 1166 w os,cE,⟨379,0,387,26⟩):=λw=>by
 rw[PySem.W.Fast.te10110043849684766642,PySem.W.Fast.te14364793385576792824]
 kernel_rfl
theorem O3:∀ w:World,(λos=>segRunT treeTable pw w 11 ann 1 296 (S L3 753 1166 w os) (piecesOf HR env cE ⟨379,0,387,26⟩ B))=λos=>some (Flow.next,S L4 812 1237 w os,cE,⟨451,0,468,15⟩):=λw=>by
 rw[PySem.W.Fast.te10110043849684766642,PySem.W.Fast.te14364793385576792824]
 kernel_rfl
theorem JB:∀ w:World,(λos=>topRun treeTable pw w 11 ann 2 (S L4 812 1237 w os).abs ⟨doneF .next,cE,⟨451,0,468,15⟩,B⟩)=λos=>some (F LF 1237 w os):=λw=>by
 rw[PySem.W.Fast.te14082659384304107361,PySem.W.Fast.te14364793385576792824]
 kernel_rfl
theorem OZ:bE=(JE++(HN++(IT++(Kr++(HR++[]))))):=by kernel_rfl
theorem DS(w:World)(os:OsState):topRun treeTable pw w 11 ann (1326+(1478+(1494+(1489+(296+2))))) (S LA 15 187 w os).abs (restOf bE env cE ⟨0,0,0,0⟩ B)=some (F LF 1237 w os):=by
 rw[show restOf bE env cE ⟨0,0,0,0⟩ B=restOf (JE++(HN++(IT++(Kr++(HR++[]))))) env cE ⟨0,0,0,0⟩ B from congrArg (λb=>restOf b env cE ⟨0,0,0,0⟩ B) OZ]
 exact piece_app (segRun_of (congrFun (OV w) os)) (piece_app (segRun_of (congrFun (OK w) os)) (piece_app (segRun_of (congrFun (Hw w) os)) (piece_app (segRun_of (congrFun (OM w) os)) (piece_app (segRun_of (congrFun (O3 w) os)) (piece_nil (congrFun (JB w) os))))))
theorem N7(w:World)(os:OsState):topRun treeTable pw w 11 ann (12+(1+(1326+(1478+(1494+(1489+(296+2))))))) ⟨boot_heap w.params,⟨[]⟩,boot_drawn,boot_toks,os⟩ (topStub pw)=some (F LF 1237 w os) :=
 go_top (congrFun (A1 w) os) (piece_block (congrFun (N2 w) os) (DS w os))
end HD
end
section
namespace HD
open PySem PySem.W L2
noncomputable section
def vw:Program:=PySem.W.view pw [0,2,3,4,5,6,7,8,9,11,12,13,14,15,16,18,19,20,21,22,23,24,25,26,27,28,29,30,31,32,33,34,35,36,37,39,40,41,42,43,45,46,47,48,49,50,51,52,53,54,55,57,58,59,60,61,62,63,64,65,66,67,69,70,71,72,73,74,75,76,77,78,79,80,81,82,83,84,85]
def loose:List Str:=[]
noncomputable def as:List Addr:=[2,3,15,17,18,20,21,22,29,31,32,34,35,36,37,38,39,42,49,51,52,54,55,56,58,59,61,62,63,64,65,68,75,77,78,80,81,82,84,85,87,88,89,90,91,94,101,103,104,106,107,108,110,111,113,114,115,116,117,120,127,129,130,132,133,134,135,136,139,146,148,149,151,152,153,154,155,158,165,167,168,170,171,172,173,174,177,184,186,187,189,190,191,193,194,196,197,198,199,200,203,205,206,208,209,210,213,214,215,217,218,220,221,222,224,225,227,228,229,232,233,234,237,238,246,247,250,251,252,254,255,257,258,259,261,262,264,265,266,268,269,271,272,273,275,276,278,279,280,281,282,283,284,287,289,290,292,293,294,296,297,299,300,301,303,304,306,307,308,310,311,313,314,315,318,319,320,322,323,325,326,327,330,331,332,334,335,337,338,339,341,342,344,345,346,348,349,351,352,353,356,357,358,360,361,363,364,365,367,368,370,371,372,375,376,377,380,381,389,391,392,394,395,396,398,399,401,402,403,405,406,408,409,410,411,412,413,414,417,424,426,427,429,430,431,433,434,436,437,438,440,441,443,444,445,447,448,450,451,452,453,454,457,464,466,467,469,470,471,473,474,476,477,478,480,481,483,484,485,486,487,490,493,494,495,497,498,500,501,502,504,505,507,508,509,511,512,514,515,516,518,519,521,522,523,525,526,528,529,530,532,533,535,536,537,539,540,542,543,551,554,555,556,559,560,561,563,564,566,567,568,570,571,573,574,575,577,578,580,581,582,584,585,587,588,589,591,592,594,595,596,599,600,601,604,605,606,607,608,609,610,613,616,617,618,620,621,623,624,632,634,635,637,638,639,640,641,642,643,646,649,650,651,653,654,656,657,658,661,662,663,666,667,668,671,672,673,675,676,678,679,680,687,689,690,692,693,694,696,697,699,700,701,703,704,706,707,708,709,710,713,715,716,718,719,720,722,723,725,726,727,729,730,732,733,734,736,737,739,740,741,744,745,746,748,749,751,752,753,755,756,758,759,760,763,764,765,768,769,770,773,774,775,777,778,780,781,782,785,786,787,790,791,792,795,796,797,800,801,802,805,806,807,810,811]
def K(P:Params):Frag:=as.map λa=>(a,(LF P).getD a (su 0))
def hook:Hook:=kHook K as (λ_=>by kernel_rfl)
abbrev rr:RowW:=(PySem.Challenge.rw_dialvault_k58_whole_locks_opened_or_shut.row).toRowW
def Xt:Shared->Bool:=λs=>xlAt vw [] s&&recOk (RowW.records rr) s
def H1(P:Params):Heap:=⟨⟨LF P⟩,{}⟩
end
theorem K5:∀ w:World,((boot_heap w.params).isNs mainGlobals&&(Array.mk []:Array GenState).size==0,(boot_heap w.params).objs.size,(boot_heap w.params).nsMap mainGlobals "__annotations__")=(true,11,ann):=λw=>by
 rw[PySem.W.Fast.te8920871248978507458]
 kernel_rfl
theorem OQ(w:World):staticsOk (importedModules pw.main.body) (boot_heap w.params) (H1 w.params)=true:=by
 first | (rw[PySem.W.Fast.te4187177175401517315,PySem.W.Fast.te5923862056798008813];kernel_rfl) | (rw[PySem.W.Fast.te4187177175401517315];kernel_rfl) | (rw[PySem.W.Fast.te5923862056798008813];kernel_rfl) | (kernel_rfl)
theorem O6(w:World):namesBound pw (H1 w.params)=true:=by
 first | (rw[PySem.W.Fast.te4187177175401517315,PySem.W.Fast.te5923862056798008813];kernel_rfl) | (rw[PySem.W.Fast.te4187177175401517315];kernel_rfl) | (rw[PySem.W.Fast.te5923862056798008813];kernel_rfl) | (kernel_rfl)
theorem OL(w:World)(os:_):gensDone ⟨H1 w.params,⟨[]⟩,⟨0,0,0,0⟩,1237,os⟩=true:=by
 first | (rw[PySem.W.Fast.te4187177175401517315,PySem.W.Fast.te5923862056798008813];kernel_rfl) | (rw[PySem.W.Fast.te4187177175401517315];kernel_rfl) | (rw[PySem.W.Fast.te5923862056798008813];kernel_rfl) | (kernel_rfl)
theorem O1(w:World):laidKept (boot_heap w.params) (H1 w.params)=true:=by
 first | (rw[PySem.W.Fast.te4187177175401517315,PySem.W.Fast.te5923862056798008813];kernel_rfl) | (rw[PySem.W.Fast.te4187177175401517315];kernel_rfl) | (rw[PySem.W.Fast.te5923862056798008813];kernel_rfl) | (kernel_rfl)
theorem OJ(w:World)(os:_):openSeen vw loose (importedModules pw.main.body) Xt true ⟨H1 w.params,⟨[]⟩,⟨0,0,0,0⟩,1237,os⟩=openGood vw loose:=by
 first | (rw[PySem.W.Fast.te4187177175401517315,PySem.W.Fast.te5923862056798008813];kernel_rfl) | (rw[PySem.W.Fast.te4187177175401517315];kernel_rfl) | (rw[PySem.W.Fast.te5923862056798008813];kernel_rfl) | (kernel_rfl)
theorem O5(w:World)(os:_):Hook.obs hook ⟨H1 w.params,⟨[]⟩,⟨0,0,0,0⟩,1237,os⟩=Hook.val hook w:=by
 first | (rw[PySem.W.Fast.te4187177175401517315,PySem.W.Fast.te5923862056798008813];kernel_rfl) | (rw[PySem.W.Fast.te4187177175401517315];kernel_rfl) | (rw[PySem.W.Fast.te5923862056798008813];kernel_rfl) | (kernel_rfl)
theorem J8:∀ w:World,(λos=>((staticsOk (importedModules pw.main.body) (boot_heap w.params) (H1 w.params)&&namesBound pw (H1 w.params)&&gensDone ⟨H1 w.params,⟨[]⟩,⟨0,0,0,0⟩,1237,os⟩&&laidKept (boot_heap w.params) (H1 w.params)),
  openSeen vw loose (importedModules pw.main.body) Xt true ⟨H1 w.params,⟨[]⟩,⟨0,0,0,0⟩,1237,os⟩,Hook.obs hook ⟨H1 w.params,⟨[]⟩,⟨0,0,0,0⟩,1237,os⟩))=λ_=>(true,openGood vw loose,Hook.val hook w):=λw=>funext λos=>by
 rw[OQ,O6,OL,O1,OJ,O5];rfl
theorem Mb:LeftO pw vw loose Xt (Hook.obs hook) (Hook.val hook) 12282 :=
 LeftO.of_pieces (H₀:=boot_heap) (H₁:=H1) (gs₀:=⟨[]⟩) (gs₁:=⟨[]⟩) (d₀:=boot_drawn) (d₁:=⟨0,0,0,0⟩) (k₀:=boot_toks) (k₁:=1237) (m₀:=11) (ann:=ann) (M:=(12+(1+(1326+(1478+(1494+(1489+(296+2))))))))
  (boot_open (by kernel_rfl) (by kernel_rfl) (λs=>by kernel_rfl)) K5 N7 (by kernel_rfl) J8
end HD
end
section
open PySem PySem.W
theorem HD.said:PySem.Challenge.rw_dialvault_k58_whole_locks_opened_or_shut.wellSaid=true:=by
 decide +kernel
end
namespace L2
open PySem PySem.Spec PyProof.Rows
variable{X:Cx}
variable{n:Nat}
def BZ(_ j:Int):Prop:=j≠0/\j.natAbs.log2<9000
theorem CZ:iu X (binaryOp .FloorDiv) (rI BZ λi j=>.int (i.fdiv j)):=Oo λ_ _ _ _ _ _ _ hc q=>floordiv_int hc.1 q (.inl (PyProof.noPylong_of_log2 hc.2))
theorem Fp:iu X (binaryOp .Mult) (rI (λi j=>IntMulOk i j) λi j=>.int (i*j)):=Oo λ_ _ _ _ _ _ _ hc q=>mul_int q hc
theorem CV{a b:Int}{m:Nat}(ha:a.natAbs<2^m)(hb:b.natAbs<2^n)(h:m+n<=134217728):IntMulOk a b:=IntMulOk.of_le (intBits_le_iff.mpr ha) (intBits_le_iff.mpr hb) h
theorem yD:bootBuiltins "isinstance" = some (.builtin "isinstance"):=by decide +kernel
theorem ym:bootBuiltins "int" = some (.type "int"):=by decide +kernel
theorem vc:bootBuiltins "bool" = some (.type "bool"):=by decide +kernel
theorem kO:bootBuiltins "tuple" = some (.type "tuple"):=by decide +kernel
theorem um:bootBuiltins "list" = some (.type "list"):=by decide +kernel
theorem JX:bootBuiltins "sum" = some (.builtin "sum"):=by decide +kernel
def Na(K:PySem.W.Frag):List V->Hp->VK->Prop:=λxs H Q=>∃ x T t b,xs=[x,.ty T]/\kA K H x t/\PySem.W.kitOne K t (.type T)=some b/\Q (.bl b) H
def M7(K:PySem.W.Frag):List V->Hp->VK->Prop:=λxs H Q=>∃ x C t b,xs=[x,.ref C]/\kA K H x t/\PySem.W.kitOne K t (.ref C)=some b/\Q (.bl b) H
theorem Cn:dW X (.builtin "isinstance") (Na X.K):=by
 intro Pf s σ H xs us Q I r h
 obtain⟨x,T,t,b,rfl,ty,e,q⟩:=h
 cases r with
 | cons r1 r2 =>
  cases r2 with
  | cons r3 r4 =>
   cases r4
   cases (show _=Value.type T from r3)
   exact tF I r1 ty e λtk=>⟨.bl b,H,I.tok tk,rfl,q⟩
theorem Cb:dW X (.builtin "isinstance") (M7 X.K):=by
 intro Pf s σ H xs us Q I r h
 obtain⟨x,C,t,b,rfl,ty,e,q⟩:=h
 cases r with
 | cons r1 r2 =>
  cases r2 with
  | cons r3 r4 =>
   cases r4
   cases (show _=Value.ref C from r3)
   exact tF I r1 ty e λtk=>⟨.bl b,H,I.tok tk,rfl,q⟩
section
variable(K:PySem.W.Frag)
end
variable{a:Addr}{ch:List Addr}{t':Nat}{h':Heap}{s:Shared}{H:Hp}{σ:St}{Pf:List (Addr×Obj)}
variable{x1:Nat}{elts:List Expr}{w:World}{P:Program}
theorem Inv.lC{o:HO}(I:Inv X Pf σ H s)(k:∀ b u,b ∉ ch->s.heap.get? b=some u->h'.get? b=some u)
  (Rl:∀ b∈ch,mG X Pf H b) (hp:s.heap.objs.size<=a) (hl:∀ b∈ch,∃ u,s.heap.get? b=some u) (new:cU X.prog X.w (upd H a o) h' a o):Inv X Pf σ (upd H a o) { s with heap:=h',toks:=t' }:=by
 have ne:∀ b u,s.heap.get? b=some u->b≠a:=λb u e=>Nat.ne_of_lt (Nat.lt_of_lt_of_le (Heap.lt_size e) hp)
 have RV:H a=none:=I.cp.fresh hp
 have R6:∀ b u,H b=some u->b ∉ ch:=λb u e z=>by rw[(Rl b z).1] at e;cases e
 have R5:∀ b u,H b=some u->b≠a:=λb u e z=>by rw[z,RV] at e;cases e
 refine I.step (g':=s.gens) (d':=s.drawn) (ch:=ch) (λb hb=>?_) (λb u _ _ hc e _=>k b u hc e) (λb u _ _ hc e _=>⟨u.slots,k b u hc e⟩)
  (λb u _ e n=>by rw[av (ne b u e)];exact n) (λb u hc e=>⟨u,k b u hc e⟩)
  (λb xs e=>by rw[av (R5 b _ e)];exact e) (λb ob u e=>by rw[av (R5 b _ e)];exact e) (λb ps e=>⟨#[],by rw[av (R5 b _ e),e];simp⟩) (λm hm=>?_) (λb u e=>?_) I.bare
 ·obtain⟨_,f1,_,f3,f4,f5⟩:=Rl b hb
  exact⟨f3,f1,f4,f5⟩
 ·obtain⟨ob,es,ep,ho,r⟩:=hm
  exact⟨ob,es,ep,k _ ob (λz=>(Rl _ z).2.1 rfl) ho,r⟩
 ·by_cases z:b=a
  ·subst z
   rw[aC] at e
   cases e
   exact new
  ·rw[av z] at e
   refine(I.cp b u e).pB (λc v hc q=>k c v ?_ q) (λc q=>?_) λc ys q=>?_
   ·rcases hc with z' | z'
    ·rw[z'];exact R6 b u e
    ·exact R6 c _ z'
   ·rw[av (R5 c _ q)];exact q
   ·rw[av (R5 c _ q)];exact q
def IC (K : PySem.W.Frag) (a : Addr) : It :=
  ⟨λi H => ∃ xs x, iT K H a xs /\ xs[i]? = some x,
   λi H y H' => ∃ p x, H p = none /\ y = .ref p /\ H' = upd H p (.tup [.int i, x]) /\ ∀ xs, iT K H a xs -> xs[i]? = some x,
   λi H => ∃ xs, iT K H a xs /\ xs.length <= i⟩
theorem AJ{K:PySem.W.Frag}{tp:Pos}(a e it:Addr)(Rm:e≠it):Turn P w K (.Tuple elts x1 tp) (IC K a) [e,it] e (λi h=>(∃ old,IsEnum h e it i old)/\h.IsListIter it a i) where
 mem:=by simp
 obj:=λi h st b hb=>by
  obtain⟨⟨old,he⟩,⟨o,e1,c,d⟩⟩:=st
  rcases List.mem_cons.mp hb with z | z
  ·subst z
   exact⟨_,he,λv z=>by cases z⟩
  ·have z':b=it:=by simpa using z
   subst z'
   exact⟨o,e1,λv z=>by rw[d] at z;cases z⟩
 keep:=λi h h' st k=>by
  obtain⟨⟨old,he⟩,hit⟩:=st
  exact⟨⟨old,k e (by simp) _ he⟩,hit.at λo x=>k it (by simp) o x⟩
 item:=by
  intro X hP hw hK hc i Pf s σ H E I hf st hg
  subst hP hw hK
  obtain⟨xs,x,hq,hx⟩:=hg
  obtain⟨Ph,rv,p,hz⟩:=I.list hq
  obtain⟨u,hu,ru⟩:=rv.get hx
  obtain⟨⟨old,he⟩,hit⟩:=st
  have RT:e<s.heap.objs.size:=Heap.lt_size he
  have Sx:it<s.heap.objs.size:=by obtain⟨_,z,_⟩:=hit;exact Heap.lt_size z
  refine wpAny_pyNext_enum_item he hit p.isList (x:=u) (by simpa using hu) Rm λh' ho Sy hT Q8 hk=>⟨_,rfl,?_⟩
  refine wpAny_letOwnedTupleGo_enum (s:={ s with heap:=h',toks:=s.toks+1 }) ho λh2 he2 Q2=>?_
  have R3:∀ b o,b ∉ [e,it]->s.heap.get? b=some o->h2.get? b=some o:=λb o hb q=>by
   have n1:b≠e:=λz=>hb (by simp[z])
   have n2:b≠it:=λz=>hb (by simp[z])
   exact(Q2.2 b n1).trans (hk b o n1 n2 q)
  have Se:h2.get? s.heap.objs.size=some { cls:=.type "tuple", data:=.seq #[.int i s.toks,u] }:=(Q2.2 _ (Nat.ne_of_gt RT)).trans hT
  have I2:Inv X Pf σ (upd H s.heap.objs.size (.tup [.int i,x])) { s with heap:=h2,toks:=s.toks+1 } :=
   I.lC (ch:=[e,it]) R3 hf (Nat.le_refl _) (λb hb=>by
    rcases List.mem_cons.mp hb with z | z
    ·subst z;exact⟨_,he⟩
    ·have z':b=it:=by simpa using z
     subst z'
     obtain⟨o,z,_⟩:=hit
     exact⟨o,z⟩)
    ⟨by show 2<=sizeLine;decide,[.int i s.toks,u],.cons ⟨_,rfl⟩ (.cons ru .nil),⟨_,Se,rfl,_,rfl⟩⟩
  have Q0:H s.heap.objs.size=none:=I.cp.fresh (Nat.le_refl _)
  refine⟨.ref s.heap.objs.size,_,I2,rfl,⟨_,x,Q0,rfl,rfl,λys hy=>by rw[I.rD hy hq];exact hx⟩,⟨⟨u,by simpa using he2⟩,Sy.at λo z=>(Q2.2 it (Ne.symm Rm)).trans z⟩,λb hb=>?_⟩
  have nb:b≠s.heap.objs.size:=by
   rcases List.mem_cons.mp hb with z | z
   ·rw[z];exact Nat.ne_of_lt RT
   ·have z':b=it:=by simpa using z
    rw[z'];exact Nat.ne_of_lt Sx
  rw[av nb]
  exact(hf b hb).1
 done:=by
  intro X hP hw hK hc i Pf s σ H E I hf st hg
  subst hP hw hK
  obtain⟨xs,hq,hx⟩:=hg
  obtain⟨Ph,rv,p,hz⟩:=I.list hq
  have hl:=rv.length
  obtain⟨⟨old,he⟩,hit⟩:=st
  obtain⟨f0,f1,f2,f3,f4,f5⟩:=hf it (by simp)
  exact wpAny_pyNext_enum_end (I.ok.hd hc) he hit p.isList (by simp;omega) λh' eb=>⟨rfl,I.turned (t':=s.toks) (λb o hb e=>eb b o hb e) f0 f1 f3 f4 f5⟩
 self:=λ_ _ _ _ _ st h=>by
  obtain⟨⟨old,he⟩,_⟩:=st
  exact wpAny_pyIter_enum he h
variable{A:Around}{prog:Program}
variable{scope:Scope}{ifs:List Expr}{elt iter:Expr}
section
variable{R:Result->Shared->Prop}
theorem AR{target:Expr}{pos:Pos}{it acc:Value}{env:Env}(I:Nat->Shared->Prop)
  (turn:∀ n s,I n s->wpAny (model prog w) A (pyNext it) (λr s₁=>match r with
   | none=>R (.ok .next) s₁
   | some v=>wpAny (model prog w) A (letOwnedTupleGo target it v) (λ_ s₂=>wpAny (model prog w) A (assign target env v) (λ_ s₃ =>
     wpAny (model prog w) A (forIn ifs true λc r=>if r=true then do let ok ← isTrue c env (eval c env);pure (ForInStep.yield ok) else pure (ForInStep.yield r)) (λok s₄ =>
      if ok=true then wpAny (model prog w) A (eval elt env) (λx s₅ =>
       wpAny (model prog w) A (call (.builtin "list.append") [acc,x]) (λ_ s₆=>∃ m,m<n/\I m s₆) (λ_ _=>False) s₅) (λ_ _=>False) s₄
      else ∃ m,m<n/\I m s₄) (λ_ _=>False) s₃) (λ_ _=>False) s₂) (λ_ _=>False) s₁) (λ_ _=>False) s)
  (n:Nat) (h:I n s) :
  codeAny (model prog w) A (.compLoop (.ListComp elt [⟨target,iter,ifs,0⟩] scope pos) 0 it acc env) R s:=by
 refine codeAny_loop rfl I (λn s hI=>?_) n h
 show wpAny _ A ((compTurn (.ListComp elt [⟨target,iter,ifs,0⟩] scope pos) 0 it acc env).onRaise (λx=>do noteFrame x env;theTreesLotGoes x)) _ _ s
 refine wpAny_noted ?_
 rw[compTurn_list]
 refine wpAny_bind (wpAny_standAt (wpAny_bind (wpAny_mono (turn n s hI) (λr s₁ h₁=>?_) λ_ _ h'=>h'.elim)))
 cases r with
 | none=>exact wpAny_pure h₁
 | some v =>
  refine wpAny_bind (wpAny_mono h₁ (λ_ s₂ h₂=>wpAny_bind (wpAny_mono h₂ (λ_ s₃ h₃=>wpAny_bind (wpAny_mono h₃ (λok s₄ h₄=>?_) λ_ _ h'=>h'.elim)) λ_ _ h'=>h'.elim)) λ_ _ h'=>h'.elim)
  cases ok with
  | false=>exact wpAny_pure ⟨rfl,h₄⟩
  | true =>
   exact wpAny_bind (wpAny_bind (wpAny_mono h₄ (λx s₅ h₅=>wpAny_bind (wpAny_mono h₅ (λ_ s₆ h₆=>wpAny_pure (wpAny_pure ⟨rfl,h₆⟩)) λ_ _ h'=>h'.elim)) λ_ _ h'=>h'.elim))
end
def rT(X:Cx)(scope:Scope)(cl:List (Str×Addr))(N:List Str)(C:Addr)(s₀:Shared)(H₀:Hp)(ex:List Addr)(Pf:List (Addr×Obj)):Cx :=
 { X with N:=N,s₀:=s₀,H₀:=H₀,env:=compEnvC scope cl C X.env,outer:=X.stack,stack:=X.stack,ex:=ex,fn:=λ_=>false,pn:=X.pn++Pf,xe:=λ_ _=>False }
inductive jJ (X:Cx) (sc:Scope) (cl:List (Str×Addr)):List Str->List Nat->Prop where
 | nil:jJ X sc cl [] []
 | cons {x:Str} {j:Nat} {c:Addr} {fs:List Str} {js:List Nat} (hN:X.N[j]?=some x) (hf:sc.names.lookup x=some .free) (hv:X.env.kindOf x=some .cell\/X.env.kindOf x=some .free) (hc:X.env.cells.lookup x=some c) (hl:cl.lookup x=some c) (r:jJ X sc cl fs js):jJ X sc cl (x::fs) (j::js)
inductive fw (X:Cx):List (Str×Addr)->Prop where
 | nil:fw X []
 | cons {x:Str} {c:Addr} {r:List (Str×Addr)} (h:X.env.cells.lookup x=some c) (t:fw X r):fw X ((x,c)::r)
theorem fw.at{X:Cx}:∀ {cl:List (Str×Addr)},fw X cl->∀ x c,cl.lookup x=some c->X.env.cells.lookup x=some c
 | _,.nil,_,_,e=>by simp at e
 | _,.cons (x:=y) (c:=d) h t,x,c,e=>by
  rw[List.lookup_cons] at e
  cases q:x==y with
  | true =>
   rw[q] at e
   have e':d=c:=Option.some.inj e
   have q':x=y:=by simpa using q
   rw[q',← e'];exact h
  | false =>
   rw[q] at e
   exact fw.at t x c e
def i4(cl:List (Str×Addr))(names:List (Str×NameKind)):Bool:=names.all λy=>y.2 != .free||(cl.lookup y.1).isSome
def gR(names:List (Str×NameKind)):Bool:=names.all λy=>y.2 != .cell
def i0(names:List (Str×NameKind)):Bool:=names.all λy=>y.2 != .local||(names.lookup y.1==some .local)
def gg(ts:List Str)(js:List Nat)(σ:St):St:=ts.map (λ_=>none)++js.map λj=>(σ[j]?).join
def Ac(wi:TI)(g:TG)(tt:Option TT)(te:TE)(ts:List Str)(js:List Nat):TE:=fun σ H Q=>wi σ H λJ H1=>∀ D,H1 D=none ->
 ∃ W:Nat->Nat->St->Hp->Prop,(∃ m,W 0 m (gg ts js σ) (upd H1 D (.lst [])))/\∀ i m σ' H',W i m σ' H' ->
  (J.stop i H'/\Q (.ref D) H')\/(J.go i H'/\∃ N:St->Hp->Prop,(∀ σ'' H'',N σ'' H''->∃ m',m'<m/\W (i+1) m' σ'' H'') ∧
   ∀ x H2,J.w4 i H' x H2->g x σ' H2 fun σ2 H3=>match tt with
    | none=>te σ2 H3 λy H4=>∃ ys,H4 D=some (.lst ys)/\ys.length<sizeLine/\N σ2 (upd H4 D (.lst (ys++[y])))
    | some t=>t σ2 H3 λb SS=>if b=true then te σ2 SS λy H4=>∃ ys,H4 D=some (.lst ys)/\ys.length<sizeLine/\N σ2 (upd H4 D (.lst (ys++[y]))) else N σ2 SS)
variable{x:Str}{C:Addr}
theorem qB {cl : List (Str × Addr)} {env : Env} (h : (compEnvC scope cl C env).kindOf x = some .cell \/ (compEnvC scope cl C env).kindOf x = some .free) (nc : gR scope.names = true) : scope.names.lookup x = some .free := by
  have key : ∀ (names : List (Str × NameKind)), gR names = true ->
      ((names.map λ(n, k) => if (k == NameKind.free && env.scope.kind == .function && env.kindOf n == some .cell) then (n, NameKind.cell) else (n, k)).lookup x = some .cell ∨
       (names.map λ(n, k) => if (k == NameKind.free && env.scope.kind == .function && env.kindOf n == some .cell) then (n, NameKind.cell) else (n, k)).lookup x = some .free) -> names.lookup x = some .free := by
    intro names
    induction names with
    | nil => intro _ h; simp at h
    | cons p r ih =>
      obtain ⟨n, k⟩ := p
      intro nc h
      have nc' : (k != .cell) = true /\ gR r = true := by
        unfold gR at nc
        rw [List.all_cons, Bool.and_eq_true] at nc
        exact nc
      rw [List.map_cons] at h
      dsimp only at h
      by_cases hc : (k == NameKind.free && env.scope.kind == .function && env.kindOf n == some .cell) = true
      · rw [if_pos hc] at h
        rw [List.lookup_cons] at h ⊢
        cases q : x == n with
        | true =>
          have : k = .free := by
            rw [Bool.and_eq_true, Bool.and_eq_true] at hc
            simpa using hc.1.1
          rw [this]
        | false =>
          rw [q] at h
          exact ih nc'.2 h
      · rw [if_neg hc] at h
        rw [List.lookup_cons] at h ⊢
        cases q : x == n with
        | true =>
          rw [q] at h
          have nk : k ≠ .cell := by simpa using nc'.1
          rcases h with h | h
          · exact absurd (Option.some.inj h) nk
          · exact h
        | false =>
          rw [q] at h
          exact ih nc'.2 h
  exact key scope.names nc h
variable{js:List Nat}{ts:List Str}{te:TE}{tt:Option TT}{Pz:Pos}{tg:Expr}
theorem qp{cl:List (Str×Addr)}{pos:Pos}{wi:TI}{g:TG}{fs:List Str}(Pr:X.calm=true)
  (PZ:closureFor scope X.env=pure cl) (hk:scope.kind=.function) (nc:gR scope.names=true) (lo:i0 scope.names=true) (fh:i4 cl scope.names=true) (ag:fw X cl) (fr:jJ X scope cl fs js)
  (hi:PI X tg iter wi) (hg:∀ C s₀ H₀ ex Pf,PG (rT X scope cl (ts++fs) C s₀ H₀ ex Pf) tg g)
  (ht:∀ C s₀ H₀ ex Pf,match ifs,tt with | [],none=>True | [c],some t=>PT (rT X scope cl (ts++fs) C s₀ H₀ ex Pf) c t | _,_=>False)
  (he:∀ C s₀ H₀ ex Pf,PE (rT X scope cl (ts++fs) C s₀ H₀ ex Pf) elt te)
  (hs:∀ x,foldedSetIterable iter X.env x=pure x) {Q:VK} (I:Inv X Pf σ H s) (h:Ac wi g tt te ts js σ H Q)
  (use:Option (Value->Sem Unit)) (Qv:Value->Shared->Prop)
  (JB:∀ (D:Addr) (H':Hp) (s':Shared) (C:Addr),Inv X Pf σ H' s'->Q (.ref D) H'->(∃ m,s'.heap.Ns C m)->mG X Pf H' C->compPost (model X.prog X.w) X.A X.xe use Qv (.ref D) C (.ok .next) s') :
  wpAny (model X.prog X.w) X.A (comprehension (.ListComp elt [⟨tg,iter,ifs,0⟩] scope pos) scope X.env Pz (newList []) false (eval iter X.env) use) Qv X.xe s:=by
 have RC:∀ y∈scope.names,y.2≠.cell:=λy hy=>by
  have:=List.all_eq_true.mp nc y hy
  simpa using this
 have SD:∀ y∈scope.names,y.2=.local->scope.names.lookup y.1=some .local:=λy hy hl=>by
  have:=List.all_eq_true.mp lo y hy
  rw[hl] at this
  simpa using this
 refine wpAny_comprehension_free (use:=use) rfl hs PZ hk SD (c9 (hi Pf s σ H _ I h) λv s1 h1=>c9 h1 λitv s2 h2=>?_)
 obtain⟨it,fp,tn,J,H1,e,I2,T,Sw,f2,hJ⟩:=h2
 subst e
 refine wpAny_newObj_type (wpAny_newFunctionEnv RC (by intro y hy;simp at hy) (λh₁ hns1 hsb1=>?_) hk)
 dsimp only at hns1 hsb1 ⊢
 generalize hH2:s2.heap.push { cls:=.type "list", dict:=none,data:=.seq ([]:List Value).toArray }=G at hns1 hsb1 ⊢
 have hC:G.objs.size=s2.heap.objs.size+1:=by rw[← hH2,Heap.size_push]
 have old:∀ b o,s2.heap.get? b=some o->h₁.get? b=some o:=λb o e=>by
  have hb:=Heap.lt_size e
  refine hsb1.extBut b o (Nat.ne_of_lt (Nat.lt_of_lt_of_le hb (Nat.le_of_lt (by rw[hC];exact Nat.lt_succ_self _)))) (Heap.get?_push_of_some _ ?_)
  rw[← hH2]
  exact Heap.get?_push_of_some _ e
 have hacc:h₁.get? s2.heap.objs.size=some { cls:=.type "list", dict:=none,data:=.seq #[] }:=by
  refine hsb1.extBut _ _ (Nat.ne_of_lt (by rw[hC];exact Nat.lt_succ_self _)) (Heap.get?_push_of_some _ ?_)
  rw[← hH2]
  exact Heap.get?_push_size _ rfl
 have nD:H1 s2.heap.objs.size=none:=I2.cp.fresh (Nat.le_refl _)
 have nC:H1 G.objs.size=none:=I2.cp.fresh (by omega)
 obtain⟨W,⟨m0,w0⟩,turn⟩:=hJ _ nD
 have S8:∀ b∈fp,b<s2.heap.objs.size:=λb hb=>by
  obtain⟨o,e,_⟩:=T.obj _ _ Sw b hb
  exact Heap.lt_size e
 have ltk:∀ (x:Str) (c:Addr),cl.lookup x=some c->c<s2.heap.objs.size/\H1 c=none/\(∃ v,s2.heap.IsCell c v):=λx c e=>by
  have e':=ag.at x c e
  obtain⟨v,q⟩:=I2.cell x c e'
  exact⟨q.lt,I2.mi x c e',v,q⟩
 let X':=rT X scope cl (ts++fs) G.objs.size s2 H1 fp Pf
 have okX:X'.Ok:=by
  refine⟨I2.ok.mod,hk,I2.ok.glob,I2.ok.blt,by show s2.heap.objs.size<=G.objs.size;omega,λx y c e1 e2=>I2.ok.inj x y c (ag.at x c e1) (ag.at y c e2),λx hx=>?_,λx c hf _=>(nomatch (show (false:Bool)=true from hf)),I2.ok.hd,I2.ok.frames,.inl rfl,λb hb=>⟨?_,λx c e z=>?_⟩,λb o e=>I2.bs b o e,Nat.le_trans I2.ok.G0 I2.sz,λb o e hb=>?_,λb hb hz=>?_,I2.stack,λb hb=>I2.uH b hb⟩
  ·have RD:=qB (env:=X.env) hx nc
   have hm:∃ y∈scope.names,y.1=x/\y.2=.free:=by
    have:∀ (l:List (Str×NameKind)),l.lookup x=some .free->∃ y∈l,y.1=x/\y.2=.free:=by
     intro l
     induction l with
     | nil=>intro h;simp at h
     | cons p r ih =>
      intro h
      rw[List.lookup_cons] at h
      cases q:x==p.1 with
      | true =>
       rw[q] at h
       exact⟨p,List.mem_cons_self,(by simpa using q:x=p.1).symm,Option.some.inj h⟩
      | false =>
       rw[q] at h
       obtain⟨y,hy,r1,r2⟩:=ih h
       exact⟨y,List.mem_cons_of_mem _ hy,r1,r2⟩
    exact this _ RD
   obtain⟨y,hy,r1,r2⟩:=hm
   have:=List.all_eq_true.mp fh y hy
   rw[r2] at this
   have h':(cl.lookup y.1).isSome=true:=by simpa using this
   rw[r1] at h'
   exact Option.isSome_iff_exists.mp h'
  ·exact Nat.ne_of_lt (Nat.lt_of_lt_of_le (S8 b hb) (by show s2.heap.objs.size<=G.objs.size;omega))
  ·exact(f2 b hb).2.2.2.2.1 x c (ag.at x c e) z
  ·obtain⟨_,_,_,f3,_,_⟩:=f2 b hb
   rcases f3 with z | z
   ·exact I2.ok.Aw b o e z
   ·exact absurd (Nat.lt_of_lt_of_le (Heap.lt_size (I2.ok.bs b o e).1) z) (Nat.lt_irrefl _)
  ·rcases List.mem_cons.mp (I2.uC b hz) with z | z
   ·exact(f2 b hb).2.1 z
   ·exact(f2 b hb).2.2.1 z
 have keepB:∀ b o,s2.heap.get? b=some o->h₁.get? b=some o:=old
 have I3:Inv X' [] (gg ts js σ) (upd H1 s2.heap.objs.size (.lst [])) { s2 with heap:=h₁,toks:=s2.toks+([]:List (Str×Value)).length }:=by
  have neD:∀ b o,s2.heap.get? b=some o->b≠s2.heap.objs.size:=λb o e=>Nat.ne_of_lt (Heap.lt_size e)
  refine⟨okX,rfl,I2.bare,⟨λb o e n hb hx=>old b o e,λb o e n hb hx=>⟨o.slots,old b o e⟩,λb o e n hx=>by rw[av (neD b o e)];exact n,λb o e hx=>⟨o,old b o e⟩,λb xs e=>?_,λb o u e=>?_,λb ps e=>?_⟩,⟨_,hns1,λi x v e1 e2 e3=>?_⟩,λx c e=>?_,?_,λx c e=>?_,λp hp=>?_,?_,?_⟩
  ·rw[av (cB e nD)];exact e
  ·rw[av (cB e nD)];exact e
  ·exact⟨#[],by rw[av (cB e nD)];exact Eq.trans e (by simp)⟩
  ·
   have hlen:(ts.map (λ_=>(none:Option V))).length=ts.length:=List.length_map _
   unfold gg at e2
   by_cases QQ:i<ts.length
   ·rw[List.getElem?_append_left (by rw[hlen];exact QQ),List.getElem?_map] at e2
    cases q:ts[i]? <;> rw[q] at e2 <;> cases e2
   ·rw[List.getElem?_append_right (by rw[hlen];omega),hlen] at e2
    have e1':fs[i-ts.length]?=some x:=by
     have e1':(ts++fs)[i]?=some x:=e1
     rw[List.getElem?_append_right (by omega)] at e1'
     exact e1'
    have all:∀ {fs:List Str} {js:List Nat},jJ X scope cl fs js->∀ k:Nat,fs[k]?=some x->(js.map λj=>(σ[j]?).join)[k]?=some (some v) ->
      ∃ (j:Nat) (c:Addr),X.N[j]?=some x/\σ[j]?=some (some v)/\(X.env.kindOf x=some .cell\/X.env.kindOf x=some .free)/\X.env.cells.lookup x=some c/\cl.lookup x=some c/\scope.names.lookup x=some .free:=by
     intro fs js r
     induction r with
     | nil=>intro k e;simp at e
     | @cons y j c fs js hN hf hv hc hl r ih =>
      intro k e e'
      cases k with
      | zero =>
       have e0:y=x:=by simpa using e
       subst e0
       have SY:(σ[j]?).join=some v:=by simpa using e'
       refine⟨j,c,hN,?_,hv,hc,hl,hf⟩
       cases q:σ[j]? with
       | none=>rw[q] at SY;cases SY
       | some z=>rw[q] at SY;cases z with
        | none=>cases SY
        | some z =>
         have:z=v:=by simpa using SY
         rw[this]
      | succ k=>exact ih k (by simpa using e) (by simpa using e')
    obtain⟨j,c,q1,q2,q3,q4,q5,q6⟩:=all fr (i-ts.length) e1' e2
    obtain⟨m,hn,hl⟩:=I2.loc
    have vis:EN X.env.scope x:=by
     rcases q3 with z | z
     ·exact .inr (.inl z)
     ·exact .inr (.inr z)
    obtain⟨u,ru,lk⟩:=hl j x v q1 q2 vis
    refine⟨u,ru,.inr ⟨?_,c,q5,?_⟩⟩
    ·rcases e3 with z | z | z
     ·exfalso
      have key:∀ (l:List (Str×NameKind)),(l.map λ(n,k)=>if (k==NameKind.free&&X.env.scope.kind==.function&&X.env.kindOf n==some .cell) then (n,NameKind.cell) else (n,k)).lookup x=some .local->l.lookup x=some .local:=by
       intro l
       induction l with
       | nil=>intro h;simp at h
       | cons p r ih =>
        obtain⟨n,k⟩:=p
        intro h
        rw[List.map_cons] at h
        dsimp only at h
        by_cases hc:(k==NameKind.free&&X.env.scope.kind==.function&&X.env.kindOf n==some .cell)=true
        ·rw[if_pos hc] at h
         rw[List.lookup_cons] at h ⊢
         cases q:x==n with
         | true=>rw[q] at h;cases h
         | false=>rw[q] at h;exact ih h
        ·rw[if_neg hc] at h
         rw[List.lookup_cons] at h ⊢
         cases q:x==n with
         | true=>rw[q] at h;exact h
         | false=>rw[q] at h;exact ih h
      have:=key _ z
      rw[q6] at this
      cases this
     ·exact .inl z
     ·exact .inr z
    ·rcases lk with ⟨k,_⟩ | ⟨_,c',e4,z⟩
     ·rcases q3 with z | z <;> rw[z] at k <;> cases k
     ·rw[q4] at e4
      cases e4
      obtain⟨o,ho,hd⟩:=z
      exact⟨o,old c o ho,hd⟩
  ·obtain⟨_,_,v,o,ho,hd⟩:=ltk x c e
   exact⟨v,o,old c o ho,hd⟩
  ·show upd H1 s2.heap.objs.size (.lst []) G.objs.size=none
   rw[av (Nat.ne_of_gt (by rw[hC];exact Nat.lt_succ_self _))];exact nC
  ·obtain⟨q1,q2,_⟩:=ltk x c e
   rw[av (Nat.ne_of_lt q1)];exact q2
  ·have Su:p∈X.pn++Pf:=by
    have:p∈(X.pn++Pf)++[]:=hp
    rwa [List.append_nil] at this
   obtain⟨e,n,ne,nf,d⟩:=I2.pin p Su
   have QQ:=Heap.lt_size e
   refine⟨old _ _ e,by rw[av (Nat.ne_of_lt QQ)];exact n,?_,λhz=>?_,d⟩
   ·show p.1≠G.objs.size
    exact Nat.ne_of_lt (Nat.lt_trans QQ (by rw[hC];exact Nat.lt_succ_self _))
   ·rcases List.mem_cons.mp (I2.uC _ hz) with z | z
    ·exact ne z
    ·exact nf z
  ·exact I2.cp.laid old (Nat.le_refl _) ⟨Nat.zero_le _,[],0,.nil,hacc⟩
  ·show (gg ts js σ).length=(ts++fs).length
   have frl:∀ {fs:List Str} {js:List Nat},jJ X scope cl fs js->fs.length=js.length:=by
    intro fs js r
    induction r with
    | nil=>rfl
    | cons _ _ _ _ _ _ ih=>rw[List.length_cons,List.length_cons,ih]
   unfold gg
   rw[List.length_append,List.length_append,List.length_map,List.length_map,frl fr]
 have Rz:∀ {H':Hp},(∀ b∈fp,H' b=none)->∀ b∈fp,mG X' [] H' b:=λ{H'} hn b hb=>by
  obtain⟨_,f1,f3,_,f4,f5⟩:=f2 b hb
  refine⟨hn b hb,okX.MK b hb |>.1,okX.Dj b hb,.inl hb,λx c e=>f4 x c (ag.at x c e),λp hp=>f5 p ?_⟩
  have:p∈(X.pn++Pf)++[]:=hp
  rwa [List.append_nil] at this
 have fin:∀ {σ':St} {H':Hp} {s':Shared},Inv X' [] σ' H' s'->Q (.ref s2.heap.objs.size) H' ->
   compPost (model X.prog X.w) X.A X.xe use Qv (.ref s2.heap.objs.size) G.objs.size (.ok .next) s':=by
  intro σ' H' s' I4 q
  obtain⟨m,hn,_⟩:=I4.loc
  have fC:H' G.objs.size=none:=I4.free
  have Io:Inv X Pf σ H' s':=by
   refine I2.BQ (s':=s') (ch:=fp) I4.os ⟨λb o e n hb hx=>?_,λb o e n hb hx=>?_,λb o e n hx=>I4.base.free b o e n hx,λb o e hx=>?_,I4.base.u7,I4.base.oI,I4.base.vz⟩ I4.cp I4.bare λb hb=>?_
   ·exact I4.base.keep b o e n hb hx
   ·exact I4.base.slot b o e n hb hx
   ·exact I4.base.there b o e hx
   ·obtain⟨_,f1,_,f3,f4,f5⟩:=f2 b hb
    exact⟨f3,f1,f4,f5⟩
  have hCl:s2.heap.objs.size<=G.objs.size:=by rw[hC];exact Nat.le_succ _
  exact JB _ H' s' _ Io q ⟨m,hn⟩ (I2.vo hCl fC)
 have loop:∀ s3:Shared,s3={ s2 with heap:=h₁,toks:=s2.toks+([]:List (Str×Value)).length } ->
   codeAny (model X.prog X.w) X.A (.compLoop (.ListComp elt [⟨tg,iter,ifs,0⟩] scope pos) 0 (.ref it) (.ref s2.heap.objs.size) (compEnvC scope cl G.objs.size X.env))
    (compPost (model X.prog X.w) X.A X.xe use Qv (.ref s2.heap.objs.size) G.objs.size) s3:=by
  rintro s3 rfl
  refine AR (λn s'=>∃ i σ' H',Inv X' [] σ' H' s'/\tn i s'.heap/\(∀ b∈fp,H' b=none)/\W i n σ' H') ?_ m0 ⟨0,_,_,I3,T.keep _ _ _ Sw λb _ o e=>old b o e,λb hb=>?_,w0⟩
  ·rintro n s3 ⟨i,σ3,H3,I3,st3,fr3,w3⟩
   rcases turn i n σ3 H3 w3 with ⟨stop,qn⟩ | ⟨go,N,hN,step⟩
   ·refine c9 (T.done X' rfl rfl rfl Pr i [] s3 σ3 H3 _ I3 (Rz fr3) st3 stop) λr s4 ⟨hr,I4⟩=>?_
    subst hr
    exact fin I4 qn
   ·refine c9 (T.item X' rfl rfl rfl Pr i [] s3 σ3 H3 _ I3 (Rz fr3) st3 go) λr s4 ⟨u,hr,h4⟩=>?_
    subst hr
    refine c9 h4 λ_ s5 ⟨x,H5,I5,r5,y5,st5,fr5⟩=>?_
    have I5':=I5.pinned (Rz fr5) (T.obj _ _ st5)
    refine c9 (hg _ _ _ _ _ _ s5 σ3 H5 x u _ I5' r5 (step x H5 y5)) λ_ s6 ⟨σ6,H6,I6,q6⟩=>?_
    have again:∀ {σ7:St} {H7:Hp} {s7:Shared},Inv X' ([]++nW fp s5.heap) σ7 H7 s7->N σ7 H7->∃ m,m<n/\∃ i σ' H',Inv X' [] σ' H' s7/\tn i s7.heap/\(∀ b∈fp,H' b=none)/\W i m σ' H':=λ{σ7 H7 s7} I7 n7=>by
     obtain⟨m',hm,w7⟩:=hN σ7 H7 n7
     refine⟨m',hm,i+1,σ7,H7,I7.mH,T.keep _ _ _ st5 λb hb o e=>(I7.pin (b,o) (List.mem_append_right _ (List.mem_append_right _ (kn hb e)))).1,λb hb=>?_,w7⟩
     obtain⟨o,e,d⟩:=T.obj _ _ st5 b hb
     exact(I7.pin (b,o) (List.mem_append_right _ (List.mem_append_right _ (kn hb e)))).2.1
    have tail:∀ {H7:Hp} {s7:Shared},Inv X' ([]++nW fp s5.heap) σ6 H7 s7->(te σ6 H7 λy H4=>∃ ys,H4 s2.heap.objs.size=some (.lst ys)/\ys.length<sizeLine/\N σ6 (upd H4 s2.heap.objs.size (.lst (ys++[y])))) ->
      wpAny (model X.prog X.w) X.A (eval elt (compEnvC scope cl G.objs.size X.env)) (λx s₅=>wpAny (model X.prog X.w) X.A (call (.builtin "list.append") [.ref s2.heap.objs.size,x])
       (λ_ s₆=>∃ m,m<n/\∃ i σ' H',Inv X' [] σ' H' s₆/\tn i s₆.heap/\(∀ b∈fp,H' b=none)/\W i m σ' H') (λ_ _=>False) s₅) (λ_ _=>False) s7:=by
     intro H7 s7 I7 q7
     refine c9 (he _ _ _ _ _ _ s7 σ6 H7 _ I7 q7) λuy s8 ⟨y,H8,I8,ry,ys,hy,hl,q8⟩=>?_
     refine c9 (sR (X:=X') _ s8 σ6 H8 (.ref s2.heap.objs.size) [y] (.ref s2.heap.objs.size) [uy] (λ_ H9=>N σ6 H9) I8 rfl (.cons ry .nil) ⟨_,ys,y,rfl,rfl,hy,hl,q8⟩) λ_ s9 ⟨_,H9,I9,_,q9⟩=>?_
     exact again I9 q9
    cases ifs with
    | nil =>
     cases tt with
     | none=>exact wpAny_tests_nil (tail I6 q6)
     | some t=>exact(ht 0 s2 H1 [] []).elim
    | cons c r =>
     cases r with
     | nil =>
      cases tt with
      | none=>exact(ht 0 s2 H1 [] []).elim
      | some t =>
       refine wpAny_tests_one (c9 (ht G.objs.size s2 H1 fp Pf _ s6 σ6 H6 _ I6 q6) λb s7 ⟨H7,I7,q7⟩=>?_)
       cases b with
       | true =>
        rw[if_pos rfl] at q7 ⊢
        exact tail I7 q7
       | false =>
        rw[if_neg Bool.false_ne_true] at q7 ⊢
        exact again I7 q7
     | cons _ _=>cases tt <;> exact(ht 0 s2 H1 [] []).elim
  ·rw[av (Nat.ne_of_lt (S8 b hb))]
   exact(f2 b hb).1
 exact codeAny_compStart_list (loop _ rfl) (T.self _ 0 _ _ _ (T.keep _ _ _ Sw λb _ o e=>old b o e) (loop _ rfl))
theorem Inv.other(I:Inv X Pf σ H s)(f:mG X Pf H C)(hs:Heap.SameBut C s.heap h'):Inv X Pf σ H { s with heap:=h' }:=by
 obtain⟨f0,f1,_,f3,f4,f5⟩:=f
 refine I.BQ (s':={ s with heap:=h' }) (ch:=[C]) rfl ⟨λb o e n hb hx=>?_,λb o e n hb hx=>?_,λb o e n hx=>n,λb o e hx=>?_,λ_ _ q=>q,λ_ _ _ q=>q,λb ps q=>⟨#[],by rw[q];simp⟩⟩ (λb u e=>?_) I.bare λb hb=>?_
 ·exact(hs.2 b (λz=>hx (by rw[z];exact List.mem_singleton.mpr rfl))).trans e
 ·exact⟨o.slots,(hs.2 b (λz=>hx (by rw[z];exact List.mem_singleton.mpr rfl))).trans e⟩
 ·exact⟨o,(hs.2 b (λz=>hx (by rw[z];exact List.mem_singleton.mpr rfl))).trans e⟩
 ·refine(I.cp b u e).pB (λc v hc q=>(hs.2 c ?_).trans q) (λ_ q=>q) λ_ _ q=>q
  rcases hc with z | z
  ·rw[z];exact cB e f0
  ·exact cB z f0
 ·rw[List.mem_singleton.mp hb]
  exact⟨f3,f1,f4,f5⟩
theorem Gb{cl:List (Str×Addr)}{pos:Pos}{wi:TI}{g:TG}{fs:List Str}(Pr:X.calm=true)
  (PZ:closureFor scope X.env=pure cl) (hk:scope.kind=.function) (nc:gR scope.names=true) (lo:i0 scope.names=true) (fh:i4 cl scope.names=true) (ag:fw X cl) (fr:jJ X scope cl fs js)
  (hi:PI X tg iter wi) (hg:∀ C s₀ H₀ ex Pf,PG (rT X scope cl (ts++fs) C s₀ H₀ ex Pf) tg g)
  (ht:∀ C s₀ H₀ ex Pf,match ifs,tt with | [],none=>True | [c],some t=>PT (rT X scope cl (ts++fs) C s₀ H₀ ex Pf) c t | _,_=>False)
  (he:∀ C s₀ H₀ ex Pf,PE (rT X scope cl (ts++fs) C s₀ H₀ ex Pf) elt te)
  (hs:autoParam (∀ x,foldedSetIterable iter X.env x=pure x) aI._auto_1) :
  PE X (.ListComp elt [⟨tg,iter,ifs,0⟩] scope pos) (Ac wi g tt te ts js):=by
 intro Pf s σ H Q I h
 rw[eval_ListComp]
 refine qp Pr PZ hk nc lo fh ag fr hi hg ht he hs I h none _ λD H' s' C Io q hm f=>?_
 obtain⟨m,hn⟩:=hm
 exact⟨m,hn,λh' Sv=>⟨.ref D,H',Io.other f Sv,rfl,q⟩⟩
def y_(wi:TI)(g:TG)(te:TE)(ts:List Str)(js:List Nat):TE:=fun σ H Q=>wi σ H λJ H1=>∀ D,H1 D=none ->
 ∃ W:Nat->Nat->St->Hp->Prop,(∃ m,W 0 m (gg ts js σ) (upd H1 D (.lst [])))/\∀ i m σ' H',W i m σ' H' ->
  (J.stop i H'/\Q (.ref D) H')\/(J.go i H'/\∃ N:St->Hp->Prop,(∀ σ'' H'',N σ'' H''->∃ m',m'<m/\W (i+1) m' σ'' H'') ∧
   ∀ x H2,J.w4 i H' x H2->g x σ' H2 fun σ2 H3=>te σ2 H3 λy H4=>∃ ys,H4 D=some (.lst ys)/\ys.length<sizeLine/\N σ2 (upd H4 D (.lst (ys++[y]))))
def BR(wi:TI)(g:TG)(t:TT)(te:TE)(ts:List Str)(js:List Nat):TE:=fun σ H Q=>wi σ H λJ H1=>∀ D,H1 D=none ->
 ∃ W:Nat->Nat->St->Hp->Prop,(∃ m,W 0 m (gg ts js σ) (upd H1 D (.lst [])))/\∀ i m σ' H',W i m σ' H' ->
  (J.stop i H'/\Q (.ref D) H')\/(J.go i H'/\∃ N:St->Hp->Prop,(∀ σ'' H'',N σ'' H''->∃ m',m'<m/\W (i+1) m' σ'' H'') ∧
   ∀ x H2,J.w4 i H' x H2->g x σ' H2 fun σ2 H3=>t σ2 H3 λb SS=>if b=true then te σ2 SS λy H4=>∃ ys,H4 D=some (.lst ys)/\ys.length<sizeLine/\N σ2 (upd H4 D (.lst (ys++[y]))) else N σ2 SS)
theorem C_{cl:List (Str×Addr)}{pos:Pos}{wi:TI}{g:TG}{fs:List Str}(Pr:X.calm=true)
  (PZ:closureFor scope X.env=pure cl) (hk:scope.kind=.function) (nc:gR scope.names=true) (lo:i0 scope.names=true) (fh:i4 cl scope.names=true) (ag:fw X cl) (fr:jJ X scope cl fs js)
  (hi:PI X tg iter wi) (hg:∀ C s₀ H₀ ex Pf,PG (rT X scope cl (ts++fs) C s₀ H₀ ex Pf) tg g) (he:∀ C s₀ H₀ ex Pf,PE (rT X scope cl (ts++fs) C s₀ H₀ ex Pf) elt te)
  (hs:autoParam (∀ x,foldedSetIterable iter X.env x=pure x) aI._auto_1):PE X (.ListComp elt [⟨tg,iter,[],0⟩] scope pos) (y_ wi g te ts js) :=
 Gb (tt:=none) Pr PZ hk nc lo fh ag fr hi hg (λ_ _ _ _ _=>trivial) he hs
def gP(h:Heap)(b:Bool)(l:Addr)(xs:Array Value):Prop:=match b with
 | true=>h.IsList l xs
 | false=>h.IsTuple l xs
def e9(h:Heap)(b:Bool)(it l:Addr)(i:Nat):Prop:=match b with
 | true=>h.IsListIter it l i
 | false=>h.IsTupleIter it l i
variable{l:Addr}{b:Bool}{h:Heap}
theorem gP.at{xs:Array Value}(x:gP h b l xs)(k:∀ o,h.get? l=some o->h'.get? l=some o):gP h' b l xs:=by
 cases b with
 | true=>obtain⟨o,ho,r⟩:=(show h.IsList l xs from x);exact(show h'.IsList l xs from ⟨o,k o ho,r⟩)
 | false=>obtain⟨o,ho,r⟩:=(show h.IsTuple l xs from x);exact(show h'.IsTuple l xs from ⟨o,k o ho,r⟩)
variable{i:Nat}{it:Addr}
theorem e9.at(x:e9 h b it l i)(k:∀ o,h.get? it=some o->h'.get? it=some o):e9 h' b it l i:=by
 cases b with
 | true=>obtain⟨o,ho,r⟩:=(show h.IsListIter it l i from x);exact(show h'.IsListIter it l i from ⟨o,k o ho,r⟩)
 | false=>obtain⟨o,ho,r⟩:=(show h.IsTupleIter it l i from x);exact(show h'.IsTupleIter it l i from ⟨o,k o ho,r⟩)
theorem e9.obj(x:e9 h b it l i):∃ o vs,h.get? it=some o/\o.data=.fields vs:=by
 cases b with
 | true=>obtain⟨o,ho,_,hd⟩:=(show h.IsListIter it l i from x);exact⟨o,_,ho,hd⟩
 | false=>obtain⟨o,ho,_,hd⟩:=(show h.IsTupleIter it l i from x);exact⟨o,_,ho,hd⟩
theorem gP.obj{xs:Array Value}(x:gP h b l xs):∃ o n,h.get? l=some o/\o.data=.seq xs n:=by
 cases b with
 | true=>obtain⟨o,ho,_,n,hd⟩:=(show h.IsList l xs from x);exact⟨o,n,ho,hd⟩
 | false=>obtain⟨o,ho,_,n,hd⟩:=(show h.IsTuple l xs from x);exact⟨o,n,ho,hd⟩
variable{Q:Value->Shared->Prop}{items:Array Value}
variable{ys:Array Value}{k1 k2:Nat}{l1 l2:Addr}
section
variable{E:Value->Shared->Prop}
theorem iV{t:Addr}{x:Value}(hit:s.heap.IsTupleIter it t i)
  (ht:s.heap.IsTuple t items) (hx:items[i]?=some x)
  (hQ:∀ h',h'.IsTupleIter it t (i+1)->Heap.SameBut it s.heap h'->Q x { s with heap:=h' }) :
  wpAny (model prog w) A (Builtin.SmallTypes.nextOf (.ref it)) Q E s:=by
 obtain⟨o,ho,hc,hd⟩:=id hit
 obtain⟨ol,hol,_,nl,hdl⟩:=ht
 unfold Builtin.SmallTypes.nextOf
 refine wpAny_bind (wpAny_callSpecial?_slot (name:=Str.ofString "__next__") hit.typeIs F.slot_tuple_iterator_next
  (wpAny_call_entry F.slot_tuple_iterator_next hit.typeIs F.entry_tuple_iterator_next ?_ (F.args_tuple_iterator_next_1 _)))
 show wpAny _ _ (field (.ref it) 0 >>= _) _ _ s
 refine wpAny_bind (wpAny_field ho hd (x:=.ref t) rfl ?_)
 show wpAny _ _ (if (Value.ref t==Value.none)=true then _ else _) _ _ s
 rw[if_neg (show ¬ ((Value.ref t==Value.none)=true) from Bool.false_ne_true)]
 show wpAny _ _ (field (.ref it) 1 >>= _) _ _ s
 refine wpAny_bind (wpAny_field ho hd (x:=.int i 0) rfl ?_)
 show wpAny _ _ (seqItems? (.ref t) >>= _) _ _ s
 refine wpAny_bind (wpAny_seqItems hol hdl ?_)
 simp only[Int.toNat_natCast,hx]
 refine wpAny_bind (wpAny_setField ho hd (by simp) (wpAny_pure ⟨x,rfl,wpAny_pure (hQ _ ?_ (Heap.SameBut.update ..))⟩))
 exact⟨_,Heap.get?_update_self _ ho (Obj.isFreed_of_fields (Obj.data_mapFields hd _)),(Obj.cls_mapFields ..).trans hc,by
  rw[Obj.data_mapFields hd];simp[rawInt]⟩
theorem fP{t:Addr}(hh:A.handled=none)
  (hit:s.heap.IsTupleIter it t i) (ht:s.heap.IsTuple t items) (hx:items[i]?=none)
  (hE:∀ h' e,Heap.ExtBut it s.heap h'->(∃ o,h'.get? e=some o/\o.cls=.type "StopIteration")->E (.ref e) { s with heap:=h' }) :
  wpAny (model prog w) A (Builtin.SmallTypes.nextOf (.ref it)) Q E s:=by
 obtain⟨o,ho,hc,hd⟩:=id hit
 obtain⟨ol,hol,_,nl,hdl⟩:=ht
 unfold Builtin.SmallTypes.nextOf
 refine wpAny_bind (wpAny_callSpecial?_slot (name:=Str.ofString "__next__") hit.typeIs F.slot_tuple_iterator_next
  (wpAny_call_entry F.slot_tuple_iterator_next hit.typeIs F.entry_tuple_iterator_next ?_ (F.args_tuple_iterator_next_1 _)))
 show wpAny _ _ (field (.ref it) 0 >>= _) _ _ s
 refine wpAny_bind (wpAny_field ho hd (x:=.ref t) rfl ?_)
 show wpAny _ _ (if (Value.ref t==Value.none)=true then _ else _) _ _ s
 rw[if_neg (show ¬ ((Value.ref t==Value.none)=true) from Bool.false_ne_true)]
 show wpAny _ _ (field (.ref it) 1 >>= _) _ _ s
 refine wpAny_bind (wpAny_field ho hd (x:=.int i 0) rfl ?_)
 show wpAny _ _ (seqItems? (.ref t) >>= _) _ _ s
 refine wpAny_bind (wpAny_seqItems hol hdl ?_)
 simp only[Int.toNat_natCast,hx]
 refine wpAny_bind (wpAny_rule (wpAny_bind (wpAny_setField ho hd (by simp) ?_)))
 show wpAny _ _ (newExc (.type "StopIteration") [] >>= _) _ _ _
 refine wpAny_bind ?_
 simp only[newExc,newTuple]
 refine wpAny_bind (wpAny_newObj_type ?_ (by size_fits))
 refine wpAny_bind (m:=firstArgMember _ _) (wpAny_of_eq (a:=Value.none) (by first | rfl | (simp only[firstArgMember];rfl)) ?_)
 refine wpAny_newObj_type ?_ (by size_fits)
 simp only[raiseNew]
 refine wpAny_bind (wpAny_handled ?_)
 first | rw[show A.in1.handled=none from hh] | rw[hh]
 refine wpAny_bind (wpAny_pure (wpAny_throw ?_))
 exact hE _ _ (((Heap.SameBut.update ..).extBut.push _).push _) ⟨_,Heap.get?_push_size _ rfl,rfl⟩
theorem dC{x:Value}(hit:e9 s.heap b it l i)(hl:gP s.heap b l items)(hx:items[i]?=some x)
  (hQ:∀ h',e9 h' b it l (i+1)->Heap.SameBut it s.heap h'->Q x { s with heap:=h' }):wpAny (model prog w) A (Builtin.SmallTypes.nextOf (.ref it)) Q E s:=by
 cases b with
 | true=>exact wpAny_nextOf_list_item hit hl hx hQ
 | false=>exact iV hit hl hx hQ
theorem iO(hh:A.handled=none)(hit:e9 s.heap b it l i)(hl:gP s.heap b l items)(hx:items[i]?=none)
  (hE:∀ h' e,Heap.ExtBut it s.heap h'->(∃ o,h'.get? e=some o/\o.cls=.type "StopIteration")->E (.ref e) { s with heap:=h' }):wpAny (model prog w) A (Builtin.SmallTypes.nextOf (.ref it)) Q E s:=by
 cases b with
 | true=>exact wpAny_nextOf_list_end hh hit hl hx hE
 | false=>exact fP hh hit hl hx hE
theorem Bo{b1 b2:Bool}{z TI TO i1 i2:Addr}{xs:Array Value}{x y a b:Value}(D:ZipApart z TI TO i1 i2 l1 l2)
  (hz:IsZip s.heap z TI TO .none) (Ql:IsPair s.heap TI (.ref i1) (.ref i2)) (Qn:IsPair s.heap TO a b)
  (h1:e9 s.heap b1 i1 l1 k1) (h2:e9 s.heap b2 i2 l2 k2) (QY:gP s.heap b1 l1 xs) (QZ:gP s.heap b2 l2 ys) (hx:xs[k1]?=some x) (hy:ys[k2]?=some y)
  (hQ:∀ h',IsZip h' z TI TO (rawInt s.heap.objs.size)->IsPair h' TO x y->e9 h' b1 i1 l1 (k1+1)->e9 h' b2 i2 l2 (k2+1)->IsPair h' s.heap.objs.size x y->h'.objs.size=s.heap.objs.size+1 ->
   (∀ c o,c≠z->c≠TO->c≠i1->c≠i2->s.heap.get? c=some o->h'.get? c=some o)->Q (.ref s.heap.objs.size) { s with heap:=h' }) :
  wpAny (model prog w) A (Builtin.«zip.__next__» ⟨[.ref z],[]⟩) (λfin s'=>∃ v,fin=.done (.ret v)/\Q v s') E s:=by
 show wpAny _ _ (field (.ref z) 2 >>= _) _ _ _
 refine wpAny_bind (wpAny_field hz rfl (x:=.bool false) rfl ?_)
 show wpAny _ _ (field (.ref z) 3 >>= _) _ _ _
 refine wpAny_bind (wpAny_field hz rfl (x:=.ref TI) rfl ?_)
 refine wpAny_bind (wpAny_seqItems Ql rfl ?_)
 show wpAny _ _ (Builtin.SmallTypes.ownedTupleIsFree (.ref z) >>= _) _ _ _
 refine wpAny_bind ?_
 unfold Builtin.SmallTypes.ownedTupleIsFree
 refine wpAny_bind (wpAny_field hz rfl (x:=.none) rfl (wpAny_pure ?_))
 simp only[if_true]
 refine wpAny_bind (wpAny_rule ?_)
 refine wpAny_bind (wpAny_field hz rfl (x:=.ref TO) rfl ?_)
 refine wpAny_bind (wpAny_setField_rec hz (by simp) λh₁ hz1 hs1=>?_)
 replace hz1:IsZip h₁ z TI TO .ellipsis:=hz1
 refine wpAny_bind ?_
 simp only[List.zipIdx_cons,List.zipIdx_nil,List.forIn_cons,List.forIn_nil]
 refine wpAny_bind (wpAny_bind (wpAny_onRaise ?_))
 show wpAny _ _ (Builtin.SmallTypes.nextOf (.ref i1) >>= _) _ _ _
 refine wpAny_bind (dC (h1.at λo e=>hs1.extBut _ _ D.i1z e) (QY.at λo e=>hs1.extBut _ _ D.l1z e) hx λh₂ h1₂ hs2=>wpAny_pure ?_)
 have hTO2:IsPair h₂ TO a b:=hs2.extBut _ _ D.TOi1 (hs1.extBut _ _ D.TOz Qn)
 refine wpAny_bind (wpAny_seqItems hTO2 rfl ?_)
 refine wpAny_bind (wpAny_updateSeq_pair hTO2 λh₃ hTO3 hs3=>?_)
 replace hTO3:IsPair h₃ TO x b:=hTO3
 refine wpAny_bind (wpAny_letGo (wpAny_pure ?_))
 refine wpAny_bind (wpAny_bind (wpAny_onRaise ?_))
 show wpAny _ _ (Builtin.SmallTypes.nextOf (.ref i2) >>= _) _ _ _
 refine wpAny_bind (dC (h2.at λo e=>hs3.extBut _ _ D.TOi2.symm (hs2.extBut _ _ D.i12.symm (hs1.extBut _ _ D.i2z e)))
  (QZ.at λo e=>hs3.extBut _ _ D.l2TO (hs2.extBut _ _ D.l2i1 (hs1.extBut _ _ D.l2z e))) hy λh₄ h2₄ hs4=>wpAny_pure ?_)
 have hTO4:IsPair h₄ TO x b:=hs4.extBut _ _ D.TOi2 hTO3
 refine wpAny_bind (wpAny_seqItems hTO4 rfl ?_)
 refine wpAny_bind (wpAny_updateSeq_pair hTO4 λh₅ hTO5 hs5=>?_)
 replace hTO5:IsPair h₅ TO x y:=hTO5
 refine wpAny_bind (wpAny_letGo (wpAny_pure (wpAny_pure ?_)))
 refine wpAny_bind (wpAny_seqItems hTO5 rfl ?_)
 refine wpAny_bind (wpAny_newTuple ?_)
 have Q8:h₅.objs.size=s.heap.objs.size:=by rw[hs5.1,hs4.1,hs3.1,hs2.1,hs1.1]
 have hz5:IsZip h₅ z TI TO .ellipsis:=hs5.extBut _ _ D.TOz.symm (hs4.extBut _ _ D.i2z.symm (hs3.extBut _ _ D.TOz.symm (hs2.extBut _ _ D.i1z.symm hz1)))
 have hk5:∀ c o,c≠z->c≠TO->c≠i1->c≠i2->s.heap.get? c=some o->h₅.get? c=some o:=λc o c1 c2 c3 c4 e =>
  hs5.extBut _ _ c2 (hs4.extBut _ _ c4 (hs3.extBut _ _ c2 (hs2.extBut _ _ c3 (hs1.extBut _ _ c1 e))))
 have h1₅:e9 h₅ b1 i1 l1 (k1+1):=h1₂.at λo e=>hs5.extBut _ _ D.TOi1.symm (hs4.extBut _ _ D.i12 (hs3.extBut _ _ D.TOi1.symm e))
 have h2₅:e9 h₅ b2 i2 l2 (k2+1):=h2₄.at λo e=>hs5.extBut _ _ D.TOi2.symm e
 have R0:z<h₅.objs.size:=Heap.lt_size hz5
 show wpAny _ _ (Builtin.SmallTypes.ownedTupleHandOut (.ref z) (.ref h₅.objs.size) >>= _) _ _ _
 refine wpAny_bind ?_
 unfold Builtin.SmallTypes.ownedTupleHandOut
 have hz6:IsZip (h₅.push { cls:=.type "tuple", data:=.seq #[x,y] }) z TI TO .ellipsis:=Heap.get?_push_of_some _ hz5
 refine wpAny_bind (wpAny_setField_rec hz6 (by simp) λh₇ hz7 hs7=>?_)
 replace hz7:IsZip h₇ z TI TO (rawInt h₅.objs.size):=hz7
 refine wpAny_setField_rec hz7 (by simp) λh₈ hz₈ hs8=>?_
 replace hz₈:IsZip h₈ z TI TO (rawInt h₅.objs.size):=hz₈
 have up:∀ c o,c≠z->h₅.get? c=some o->h₈.get? c=some o:=λc o c1 e=>hs8.extBut _ _ c1 (hs7.extBut _ _ c1 (Heap.get?_push_of_some _ e))
 have hT8:IsPair h₈ h₅.objs.size x y:=hs8.extBut _ _ (Nat.ne_of_gt R0) (hs7.extBut _ _ (Nat.ne_of_gt R0) (Heap.get?_push_size _ rfl))
 have hz8:h₈.objs.size=h₅.objs.size+1:=by rw[hs8.1,hs7.1,Heap.size_push]
 rw[Q8] at hz₈ hT8 hz8
 refine wpAny_pure ⟨_,rfl,?_⟩
 show Q (.ref h₅.objs.size) _
 rw[Q8]
 exact hQ h₈ hz₈ (up _ _ D.TOz hTO5) (h1₅.at λo e=>up _ o D.i1z e) (h2₅.at λo e=>up _ o D.i2z e) hT8 hz8 λc o c1 c2 c3 c4 e=>up c o c1 (hk5 c o c1 c2 c3 c4 e)
theorem Ed{b1 b2:Bool}{z TI TO i1 i2:Addr}{xs:Array Value}{a b:Value}{Q:Fin->Shared->Prop}(hh:A.handled=none)(D:ZipApart z TI TO i1 i2 l1 l2)
  (hz:IsZip s.heap z TI TO .none) (Ql:IsPair s.heap TI (.ref i1) (.ref i2)) (Qn:IsPair s.heap TO a b)
  (h1:e9 s.heap b1 i1 l1 k1) (h2:e9 s.heap b2 i2 l2 k2) (QY:gP s.heap b1 l1 xs) (QZ:gP s.heap b2 l2 ys) (Q6:xs[k1]?=none\/ys[k2]?=none)
  (hE:∀ h' e,(∀ c o,c≠z->c≠TO->c≠i1->c≠i2->s.heap.get? c=some o->h'.get? c=some o)->(∃ o,h'.get? e=some o/\o.cls=.type "StopIteration")->E (.ref e) { s with heap:=h' }) :
  wpAny (model prog w) A (Builtin.«zip.__next__» ⟨[.ref z],[]⟩) Q E s:=by
 show wpAny _ _ (field (.ref z) 2 >>= _) _ _ _
 refine wpAny_bind (wpAny_field hz rfl (x:=.bool false) rfl ?_)
 show wpAny _ _ (field (.ref z) 3 >>= _) _ _ _
 refine wpAny_bind (wpAny_field hz rfl (x:=.ref TI) rfl ?_)
 refine wpAny_bind (wpAny_seqItems Ql rfl ?_)
 show wpAny _ _ (Builtin.SmallTypes.ownedTupleIsFree (.ref z) >>= _) _ _ _
 refine wpAny_bind ?_
 unfold Builtin.SmallTypes.ownedTupleIsFree
 refine wpAny_bind (wpAny_field hz rfl (x:=.none) rfl (wpAny_pure ?_))
 simp only[if_true]
 refine wpAny_bind (wpAny_rule ?_)
 refine wpAny_bind (wpAny_field hz rfl (x:=.ref TO) rfl ?_)
 refine wpAny_bind (wpAny_setField_rec hz (by simp) λh₁ hz1 hs1=>?_)
 replace hz1:IsZip h₁ z TI TO .ellipsis:=hz1
 refine wpAny_bind ?_
 simp only[List.zipIdx_cons,List.zipIdx_nil,List.forIn_cons,List.forIn_nil]
 refine wpAny_bind (wpAny_bind (wpAny_onRaise ?_))
 show wpAny _ _ (Builtin.SmallTypes.nextOf (.ref i1) >>= _) _ _ _
 cases hx:xs[k1]? with
 | none =>
  refine wpAny_bind (iO hh (h1.at λo e=>hs1.extBut _ _ D.i1z e) (QY.at λo e=>hs1.extBut _ _ D.l1z e) hx λh₂ e hs2 he=>?_)
  obtain⟨oe,Q1,RB⟩:=he
  have hz2:IsZip h₂ z TI TO .ellipsis:=hs2 _ _ D.i1z.symm hz1
  have Si:e≠z:=λx=>by subst x;rw[hz2] at Q1;cases Q1;simp at RB
  refine wpAny_setField_rec hz2 (by simp) λh₃ _ hs3=>hE h₃ e (λc o c1 _ c3 _ x=>hs3.extBut _ _ c1 (hs2 _ _ c3 (hs1.extBut _ _ c1 x))) ⟨oe,hs3.extBut _ _ Si Q1,RB⟩
 | some x =>
  have hy:ys[k2]?=none:=by rcases Q6 with h | h;rw[hx] at h;cases h;exact h
  refine wpAny_bind (dC (h1.at λo e=>hs1.extBut _ _ D.i1z e) (QY.at λo e=>hs1.extBut _ _ D.l1z e) hx λh₂ h1₂ hs2=>wpAny_pure ?_)
  have hTO2:IsPair h₂ TO a b:=hs2.extBut _ _ D.TOi1 (hs1.extBut _ _ D.TOz Qn)
  refine wpAny_bind (wpAny_seqItems hTO2 rfl ?_)
  refine wpAny_bind (wpAny_updateSeq_pair hTO2 λh₃ hTO3 hs3=>?_)
  refine wpAny_bind (wpAny_letGo (wpAny_pure ?_))
  refine wpAny_bind (wpAny_bind (wpAny_onRaise ?_))
  show wpAny _ _ (Builtin.SmallTypes.nextOf (.ref i2) >>= _) _ _ _
  refine wpAny_bind (iO hh (h2.at λo e=>hs3.extBut _ _ D.TOi2.symm (hs2.extBut _ _ D.i12.symm (hs1.extBut _ _ D.i2z e)))
   (QZ.at λo e=>hs3.extBut _ _ D.l2TO (hs2.extBut _ _ D.l2i1 (hs1.extBut _ _ D.l2z e))) hy λh₄ e hs4 he=>?_)
  obtain⟨oe,Q1,RB⟩:=he
  have hz4:IsZip h₄ z TI TO .ellipsis:=hs4 _ _ D.i2z.symm (hs3.extBut _ _ D.TOz.symm (hs2.extBut _ _ D.i1z.symm hz1))
  have Si:e≠z:=λx=>by subst x;rw[hz4] at Q1;cases Q1;simp at RB
  refine wpAny_setField_rec hz4 (by simp) λh₅ _ hs5=>hE h₅ e (λc o c1 c2 c3 c4 x=>hs5.extBut _ _ c1 (hs4 _ _ c4 (hs3.extBut _ _ c2 (hs2.extBut _ _ c3 (hs1.extBut _ _ c1 x))))) ⟨oe,hs5.extBut _ _ Si Q1,RB⟩
theorem xO(hl:gP s.heap b l items)
  (h:∀ o,o=({ cls:=.type (if b then "list_iterator" else "tuple_iterator"),data:=.fields #[.ref l,.int 0 0] }:Obj)->Q (.ref s.heap.objs.size) { s with heap:=s.heap.push o }):wpAny (model prog w) A (pyIter (.ref l)) Q E s:=by
 cases b with
 | true=>exact wpAny_pyIter_list hl (h _ rfl)
 | false=>exact wpAny_pyIter_tuple hl (h _ rfl)
theorem om{b1 b2:Bool}{z TI TO i1 i2:Addr}{xs:Array Value}{x y a b:Value}{Q:Option Value->Shared->Prop}(D:ZipApart z TI TO i1 i2 l1 l2)
  (hz:IsZip s.heap z TI TO .none) (Ql:IsPair s.heap TI (.ref i1) (.ref i2)) (Qn:IsPair s.heap TO a b)
  (h1:e9 s.heap b1 i1 l1 k1) (h2:e9 s.heap b2 i2 l2 k2) (QY:gP s.heap b1 l1 xs) (QZ:gP s.heap b2 l2 ys) (hx:xs[k1]?=some x) (hy:ys[k2]?=some y)
  (hQ:∀ h',IsZip h' z TI TO (rawInt s.heap.objs.size)->IsPair h' TO x y->e9 h' b1 i1 l1 (k1+1)->e9 h' b2 i2 l2 (k2+1)->IsPair h' s.heap.objs.size x y->h'.objs.size=s.heap.objs.size+1 ->
   (∀ c o,c≠z->c≠TO->c≠i1->c≠i2->s.heap.get? c=some o->h'.get? c=some o)->Q (some (.ref s.heap.objs.size)) { s with heap:=h' }) :
  wpAny (model prog w) A (pyNext (.ref z)) Q E s:=by
 have hT:s.TypeIs (.ref z) "zip" := ⟨_,hz,rfl⟩
 unfold pyNext
 exact wpAny_bind (wpAny_attempt (wpAny_callSpecial?_slot (name:=Str.ofString "__next__") hT F.slot_zip_next
  (wpAny_call_entry F.slot_zip_next hT F.entry_zip_next
   (Bo D hz Ql Qn h1 h2 QY QZ hx hy λh' a1 a2 a3 a4 a5 a6 a7=>wpAny_pure (hQ h' a1 a2 a3 a4 a5 a6 a7)) (F.args_zip_next_1 _))))
theorem pC{b1 b2:Bool}{z TI TO i1 i2:Addr}{xs:Array Value}{a b:Value}{Q:Option Value->Shared->Prop}(hh:A.handled=none)(D:ZipApart z TI TO i1 i2 l1 l2)
  (hz:IsZip s.heap z TI TO .none) (Ql:IsPair s.heap TI (.ref i1) (.ref i2)) (Qn:IsPair s.heap TO a b)
  (h1:e9 s.heap b1 i1 l1 k1) (h2:e9 s.heap b2 i2 l2 k2) (QY:gP s.heap b1 l1 xs) (QZ:gP s.heap b2 l2 ys) (Q6:xs[k1]?=none\/ys[k2]?=none)
  (hQ:∀ h',(∀ c o,c≠z->c≠TO->c≠i1->c≠i2->s.heap.get? c=some o->h'.get? c=some o)->Q none { s with heap:=h' }):wpAny (model prog w) A (pyNext (.ref z)) Q E s:=by
 have hT:s.TypeIs (.ref z) "zip" := ⟨_,hz,rfl⟩
 unfold pyNext
 refine wpAny_bind (wpAny_attempt (wpAny_callSpecial?_slot (name:=Str.ofString "__next__") hT F.slot_zip_next
  (wpAny_call_entry F.slot_zip_next hT F.entry_zip_next (Ed hh D hz Ql Qn h1 h2 QY QZ Q6 λh' e hk he=>?_) (F.args_zip_next_1 _))))
 obtain⟨o,ho,hc⟩:=he
 refine wpAny_bind (wpAny_isInstance (T := "StopIteration") (b:=true) ⟨o,ho,hc⟩ isSubtype_stop ?_)
 exact wpAny_pure (hQ _ hk)
abbrev FY(b:Bool)(l:Addr):Obj:={ cls:=.type (if b then "list_iterator" else "tuple_iterator"),data:=.fields #[.ref l,.int 0 0] }
abbrev Jd(h:Heap)(b1:Bool)(l1:Addr):Heap:=h.push (FY b1 l1)
abbrev He(h:Heap)(b1 b2:Bool)(l1 l2:Addr):Heap:=(Jd h b1 l1).push (FY b2 l2)
abbrev MI(h:Heap)(b1 b2:Bool)(l1 l2:Addr):Heap:=(He h b1 b2 l1 l2).push { cls:=.type "tuple", data:=.seq #[.ref h.objs.size,.ref (Jd h b1 l1).objs.size] }
abbrev ME(h:Heap)(b1 b2:Bool)(l1 l2:Addr):Heap:=(MI h b1 b2 l1 l2).push { cls:=.type "tuple", data:=.seq #[.none,.none] }
abbrev IG(h:Heap)(b1 b2:Bool)(l1 l2:Addr):Heap:=(ME h b1 b2 l1 l2).push { cls:=.type "zip", data:=.fields #[.none,.bool false,.bool false,.ref (He h b1 b2 l1 l2).objs.size,.ref (MI h b1 b2 l1 l2).objs.size] }
end
theorem gE{E:Value->Shared->Prop}(hl:gP s.heap b l items)
  (h:Q (.ref s.heap.objs.size) { s with heap:=s.heap.push (FY b l) }):wpAny (model prog w) A (pyIter (.ref l)) Q E s:=xO hl λo e=>by subst e;exact h
theorem gP.push{h:Heap}{b:Bool}{l:Addr}{xs:Array Value}(x:gP h b l xs)(o:Obj):gP (h.push o) b l xs:=x.at λ_ e=>Heap.get?_push_of_some _ e
theorem qo(b1 b2:Bool)(l1 l2:Addr)(xs ys:Array Value) :
  Meets (Builtin.«zip.__new__» ⟨[.type "zip", .ref l1,.ref l2],[]⟩) (λ_ R s=>gP s.heap b1 l1 xs/\gP s.heap b2 l2 ys ∧
   R (.ok (.ret (.ref (ME s.heap b1 b2 l1 l2).objs.size))) { s with heap:=IG s.heap b1 b2 l1 l2 }) :=
 .of_wp λprog w A R s h=>by
  obtain⟨hp,g,d,tk,os⟩:=s;obtain⟨QY,QZ,h⟩:=h
  have Td:=sub_zip
  have hL1:gP (Shared.heap ⟨hp,g,d,tk,os⟩) b1 l1 xs:=QY
  have hL2:gP (Shared.heap ⟨hp.push (FY b1 l1),g,d,tk,os⟩) b2 l2 ys:=gP.push QZ _
  wp_walk using gE hL1,gE hL2
  exact⟨_,rfl,h⟩
section
variable{E:Value->Shared->Prop}
theorem e9.new(h:Heap)(b:Bool)(it l:Addr)(e:h.get? it=some (FY b l)):e9 h b it l 0:=by
 cases b with
 | true=>exact⟨_,e,rfl,rfl⟩
 | false=>exact⟨_,e,rfl,rfl⟩
theorem Bh{b1 b2:Bool}{xs:Array Value}(QY:gP s.heap b1 l1 xs)(QZ:gP s.heap b2 l2 ys)
  (h:∀ h',IsZip h' (s.heap.objs.size+4) (s.heap.objs.size+2) (s.heap.objs.size+3) .none->IsPair h' (s.heap.objs.size+2) (.ref s.heap.objs.size) (.ref (s.heap.objs.size+1)) ->
   IsPair h' (s.heap.objs.size+3) .none .none->e9 h' b1 s.heap.objs.size l1 0->e9 h' b2 (s.heap.objs.size+1) l2 0->h'.objs.size=s.heap.objs.size+5 ->
   (∀ c o,s.heap.get? c=some o->h'.get? c=some o)->Q (.ref (s.heap.objs.size+4)) { s with heap:=h' }) :
  wpAny (model prog w) A (call (.type "zip") [.ref l1,.ref l2]) Q E s:=by
 refine callType_new F.called_zip (by decide) (F.typeCall_zip_2 _ _) (F.newCall_zip_2 _ _) (λobj=>F.args_object_init_3 obj _ _) F.entry_zip_new
  (qo b1 b2 l1 l2 xs ys) ⟨QY,QZ,?_⟩
 have z1:(Jd s.heap b1 l1).objs.size=s.heap.objs.size+1:=Heap.size_push ..
 have z2:(He s.heap b1 b2 l1 l2).objs.size=s.heap.objs.size+2:=by rw[Heap.size_push,z1]
 have z3:(MI s.heap b1 b2 l1 l2).objs.size=s.heap.objs.size+3:=by rw[Heap.size_push,z2]
 have z4:(ME s.heap b1 b2 l1 l2).objs.size=s.heap.objs.size+4:=by rw[Heap.size_push,z3]
 have z5:(IG s.heap b1 b2 l1 l2).objs.size=s.heap.objs.size+5:=by rw[Heap.size_push,z4]
 have g5:(IG s.heap b1 b2 l1 l2).get? (ME s.heap b1 b2 l1 l2).objs.size=some _:=Heap.get?_push_size _ rfl
 have g4:(IG s.heap b1 b2 l1 l2).get? (MI s.heap b1 b2 l1 l2).objs.size=some _:=Heap.get?_push_of_some _ (Heap.get?_push_size _ rfl)
 have g3:(IG s.heap b1 b2 l1 l2).get? (He s.heap b1 b2 l1 l2).objs.size=some _:=Heap.get?_push_of_some _ (Heap.get?_push_of_some _ (Heap.get?_push_size _ rfl))
 have g2:(IG s.heap b1 b2 l1 l2).get? (Jd s.heap b1 l1).objs.size=some _:=Heap.get?_push_of_some _ (Heap.get?_push_of_some _ (Heap.get?_push_of_some _ (Heap.get?_push_size _ rfl)))
 have g1:(IG s.heap b1 b2 l1 l2).get? s.heap.objs.size=some _:=Heap.get?_push_of_some _ (Heap.get?_push_of_some _ (Heap.get?_push_of_some _ (Heap.get?_push_of_some _ (Heap.get?_push_size _ rfl))))
 show _/\_
 rw[z2,z3,z4] at g5
 rw[z1,z2] at g3
 rw[z3] at g4
 rw[z1] at g2
 rw[z4]
 exact⟨⟨_,g5,rfl⟩,h _ g5 g3 g4 (e9.new _ b1 _ _ g1) (e9.new _ b2 _ _ g2) z5 λc o x =>
  Heap.get?_push_of_some _ (Heap.get?_push_of_some _ (Heap.get?_push_of_some _ (Heap.get?_push_of_some _ (Heap.get?_push_of_some _ x))))⟩
end
def lU(K:PySem.W.Frag)(H:Hp)(b:Bool)(a:Addr)(xs:List V):Prop:=match b with
 | true=>iT K H a xs
 | false=>iD K H a xs
variable{tl:TA}
theorem Inv.row{xs:List V}(I:Inv X Pf σ H s)(h:lU X.K H b a xs):∃ Ph:List Value,Vals xs Ph/\gP s.heap b a Ph.toArray/\xs.length<=sizeLine:=by
 cases b with
 | true =>
  obtain⟨Ph,r,p,z⟩:=I.list h
  exact⟨Ph,r,p.isList,z⟩
 | false =>
  obtain⟨Ph,r,p,z⟩:=I.tuple h
  exact⟨Ph,r,p,z⟩
theorem Inv.mR{xs ys:List V}(I:Inv X Pf σ H s)(h:lU X.K H b a xs)(h':lU X.K H b a ys):xs=ys:=by
 cases b with
 | true=>exact I.rD h h'
 | false=>exact I.oE h h'
theorem Inv.z0(I:Inv X Pf σ H s)(k:∀ b u,b ∉ ch->s.heap.get? b=some u->h'.get? b=some u)
  (Rl:∀ b∈ch,mG X Pf H b):Inv X Pf σ H { s with heap:=h',toks:=t' }:=by
 have R6:∀ b u,H b=some u->b ∉ ch:=λb u e z=>by rw[(Rl b z).1] at e;cases e
 refine I.step (g':=s.gens) (d':=s.drawn) (ch:=ch) (λb hb=>?_) (λb u _ _ hc e _=>k b u hc e) (λb u _ _ hc e _=>⟨u.slots,k b u hc e⟩)
  (λb u _ e n=>n) (λb u hc e=>⟨u,k b u hc e⟩) (λb xs e=>e) (λb ob u e=>e) (λb ps e=>⟨#[],by rw[e];simp⟩) (λm hm=>?_) (λb u e=>?_) I.bare
 ·obtain⟨_,f1,_,f3,f4,f5⟩:=Rl b hb
  exact⟨f3,f1,f4,f5⟩
 ·obtain⟨ob,es,ep,ho,r⟩:=hm
  exact⟨ob,es,ep,k _ ob (λz=>(Rl _ z).2.1 rfl) ho,r⟩
 ·refine(I.cp b u e).pB (λc v hc q=>k c v ?_ q) (λc q=>q) λc ys q=>q
  rcases hc with z' | z'
  ·rw[z'];exact R6 b u e
  ·exact R6 c _ z'
theorem c8{c:Addr}{xs:List V}(I:Inv X Pf σ H s)(h:lU X.K H b a xs)(f:mG X Pf H c):a≠c:=by
 have rd:∀ {u:HO},Rd H a u->a≠c:=λ{u} r=>by
  rcases r with r | ⟨o,r⟩
  ·exact cB r f.1
  ·exact cB r f.1
 have mk:∀ {o:Obj},X.K.lookup a=some o->a≠c:=λ{o} e z=>by
  subst z
  have e':=I.ok.mod.Hj _ _ e
  rcases f.2.2.2.1 with q | q
  ·exact I.ok.Aw _ _ e' q
  ·exact absurd (Nat.lt_of_lt_of_le (Heap.lt_size (I.ok.bs _ _ e').1) q) (Nat.lt_irrefl _)
 cases b with
 | true =>
  rcases(show iT X.K H a xs from h) with r | ⟨o,Ph,n,e,_⟩
  ·exact rd r
  ·exact mk e
 | false =>
  rcases(show iD X.K H a xs from h) with r | ⟨o,Ph,n,e,_⟩
  ·exact rd r
  ·exact mk e
def NP (K : PySem.W.Frag) (b1 b2 : Bool) (a1 a2 : Addr) : It :=
  ⟨λi H => ∃ xs ys x y, lU K H b1 a1 xs /\ lU K H b2 a2 ys /\ xs[i]? = some x /\ ys[i]? = some y,
   λi H v H' => ∃ p x y, H p = none /\ v = .ref p /\ H' = upd H p (.tup [x, y]) /\ (∀ xs, lU K H b1 a1 xs -> xs[i]? = some x) /\ (∀ ys, lU K H b2 a2 ys -> ys[i]? = some y),
   λi H => ∃ xs ys, lU K H b1 a1 xs /\ lU K H b2 a2 ys /\ (xs.length <= i \/ ys.length <= i)⟩
theorem Df{K:PySem.W.Frag}{tp:Pos}(b1 b2:Bool)(a1 a2 z TI TO i1 i2:Addr)(D:TI≠z/\TO≠z/\i1≠z/\i2≠z/\TI≠TO/\TI≠i1/\TI≠i2/\TO≠i1/\TO≠i2/\i1≠i2) :
  Turn P w K (.Tuple elts x1 tp) (NP K b1 b2 a1 a2) [z,TO,i1,i2,TI] z (λi h=>IsZip h z TI TO .none/\IsPair h TI (.ref i1) (.ref i2)/\(∃ a b,IsPair h TO a b)/\e9 h b1 i1 a1 i/\e9 h b2 i2 a2 i) where
 mem:=by simp
 obj:=λi h st b hb=>by
  obtain⟨hz,Ql,⟨a,c,Qn⟩,h1,h2⟩:=st
  simp only[List.mem_cons,List.mem_nil_iff,or_false] at hb
  rcases hb with q | q | q | q | q <;> subst q
  ·exact⟨_,hz,λv z=>by cases z⟩
  ·exact⟨_,Qn,λv z=>by cases z⟩
  ·obtain⟨o,vs,e,d⟩:=h1.obj
   exact⟨o,e,λv z=>by rw[d] at z;cases z⟩
  ·obtain⟨o,vs,e,d⟩:=h2.obj
   exact⟨o,e,λv z=>by rw[d] at z;cases z⟩
  ·exact⟨_,Ql,λv z=>by cases z⟩
 keep:=λi h h' st k=>by
  obtain⟨hz,Ql,⟨a,c,Qn⟩,h1,h2⟩:=st
  exact⟨k z (by simp) _ hz,k TI (by simp) _ Ql,⟨a,c,k TO (by simp) _ Qn⟩,h1.at λo e=>k i1 (by simp) o e,h2.at λo e=>k i2 (by simp) o e⟩
 item:=by
  intro X hP hw hK hc i Pf s σ H E I hf st hg
  subst hP hw hK
  obtain⟨xs,ys,x,y,Qm,P9,hx,hy⟩:=hg
  obtain⟨R1,Sm,p1,Tg⟩:=I.row Qm
  obtain⟨Rc,Sn,p2,Th⟩:=I.row P9
  obtain⟨u1,hu1,ru1⟩:=Sm.get hx
  obtain⟨u2,hu2,ru2⟩:=Sn.get hy
  obtain⟨hz,Ql,⟨a,c,Qn⟩,h1,h2⟩:=st
  obtain⟨d1,d2,d3,d4,d5,d6,d7,d8,d9,d10⟩:=D
  obtain⟨o1,n1,e1,dd1⟩:=p1.obj
  obtain⟨o2,n2,e2,SX⟩:=p2.obj
  obtain⟨oi1,vs1,S0,di1⟩:=h1.obj
  obtain⟨oi2,vs2,S1,di2⟩:=h2.obj
  have D:ZipApart z TI TO i1 i2 a1 a2:=⟨d1,d2,d3,d4,d5,d6,d7,d8,d9,d10,c8 I Qm (hf z (by simp)),c8 I Qm (hf TO (by simp)),c8 I Qm (hf i1 (by simp)),c8 I Qm (hf i2 (by simp)),
   c8 I P9 (hf z (by simp)),c8 I P9 (hf TO (by simp)),c8 I P9 (hf i1 (by simp)),c8 I P9 (hf i2 (by simp))⟩
  refine om D hz Ql Qn h1 h2 p1 p2 (x:=u1) (y:=u2) (by simpa using hu1) (by simpa using hu2) λh' g1 g2 g3 g4 g5 g6 g7=>⟨_,rfl,?_⟩
  refine wpAny_letOwnedTupleGo_zip (s:={ s with heap:=h' }) g1 λh3 hz3 RE=>?_
  have Q0:H s.heap.objs.size=none:=I.cp.fresh (Nat.le_refl _)
  have lt:∀ {c:Addr} {o:Obj},s.heap.get? c=some o->c≠s.heap.objs.size:=λe=>Nat.ne_of_lt (Heap.lt_size e)
  have R4:∀ b o,b ∉ [z,TO,i1,i2,TI]->s.heap.get? b=some o->h3.get? b=some o:=λb o hb q=>by
   simp only[List.mem_cons,List.mem_nil_iff,or_false,not_or] at hb
   exact(RE.2 b hb.1).trans (g7 b o hb.1 hb.2.1 hb.2.2.1 hb.2.2.2.1 q)
  have hT3:h3.get? s.heap.objs.size=some { cls:=.type "tuple", data:=.seq #[u1,u2] }:=(RE.2 _ (lt hz).symm).trans g5
  have I3:Inv X Pf σ (upd H s.heap.objs.size (.tup [x,y])) { s with heap:=h3,toks:=s.toks } :=
   I.lC (ch:=[z,TO,i1,i2,TI]) R4 hf (Nat.le_refl _) (λb hb=>by
    simp only[List.mem_cons,List.mem_nil_iff,or_false] at hb
    rcases hb with q | q | q | q | q <;> subst q
    ·exact⟨_,hz⟩
    ·exact⟨_,Qn⟩
    ·exact⟨_,S0⟩
    ·exact⟨_,S1⟩
    ·exact⟨_,Ql⟩)
    ⟨by show 2<=sizeLine;decide,[u1,u2],.cons ru1 (.cons ru2 .nil),⟨_,hT3,rfl,_,rfl⟩⟩
  refine⟨.ref s.heap.objs.size,_,I3,rfl,⟨_,x,y,Q0,rfl,rfl,λzs Sk=>by rw[I.mR Sk Qm];exact hx,λzs Sk=>by rw[I.mR Sk P9];exact hy⟩,
   ⟨hz3,(RE.2 TI d1).trans (g7 TI _ d1 d5 d6 d7 Ql),⟨_,_,(RE.2 TO d2).trans g2⟩,g3.at λo e=>(RE.2 i1 d3).trans e,g4.at λo e=>(RE.2 i2 d4).trans e⟩,λb hb=>?_⟩
  have nb:b≠s.heap.objs.size:=by
   simp only[List.mem_cons,List.mem_nil_iff,or_false] at hb
   rcases hb with q | q | q | q | q <;> subst q
   ·exact lt hz
   ·exact lt Qn
   ·exact lt S0
   ·exact lt S1
   ·exact lt Ql
  rw[av nb]
  exact(hf b hb).1
 done:=by
  intro X hP hw hK hc i Pf s σ H E I hf st hg
  subst hP hw hK
  obtain⟨xs,ys,Qm,P9,Q6⟩:=hg
  obtain⟨R1,Sm,p1,Tg⟩:=I.row Qm
  obtain⟨Rc,Sn,p2,Th⟩:=I.row P9
  obtain⟨hz,Ql,⟨a,c,Qn⟩,h1,h2⟩:=st
  obtain⟨d1,d2,d3,d4,d5,d6,d7,d8,d9,d10⟩:=D
  have D:ZipApart z TI TO i1 i2 a1 a2:=⟨d1,d2,d3,d4,d5,d6,d7,d8,d9,d10,c8 I Qm (hf z (by simp)),c8 I Qm (hf TO (by simp)),c8 I Qm (hf i1 (by simp)),c8 I Qm (hf i2 (by simp)),
   c8 I P9 (hf z (by simp)),c8 I P9 (hf TO (by simp)),c8 I P9 (hf i1 (by simp)),c8 I P9 (hf i2 (by simp))⟩
  have l1:=Sm.length
  have l2:=Sn.length
  refine pC (I.ok.hd hc) D hz Ql Qn h1 h2 p1 p2 ?_ λh' k=>⟨rfl,?_⟩
  ·rcases Q6 with q | q
   ·exact .inl (by simp;omega)
   ·exact .inr (by simp;omega)
  ·exact I.z0 (t':=s.toks) (ch:=[z,TO,i1,i2,TI]) (λb u hb e=>by
    simp only[List.mem_cons,List.mem_nil_iff,or_false,not_or] at hb
    exact k b u hb.1 hb.2.1 hb.2.2.1 hb.2.2.2.1 e) hf
 self:=λ_ _ _ _ _ st h=>by
  obtain⟨hz,_⟩:=st
  exact wpAny_pyIter_zip hz h
theorem IJ(n:Nat):n+2≠n+4/\n+3≠n+4/\n≠n+4/\n+1≠n+4/\n+2≠n+3/\n+2≠n/\n+2≠n+1/\n+3≠n/\n+3≠n+1/\n≠n+1:=by
 refine⟨?_,?_,?_,?_,?_,?_,?_,?_,?_,?_⟩ <;> omega
def LI(K:PySem.W.Frag)(tl:TA):TI:=fun σ H R=>tl σ H λvs H1=>∃ b1 b2 a1 a2,vs=[.ref a1,.ref a2]/\(∃ xs,lU K H1 b1 a1 xs)/\(∃ ys,lU K H1 b2 a2 ys)/\R (NP K b1 b2 a1 a2) H1
theorem gb{tp:Pos}{l1 l2:Expr}{p pos:Pos}(hg:Gl X "zip")(hm:X.mg "zip" = none)(hl:PA X [l1,l2] tl)(hs:autoParam (starEach [l1,l2] X.env=[(false,eval l1 X.env),(false,eval l2 X.env)]) aR._auto_1)(Q2:autoParam (starEach [l2] X.env=[(false,eval l2 X.env)]) aR._auto_1) :
  PI X (.Tuple elts x1 tp) (.Call (.Name "zip" p) [l1,l2] [] pos) (LI X.K tl):=by
 intro Pf s σ H R I h
 refine Call_ (ki I hg hm PyProof.Rows.boot_zip (PyProof.Rows.callWith_type1 (c9 (hl pos Pf s σ H _ I h) λus s1 ⟨vs,H1,I1,r1,q1⟩=>?_) (by rw[hs,Q2]) (by rw[Q2];rfl)))
 obtain⟨b1,b2,a1,a2,e,⟨xs,Qm⟩,⟨ys,P9⟩,q⟩:=q1
 subst e
 cases r1 with
 | cons r rr =>
  cases rr with
  | cons r' rr =>
   cases rr
   cases (show _=Value.ref a1 from r)
   cases (show _=Value.ref a2 from r')
   obtain⟨R1,Sm,p1,Tg⟩:=I1.row Qm
   obtain⟨Rc,Sn,p2,Th⟩:=I1.row P9
   refine Bh p1 p2 λh' g1 g2 g3 g4 g5 g6 g7=>?_
   have I2:Inv X Pf σ H1 { s1 with heap:=h' }:=I1.kept (t':=s1.toks) g7
   refine wpAny_pyIter_zip (s:={ s1 with heap:=h' }) g1 ?_
   refine⟨s1.heap.objs.size+4,[s1.heap.objs.size+4,s1.heap.objs.size+3,s1.heap.objs.size,s1.heap.objs.size+1,s1.heap.objs.size+2],_,_,H1,rfl,I2,
    Df b1 b2 a1 a2 _ _ _ _ _ (IJ s1.heap.objs.size),⟨g1,g2,⟨_,_,g3⟩,g4,g5⟩,λb hb=>?_,q⟩
   have hle:s1.heap.objs.size<=b:=by
    simp only[List.mem_cons,List.mem_nil_iff,or_false] at hb
    rcases hb with q | q | q | q | q
    ·rw[q];exact Nat.le_add_right _ 4
    ·rw[q];exact Nat.le_add_right _ 3
    ·rw[q];exact Nat.le_refl _
    ·rw[q];exact Nat.le_add_right _ 1
    ·rw[q];exact Nat.le_add_right _ 2
   exact I1.vo hle (I1.cp.fresh hle)
def Nw(K:PySem.W.Frag)(b:Bool)(a:Addr):It:=match b with
 | true=>Oy K a
 | false=>OB K a
def Lj(K:PySem.W.Frag)(tl:TE):TI:=fun σ H R=>tl σ H λx H1=>∃ b a,x=.ref a/\(∃ xs,lU K H1 b a xs)/\R (Nw K b a) H1
theorem cS{l:Expr}{tl:TE}(hl:PE X l tl):PI X tg l (Lj X.K tl):=by
 intro Pf s σ H R I h
 refine c9 (hl Pf s σ H _ I h) λv s1 ⟨x,H1,I1,r1,q1⟩=>?_
 obtain⟨b,a,e,⟨xs,hq⟩,q⟩:=q1
 subst e
 cases r1
 cases b with
 | true =>
  obtain⟨Ph,rv,p,hz⟩:=I1.list hq
  refine wpAny_pyIter_list p.isList ?_
  refine⟨s1.heap.objs.size,[s1.heap.objs.size],_,_,H1,rfl,I1.kept (t':=s1.toks) λb o e=>Heap.get?_push_of_some _ e,Al a _,⟨_,Heap.get?_push_size _ rfl,rfl,rfl⟩,λb hb=>?_,q⟩
  have e:b=s1.heap.objs.size:=by simpa using hb
  subst e
  exact I1.vo (Nat.le_refl _) (I1.cp.fresh (Nat.le_refl _))
 | false =>
  obtain⟨Ph,rv,p,hz⟩:=I1.tuple hq
  refine wpAny_pyIter_tuple (show s1.heap.IsTuple a Ph.toArray from p) ?_
  refine⟨s1.heap.objs.size,[s1.heap.objs.size],_,_,H1,rfl,I1.kept (t':=s1.toks) λb o e=>Heap.get?_push_of_some _ e,yq a _,⟨_,Heap.get?_push_size _ rfl,rfl,rfl⟩,λb hb=>?_,q⟩
  have e:b=s1.heap.objs.size:=by simpa using hb
  subst e
  exact I1.vo (Nat.le_refl _) (I1.cp.fresh (Nat.le_refl _))
theorem BC(hc:X.calm=true):dW X (.builtin "sum") (λxs H Q=>∃ (a:Addr) (ns:List Int),xs=[.ref a]/\iT X.K H a (ns.map V.int)/\Q (.int ns.sum) H):=by
 intro Pf s σ H xs us Q I r h
 obtain⟨a,ns,rfl,hq,q⟩:=h
 cases r with
 | cons r1 r2 =>
  cases r2
  cases (show _=Value.ref a from r1)
  obtain⟨Ph,rv,p,hz⟩:=I.list hq
  have hi:=intsAre_of rv
  obtain⟨xs',e⟩:=hi.allInts.items
  have e3:numsOf (intItems xs').toList=ns:=by rw[← e];exact hi.numsOf
  rw[nums_intItems] at e3
  refine sum_intListG (I.ok.hd hc) (by rw[← e];exact p.isList) λh' tk t' hk=>⟨.int ns.sum,H,I.kept (t':=tk) hk,⟨t',?_⟩,q⟩
  rw[preSum_eq,List.take_of_length_le (by simp),e3]
structure gU (K:PySem.W.Frag) (C:Addr):Prop where
 ga:PySem.W.findIn K (.ref C) "__getattribute__" = some (some (.builtin "BaseException.__getattribute__"))
 gn:PySem.W.findIn K (.ref C) "__getattr__" = some none
 hd:PySem.W.hasDictIn K C=true
 sa:PySem.W.findIn K (.ref C) "__setattr__" = some (some (.builtin "object.__setattr__"))
 mb:PySem.W.mroIn K C (.type "BaseException")=some true
 mo:PySem.W.mroIn K C (.type "object")=some true
 ca:PySem.W.findIn K (.ref C) "__class__" = some (some (.builtin "object.__class__"))
 cg:PySem.W.specialIn K (.builtin "object.__class__") "__get__" = some (some (.builtin "getset_descriptor.__get__"))
 ct:PySem.W.takesIn K (.builtin "object.__class__")=some true
variable{name:Str}{ox:Obj}
section
variable{E:Value->Shared->Prop}{K:PySem.W.Frag}{x:Addr}{od:Option Obj}
theorem DL:builtinKind "BaseException.__getattribute__" = some .slot:=by decide +kernel
theorem Bb:splitId "BaseException.__getattribute__" = some ("BaseException", "__getattribute__"):=by decide +kernel
theorem Km{tk:Tok}{fill expr:Bool}(c:gU K C)(X:K.In s.heap)(I:PySem.W.InstAt s.heap x ox C od)
  (h:wpAny (model prog w) A.in1 (Builtin.«object.__getattribute__» ⟨[.ref x,.str name tk],[]⟩)
   (λfin s'=>match fin with | .done (.ret v)=>wpAny (model prog w) A (handedOut v) Q E s' | _=>False) (λ_ _=>False) s) :
  wpAny (model prog w) A (getAttrBy (.ref x) (.str name tk) fill expr) Q E s:=by
 have Tf:(Value.builtin "BaseException.__getattribute__" == Value.builtin "object.__getattribute__")=false:=by decide +kernel
 have SQ:(onTheHeap (Value.ref C)&&Value.builtin "BaseException.__getattribute__" == Value.builtin "object.__getattribute__")=false:=by rw[Tf];rfl
 have hx0:(expr&&onTheHeap (Value.builtin "BaseException.__getattribute__"))=false:=by cases expr <;> rfl
 have sub:PySem.W.Looks (model prog w) s.heap (isInstance (.ref x) (.type "BaseException")) true:=I.type.andThen (PySem.W.looks_mroIn X c.mb)
 unfold getAttrBy
 refine wpAny_holding (wpAny_bind (I.type.here (wpAny_bind ((PySem.W.looks_findIn X c.ga).here ?_))))
 dsimp only
 rw[SQ,if_neg Bool.false_ne_true]
 unfold getAttrByItsOwn hookBefore
 refine wpAny_bind ?_
 show wpAny _ _ (typeLookup (.ref C) "__getattr__") _ _ _
 refine(PySem.W.looks_findIn X c.gn).here ?_
 refine wpAny_bind (wpAny_attempt (wpAny_holding ?_))
 unfold callGetattribute
 rw[hx0,if_neg Bool.false_ne_true]
 unfold boundAndCalled
 refine wpAny_bind (wpAny_of_eq (PySem.F.attr_ValueError.ga.bind _) ?_)
 refine wpAny_call (codeAny_call_builtin PySem.F.attr_ValueError.ga.plain PySem.F.entry_bexc_ga (@PySem.W.check_slot (model prog w) _ _ s "BaseException.__getattribute__" "BaseException" "__getattribute__" (.ref x) [.str name tk] [] _ DL Bb sub (PySem.F.args_bexc_ga _ _) ?_))
 refine wpAny_mono h (λfin s' z=>?_) (λ_ _ z=>z.elim)
 rcases fin with (v | _ | _ | _) | _ <;> first | exact z | exact z.elim
end
variable{newId:String}{dd:Option Addr}
variable{f:Addr}
section
open PySem.Builtin.ObjectAttr (storeInOwnDict storeTaker? setByDescriptor)
abbrev fW:List Value:=[.type "ValueError", .type "Exception", .type "BaseException", .type "object"]
def gk:List Value->Bool
 | .ref _::r=>gk r
 | l=>l==fW
theorem qI(self:Value):refuseLoop self "__setattr__" fW=pure ():=by kernel_rfl
theorem o4(self:Value):∀ {l:List Value},gk l=true->refuseLoop self "__setattr__" l=pure ()
 | .ref c::r,e=>by rw[PySem.refuseLoop_ref];exact o4 self e
 | [],e=>by cases (show false=true from e)
 | .type n::r,e=>by rw[show Value.type n::r=fW from beq_iff_eq.mp e];exact qI self
 | .none::r,e=>by rw[show Value.none::r=fW from beq_iff_eq.mp e];exact qI self
section
variable{E:Value->Shared->Prop}{K:PySem.W.Frag}{x:Addr}{od:Option Obj}
theorem r0{a g:Value}(hc:(PySem.W.clsIn K C).isSome=true)(ha:PySem.W.findIn K (.ref C) name=some (some a))(hg:PySem.W.specialIn K a "__get__" = some (some g))(ht:PySem.W.takesIn K a=some true):PySem.W.findObj K C od name=some (.bind g a):=by
 obtain⟨cd,hc⟩:=Option.isSome_iff_exists.mp hc
 unfold PySem.W.findObj
 rw[hc,Option.bind_some,ha,Option.bind_some]
 simp[hg,ht]
theorem Bx{Q:Option Value->Shared->Prop}(c:gU K C)(X:K.In s.heap)(I:PySem.W.InstAt s.heap x ox C od)(h:Q (some (.ref C)) { s with toks:=s.toks+1 }):wpAny (model prog w) A (getAttr? (.ref x) "__class__") Q E s:=by
 have hc:(PySem.W.clsIn K C).isSome=true:=by obtain⟨cd,hc,_⟩:=PySem.W.any_some c.hd;rw[hc];rfl
 have hf:PySem.W.findObj K C od "__class__" = some (.bind (.builtin "getset_descriptor.__get__") (.builtin "object.__class__")):=r0 hc c.ca c.cg c.ct
 unfold getAttr? getAttrBy?
 refine wpAny_bind (wpAny_mkText (wpAny_bind (wpAny_attempt ?_)))
 refine Km (s:={ s with toks:=s.toks+1 }) c X I ?_
 unfold Builtin.«object.__getattribute__»
 refine wpAny_bind (wpAny_pure ?_)
 dsimp only
 refine wpAny_bind (wpAny_pure ?_)
 refine wpAny_bind (I.type.here (s:={ s with toks:=s.toks+1 }) (wpAny_bind ((PySem.W.looks_find X I hf).here (s:={ s with toks:=s.toks+1 }) ?_)))
 show wpAny _ _ (holding [.builtin "object.__class__"] (call (.builtin "getset_descriptor.__get__") [.builtin "object.__class__", .ref x,.ref C]) >>= ret) _ _ _
 refine wpAny_bind (wpAny_holding (wpAny_call (PySem.W.class_get (s:={ s with toks:=s.toks+1 }) (ox:=ox) (od:=od) X I c.mo ?_)))
 refine wpAny_pure ?_
 exact PySem.W.handed_on rfl (wpAny_pure h)
theorem wU(c:gU K C):PySem.W.KitX K (.ref x) (.ref C) (λh=>PySem.W.InstAt h x ox C od) where
 ty:=λ_ _ _ I=>I.type
 it:=λ_ _ X _=>by
  obtain⟨cdD,RR,_⟩:=PySem.W.any_some c.hd
  unfold PySem.W.clsIn at RR
  split at RR
  ·rename_i c' d' cd' sl' ho
   intro A' Q' E' s' k q
   unfold isType loadHead
   exact wpAny_bind (wpAny_loadPart (k _ _ (X _ _ ho)) (wpAny_pure q))
  ·cases RR
 ne:=λh tp dd Ph n sl X htp=>by
  obtain⟨cdD,RR,_⟩:=PySem.W.any_some c.hd
  refine Bool.eq_false_iff.mpr λq=>?_
  have e:C=tp:=Value.ref.inj (beq_iff_eq.mp q)
  subst e
  unfold PySem.W.clsIn at RR
  split at RR
  ·rename_i c' d' cd' sl' ho
   have z:=(X _ _ ho).symm.trans htp
   cases z
  ·cases RR
 ca:=λX I k=>Bx c X I k
theorem Fv{tk:Tok}{v:Value}{R:Result->Shared->Prop}(po:((PySem.W.clsIn K C).any λcd=>gk cd.mro)=true)(c:gU K C)(X:K.In s.heap)(I:PySem.W.InstAt s.heap x ox C od)(ht:PySem.W.takerIn K C name=some none)
  (h:∀ b,wpAny (model prog w) A.in1 (storeInOwnDict (.ref x) (.ref C) (.str name tk) name v b)
   (λfin s'=>match fin with | .done f=>R (.ok f) s' | .again c'=>c'.quiet=true/\codeAny (model prog w) A c' R s') (λe s'=>R (.error e) s') s) :
  codeAny (model prog w) A (.call (.builtin "object.__setattr__") ⟨[.ref x,.str name tk,v],[]⟩) R s:=by
 have SF:=PySem.F.store_object
 obtain⟨cd,hc,ho⟩:=PySem.W.any_some po
 have sub:PySem.W.Looks (model prog w) s.heap (isInstance (.ref x) (.type "object")) true:=I.type.andThen (PySem.W.looks_mroIn X c.mo)
 refine codeAny_call_builtin SF.slot.plain SF.entry (@PySem.W.check_slot (model prog w) _ _ s "object.__setattr__" "object" "__setattr__" (.ref x) [.str name tk,v] [] _ SF.kind SF.split sub (SF.args (.ref x) (.str name tk) v) ?_)
 obtain⟨attr,ha,hr⟩:=Option.bind_eq_some_iff.mp ht
 have hm:PySem.W.Looks (model prog w) s.heap (mroOf (.ref C)) cd.mro:=(PySem.W.looks_clsIn X hc).andThen .now
 have L3:PySem.W.Looks (model prog w) s.heap (storeTaker? attr) none:=by
  cases attr with
  | none=>cases hr;exact .now
  | some a =>
   obtain⟨b,hb,e⟩:=Option.map_eq_some_iff.mp hr
   refine(PySem.W.looks_takesIn X hb).andThen ?_
   cases b with
   | true=>cases e
   | false=>exact .now
 rw[PySem.W.osa_eq,PySem.refuse_eq]
 refine wpAny_bind (wpAny_bind (I.type.here (wpAny_bind (hm.here ?_))))
 rw[o4 _ ho]
 refine wpAny_pure (wpAny_bind (I.type.here (wpAny_bind ((PySem.W.looks_findIn X ha).here (wpAny_bind (L3.here ?_))))))
 exact h _
theorem CM{vs:Array Value}{v:Value}{Q:Unit->Shared->Prop}(po:((PySem.W.clsIn K C).any λcd=>gk cd.mro)=true)(c:gU K C)(X:K.In s.heap)(hx:s.heap.get? x=some ⟨.ref C,none,.fields vs,#[]⟩)(ht:PySem.W.takerIn K C name=some none)
  (h:∀ h' tk d,h'.get? x=some ⟨.ref C,some d,.fields vs,#[]⟩->s.heap.get? d=none->h'.Ns1 d (λy=>if y=name then some v else none)->(∀ b o,b≠x->s.heap.get? b=some o->h'.get? b=some o)->Q () { s with heap:=h',toks:=tk }) :
  wpAny (model prog w) A (setAttr (.ref x) name v) Q E s:=by
 have I:PySem.W.InstAt s.heap x ⟨.ref C,none,.fields vs,#[]⟩ C none:=⟨hx,rfl,rfl,trivial⟩
 refine PySem.W.set_plain X I c.sa (Fv (s:={ s with toks:=s.toks+1 }) po c X I ht λb=>?_)
 obtain⟨cd,hc,S6⟩:=PySem.W.any_some c.hd
 have QQ:=Heap.lt_size hx
 refine wpAny_bind (wpAny_pure (wpAny_bind (wpAny_bind (wpAny_loadPart hx (wpAny_bind (PySem.W.Looks.here (s:={ s with toks:=s.toks+1 }) (PySem.W.looks_clsIn X hc) ?_))))))
 rw[S6]
 refine wpAny_bind (wpAny_alloc ?_)
 have SQ:(s.heap.push { cls:=.type "dict", data:=.dict #[] }).get? x=some ⟨.ref C,none,.fields vs,#[]⟩:=Heap.get?_push_of_some _ hx
 refine wpAny_bind (wpAny_update SQ ?_)
 refine wpAny_pure (a:=some s.heap.objs.size) (wpAny_bind (wpAny_pure (wpAny_bind ?_)))
 have Tf:((s.heap.push { cls:=.type "dict", data:=.dict #[] }).update x λo=>{ o with dict:=some s.heap.objs.size }).get? x=some ⟨.ref C,some s.heap.objs.size,.fields vs,#[]⟩:=Heap.get?_update_self _ SQ rfl
 have e1:(s.heap.push { cls:=.type "dict", data:=.dict #[] }).get? s.heap.objs.size=some { cls:=.type "dict", data:=.dict #[] }:=Heap.get?_push_size s.heap rfl
 have nxd:s.heap.objs.size≠x:=Nat.ne_of_gt QQ
 have e2:((s.heap.push { cls:=.type "dict", data:=.dict #[] }).update x λo=>{ o with dict:=some s.heap.objs.size }).get? s.heap.objs.size=some { cls:=.type "dict", data:=.dict #[] }:=by
  rw[Heap.get?_update_other _ _ (Ne.symm nxd)]
  exact e1
 have e3:((s.heap.push { cls:=.type "dict", data:=.dict #[] }).update x λo=>{ o with dict:=some s.heap.objs.size }).Ns s.heap.objs.size (λ_=>none):=⟨_,#[],_,e2,rfl,(λe he=>absurd he (by simp)),λ_=>rfl⟩
 refine wpAny_nsSet1 (s:={ s with heap:=(s.heap.push { cls:=.type "dict", data:=.dict #[] }).update x λo=>{ o with dict:=some s.heap.objs.size },toks:=s.toks+1 }) (Heap.Ns1.of_empty e3) λh' RX Q2=>?_
 obtain⟨oD,esD,epD,hoD,hdD,RR⟩:=RX.count (PySem.Within.cons (ns:=[]) name v (λy hy=>absurd rfl hy))
 refine wpAny_bind (wpAny_lookBehind hoD (by rw[hdD];exact pastItsLine_dict (Nat.le_trans RR (by show 1<=sizeLine+1;exact Nat.le_add_left _ _))) ?_)
 refine wpAny_pure (h h' _ s.heap.objs.size ((Q2.2 x (Ne.symm nxd)).trans Tf) (Heap.get?_none_of_le (Nat.le_refl _)) RX λb o hb e=>?_)
 refine(Q2.2 b (Nat.ne_of_lt (Heap.lt_size e))).trans ?_
 rw[Heap.get?_update_other _ _ (Ne.symm hb)]
 exact Heap.get?_push_of_some _ e
end
def qm(K:PySem.W.Frag)(C:Addr)(newId:String)(f:Addr):Bool:=match K.lookup C with
 | some ⟨.type "type", _,.cls cd,sl⟩=>(match cd.mro,sl.toList with
  | .ref C'::bm,[_,_,_,_,some (.builtin n),_]=>C'==C&&n==newId&&!cd.hasDel&&PySem.W.tailIn K fW bm&&PySem.W.nsOkIn K cd.ns&&PySem.W.nsIn K cd.ns "__init__" == some (some (.ref f))
  | _,_=>false)
 | _=>false
section
variable{E:Value->Shared->Prop}{g:Array GenState}{d:Drawn}{t:Nat}{os:OsState}
variable{nm q:Str}{N:Addr}{bs bm:List Value}{Ru:Bool}{sn:List Str}{sub:List Value}{ab:Bool}{col:Option Bool}{k0 k1 k2 k3 k5:Option Value}{SI:String}
theorem rH(F:ExcBaseFacts "ValueError" newId SI fW)(T:OwnTail h fW bm){mN:Str->Option Value}{rest:List Value}{Q:Fin->Shared->Prop}
  (hC:h.get? C=some (excClassObj nm q C N bs bm Ru sn sub ab col dd k0 k1 k2 k3 k5 newId)) (hn:h.Ns N mN) (RJ:mN "__init__" = some (.ref f))
  (hb:∀ h':Heap,(∀ b o,h.get? b=some o->h'.get? b=some o)->∀ self,PySem.W.Looks (model prog w) h' (bindSpecial (.ref f) self) (.ref f,[self]))
  (hq:∀ h':Heap,(∀ b o,h.get? b=some o->h'.get? b=some o)->h'.get? h.objs.size=some { cls:=.type "tuple", data:=.seq rest.toArray } ->
   h'.get? (h.objs.size+1)=some { cls:=.ref C,data:=.fields #[.ref h.objs.size,.none,.none,.none,.bool false,.none] }->h'.objs.size=h.objs.size+2 ->
   wpAny (model prog w) A (call (.ref f) (.ref (h.objs.size+1)::rest)) (λv s'=>v=.none/\Q (.done (.ret (.ref (h.objs.size+1)))) s') E ⟨h',g,d,t,os⟩) (DS:rest.length<=sizeLine:=by size_fits) :
  wpAny (model prog w) A (Builtin.«type.__call__» ⟨.ref C::rest,[]⟩) Q E ⟨h,g,d,t,os⟩:=by
 repeat (first | with_reducible refine wpAny_loadPart_at hC ?_ | with_reducible refine wpAny_madeBy_exc hC ?_ | wp_step)
 refine codeAny_call_builtin_code (Code.quiet_builtin _ F.quiet) (wpAny_check_new_subT F T hC ?_)
 refine codeAny_exc_new_subT F T hC ?_ DS
 show wpAny _ _ _ _ _ _
 have kp:∀ b o,h.get? b=some o->((h.push { cls:=.type "tuple", data:=.seq rest.toArray }).push { cls:=.ref C,data:=.fields #[.ref h.objs.size,.none,.none,.none,.bool false,.none] }).get? b=some o:=λb o e=>Heap.get?_push_of_some _ (Heap.get?_push_of_some _ e)
 have hC1:=kp _ _ hC
 have hn₁:((h.push { cls:=.type "tuple", data:=.seq rest.toArray }).push { cls:=.ref C,data:=.fields #[.ref h.objs.size,.none,.none,.none,.bool false,.none] }).Ns N mN:=hn.keeps kp
 have S9:((h.push { cls:=.type "tuple", data:=.seq rest.toArray }).push
   { cls:=.ref C,data:=.fields #[.ref h.objs.size,.none,.none,.none,.bool false,.none] }).get? (h.objs.size+1)=some
   { cls:=.ref C,data:=.fields #[.ref h.objs.size,.none,.none,.none,.bool false,.none] }:=by heap_get
 have htup:((h.push { cls:=.type "tuple", data:=.seq rest.toArray }).push
   { cls:=.ref C,data:=.fields #[.ref h.objs.size,.none,.none,.none,.bool false,.none] }).get? h.objs.size=some { cls:=.type "tuple", data:=.seq rest.toArray }:=Heap.get?_push_of_some _ (Heap.get?_push_size _ rfl)
 have Q8:((h.push { cls:=.type "tuple", data:=.seq rest.toArray }).push { cls:=.ref C,data:=.fields #[.ref h.objs.size,.none,.none,.none,.bool false,.none] }).objs.size=h.objs.size+2:=by rw[Heap.size_push,Heap.size_push]
 have hcC:(Value.ref C::bm).contains (.ref C)=true:=by simp
 have T1:=T.keeps kp
 have hb₁:=hb _ kp (.ref (h.objs.size+1))
 have fin:=hq _ kp htup S9 Q8
 generalize ((h.push { cls:=.type "tuple", data:=.seq rest.toArray }).push { cls:=.ref C,data:=.fields #[.ref h.objs.size,.none,.none,.none,.bool false,.none] })=h1 at *
 unfold isInstance
 repeat (first | with_reducible refine wpAny_loadPart_at S9 ?_ | (with_reducible refine wpAny_isSubtype_exc hC1 ?_;rw[hcC]) | wp_step)
 show wpAny _ _ (typeLookup (.ref C) _) _ _ _
 refine wpAny_typeLookup_tail hC1 hn₁ T1 F.mroIs F.init.lookup ?_
 rw[RJ]
 refine wpAny_holding (wpAny_bind (hb₁.here ?_))
 refine wpAny_bind (wpAny_mono fin (λv s' z=>?_) λ_ _ z=>z)
 obtain⟨rfl,z⟩:=z
 wp_walk
 exact z
end
end
def j4(C:Addr)(dd:Option Addr)(e:Addr):HO:=.ext λh=>∃ vs,h.get? e=some ⟨.ref C,dd,.fields vs,#[]⟩
def ExcAt(H:Hp)(e C:Addr)(fo:Option (List (Str×V))):Prop:=match fo with
 | none=>H e=some (j4 C none e)
 | some fs=>∃ d,H e=some (j4 C (some d) e)/\H d=some (.xd fs)
theorem Inv.DX(I:Inv X Pf σ H s){e:Addr}(he:H e=some (j4 C dd e)):∃ vs,s.heap.get? e=some ⟨.ref C,dd,.fields vs,#[]⟩:=(I.cp e _ he).1
theorem Inv.Fj(I:Inv X Pf σ H s){e:Addr}{fo:Option (List (Str×V))}(h:ExcAt H e C fo):∃ ox od,PySem.W.InstAt s.heap e ox C od/\(fo=none->od=none) ∧
  ∀ fs,fo=some fs->∃ (o:Obj) (mA:Str->Option Value),od=some o/\(∀ n,PySem.W.lookIn n o=some (mA n))/\∀ f,nU (fs.lookup f) (mA f):=by
 cases fo with
 | none =>
  obtain⟨vs,q⟩:=I.DX h
  exact⟨_,none,⟨q,rfl,rfl,trivial⟩,λ_=>rfl,λfs z=>(by cases z)⟩
 | some fs =>
  obtain⟨d,h1,h2⟩:=h
  obtain⟨vs,q⟩:=I.DX h1
  obtain⟨mA,n,r⟩:=(show ∃ mA,s.heap.Ns1 d mA/\∀ f,nU (fs.lookup f) (mA f) from I.cp d _ h2)
  obtain⟨o,ho,hl⟩:=oG n
  refine⟨_,some o,⟨q,rfl,rfl,ho⟩,λz=>(by cases z),λSo z=>?_⟩
  cases z
  exact⟨o,mA,rfl,hl,r⟩
theorem Inv.vh(I:Inv X Pf σ H s)(hn:s.heap.get? a=none):H a=none:=by
 cases q:H a with
 | none=>rfl
 | some u =>
  exfalso
  have:∀ (u:HO),cU X.prog X.w H s.heap a u->∃ ob,s.heap.get? a=some ob:=by
   intro u
   induction u with
   | lst xs=>intro ⟨_,_,_,_,e⟩;exact⟨_,e⟩
   | tup xs=>intro ⟨_,_,_,p⟩;obtain⟨ob,e,_⟩:=p;exact⟨ob,e⟩
   | dK Qu=>intro ⟨_,_,_,_,p⟩;obtain⟨ob,_,_,e,_⟩:=p;exact⟨ob,e⟩
   | dT Qu=>intro ⟨_,_,_,_,ob,_,_,e,_⟩;exact⟨ob,e⟩
   | set S n=>intro p;obtain⟨es,ob,xs,ep,e,_⟩:=p;exact⟨_,e⟩
   | ins C dx fs=>intro ⟨_,_,_,e,_⟩;exact⟨_,e⟩
   | own x=>intro ⟨ob,e⟩;exact⟨ob,e⟩
   | xd fs=>intro ⟨mA,n,_⟩;obtain⟨ob,e,_⟩:=oG n;exact⟨ob,e⟩
   | met f x=>intro e;exact⟨_,e⟩
   | kz lo hi=>intro ⟨_,_,_,e⟩;exact⟨_,e⟩
   | sG o u _=>intro ⟨e,_⟩;exact⟨_,e⟩
   | GP ps=>intro e;exact⟨_,e⟩
   | ext φ=>intro ⟨_,⟨ob,e⟩,_⟩;exact⟨ob,e⟩
  obtain⟨ob,e⟩:=this u (I.cp a u q)
  rw[hn] at e;cases e
theorem Inv.Hb{o:HO}(I:Inv X Pf σ H s)(k:∀ b u,s.heap.get? b=some u->h'.get? b=some u)(hn:s.heap.get? a=none)(new:cU X.prog X.w (upd H a o) h' a o) :
  Inv X Pf σ (upd H a o) { s with heap:=h',toks:=t' }:=by
 have ne:∀ b u,s.heap.get? b=some u->b≠a:=λb u e z=>by rw[z,hn] at e;cases e
 have RV:H a=none:=I.vh hn
 have R5:∀ b u,H b=some u->b≠a:=λb u e z=>by rw[z,RV] at e;cases e
 refine I.un ⟨λb u e _ _ _=>k b u e,λb u e _ _ _=>⟨u.slots,k b u e⟩,λb u e n _=>by rw[av (ne b u e)];exact n,λb u e _=>⟨u,k b u e⟩,
  λb xs e=>by rw[av (R5 b _ e)];exact e,λb ob u e=>by rw[av (R5 b _ e)];exact e,λb ps e=>⟨#[],by rw[av (R5 b _ e),e];simp⟩⟩ λb u e=>?_
 by_cases z:b=a
 ·subst z
  rw[aC] at e
  cases e
  exact new
 ·rw[av z] at e
  refine(I.cp b u e).pB (λc v _ q=>k c v q) (λc q=>?_) λc ys q=>?_
  ·rw[av (R5 c _ q)];exact q
  ·rw[av (R5 c _ q)];exact q
variable{apos:Pos}{m:Str}{ta:TE}{o:Expr}
section
variable{f:Str}{pos:Pos}
def NC(K:PySem.W.Frag):List V->Hp->VK->Prop:=λxs H Q=>∃ e C fo b,gU K C/\ExcAt H e C fo ∧
 ((∃ T,xs=[.ref e,.ty T]/\PySem.W.kitOne K (.ref C) (.type T)=some b)\/(∃ D,xs=[.ref e,.ref D]/\PySem.W.kitOne K (.ref C) (.ref D)=some b))/\Q (.bl b) H
theorem xf:dW X (.builtin "isinstance") (NC X.K):=by
 intro Pf s σ H xs us Q I r h
 obtain⟨e,C,fo,b,c,ha,hc,q⟩:=h
 obtain⟨ox,od,J,_⟩:=I.Fj ha
 rcases hc with ⟨T,rfl,hk⟩ | ⟨D,rfl,hk⟩
 ·cases r with
  | cons r1 r2 =>
   cases r2 with
   | cons r3 r4 =>
    cases r4
    cases (show _=Value.ref e from r1)
    cases (show _=Value.type T from r3)
    exact PySem.W.kia_one (wU c) I.kG J hk (λz=>nomatch z) λtk=>⟨.bl b,H,I.tok tk,rfl,q⟩
 ·cases r with
  | cons r1 r2 =>
   cases r2 with
   | cons r3 r4 =>
    cases r4
    cases (show _=Value.ref e from r1)
    cases (show _=Value.ref D from r3)
    exact PySem.W.kia_one (wU c) I.kG J hk (λz=>nomatch z) λtk=>⟨.bl b,H,I.tok tk,rfl,q⟩
end
variable{mg:Str->Option Value}
theorem ze{K:PySem.W.Frag}{N:Addr}{n:Str}{v:Value}(X:K.In h)(G:h.Ns N mg)(e:PySem.W.nsIn K N n=some (some v)):mg n=some v:=by
 obtain⟨o,es,ep,ho,hd,_,hf⟩:=G
 unfold PySem.W.nsIn at e
 split at e
 ·rename_i c d es' n' sl q
  have:=X _ _ q
  rw[ho] at this
  cases this
  cases hd
  split at e
  ·rename_i en he
   cases e
   rw[← hf]
   unfold nsFind findBy
   rw[← Array.find?_toList,he]
   rfl
  ·split at e <;> cases e
 ·cases e
theorem Fq{K:PySem.W.Frag}(X:K.In h)(q:PySem.W.excIn K C fW newId=true) :
  ∃ bm N nm qn bs Ru sn sub ab col dd k0 k1 k2 k3 k5 mN,h.get? C=some (excClassObj nm qn C N bs bm Ru sn sub ab col dd k0 k1 k2 k3 k5 newId)/\h.Ns N mN/\mN "__init__" = none/\OwnTail h fW bm:=by
 unfold PySem.W.excIn at q
 split at q
 ·rename_i dd cd sl ho
  split at q
  ·rename_i C' bm k0 k1 k2 k3 n k5 hm hs
   simp only[Bool.and_eq_true,beq_iff_eq,Bool.not_eq_true'] at q
   obtain⟨⟨⟨⟨⟨rfl,rfl⟩,RS⟩,ht⟩,cp⟩,RJ⟩:=q
   obtain⟨nm,bs,mro,ns,qn,hd,sn,sub,ab,col,del⟩:=cd
   dsimp only at hm RS cp RJ
   subst hm RS
   have hsl:sl=#[k0,k1,k2,k3,some (.builtin n),k5]:=by
    obtain⟨l⟩:=sl
    simp only at hs
    rw[hs]
   subst hsl
   exact⟨bm,ns,nm,qn,bs,hd,sn,sub,ab,col,dd,k0,k1,k2,k3,k5,_,X _ _ ho,.of_isNs (PySem.W.isNs_of_in X cp),PySem.W.nsMap_none_of_in X cp RJ,PySem.W.tail_of_in X ht⟩
  ·cases q
 ·cases q
theorem Dq{K:PySem.W.Frag}(X:K.In h)(q:qm K C newId f=true) :
  ∃ bm N nm qn bs Ru sn sub ab col dd k0 k1 k2 k3 k5 mN,h.get? C=some (excClassObj nm qn C N bs bm Ru sn sub ab col dd k0 k1 k2 k3 k5 newId)/\h.Ns N mN/\mN "__init__" = some (.ref f)/\OwnTail h fW bm:=by
 unfold qm at q
 split at q
 ·rename_i dd cd sl ho
  split at q
  ·rename_i C' bm k0 k1 k2 k3 n k5 hm hs
   simp only[Bool.and_eq_true,beq_iff_eq,Bool.not_eq_true'] at q
   obtain⟨⟨⟨⟨⟨rfl,rfl⟩,RS⟩,ht⟩,cp⟩,RJ⟩:=q
   obtain⟨nm,bs,mro,ns,qn,hd,sn,sub,ab,col,del⟩:=cd
   dsimp only at hm RS cp RJ
   subst hm RS
   have hsl:sl=#[k0,k1,k2,k3,some (.builtin n),k5]:=by
    obtain⟨l⟩:=sl
    simp only at hs
    rw[hs]
   subst hsl
   have hN:=Heap.Ns.of_isNs (PySem.W.isNs_of_in X cp)
   exact⟨bm,ns,nm,qn,bs,hd,sn,sub,ab,col,dd,k0,k1,k2,k3,k5,_,X _ _ ho,hN,ze X hN RJ,PySem.W.tail_of_in X ht⟩
  ·cases q
 ·cases q
variable{k:Nat}{t:TA}{es:List Expr}{e:Expr}{sp:Sp}{ps:List Str}{fd:FuncData}
section
variable{p pos:Pos}
end
section
open PySem.SeqAt (shaped noMix noMixAll)
end
section
open PySem.SeqAt (shaped noMix noMixAll)
theorem Gr{x:V}{u t:Value}(I:Inv X Pf σ H s)(rx:RelV x u)(ty:kA X.K H x t):∃ HH:Heap->Prop,PySem.W.KitX X.K u t HH/\HH s.heap/\u≠.builtin "__main__.__loader__#opaque" := by
 cases ty with
 | da=>cases (show u=Value.none from rx);exact⟨_,PySem.W.kitx_none,True.intro,λz=>nomatch z⟩
 | bl y=>cases (show u=Value.bool y from rx);exact⟨_,PySem.W.kitx_bool,True.intro,λz=>nomatch z⟩
 | int i=>obtain⟨t,q⟩:=(show ∃ t,u=Value.int i t from rx);cases q;exact⟨_,PySem.W.kitx_int,True.intro,λz=>nomatch z⟩
 | str y=>obtain⟨t,q⟩:=(show ∃ t,u=Value.str y t from rx);cases q;exact⟨_,PySem.W.kitx_str,True.intro,λz=>nomatch z⟩
 | GU y=>obtain⟨t,q⟩:=(show ∃ t,u=Value.float y t from rx);cases q;exact⟨_,PySem.W.kitx_float,True.intro,λz=>nomatch z⟩
 | @lst a xs ea =>
  cases (show u=Value.ref a from rx)
  obtain⟨_,_,n,_,h1⟩:=(show cU X.prog X.w H s.heap a (.lst xs) from I.cp a _ ea)
  exact⟨_,PySem.W.kitx_list,⟨_,h1,rfl⟩,λz=>nomatch z⟩
 | @sG a ob xs ea =>
  cases (show u=Value.ref a from rx)
  obtain⟨_,_,_,n,_,h1⟩:=(show cU X.prog X.w H s.heap a (.sG ob (.lst xs)) from I.cp a _ ea)
  exact⟨_,PySem.W.kitx_list,⟨_,h1,rfl⟩,λz=>nomatch z⟩
 | @tup a xs ea =>
  cases (show u=Value.ref a from rx)
  obtain⟨_,_,_,o,h1,h2,_⟩:=(show cU X.prog X.w H s.heap a (.tup xs) from I.cp a _ ea)
  exact⟨_,PySem.W.kitx_tuple,⟨o,h1,h2⟩,λz=>nomatch z⟩
 | @dK a Qu ea =>
  cases (show u=Value.ref a from rx)
  obtain⟨_,_,vs,_,o,es,ep,h1,h2,_⟩:=(show cU X.prog X.w H s.heap a (.dK Qu) from I.cp a _ ea)
  exact⟨_,PySem.W.kitx_dict,⟨o,h1,h2.1⟩,λz=>nomatch z⟩
 | @dT a Qu ea =>
  cases (show u=Value.ref a from rx)
  obtain⟨_,_,xs,_,o,es,ep,h1,h2,_⟩:=(show cU X.prog X.w H s.heap a (.dT Qu) from I.cp a _ ea)
  exact⟨_,PySem.W.kitx_dict,⟨o,h1,h2.1⟩,λz=>nomatch z⟩
 | @ins a C dx fs ea cl ha hn Kv hm =>
  cases (show u=Value.ref a from rx)
  obtain⟨mA,O,_⟩:=nM I.cp ea
  obtain⟨od,J,_⟩:=O.look
  exact⟨_,PySem.W.kitx_own (cl.get _) cl.hd ha hn Kv hm,J,λz=>nomatch z⟩
def Ml(K:PySem.W.Frag):List V->Hp->VK->Prop:=λxs H Q=>∃ (x:V) (tp:Addr) (Ts:List String) (t:Value) (b:Bool),xs=[x,.ref tp]/\H tp=some (.tup (Ts.map V.ty))/\kA K H x t/\PySem.W.kitAny K t (Ts.map Value.type)=some b/\Q (.bl b) H
theorem zK:∀ {Ts:List String} {us:List Value},Vals (Ts.map V.ty) us->us=Ts.map Value.type
 | [],us,r=>by rw[List.map_nil] at r;cases r;rfl
 | T::Ts,us,r=>by
  rw[List.map_cons] at r
  cases r with
  | cons r1 r2 =>
   cases (show _=Value.type T from r1)
   rw[zK r2]
   rfl
theorem AL:dW X (.builtin "isinstance") (Ml X.K):=by
 intro Pf s σ H xs us Q I r h
 obtain⟨x,tp,Ts,t,b,rfl,htp,ty,e,q⟩:=h
 cases r with
 | cons r1 r2 =>
  cases r2 with
  | cons r3 r4 =>
   cases r4
   cases (show _=Value.ref tp from r3)
   obtain⟨HH,Z,p,ne⟩:=Gr I r1 ty
   obtain⟨_,Ph,rv,o,h1,h2,n,h3⟩:=(show cU X.prog X.w H s.heap tp (.tup (Ts.map V.ty)) from I.cp tp _ htp)
   have ei:=zK rv
   subst ei
   obtain⟨cls,dd,data,sl⟩:=o
   dsimp only at h2 h3
   subst h2 h3
   exact PySem.W.kia_tup Z I.kG p h1 e ne λtk=>⟨.bl b,H,I.tok tk,rfl,q⟩
theorem zu:∀ {bs:List Bool} {us:List Value},Vals (bs.map V.bl) us->us=bs.map Value.bool
 | [],us,r=>by rw[List.map_nil] at r;cases r;rfl
 | b::bs,us,r=>by
  rw[List.map_cons] at r
  cases r with
  | cons r1 r2 =>
   cases (show _=Value.bool b from r1)
   rw[zu r2]
   rfl
theorem HQ:bootBuiltins "all" = some (.builtin "all"):=by decide +kernel
theorem A7(hc:X.calm=true):dW X (.builtin "all") (λxs H Q=>∃ (a:Addr) (bs:List Bool),xs=[.ref a]/\iT X.K H a (bs.map V.bl)/\Q (.bl (bs.all id)) H):=by
 intro Pf s σ H xs us Q I r h
 obtain⟨a,bs,rfl,hq,q⟩:=h
 cases r with
 | cons r1 r2 =>
  cases r2
  cases (show _=Value.ref a from r1)
  obtain⟨Ph,rv,p,hz⟩:=I.list hq
  have ei:=zu rv
  subst ei
  have hl:=p.isList
  have QQ:a<s.heap.objs.size:=by obtain⟨_,e,_⟩:=hl;exact Heap.lt_size e
  refine call_all_walk (wpAny_pyIter_list hl ?_)
  refine⟨s.heap.objs.size,[s.heap.objs.size,a],[s.heap.objs.size],(bs.map Value.bool).toArray.size,_,_,λi=>(bs[i]?).getD true,rfl,Walks.list (A:=X.A.in1) (I.ok.hd hc) _ a (Nat.ne_of_lt QQ) (bs.map Value.bool).toArray,
   ⟨⟨_,Heap.get?_push_size _ rfl,rfl,rfl⟩,hl.push _⟩,λi v s' Q' E' hP hQ=>?_,λh' tk hk=>?_⟩
  ·have hP':(bs.map Value.bool)[i]?=some v:=by simpa using hP
   rw[List.getElem?_map] at hP'
   obtain⟨b,e1,e2⟩:=Option.map_eq_some_iff.mp hP'
   subst e2
   simp only[e1,Option.getD_some] at hQ
   exact wpAny_truthy_bool hQ
  ·have e:((List.range (bs.map Value.bool).toArray.size).all λi=>(bs[i]?).getD true)=bs.all id:=by
    rw[List.size_toArray,List.length_map]
    rw[Bool.eq_iff_iff,List.all_eq_true,List.all_eq_true]
    constructor
    ·intro h b hb
     obtain⟨i,hi,e⟩:=List.getElem_of_mem hb
     have:=h i (List.mem_range.mpr hi)
     simp only[List.getElem?_eq_getElem hi,Option.getD_some,e] at this
     exact this
    ·intro h i hi
     have Sa:=List.mem_range.mp hi
     simp only[List.getElem?_eq_getElem Sa,Option.getD_some]
     exact h _ (List.getElem_mem Sa)
   rw[e]
   refine⟨.bl _,H,I.kept (t':=tk) (λb x e=>?_),rfl,q⟩
   exact hk b x (λhm=>by rw[List.mem_singleton.mp hm] at e;exact Nat.lt_irrefl _ (Heap.lt_size e)) (Heap.get?_push_of_some _ e)
end
section
open PySem.MeetsSeq PySem.MeetsSeq2 PySem.MeetsSeq3
theorem oH:fillsNumberSlot (.type "tuple") "mul" = pure false :=
 PySem.fillsNumberSlot_seq (id := "tuple.__mul__") (r:=some (.builtin "tuple.__rmul__")) F.slot_tuple_mul.lookup (by decide +kernel) F.slot_tuple_rmul.lookup (by decide +kernel)
theorem uG:seqRepeat? (.type "tuple")=pure (some (.builtin "tuple.__mul__")):=by
 unfold seqRepeat?
 rw[PySem.seqSlot_of (T := "tuple") (name := "__mul__") (id := "tuple.__mul__") F.slot_tuple_mul.lookup (by decide +kernel),PySem.seqSlot_of (T := "tuple") (name := "__rmul__") (id := "tuple.__rmul__") F.slot_tuple_rmul.lookup (by decide +kernel)]
 rfl
theorem vK(a:Int)(t:Tok)(l:Addr)(items:Array Value)(n:Nat)(dd:Option Addr)(sl:Array (Option Value)) :
  Meets (Builtin.«int.__rmul__» ⟨[.int a t,.ref l],[]⟩) (λ_ R s=>s.heap.get? l=some ⟨.type "tuple", dd,.seq items n,sl⟩/\R (.ok (.ret Value.notImplemented)) s) :=
 .of_wp λprog w A R s h=>by obtain⟨hp,g,d,tk,os⟩:=s;obtain⟨hl,h⟩:=h;wp_walk;exact⟨_,rfl,h⟩
theorem Aq(l:Addr)(items:Array Value)(n:Nat)(dd:Option Addr)(sl:Array (Option Value))(u:Tok) :
  Meets (Builtin.«tuple.__mul__» ⟨[.ref l,.int 1 u],[]⟩) (λ_ R s=>s.heap.get? l=some ⟨.type "tuple", dd,.seq items n,sl⟩/\R (.ok (.ret (.ref l))) s) :=
 .of_wp λprog w A R s h=>by
  obtain⟨hp,g,d,tk,os⟩:=s;obtain⟨hl,h⟩:=h;have f1:=AutoSeq1.idx_int;have f2:=AutoSeq1.sub_tuple_tuple
  wp_walk using AutoSeq1.wpAny_loadPart' hl
  exact⟨_,rfl,h⟩
theorem Au(l:Addr)(items:Array Value)(n:Nat)(dd:Option Addr)(sl:Array (Option Value))(x:Int)(u:Tok)(c0:¬ (decide (x < -2^63)||decide (x>=2^63))=true)(c1:¬ (items.isEmpty||x==1)=true)(c2:¬ (decide (x<=0)||items.isEmpty)=true)
  (c3:¬ (items.size:Int)*x>(2^63-1)/8) (c4:¬ Builtin.Tuple.tupleTooMany ((items.size:Int)*x)=true) (Q8:(List.foldl (λx1 x2=>x1++x2) #[] (List.replicate x.toNat items)).size<=sizeLine) :
  Meets (Builtin.«tuple.__mul__» ⟨[.ref l,.int x u],[]⟩) (λ_ R s=>s.heap.get? l=some ⟨.type "tuple", dd,.seq items n,sl⟩/\R (.ok (.ret (.ref s.heap.objs.size))) { s with heap:=s.heap.push { cls:=.type "tuple", data:=.seq (List.foldl (λx1 x2=>x1++x2) #[] (List.replicate x.toNat items)) },toks:=s.toks }) :=
 .of_wp λprog w A R s h=>by
  obtain⟨hp,g,d,tk,os⟩:=s;obtain⟨hl,h⟩:=h;have f1:=AutoSeq1.idx_int;have f2:=AutoSeq1.sub_tuple_tuple
  wp_walk using AutoSeq1.wpAny_loadPart' hl
  refine wpAny_ite_false (decide_eq_false c0) ?_;wp_walk using AutoSeq1.wpAny_loadPart' hl
  refine wpAny_ite_false (decide_eq_false c3) ?_;wp_walk using AutoSeq1.wpAny_loadPart' hl
  exact⟨_,rfl,h⟩
theorem Bv(l:Addr)(items:Array Value)(n:Nat)(dd:Option Addr)(sl:Array (Option Value))(x:Int)(u:Tok)(c0:¬ (decide (x < -2^63)||decide (x>=2^63))=true)(c1:¬ (items.isEmpty||x==1)=true)(c2:(decide (x<=0)||items.isEmpty)=true) :
  Meets (Builtin.«tuple.__mul__» ⟨[.ref l,.int x u],[]⟩) (λ_ R s=>s.heap.get? l=some ⟨.type "tuple", dd,.seq items n,sl⟩/\R (.ok (.ret (.ref s.heap.objs.size))) { s with heap:=s.heap.push { cls:=.type "tuple", data:=.seq #[] },toks:=s.toks }) :=
 .of_wp λprog w A R s h=>by
  obtain⟨hp,g,d,tk,os⟩:=s;obtain⟨hl,h⟩:=h;have f1:=AutoSeq1.idx_int;have f2:=AutoSeq1.sub_tuple_tuple
  wp_walk using AutoSeq1.wpAny_loadPart' hl
  refine wpAny_ite_false (decide_eq_false c0) ?_;wp_walk using AutoSeq1.wpAny_loadPart' hl
  exact⟨_,rfl,h⟩
def Hl(K:PySem.W.Frag):R2:=λx y H Q=>∃ a k xs,x=.ref a/\y=.int k/\iD K H a xs/\xs≠[]/\-(2^63)<=k/\k<2^63/\xs.length*k.toNat<=sizeLine/\(k=1->Q (.ref a) H)/\(k≠1->∀ p,H p=none->Q (.ref p) (upd H p (.tup (List.replicate k.toNat xs).flatten)))
theorem Gv:iu X (binaryOp .Mult) (Hl X.K):=by
 intro Pf s σ H x y v u Q I rx ry h
 obtain⟨a,k,xs,rfl,rfl,hq,Rm,h1,h2,hz,q1,q2⟩:=h
 cases rx
 obtain⟨t,rfl⟩:=ry
 obtain⟨Ph,r,⟨o,e,hc,n,hd⟩,_⟩:=I.tuple hq
 obtain⟨cls,dd,data,sl⟩:=o
 dsimp only at hc hd
 subst hc hd
 have hl:=r.length
 refine wpAny_binaryOp_repeat_ref (T := "tuple") (U := "int") (by decide) ⟨_,e,rfl⟩ (λs'=>typeIs_int s' k t) oH F.fills_int_mul F.slot_int_rmul uG F.slot_int_index.lookup
  (call_meets F.slot_int_rmul (typeIs_int s k t) F.entry_int_rmul (F.args_int_rmul_2 _ _) (vK k t a Ph.toArray n dd sl) ⟨e,rfl,⟨_,e,rfl⟩,?_⟩)
 by_cases hk1:k=1
 ·subst hk1
  exact call_meets F.slot_tuple_mul ⟨_,e,rfl⟩ F.entry_tuple_mul (F.args_tuple_mul_2 _ _) (Aq a Ph.toArray n dd sl t) ⟨e,⟨.ref a,H,I,rfl,q1 rfl⟩⟩
 ·have hb1:(k==1)=false:=by simpa using hk1
  have RJ:Ph≠[]:=λz=>Rm (r.mY.mp z)
  have hie:Ph.toArray.isEmpty=false:=by cases Ph with | nil=>exact absurd rfl RJ | cons _ _=>rfl
  have c0:¬ (decide (k < -2^63)||decide (k>=2^63))=true:=by simp;omega
  have c1:¬ (Ph.toArray.isEmpty||k==1)=true:=by rw[hie,hb1];simp
  have fin:∀ ys,ys=(List.replicate k.toNat Ph).flatten.toArray->EP X Pf σ Q (.ref s.heap.objs.size) { s with heap:=s.heap.push { cls:=.type "tuple", data:=.seq ys },toks:=s.toks }:=λys ey=>by
   subst ey
   refine⟨.ref s.heap.objs.size,_,I.laid (t':=s.toks) (o:=.tup (List.replicate k.toNat xs).flatten) (λb ob q=>Heap.get?_push_of_some _ q) (Nat.le_refl _) ?_,rfl,q2 hk1 _ (I.cp.fresh (Nat.le_refl _))⟩
   exact⟨by rw[len_rep,Nat.mul_comm];exact hz,_,r.rep k.toNat,IsTup.new _ _⟩
  have Q0:List.foldl (λx1 x2=>x1++x2) #[] (List.replicate k.toNat Ph.toArray)=(List.replicate k.toNat Ph).flatten.toArray:=by
   have:=foldl_rep Ph k.toNat []
   rw[List.nil_append] at this
   exact this
  by_cases hk0:k<=0
  ·have c2:(decide (k<=0)||Ph.toArray.isEmpty)=true:=by rw[decide_eq_true hk0];rfl
   refine call_meets F.slot_tuple_mul ⟨_,e,rfl⟩ F.entry_tuple_mul (F.args_tuple_mul_2 _ _) (Bv a Ph.toArray n dd sl k t c0 c1 c2) ⟨e,fin _ ?_⟩
   rw[show k.toNat=0 by omega]
   rfl
  ·have c2:¬ (decide (k<=0)||Ph.toArray.isEmpty)=true:=by rw[decide_eq_false hk0,hie];simp
   have em:((Ph.toArray.size:Nat):Int)*k=((xs.length*k.toNat:Nat):Int):=by
    rw[List.size_toArray,← hl,Int.natCast_mul,Int.toNat_of_nonneg (by omega)]
   have hs:(sizeLine:Int)<=(2^63-1)/8:=by decide
   refine call_meets F.slot_tuple_mul ⟨_,e,rfl⟩ F.entry_tuple_mul (F.args_tuple_mul_2 _ _) (Au a Ph.toArray n dd sl k t c0 c1 c2 ?_ ?_ ?_) ⟨e,fin _ Q0⟩
   ·rw[em];omega
   ·rw[em]
    unfold Builtin.Tuple.tupleTooMany
    simp only[decide_eq_true_eq]
    omega
   ·rw[Q0,List.size_toArray,len_rep,Nat.mul_comm,← hl]
    exact hz
end
structure bb (K:PySem.W.Frag) (x qual:Str) (st:Stmt) (dv:Value) (f:Addr) (fd:FuncData):Prop where
 ex:∃ (oc:Value) (od:Option Addr) (kV doc pm:Value) (an:Option Addr) (PD ct:Value) (R8:Array (Option Value)),
  fd=PySem.W.fnOf x qual (i6 st) (fD st) (a_ st) dv kV doc pm an PD ct/\K.lookup f=some ⟨oc,od,.func fd,R8⟩/\PySem.W.codeIn K PD qual=true
 kp:PySem.W.keepIn K (.ref f)=true
variable{base:Heap}
variable{ds:List Value}{T:Addr}{qual:Str}
section
variable{K:PySem.W.Frag}
theorem bb.binds{st:Stmt}{o:Obj}(F:bb K x qual st (.ref T) f fd)(ho:K.lookup T=some o)(hs:o.data=.seq items n)
  (h:∀ (kV doc pm:Value) (an:Option Addr) (PD ct:Value) (us:List Value),(us++ds).length=ps.length->∃ k,bindArgs (PySem.W.fnOf x qual (i6 st) (fD st) (a_ st) (.ref T) kV doc pm an PD ct) ⟨us,[]⟩=seqItems? (.ref T) >>= k/\k (some items)=pure (ps.zip (us++ds))):Binds K fd ps ds:=by
 obtain⟨oc,od,kV,doc,pm,an,PD,ct,R8,rfl,lk,QP⟩:=F.ex
 intro s us X hl
 obtain⟨k,h1,h2⟩:=h kV doc pm an PD ct us hl
 exact BindsTo.of_defaults rfl (X _ _ ho) hs h1 h2
end
variable{v:V}
theorem KA{pos:Pos}(hg:Gl X x)(hm:∃ u,X.mg x=some u/\RelV v u)(hd:autoParam ((x==("__debug__" : Str))=false) aD._auto_1):PE X (.Name x pos) (tC v):=by
 obtain⟨u,h1,h2⟩:=hm
 exact zQ hg h1 h2 hd
theorem HZ:bootBuiltins "max" = some (.builtin "max"):=by decide +kernel
variable{y:Str}
theorem FD{cl:List (Str×Addr)}{pos Q4 py:Pos}{wi:TI}{g:TG}{fs:List Str}(hN:X.N.Nodup)(SA:X.N[i]?=some y)(hy:Loc X.env.scope y)(Pr:X.calm=true)
  (PZ:closureFor scope X.env=pure cl) (hk:scope.kind=.function) (nc:gR scope.names=true) (lo:i0 scope.names=true) (fh:i4 cl scope.names=true) (ag:fw X cl) (fr:jJ X scope cl fs js)
  (hi:PI X tg iter wi) (hg:∀ C s₀ H₀ ex Pf,PG (rT X scope cl (ts++fs) C s₀ H₀ ex Pf) tg g) (he:∀ C s₀ H₀ ex Pf,PE (rT X scope cl (ts++fs) C s₀ H₀ ex Pf) elt te)
  (hs:autoParam (∀ x,foldedSetIterable iter X.env x=pure x) aI._auto_1) (Sj:autoParam (swapsWith (.ListComp elt [⟨tg,iter,[],0⟩] scope pos) (some (.Name y py)) Q4.line X.env=pure true) aR._auto_1)
  (hf:autoParam (X.fn y=true\/X.env.scope.names.lookup y=some .local) aF._auto_1) :
  PS X (.Assign [.Name y py] (.ListComp elt [⟨tg,iter,[],0⟩] scope pos) Q4) (FL (y_ wi g te ts js) (aE i)):=by
 intro Pf s σ H D I h
 rw[exec_Assign_Name_used _ _ _ _ Sj]
 refine wpAny_bind (wpAny_standAt (wpAny_bind ?_))
 show wpAny _ X.A (do let _ ← comprehension (.ListComp elt [⟨tg,iter,[],0⟩] scope pos) scope X.env _ (newList []) false (eval iter X.env) (some (assign (.Name y py) X.env))) _ _ s
 refine wpAny_bind (wpAny_mono (qp (tt:=none) Pr PZ hk nc lo fh ag fr hi hg (λ_ _ _ _ _=>trivial) he hs I (show Ac wi g none te ts js σ H (λx H1=>D.nx (σ.set i (some x)) H1) from h) (some (assign (.Name y py) X.env)) (λ_ s'=>SP X Pf D .next s') λDd H' s' C Io q hm f=>?_) (λ_ s' hq=>wpAny_pure (wpAny_pure hq)) λ_ _ e=>e)
 show wpAny _ X.A (assign (.Name y py) X.env (.ref Dd)) _ _ s'
 refine wpAny_assign_Name (oz Io hN SA hy (v:=.ref Dd) rfl (λTt I'' ⟨a,sb,ha⟩=>?_) hf)
 obtain⟨m,hn⟩:=hm
 obtain⟨f0,f1,f2,f3,f4,f5⟩:=f
 have naC:a≠C:=by
  rcases ha with z | z
  ·rw[z];exact λw=>f1 w.symm
  ·exact f4 y a z
 refine⟨m,hn.sameBut sb (Ne.symm naC),λh' Sv=>?_⟩
 exact⟨_,H',I''.other ⟨f0,f1,f2,f3,f4,f5⟩ Sv,q⟩
theorem qT(a b c:Value):checkTypeCall "zip" ⟨[a,b,c],[]⟩=pure ():=by kernel_rfl
theorem rZ(a b c:Value):checkBuiltinCall "zip.__new__" ⟨[.type "zip", a,b,c],[]⟩=pure ():=by kernel_rfl
abbrev cq(h:Heap)(T:Addr)(a b c:Value):Prop:=h.get? T=some { cls:=.type "tuple", data:=.seq #[a,b,c] }
structure Z3 (z TI TO i1 i2 i3:Addr):Prop where
 TIz:TI≠z
 TOz:TO≠z
 i1z:i1≠z
 i2z:i2≠z
 Ks:i3≠z
 TITO:TI≠TO
 TIi1:TI≠i1
 TIi2:TI≠i2
 MV:TI≠i3
 TOi1:TO≠i1
 TOi2:TO≠i2
 F2:TO≠i3
 i12:i1≠i2
 MR:i1≠i3
 MW:i2≠i3
structure L3 (z TO i1 i2 i3 l:Addr):Prop where
 z:l≠z
 o:l≠TO
 i1:l≠i1
 i2:l≠i2
 i3:l≠i3
section
variable{E:Value->Shared->Prop}
theorem ee{a b c x:Value}{Q:Unit->Shared->Prop}(hT:cq s.heap T a b c)
  (h:∀ h',h'.get? T=some { cls:=.type "tuple", data:=.seq ((#[a,b,c]:Array Value).setIfInBounds k x) }->Heap.SameBut T s.heap h'->Q () { s with heap:=h' }) :
  wpAny (model prog w) A (updateSeq T (·.setIfInBounds k x)) Q E s:=by
 refine wpAny_updateSeq hT rfl (h _ ?_ (Heap.SameBut.update ..))
 rw[Heap.get?_update_self _ hT rfl]
 simp[Obj.mapSeq]
variable{b1 b2 b3:Bool}{z TI TO i1 i2 i3 l3:Addr}{k3:Nat}{xs zs:Array Value}{x y v a b c:Value}
theorem AI(D:Z3 z TI TO i1 i2 i3)(D1:L3 z TO i1 i2 i3 l1)(D2:L3 z TO i1 i2 i3 l2)(D3:L3 z TO i1 i2 i3 l3)
  (hz:IsZip s.heap z TI TO .none) (Ql:cq s.heap TI (.ref i1) (.ref i2) (.ref i3)) (Qn:cq s.heap TO a b c)
  (h1:e9 s.heap b1 i1 l1 k1) (h2:e9 s.heap b2 i2 l2 k2) (h3:e9 s.heap b3 i3 l3 k3) (QY:gP s.heap b1 l1 xs) (QZ:gP s.heap b2 l2 ys) (RW:gP s.heap b3 l3 zs) (hx:xs[k1]?=some x) (hy:ys[k2]?=some y) (hv:zs[k3]?=some v)
  (hQ:∀ h',IsZip h' z TI TO (rawInt s.heap.objs.size)->cq h' TO x y v->e9 h' b1 i1 l1 (k1+1)->e9 h' b2 i2 l2 (k2+1)->e9 h' b3 i3 l3 (k3+1)->cq h' s.heap.objs.size x y v->h'.objs.size=s.heap.objs.size+1 ->
   (∀ c o,c≠z->c≠TO->c≠i1->c≠i2->c≠i3->s.heap.get? c=some o->h'.get? c=some o)->Q (.ref s.heap.objs.size) { s with heap:=h' }) :
  wpAny (model prog w) A (Builtin.«zip.__next__» ⟨[.ref z],[]⟩) (λfin s'=>∃ v,fin=.done (.ret v)/\Q v s') E s:=by
 show wpAny _ _ (field (.ref z) 2 >>= _) _ _ _
 refine wpAny_bind (wpAny_field hz rfl (x:=.bool false) rfl ?_)
 show wpAny _ _ (field (.ref z) 3 >>= _) _ _ _
 refine wpAny_bind (wpAny_field hz rfl (x:=.ref TI) rfl ?_)
 refine wpAny_bind (wpAny_seqItems Ql rfl ?_)
 show wpAny _ _ (Builtin.SmallTypes.ownedTupleIsFree (.ref z) >>= _) _ _ _
 refine wpAny_bind ?_
 unfold Builtin.SmallTypes.ownedTupleIsFree
 refine wpAny_bind (wpAny_field hz rfl (x:=.none) rfl (wpAny_pure ?_))
 simp only[if_true]
 refine wpAny_bind (wpAny_rule ?_)
 refine wpAny_bind (wpAny_field hz rfl (x:=.ref TO) rfl ?_)
 refine wpAny_bind (wpAny_setField_rec hz (by simp) λh₁ hz1 hs1=>?_)
 replace hz1:IsZip h₁ z TI TO .ellipsis:=hz1
 refine wpAny_bind ?_
 simp only[List.zipIdx_cons,List.zipIdx_nil,List.forIn_cons,List.forIn_nil]
 refine wpAny_bind (wpAny_bind (wpAny_onRaise ?_))
 show wpAny _ _ (Builtin.SmallTypes.nextOf (.ref i1) >>= _) _ _ _
 refine wpAny_bind (dC (h1.at λo e=>hs1.extBut _ _ D.i1z e) (QY.at λo e=>hs1.extBut _ _ D1.z e) hx λh₂ h1₂ hs2=>wpAny_pure ?_)
 have hTO2:cq h₂ TO a b c:=hs2.extBut _ _ D.TOi1 (hs1.extBut _ _ D.TOz Qn)
 refine wpAny_bind (wpAny_seqItems hTO2 rfl ?_)
 refine wpAny_bind (ee hTO2 λh₃ hTO3 hs3=>?_)
 replace hTO3:cq h₃ TO x b c:=hTO3
 refine wpAny_bind (wpAny_letGo (wpAny_pure ?_))
 have Sd:∀ q o,q≠z->q≠TO->q≠i1->s.heap.get? q=some o->h₃.get? q=some o:=λq o c1 c2 c3 e=>hs3.extBut _ _ c2 (hs2.extBut _ _ c3 (hs1.extBut _ _ c1 e))
 refine wpAny_bind (wpAny_bind (wpAny_onRaise ?_))
 show wpAny _ _ (Builtin.SmallTypes.nextOf (.ref i2) >>= _) _ _ _
 refine wpAny_bind (dC (h2.at λo e=>Sd _ o D.i2z D.TOi2.symm D.i12.symm e) (QZ.at λo e=>Sd _ o D2.z D2.o D2.i1 e) hy λh₄ h2₄ hs4=>wpAny_pure ?_)
 have hTO4:cq h₄ TO x b c:=hs4.extBut _ _ D.TOi2 hTO3
 refine wpAny_bind (wpAny_seqItems hTO4 rfl ?_)
 refine wpAny_bind (ee hTO4 λh₅ hTO5 hs5=>?_)
 replace hTO5:cq h₅ TO x y c:=hTO5
 refine wpAny_bind (wpAny_letGo (wpAny_pure ?_))
 have k5:∀ q o,q≠z->q≠TO->q≠i1->q≠i2->s.heap.get? q=some o->h₅.get? q=some o:=λq o c1 c2 c3 c4 e=>hs5.extBut _ _ c2 (hs4.extBut _ _ c4 (Sd q o c1 c2 c3 e))
 refine wpAny_bind (wpAny_bind (wpAny_onRaise ?_))
 show wpAny _ _ (Builtin.SmallTypes.nextOf (.ref i3) >>= _) _ _ _
 refine wpAny_bind (dC (h3.at λo e=>k5 _ o D.Ks D.F2.symm D.MR.symm D.MW.symm e) (RW.at λo e=>k5 _ o D3.z D3.o D3.i1 D3.i2 e) hv λh₆ h3₆ hs6=>wpAny_pure ?_)
 have hTO6:cq h₆ TO x y c:=hs6.extBut _ _ D.F2 hTO5
 refine wpAny_bind (wpAny_seqItems hTO6 rfl ?_)
 refine wpAny_bind (ee hTO6 λh₇ hTO7 hs7=>?_)
 replace hTO7:cq h₇ TO x y v:=hTO7
 refine wpAny_bind (wpAny_letGo (wpAny_pure (wpAny_pure ?_)))
 refine wpAny_bind (wpAny_seqItems hTO7 rfl ?_)
 refine wpAny_bind (wpAny_newTuple ?_)
 have Q8:h₇.objs.size=s.heap.objs.size:=by rw[hs7.1,hs6.1,hs5.1,hs4.1,hs3.1,hs2.1,hs1.1]
 have hz₃:IsZip h₃ z TI TO .ellipsis:=hs3.extBut _ _ D.TOz.symm (hs2.extBut _ _ D.i1z.symm hz1)
 have hz5:IsZip h₅ z TI TO .ellipsis:=hs5.extBut _ _ D.TOz.symm (hs4.extBut _ _ D.i2z.symm hz₃)
 have hz7:IsZip h₇ z TI TO .ellipsis:=hs7.extBut _ _ D.TOz.symm (hs6.extBut _ _ D.Ks.symm hz5)
 have k7:∀ q o,q≠z->q≠TO->q≠i1->q≠i2->q≠i3->s.heap.get? q=some o->h₇.get? q=some o:=λq o c1 c2 c3 c4 c5 e=>hs7.extBut _ _ c2 (hs6.extBut _ _ c5 (k5 q o c1 c2 c3 c4 e))
 have h1₇:e9 h₇ b1 i1 l1 (k1+1):=h1₂.at λo e=>hs7.extBut _ _ D.TOi1.symm (hs6.extBut _ _ D.MR (hs5.extBut _ _ D.TOi1.symm (hs4.extBut _ _ D.i12 (hs3.extBut _ _ D.TOi1.symm e))))
 have h2₇:e9 h₇ b2 i2 l2 (k2+1):=h2₄.at λo e=>hs7.extBut _ _ D.TOi2.symm (hs6.extBut _ _ D.MW (hs5.extBut _ _ D.TOi2.symm e))
 have h3₇:e9 h₇ b3 i3 l3 (k3+1):=h3₆.at λo e=>hs7.extBut _ _ D.F2.symm e
 have R0:z<h₇.objs.size:=Heap.lt_size hz7
 show wpAny _ _ (Builtin.SmallTypes.ownedTupleHandOut (.ref z) (.ref h₇.objs.size) >>= _) _ _ _
 refine wpAny_bind ?_
 unfold Builtin.SmallTypes.ownedTupleHandOut
 have hz₈:IsZip (h₇.push { cls:=.type "tuple", data:=.seq #[x,y,v] }) z TI TO .ellipsis:=Heap.get?_push_of_some _ hz7
 refine wpAny_bind (wpAny_setField_rec hz₈ (by simp) λh₉ hz9 hs9=>?_)
 replace hz9:IsZip h₉ z TI TO (rawInt h₇.objs.size):=hz9
 refine wpAny_setField_rec hz9 (by simp) λhA hzA hsA=>?_
 replace hzA:IsZip hA z TI TO (rawInt h₇.objs.size):=hzA
 have up:∀ c o,c≠z->h₇.get? c=some o->hA.get? c=some o:=λc o c1 e=>hsA.extBut _ _ c1 (hs9.extBut _ _ c1 (Heap.get?_push_of_some _ e))
 have hTA:cq hA h₇.objs.size x y v:=hsA.extBut _ _ (Nat.ne_of_gt R0) (hs9.extBut _ _ (Nat.ne_of_gt R0) (Heap.get?_push_size _ rfl))
 have Ti:hA.objs.size=h₇.objs.size+1:=by rw[hsA.1,hs9.1,Heap.size_push]
 rw[Q8] at hzA hTA Ti
 refine wpAny_pure ⟨_,rfl,?_⟩
 show Q (.ref h₇.objs.size) _
 rw[Q8]
 exact hQ hA hzA (up _ _ D.TOz hTO7) (h1₇.at λo e=>up _ o D.i1z e) (h2₇.at λo e=>up _ o D.i2z e) (h3₇.at λo e=>up _ o D.Ks e) hTA Ti λc o c1 c2 c3 c4 c5 e=>up c o c1 (k7 c o c1 c2 c3 c4 c5 e)
theorem B6{Q:Fin->Shared->Prop}(hh:A.handled=none)(D:Z3 z TI TO i1 i2 i3)(D1:L3 z TO i1 i2 i3 l1)(D2:L3 z TO i1 i2 i3 l2)(D3:L3 z TO i1 i2 i3 l3)
  (hz:IsZip s.heap z TI TO .none) (Ql:cq s.heap TI (.ref i1) (.ref i2) (.ref i3)) (Qn:cq s.heap TO a b c)
  (h1:e9 s.heap b1 i1 l1 k1) (h2:e9 s.heap b2 i2 l2 k2) (h3:e9 s.heap b3 i3 l3 k3) (QY:gP s.heap b1 l1 xs) (QZ:gP s.heap b2 l2 ys) (RW:gP s.heap b3 l3 zs) (Q6:xs[k1]?=none\/ys[k2]?=none\/zs[k3]?=none)
  (hE:∀ h' e,(∀ c o,c≠z->c≠TO->c≠i1->c≠i2->c≠i3->s.heap.get? c=some o->h'.get? c=some o)->(∃ o,h'.get? e=some o/\o.cls=.type "StopIteration")->E (.ref e) { s with heap:=h' }) :
  wpAny (model prog w) A (Builtin.«zip.__next__» ⟨[.ref z],[]⟩) Q E s:=by
 show wpAny _ _ (field (.ref z) 2 >>= _) _ _ _
 refine wpAny_bind (wpAny_field hz rfl (x:=.bool false) rfl ?_)
 show wpAny _ _ (field (.ref z) 3 >>= _) _ _ _
 refine wpAny_bind (wpAny_field hz rfl (x:=.ref TI) rfl ?_)
 refine wpAny_bind (wpAny_seqItems Ql rfl ?_)
 show wpAny _ _ (Builtin.SmallTypes.ownedTupleIsFree (.ref z) >>= _) _ _ _
 refine wpAny_bind ?_
 unfold Builtin.SmallTypes.ownedTupleIsFree
 refine wpAny_bind (wpAny_field hz rfl (x:=.none) rfl (wpAny_pure ?_))
 simp only[if_true]
 refine wpAny_bind (wpAny_rule ?_)
 refine wpAny_bind (wpAny_field hz rfl (x:=.ref TO) rfl ?_)
 refine wpAny_bind (wpAny_setField_rec hz (by simp) λh₁ hz1 hs1=>?_)
 replace hz1:IsZip h₁ z TI TO .ellipsis:=hz1
 refine wpAny_bind ?_
 simp only[List.zipIdx_cons,List.zipIdx_nil,List.forIn_cons,List.forIn_nil]
 refine wpAny_bind (wpAny_bind (wpAny_onRaise ?_))
 show wpAny _ _ (Builtin.SmallTypes.nextOf (.ref i1) >>= _) _ _ _
 cases hx:xs[k1]? with
 | none =>
  refine wpAny_bind (iO hh (h1.at λo e=>hs1.extBut _ _ D.i1z e) (QY.at λo e=>hs1.extBut _ _ D1.z e) hx λh₂ e hs2 he=>?_)
  obtain⟨oe,Q1,RB⟩:=he
  have hz2:IsZip h₂ z TI TO .ellipsis:=hs2 _ _ D.i1z.symm hz1
  have Si:e≠z:=λx=>by subst x;rw[hz2] at Q1;cases Q1;simp at RB
  refine wpAny_setField_rec hz2 (by simp) λh₃ _ hs3=>hE h₃ e (λc o c1 _ c3 _ _ x=>hs3.extBut _ _ c1 (hs2 _ _ c3 (hs1.extBut _ _ c1 x))) ⟨oe,hs3.extBut _ _ Si Q1,RB⟩
 | some x =>
  refine wpAny_bind (dC (h1.at λo e=>hs1.extBut _ _ D.i1z e) (QY.at λo e=>hs1.extBut _ _ D1.z e) hx λh₂ h1₂ hs2=>wpAny_pure ?_)
  have hTO2:cq h₂ TO a b c:=hs2.extBut _ _ D.TOi1 (hs1.extBut _ _ D.TOz Qn)
  refine wpAny_bind (wpAny_seqItems hTO2 rfl ?_)
  refine wpAny_bind (ee hTO2 λh₃ hTO3 hs3=>?_)
  replace hTO3:cq h₃ TO x b c:=hTO3
  refine wpAny_bind (wpAny_letGo (wpAny_pure ?_))
  have Sd:∀ q o,q≠z->q≠TO->q≠i1->s.heap.get? q=some o->h₃.get? q=some o:=λq o c1 c2 c3 e=>hs3.extBut _ _ c2 (hs2.extBut _ _ c3 (hs1.extBut _ _ c1 e))
  have hz₃:IsZip h₃ z TI TO .ellipsis:=hs3.extBut _ _ D.TOz.symm (hs2.extBut _ _ D.i1z.symm hz1)
  refine wpAny_bind (wpAny_bind (wpAny_onRaise ?_))
  show wpAny _ _ (Builtin.SmallTypes.nextOf (.ref i2) >>= _) _ _ _
  cases hy:ys[k2]? with
  | none =>
   refine wpAny_bind (iO hh (h2.at λo e=>Sd _ o D.i2z D.TOi2.symm D.i12.symm e) (QZ.at λo e=>Sd _ o D2.z D2.o D2.i1 e) hy λh₄ e hs4 he=>?_)
   obtain⟨oe,Q1,RB⟩:=he
   have hz4:IsZip h₄ z TI TO .ellipsis:=hs4 _ _ D.i2z.symm hz₃
   have Si:e≠z:=λx=>by subst x;rw[hz4] at Q1;cases Q1;simp at RB
   refine wpAny_setField_rec hz4 (by simp) λh₅ _ hs5=>hE h₅ e (λc o c1 c2 c3 c4 _ x=>hs5.extBut _ _ c1 (hs4 _ _ c4 (Sd c o c1 c2 c3 x))) ⟨oe,hs5.extBut _ _ Si Q1,RB⟩
  | some y =>
   have hv:zs[k3]?=none:=by
    rcases Q6 with h | h | h
    ·rw[hx] at h;cases h
    ·rw[hy] at h;cases h
    ·exact h
   refine wpAny_bind (dC (h2.at λo e=>Sd _ o D.i2z D.TOi2.symm D.i12.symm e) (QZ.at λo e=>Sd _ o D2.z D2.o D2.i1 e) hy λh₄ h2₄ hs4=>wpAny_pure ?_)
   have hTO4:cq h₄ TO x b c:=hs4.extBut _ _ D.TOi2 hTO3
   refine wpAny_bind (wpAny_seqItems hTO4 rfl ?_)
   refine wpAny_bind (ee hTO4 λh₅ hTO5 hs5=>?_)
   refine wpAny_bind (wpAny_letGo (wpAny_pure ?_))
   have k5:∀ q o,q≠z->q≠TO->q≠i1->q≠i2->s.heap.get? q=some o->h₅.get? q=some o:=λq o c1 c2 c3 c4 e=>hs5.extBut _ _ c2 (hs4.extBut _ _ c4 (Sd q o c1 c2 c3 e))
   have hz5:IsZip h₅ z TI TO .ellipsis:=hs5.extBut _ _ D.TOz.symm (hs4.extBut _ _ D.i2z.symm hz₃)
   refine wpAny_bind (wpAny_bind (wpAny_onRaise ?_))
   show wpAny _ _ (Builtin.SmallTypes.nextOf (.ref i3) >>= _) _ _ _
   refine wpAny_bind (iO hh (h3.at λo e=>k5 _ o D.Ks D.F2.symm D.MR.symm D.MW.symm e) (RW.at λo e=>k5 _ o D3.z D3.o D3.i1 D3.i2 e) hv λh₆ e hs6 he=>?_)
   obtain⟨oe,Q1,RB⟩:=he
   have hz6:IsZip h₆ z TI TO .ellipsis:=hs6 _ _ D.Ks.symm hz5
   have Si:e≠z:=λx=>by subst x;rw[hz6] at Q1;cases Q1;simp at RB
   refine wpAny_setField_rec hz6 (by simp) λh₇ _ hs7=>hE h₇ e (λc o c1 c2 c3 c4 c5 x=>hs7.extBut _ _ c1 (hs6 _ _ c5 (k5 c o c1 c2 c3 c4 x))) ⟨oe,hs7.extBut _ _ Si Q1,RB⟩
end
section
variable{E:Value->Shared->Prop}
variable{b1 b2 b3:Bool}{z TI TO i1 i2 i3 l3:Addr}{k3:Nat}{xs zs:Array Value}{x y v a b c:Value}
theorem oa{Q:Option Value->Shared->Prop}(D:Z3 z TI TO i1 i2 i3)(D1:L3 z TO i1 i2 i3 l1)(D2:L3 z TO i1 i2 i3 l2)(D3:L3 z TO i1 i2 i3 l3)
  (hz:IsZip s.heap z TI TO .none) (Ql:cq s.heap TI (.ref i1) (.ref i2) (.ref i3)) (Qn:cq s.heap TO a b c)
  (h1:e9 s.heap b1 i1 l1 k1) (h2:e9 s.heap b2 i2 l2 k2) (h3:e9 s.heap b3 i3 l3 k3) (QY:gP s.heap b1 l1 xs) (QZ:gP s.heap b2 l2 ys) (RW:gP s.heap b3 l3 zs) (hx:xs[k1]?=some x) (hy:ys[k2]?=some y) (hv:zs[k3]?=some v)
  (hQ:∀ h',IsZip h' z TI TO (rawInt s.heap.objs.size)->cq h' TO x y v->e9 h' b1 i1 l1 (k1+1)->e9 h' b2 i2 l2 (k2+1)->e9 h' b3 i3 l3 (k3+1)->cq h' s.heap.objs.size x y v->h'.objs.size=s.heap.objs.size+1 ->
   (∀ c o,c≠z->c≠TO->c≠i1->c≠i2->c≠i3->s.heap.get? c=some o->h'.get? c=some o)->Q (some (.ref s.heap.objs.size)) { s with heap:=h' }) :
  wpAny (model prog w) A (pyNext (.ref z)) Q E s:=by
 have hT:s.TypeIs (.ref z) "zip" := ⟨_,hz,rfl⟩
 unfold pyNext
 exact wpAny_bind (wpAny_attempt (wpAny_callSpecial?_slot (name:=Str.ofString "__next__") hT F.slot_zip_next
  (wpAny_call_entry F.slot_zip_next hT F.entry_zip_next
   (AI D D1 D2 D3 hz Ql Qn h1 h2 h3 QY QZ RW hx hy hv λh' a1 a2 a3 a4 a5 a6 a7 a8=>wpAny_pure (hQ h' a1 a2 a3 a4 a5 a6 a7 a8)) (F.args_zip_next_1 _))))
theorem o_{Q:Option Value->Shared->Prop}(hh:A.handled=none)(D:Z3 z TI TO i1 i2 i3)(D1:L3 z TO i1 i2 i3 l1)(D2:L3 z TO i1 i2 i3 l2)(D3:L3 z TO i1 i2 i3 l3)
  (hz:IsZip s.heap z TI TO .none) (Ql:cq s.heap TI (.ref i1) (.ref i2) (.ref i3)) (Qn:cq s.heap TO a b c)
  (h1:e9 s.heap b1 i1 l1 k1) (h2:e9 s.heap b2 i2 l2 k2) (h3:e9 s.heap b3 i3 l3 k3) (QY:gP s.heap b1 l1 xs) (QZ:gP s.heap b2 l2 ys) (RW:gP s.heap b3 l3 zs) (Q6:xs[k1]?=none\/ys[k2]?=none\/zs[k3]?=none)
  (hQ:∀ h',(∀ c o,c≠z->c≠TO->c≠i1->c≠i2->c≠i3->s.heap.get? c=some o->h'.get? c=some o)->Q none { s with heap:=h' }):wpAny (model prog w) A (pyNext (.ref z)) Q E s:=by
 have hT:s.TypeIs (.ref z) "zip" := ⟨_,hz,rfl⟩
 unfold pyNext
 refine wpAny_bind (wpAny_attempt (wpAny_callSpecial?_slot (name:=Str.ofString "__next__") hT F.slot_zip_next
  (wpAny_call_entry F.slot_zip_next hT F.entry_zip_next (B6 hh D D1 D2 D3 hz Ql Qn h1 h2 h3 QY QZ RW Q6 λh' e hk he=>?_) (F.args_zip_next_1 _))))
 obtain⟨o,ho,hc⟩:=he
 refine wpAny_bind (wpAny_isInstance (T := "StopIteration") (b:=true) ⟨o,ho,hc⟩ isSubtype_stop ?_)
 exact wpAny_pure (hQ _ hk)
end
abbrev MA(h:Heap)(b1 b2 b3:Bool)(l1 l2 l3:Addr):Heap:=(He h b1 b2 l1 l2).push (FY b3 l3)
abbrev Mw(h:Heap)(b1 b2 b3:Bool)(l1 l2 l3:Addr):Heap:=(MA h b1 b2 b3 l1 l2 l3).push { cls:=.type "tuple", data:=.seq #[.ref h.objs.size,.ref (Jd h b1 l1).objs.size,.ref (He h b1 b2 l1 l2).objs.size] }
abbrev MF(h:Heap)(b1 b2 b3:Bool)(l1 l2 l3:Addr):Heap:=(Mw h b1 b2 b3 l1 l2 l3).push { cls:=.type "tuple", data:=.seq #[.none,.none,.none] }
abbrev Kk(h:Heap)(b1 b2 b3:Bool)(l1 l2 l3:Addr):Heap:=(MF h b1 b2 b3 l1 l2 l3).push { cls:=.type "zip", data:=.fields #[.none,.bool false,.bool false,.ref (MA h b1 b2 b3 l1 l2 l3).objs.size,.ref (Mw h b1 b2 b3 l1 l2 l3).objs.size] }
theorem qg(b1 b2 b3:Bool)(l1 l2 l3:Addr)(xs ys zs:Array Value) :
  Meets (Builtin.«zip.__new__» ⟨[.type "zip", .ref l1,.ref l2,.ref l3],[]⟩) (λ_ R s=>gP s.heap b1 l1 xs/\gP s.heap b2 l2 ys/\gP s.heap b3 l3 zs ∧
   R (.ok (.ret (.ref (MF s.heap b1 b2 b3 l1 l2 l3).objs.size))) { s with heap:=Kk s.heap b1 b2 b3 l1 l2 l3 }) :=
 .of_wp λprog w A R s h=>by
  obtain⟨hp,g,d,tk,os⟩:=s;obtain⟨QY,QZ,RW,h⟩:=h
  have Td:=sub_zip
  have hL1:gP (Shared.heap ⟨hp,g,d,tk,os⟩) b1 l1 xs:=QY
  have hL2:gP (Shared.heap ⟨hp.push (FY b1 l1),g,d,tk,os⟩) b2 l2 ys:=gP.push QZ _
  have hL3:gP (Shared.heap ⟨(hp.push (FY b1 l1)).push (FY b2 l2),g,d,tk,os⟩) b3 l3 zs:=gP.push (gP.push RW _) _
  wp_walk using gE hL1,gE hL2,gE hL3
  exact⟨_,rfl,h⟩
section
variable{E:Value->Shared->Prop}
theorem Bz{b1 b2 b3:Bool}{l3:Addr}{xs zs:Array Value}(QY:gP s.heap b1 l1 xs)(QZ:gP s.heap b2 l2 ys)(RW:gP s.heap b3 l3 zs)
  (h:∀ h',IsZip h' (s.heap.objs.size+5) (s.heap.objs.size+3) (s.heap.objs.size+4) .none->cq h' (s.heap.objs.size+3) (.ref s.heap.objs.size) (.ref (s.heap.objs.size+1)) (.ref (s.heap.objs.size+2)) ->
   cq h' (s.heap.objs.size+4) .none .none .none->e9 h' b1 s.heap.objs.size l1 0->e9 h' b2 (s.heap.objs.size+1) l2 0->e9 h' b3 (s.heap.objs.size+2) l3 0 ->
   (∀ c o,s.heap.get? c=some o->h'.get? c=some o)->Q (.ref (s.heap.objs.size+5)) { s with heap:=h' }) :
  wpAny (model prog w) A (call (.type "zip") [.ref l1,.ref l2,.ref l3]) Q E s:=by
 refine callType_new F.called_zip (by decide) (qT _ _ _) (rZ _ _ _) (λobj=>F.initArgs_range_3 obj _ _ _) F.entry_zip_new
  (qg b1 b2 b3 l1 l2 l3 xs ys zs) ⟨QY,QZ,RW,?_⟩
 have z1:(Jd s.heap b1 l1).objs.size=s.heap.objs.size+1:=Heap.size_push ..
 have z2:(He s.heap b1 b2 l1 l2).objs.size=s.heap.objs.size+2:=by rw[Heap.size_push,z1]
 have z3:(MA s.heap b1 b2 b3 l1 l2 l3).objs.size=s.heap.objs.size+3:=by rw[Heap.size_push,z2]
 have z4:(Mw s.heap b1 b2 b3 l1 l2 l3).objs.size=s.heap.objs.size+4:=by rw[Heap.size_push,z3]
 have z5:(MF s.heap b1 b2 b3 l1 l2 l3).objs.size=s.heap.objs.size+5:=by rw[Heap.size_push,z4]
 have g6:(Kk s.heap b1 b2 b3 l1 l2 l3).get? (MF s.heap b1 b2 b3 l1 l2 l3).objs.size=some _:=Heap.get?_push_size _ rfl
 have g5:(Kk s.heap b1 b2 b3 l1 l2 l3).get? (Mw s.heap b1 b2 b3 l1 l2 l3).objs.size=some _:=Heap.get?_push_of_some _ (Heap.get?_push_size _ rfl)
 have g4:(Kk s.heap b1 b2 b3 l1 l2 l3).get? (MA s.heap b1 b2 b3 l1 l2 l3).objs.size=some _:=Heap.get?_push_of_some _ (Heap.get?_push_of_some _ (Heap.get?_push_size _ rfl))
 have g3:(Kk s.heap b1 b2 b3 l1 l2 l3).get? (He s.heap b1 b2 l1 l2).objs.size=some _:=Heap.get?_push_of_some _ (Heap.get?_push_of_some _ (Heap.get?_push_of_some _ (Heap.get?_push_size _ rfl)))
 have g2:(Kk s.heap b1 b2 b3 l1 l2 l3).get? (Jd s.heap b1 l1).objs.size=some _:=Heap.get?_push_of_some _ (Heap.get?_push_of_some _ (Heap.get?_push_of_some _ (Heap.get?_push_of_some _ (Heap.get?_push_size _ rfl))))
 have g1:(Kk s.heap b1 b2 b3 l1 l2 l3).get? s.heap.objs.size=some _:=Heap.get?_push_of_some _ (Heap.get?_push_of_some _ (Heap.get?_push_of_some _ (Heap.get?_push_of_some _ (Heap.get?_push_of_some _ (Heap.get?_push_size _ rfl)))))
 show _/\_
 rw[z3,z4,z5] at g6
 rw[z1,z2,z3] at g4
 rw[z4] at g5
 rw[z2] at g3
 rw[z1] at g2
 rw[z5]
 exact⟨⟨_,g6,rfl⟩,h _ g6 g4 g5 (e9.new _ b1 _ _ g1) (e9.new _ b2 _ _ g2) (e9.new _ b3 _ _ g3) λc o x =>
  Heap.get?_push_of_some _ (Heap.get?_push_of_some _ (Heap.get?_push_of_some _ (Heap.get?_push_of_some _ (Heap.get?_push_of_some _ (Heap.get?_push_of_some _ x)))))⟩
end
def Nq (K : PySem.W.Frag) (b1 b2 b3 : Bool) (a1 a2 a3 : Addr) : It :=
  ⟨λi H => ∃ xs ys zs x y v, lU K H b1 a1 xs /\ lU K H b2 a2 ys /\ lU K H b3 a3 zs /\ xs[i]? = some x /\ ys[i]? = some y /\ zs[i]? = some v,
   λi H r H' => ∃ p x y v, H p = none /\ r = .ref p /\ H' = upd H p (.tup [x, y, v]) /\ (∀ xs, lU K H b1 a1 xs -> xs[i]? = some x) /\ (∀ ys, lU K H b2 a2 ys -> ys[i]? = some y) /\ (∀ zs, lU K H b3 a3 zs -> zs[i]? = some v),
   λi H => ∃ xs ys zs, lU K H b1 a1 xs /\ lU K H b2 a2 ys /\ lU K H b3 a3 zs /\ (xs.length <= i \/ ys.length <= i \/ zs.length <= i)⟩
theorem tq{z TI TO i1 i2 i3:Addr}{xs:List V}(I:Inv X Pf σ H s)(h:lU X.K H b a xs)(hf:∀ b∈[z,TO,i1,i2,i3,TI],mG X Pf H b):L3 z TO i1 i2 i3 a :=
 ⟨c8 I h (hf z (by simp)),c8 I h (hf TO (by simp)),c8 I h (hf i1 (by simp)),c8 I h (hf i2 (by simp)),c8 I h (hf i3 (by simp))⟩
theorem AY{K:PySem.W.Frag}{tp:Pos}(b1 b2 b3:Bool)(a1 a2 a3 z TI TO i1 i2 i3:Addr)(D:Z3 z TI TO i1 i2 i3) :
  Turn P w K (.Tuple elts x1 tp) (Nq K b1 b2 b3 a1 a2 a3) [z,TO,i1,i2,i3,TI] z (λi h=>IsZip h z TI TO .none/\cq h TI (.ref i1) (.ref i2) (.ref i3)/\(∃ a b c,cq h TO a b c)/\e9 h b1 i1 a1 i/\e9 h b2 i2 a2 i/\e9 h b3 i3 a3 i) where
 mem:=by simp
 obj:=λi h st b hb=>by
  obtain⟨hz,Ql,⟨a,c,d,Qn⟩,h1,h2,h3⟩:=st
  simp only[List.mem_cons,List.mem_nil_iff,or_false] at hb
  rcases hb with q | q | q | q | q | q <;> subst q
  ·exact⟨_,hz,λv z=>by cases z⟩
  ·exact⟨_,Qn,λv z=>by cases z⟩
  ·obtain⟨o,vs,e,d⟩:=h1.obj
   exact⟨o,e,λv z=>by rw[d] at z;cases z⟩
  ·obtain⟨o,vs,e,d⟩:=h2.obj
   exact⟨o,e,λv z=>by rw[d] at z;cases z⟩
  ·obtain⟨o,vs,e,d⟩:=h3.obj
   exact⟨o,e,λv z=>by rw[d] at z;cases z⟩
  ·exact⟨_,Ql,λv z=>by cases z⟩
 keep:=λi h h' st k=>by
  obtain⟨hz,Ql,⟨a,c,d,Qn⟩,h1,h2,h3⟩:=st
  exact⟨k z (by simp) _ hz,k TI (by simp) _ Ql,⟨a,c,d,k TO (by simp) _ Qn⟩,h1.at λo e=>k i1 (by simp) o e,h2.at λo e=>k i2 (by simp) o e,h3.at λo e=>k i3 (by simp) o e⟩
 item:=by
  intro X hP hw hK hc i Pf s σ H E I hf st hg
  subst hP hw hK
  obtain⟨xs,ys,zs,x,y,v,Qm,P9,Rw,hx,hy,hv⟩:=hg
  obtain⟨R1,Sm,p1,Tg⟩:=I.row Qm
  obtain⟨Rc,Sn,p2,Th⟩:=I.row P9
  obtain⟨To,rv3,p3,hz3'⟩:=I.row Rw
  obtain⟨u1,hu1,ru1⟩:=Sm.get hx
  obtain⟨u2,hu2,ru2⟩:=Sn.get hy
  obtain⟨u3,hu3,ru3⟩:=rv3.get hv
  obtain⟨hz,Ql,⟨a,c,d,Qn⟩,h1,h2,h3⟩:=st
  obtain⟨oi1,vs1,S0,di1⟩:=h1.obj
  obtain⟨oi2,vs2,S1,di2⟩:=h2.obj
  obtain⟨oi3,vs3,ei3,di3⟩:=h3.obj
  refine oa D (tq I Qm hf) (tq I P9 hf) (tq I Rw hf) hz Ql Qn h1 h2 h3 p1 p2 p3 (x:=u1) (y:=u2) (v:=u3) (by simpa using hu1) (by simpa using hu2) (by simpa using hu3) λh' g1 g2 g3 g4 g4' g5 g6 g7=>⟨_,rfl,?_⟩
  refine wpAny_letOwnedTupleGo_zip (s:={ s with heap:=h' }) g1 λhN hz3 RE=>?_
  have Q0:H s.heap.objs.size=none:=I.cp.fresh (Nat.le_refl _)
  have lt:∀ {c:Addr} {o:Obj},s.heap.get? c=some o->c≠s.heap.objs.size:=λe=>Nat.ne_of_lt (Heap.lt_size e)
  have R4:∀ b o,b ∉ [z,TO,i1,i2,i3,TI]->s.heap.get? b=some o->hN.get? b=some o:=λb o hb q=>by
   simp only[List.mem_cons,List.mem_nil_iff,or_false,not_or] at hb
   exact(RE.2 b hb.1).trans (g7 b o hb.1 hb.2.1 hb.2.2.1 hb.2.2.2.1 hb.2.2.2.2.1 q)
  have hT3:hN.get? s.heap.objs.size=some { cls:=.type "tuple", data:=.seq #[u1,u2,u3] }:=(RE.2 _ (lt hz).symm).trans g5
  have I3:Inv X Pf σ (upd H s.heap.objs.size (.tup [x,y,v])) { s with heap:=hN,toks:=s.toks } :=
   I.lC (ch:=[z,TO,i1,i2,i3,TI]) R4 hf (Nat.le_refl _) (λb hb=>by
    simp only[List.mem_cons,List.mem_nil_iff,or_false] at hb
    rcases hb with q | q | q | q | q | q <;> subst q
    ·exact⟨_,hz⟩
    ·exact⟨_,Qn⟩
    ·exact⟨_,S0⟩
    ·exact⟨_,S1⟩
    ·exact⟨_,ei3⟩
    ·exact⟨_,Ql⟩)
    ⟨by show 3<=sizeLine;decide,[u1,u2,u3],.cons ru1 (.cons ru2 (.cons ru3 .nil)),⟨_,hT3,rfl,_,rfl⟩⟩
  refine⟨.ref s.heap.objs.size,_,I3,rfl,⟨_,x,y,v,Q0,rfl,rfl,λzs' Sk=>by rw[I.mR Sk Qm];exact hx,λzs' Sk=>by rw[I.mR Sk P9];exact hy,λzs' Sk=>by rw[I.mR Sk Rw];exact hv⟩,
   ⟨hz3,(RE.2 TI D.TIz).trans (g7 TI _ D.TIz D.TITO D.TIi1 D.TIi2 D.MV Ql),⟨_,_,_,(RE.2 TO D.TOz).trans g2⟩,g3.at λo e=>(RE.2 i1 D.i1z).trans e,g4.at λo e=>(RE.2 i2 D.i2z).trans e,g4'.at λo e=>(RE.2 i3 D.Ks).trans e⟩,λb hb=>?_⟩
  have nb:b≠s.heap.objs.size:=by
   simp only[List.mem_cons,List.mem_nil_iff,or_false] at hb
   rcases hb with q | q | q | q | q | q <;> subst q
   ·exact lt hz
   ·exact lt Qn
   ·exact lt S0
   ·exact lt S1
   ·exact lt ei3
   ·exact lt Ql
  rw[av nb]
  exact(hf b hb).1
 done:=by
  intro X hP hw hK hc i Pf s σ H E I hf st hg
  subst hP hw hK
  obtain⟨xs,ys,zs,Qm,P9,Rw,Q6⟩:=hg
  obtain⟨R1,Sm,p1,Tg⟩:=I.row Qm
  obtain⟨Rc,Sn,p2,Th⟩:=I.row P9
  obtain⟨To,rv3,p3,hz3'⟩:=I.row Rw
  obtain⟨hz,Ql,⟨a,c,d,Qn⟩,h1,h2,h3⟩:=st
  have l1:=Sm.length
  have l2:=Sn.length
  have l3:=rv3.length
  refine o_ (I.ok.hd hc) D (tq I Qm hf) (tq I P9 hf) (tq I Rw hf) hz Ql Qn h1 h2 h3 p1 p2 p3 ?_ λh' k=>⟨rfl,?_⟩
  ·rcases Q6 with q | q | q
   ·exact .inl (by simp;omega)
   ·exact .inr (.inl (by simp;omega))
   ·exact .inr (.inr (by simp;omega))
  ·exact I.z0 (t':=s.toks) (ch:=[z,TO,i1,i2,i3,TI]) (λb u hb e=>by
    simp only[List.mem_cons,List.mem_nil_iff,or_false,not_or] at hb
    exact k b u hb.1 hb.2.1 hb.2.2.1 hb.2.2.2.1 hb.2.2.2.2.1 e) hf
 self:=λ_ _ _ _ _ st h=>by
  obtain⟨hz,_⟩:=st
  exact wpAny_pyIter_zip hz h
theorem EV(n:Nat):Z3 (n+5) (n+3) (n+4) n (n+1) (n+2):=by
 refine⟨?_,?_,?_,?_,?_,?_,?_,?_,?_,?_,?_,?_,?_,?_,?_⟩ <;> (show @Ne Nat _ _;omega)
def Hh(K:PySem.W.Frag)(tl:TA):TI:=fun σ H R=>tl σ H λvs H1=>∃ b1 b2 b3 a1 a2 a3,vs=[.ref a1,.ref a2,.ref a3]/\(∃ xs,lU K H1 b1 a1 xs)/\(∃ ys,lU K H1 b2 a2 ys)/\(∃ zs,lU K H1 b3 a3 zs)/\R (Nq K b1 b2 b3 a1 a2 a3) H1
theorem zC{tp:Pos}{l1 l2 l3:Expr}{p pos:Pos}(hg:Gl X "zip")(hm:X.mg "zip" = none)(hl:PA X [l1,l2,l3] tl)(hs:autoParam (starEach [l1,l2,l3] X.env=[(false,eval l1 X.env),(false,eval l2 X.env),(false,eval l3 X.env)]) aR._auto_1)(Q2:autoParam (starEach [l2,l3] X.env=[(false,eval l2 X.env),(false,eval l3 X.env)]) aR._auto_1) :
  PI X (.Tuple elts x1 tp) (.Call (.Name "zip" p) [l1,l2,l3] [] pos) (Hh X.K tl):=by
 intro Pf s σ H R I h
 refine Call_ (ki I hg hm PyProof.Rows.boot_zip (PyProof.Rows.callWith_type1 (c9 (hl pos Pf s σ H _ I h) λus s1 ⟨vs,H1,I1,r1,q1⟩=>?_) (by rw[hs,Q2]) (by rw[Q2];rfl)))
 obtain⟨b1,b2,b3,a1,a2,a3,e,⟨xs,Qm⟩,⟨ys,P9⟩,⟨zs,Rw⟩,q⟩:=q1
 subst e
 cases r1 with
 | cons r rr =>
  cases rr with
  | cons r' rr =>
   cases rr with
   | cons Tr rr =>
    cases rr
    cases (show _=Value.ref a1 from r)
    cases (show _=Value.ref a2 from r')
    cases (show _=Value.ref a3 from Tr)
    obtain⟨R1,Sm,p1,Tg⟩:=I1.row Qm
    obtain⟨Rc,Sn,p2,Th⟩:=I1.row P9
    obtain⟨To,rv3,p3,hz3⟩:=I1.row Rw
    refine Bz p1 p2 p3 λh' g1 g2 g3 g4 g5 g6 g7=>?_
    have I2:Inv X Pf σ H1 { s1 with heap:=h' }:=I1.kept (t':=s1.toks) g7
    refine wpAny_pyIter_zip (s:={ s1 with heap:=h' }) g1 ?_
    refine⟨s1.heap.objs.size+5,[s1.heap.objs.size+5,s1.heap.objs.size+4,s1.heap.objs.size,s1.heap.objs.size+1,s1.heap.objs.size+2,s1.heap.objs.size+3],_,_,H1,rfl,I2,
     AY b1 b2 b3 a1 a2 a3 _ _ _ _ _ _ (EV s1.heap.objs.size),⟨g1,g2,⟨_,_,_,g3⟩,g4,g5,g6⟩,λb hb=>?_,q⟩
    have hle:s1.heap.objs.size<=b:=by
     simp only[List.mem_cons,List.mem_nil_iff,or_false] at hb
     rcases hb with q | q | q | q | q | q
     ·rw[q];exact Nat.le_add_right _ 5
     ·rw[q];exact Nat.le_add_right _ 4
     ·rw[q];exact Nat.le_refl _
     ·rw[q];exact Nat.le_add_right _ 1
     ·rw[q];exact Nat.le_add_right _ 2
     ·rw[q];exact Nat.le_add_right _ 3
    exact I1.vo hle (I1.cp.fresh hle)
variable{oe:Obj}{outer:List Env}
variable{to:Option Addr}
section
variable{M:Model}{E:Value->Shared->Prop}
theorem t9{env:Env}{L e:Addr}{vs:Array Value}{head:Value}{Sf:Bool}{Q:Unit->Shared->Prop}
  (RV:A.frames=some (env::outer)) (hl:s.heap.FunFrames base (env::outer)) (hf:env.frame=some L)
  (he:s.heap.get? e=some oe) (hd:oe.data=.fields vs) (Q8:1<vs.size)
  (h:∀ h' T oT ts,h'.get? e=some (Obj.mapFields (·.setIfInBounds 1 (.ref T)) oe)->s.heap.objs.size<=T->T≠e->h'.get? T=some oT->oT.data=.fields ts->ts[3]?=some (rawInt L) ->
   (∀ b o,b≠e->b ∉ xP (env::outer)->s.heap.get? b=some o->h'.get? b=some o)->(∀ b o,b≠e->s.heap.get? b=some o->∃ sl,h'.get? b=some { o with slots:=sl })->Q () { s with heap:=h' }) :
  wpAny M A (do let a ← frameOf env;let pl ← entryPlaceOf L Sf;let b ← EntryCells.newEntry head a .none (rawInt L) .none pl;setField (.ref e) 1 b) Q E s:=by
 have hene:e ∉ (env::outer).filterMap (·.frame):=λhm=>by
  obtain⟨_,o,ho,Tb⟩:=hl.mem hm
  rw[he] at ho;injection ho with ho;subst ho;exact Tb vs hd
 refine wpAny_bind (wpAny_frameOf_fun RV hl hf λh₁ hs1=>?_)
 refine wpAny_bind (wpAny_entryPlaceOf λpl PK=>?_)
 unfold EntryCells.newEntry newFields
 refine wpAny_bind (wpAny_newObj_type ?_ (PK.sizeOk5 _ _ _ _ _))
 have he1:h₁.get? e=some oe:=(hs1.2.1 e hene).trans he
 have he₂:=Heap.get?_push_of_some (h:=h₁) { cls:=.type "traceback", dict:=none,data:=.fields ([head,.ref L,.none,rawInt L,.none]++(if pl.isEmpty then List.replicate 6 Value.none else pl)).toArray } he1
 have hTe:h₁.objs.size≠e:=Nat.ne_of_gt (Heap.lt_size he1)
 have hd3:=Obj.data_mapFields hd (·.setIfInBounds 1 (Value.ref h₁.objs.size))
 have he3:=Heap.get?_update_self (Obj.mapFields (·.setIfInBounds 1 (Value.ref h₁.objs.size))) he₂ (Obj.isFreed_of_fields hd3)
 have hT₃:=(Heap.get?_update_other (h₁.push { cls:=.type "traceback", dict:=none,data:=.fields ([head,.ref L,.none,rawInt L,.none]++(if pl.isEmpty then List.replicate 6 Value.none else pl)).toArray })
  (Obj.mapFields (·.setIfInBounds 1 (Value.ref h₁.objs.size))) (Ne.symm hTe)).trans (Heap.get?_push_size h₁ rfl)
 have keep:∀ b o,b≠e->h₁.get? b=some o ->
   ((h₁.push { cls:=.type "traceback", dict:=none,data:=.fields ([head,.ref L,.none,rawInt L,.none]++(if pl.isEmpty then List.replicate 6 Value.none else pl)).toArray }).update e (Obj.mapFields (·.setIfInBounds 1 (Value.ref h₁.objs.size)))).get? b=some o:=λb o RI hb=>by
  rw[Heap.get?_update_other _ _ (Ne.symm RI)]
  exact Heap.get?_push_of_some _ hb
 refine wpAny_setField he₂ hd Q8 (h _ h₁.objs.size _ _ he3 ?_ hTe hT₃ rfl (by first | (simp;done) | (rcases PK with rfl | ⟨_,_,_,_,_,_,_,rfl⟩ <;> simp)) ?_ ?_)
 ·exact Nat.le_of_eq hs1.1.symm
 ·intro b o RI hbf hb
  exact keep b o RI ((hs1.2.1 b hbf).trans hb)
 ·intro b o RI hb
  obtain⟨sl,hs⟩:=hs1.2.2 b o hb
  exact⟨sl,keep b _ RI hs⟩
def Lies(h:Heap)(e:Addr)(vs:Array Value)(to:Option Addr):Prop:=match to with
 | none=>vs[1]?=some .none
 | some T=>vs[1]?=some (.ref T)/\T≠e/\∃ oT ts,h.get? T=some oT/\oT.data=.fields ts/\ts[3]?=some .none
theorem BE{env:Env}{L e:Addr}{vs:Array Value}{Q:Unit->Shared->Prop}
  (RV:A.frames=some (env::outer)) (hl:s.heap.FunFrames base (env::outer)) (hf:env.frame=some L)
  (he:s.heap.get? e=some oe) (hd:oe.data=.fields vs) (hto:Lies s.heap e vs to)
  (h:∀ h' T oT ts,h'.get? e=some (Obj.mapFields (·.setIfInBounds 1 (.ref T)) oe)->s.heap.objs.size<=T->T≠e->h'.get? T=some oT->oT.data=.fields ts->ts[3]?=some (rawInt L) ->
   (∀ b o,b≠e->(∀ T,to=some T->b≠T)->b ∉ xP (env::outer)->s.heap.get? b=some o->h'.get? b=some o) ->
   (∀ b o,b≠e->(∀ T,to=some T->b≠T)->s.heap.get? b=some o->∃ sl,h'.get? b=some { o with slots:=sl })->(∀ b o,s.heap.get? b=some o->∃ o',h'.get? b=some o')->Q () { s with heap:=h' }) :
  wpAny M A (noteFrame (.ref e) env) Q E s:=by
 unfold noteFrame
 simp only[hf]
 cases to with
 | none =>
  have h1:vs[1]?=some .none:=hto
  refine wpAny_bind (wpAny_field he hd h1 ?_)
  rw[if_neg (by decide)]
  refine t9 RV hl hf he hd (Array.getElem?_eq_some_iff.mp h1).1 λh' T oT ts a1 a2 a3 a4 a5 a6 a7 a8=>?_
  refine h h' T oT ts a1 a2 a3 a4 a5 a6 (λb o n1 _ n2 q=>a7 b o n1 n2 q) (λb o n1 _ q=>a8 b o n1 q) λb o q=>?_
  by_cases z:b=e
  ·subst z;exact⟨_,a1⟩
  ·obtain⟨sl,r⟩:=a8 b o z q;exact⟨_,r⟩
 | some T0 =>
  obtain⟨h1,hTe,oT,ts,hT,hdT,h3⟩:=hto
  refine wpAny_bind (wpAny_field he hd h1 ?_)
  rw[if_pos (show (Value.ref T0 != Value.none)=true from by simp)]
  refine wpAny_bind (wpAny_field hT hdT h3 ?_)
  rw[if_neg (show ¬ ((Value.none==rawInt L)=true) from by simp[rawInt])]
  refine wpAny_bind (wpAny_setField hT hdT (Array.getElem?_eq_some_iff.mp h3).1 ?_)
  have other:∀ b,b≠T0->(s.heap.update T0 (Obj.mapFields (·.setIfInBounds 3 Value.none))).get? b=s.heap.get? b:=λb hb=>Heap.get?_update_other _ _ (Ne.symm hb)
  have R7:∀ b o,s.heap.get? b=some o->(∀ vs,o.data≠.fields vs)->b≠T0:=λb o hb Tb q=>by
   rw[q,hT] at hb;injection hb with hb;subst hb;exact Tb ts hdT
  have Se:=Heap.get?_update_self (Obj.mapFields (·.setIfInBounds 3 Value.none)) hT (Obj.isFreed_of_fields (Obj.data_mapFields hdT _))
  refine t9 RV (hl.of_keeps λb o hb Tb=>⟨o,(other b (R7 b o hb Tb)).trans hb,rfl⟩) hf ((other e (Ne.symm hTe)).trans he) hd (Array.getElem?_eq_some_iff.mp h1).1 λh' T oT' ts' a1 a2 a3 a4 a5 a6 a7 a8=>?_
  refine h h' T oT' ts' a1 (by simpa [Heap.update] using a2) a3 a4 a5 a6 (λb o n1 n2 n3 q=>a7 b o n1 n3 ((other b (n2 T0 rfl)).trans q)) (λb o n1 n2 q=>a8 b o n1 ((other b (n2 T0 rfl)).trans q)) λb o q=>?_
  by_cases z:b=e
  ·subst z;exact⟨_,a1⟩
  ·by_cases z2:b=T0
   ·subst z2
    obtain⟨sl,r⟩:=a8 b _ z Se;exact⟨_,r⟩
   ·obtain⟨sl,r⟩:=a8 b o z ((other b z2).trans q);exact⟨_,r⟩
end
def lV(C:Addr)(dd:Option Addr)(e:Addr):HO:=.ext λh=>∃ t,h.get? e=some ⟨.ref C,dd,.fields #[.ref t,.none,.none,.none,.bool false,.none],#[]⟩
def Ly(C:Addr)(dd:Option Addr)(e T:Addr):HO:=.ext λh=>∃ vs,h.get? e=some ⟨.ref C,dd,.fields vs,#[]⟩/\vs[1]?=some (.ref T)
def OE(fl:Value)(T:Addr):HO:=.ext λh=>∃ oT ts,h.get? T=some oT/\oT.data=.fields ts/\ts[3]?=some fl
def rO(Hc:Hp)(e T C:Addr)(dd:Option Addr)(fl:Value):Hp:=upd (upd Hc T (OE fl T)) e (Ly C dd e T)
variable{fl:Value}{Hc:Hp}
theorem vY{e:Addr}:rO Hc e T C dd fl e=some (Ly C dd e T):=aC
theorem sW{e:Addr}(n:T≠e):rO Hc e T C dd fl T=some (OE fl T):=by unfold rO;rw[av n,aC]
theorem n9{e b:Addr}(n:b≠e)(n2:b≠T):rO Hc e T C dd fl b=Hc b:=by unfold rO;rw[av n,av n2]
theorem Inv.note{e:Addr}{vs:Array Value}{φ:Heap->Prop}{Q:Unit->Shared->Prop}{E:Value->Shared->Prop}(I:Inv X Pf σ H s)(PY:X.stack=X.env::X.outer)(hf:X.env.frame=some X.env.locals)
  (he:H e=some (.ext φ)) (hx:s.heap.get? e=some ⟨.ref C,dd,.fields vs,#[]⟩) (lies:Lies s.heap e vs to) (hT:∀ T,to=some T->(∃ ψ,H T=some (.ext ψ))/\Hc T=none) (hc:∀ b,b≠e->(∀ T,to=some T->b≠T)->Hc b=H b)
  (h:∀ h' T,Hc T=none->T≠e->Inv X Pf σ (rO Hc e T C dd (rawInt X.env.locals)) { s with heap:=h' }->Q () { s with heap:=h' }) :
  wpAny (model X.prog X.w) X.A (noteFrame (.ref e) X.env) Q E s:=by
 have hl:=I.stack
 have RV:=I.ok.frames
 have sf:=I.uH
 rw[PY] at hl RV sf
 refine BE (base:=X.base) RV hl hf hx rfl lies λh' T oT ts a1 a2 a3 a4 a5 a6 a7 a8 a9=>?_
 have hTn:H T=none:=I.cp.fresh a2
 have nT:∀ b u,H b=some u->b≠T:=λb u q z=>by rw[z,hTn] at q;cases q
 have RP:∀ b u,H b=some u->(∀ ψ,u≠.ext ψ)->b≠e/\∀ T0,to=some T0->b≠T0:=by
  intro b u q hu
  refine⟨λz=>?_,λT0 z w=>?_⟩
  ·rw[z,he] at q;exact hu _ (Option.some.inj q).symm
  ·obtain⟨⟨ψ,q2⟩,_⟩:=hT T0 z
   rw[w,q2] at q;exact hu _ (Option.some.inj q).symm
 have old:∀ b u,H b=some u->(∀ ψ,u≠.ext ψ)->rO Hc e T C dd (rawInt X.env.locals) b=some u:=λb u q hu=>by
  obtain⟨n1,n2⟩:=RP b u q hu
  rw[n9 n1 (nT b u q),hc b n1 n2];exact q
 have hcT:Hc T=none:=by
  by_cases z:∃ T0,to=some T0/\T=T0
  ·obtain⟨T0,z1,z2⟩:=z;rw[z2];exact(hT T0 z1).2
  ·rw[hc T a3 λT0 z1 z2=>z ⟨T0,z1,z2⟩];exact hTn
 have un:∀ b o,s.heap.get? b=some o->H b=none->b≠e/\(∀ T0,to=some T0->b≠T0)/\b≠T:=by
  intro b o q n
  refine⟨λz=>?_,λT0 z w=>?_,Nat.ne_of_lt (Nat.lt_of_lt_of_le (Heap.lt_size q) a2)⟩
  ·rw[z,he] at n;cases n
  ·obtain⟨⟨ψ,q2⟩,_⟩:=hT T0 z
   rw[w,q2] at n;cases n
 refine h h' T hcT a3 ?_
 have U:Un (xP X.stack) [] H (rO Hc e T C dd (rawInt X.env.locals)) s.heap h':=by
  rw[PY]
  refine⟨λb o q n nf _=>?_,λb o q n _ _=>?_,λb o q n _=>?_,λb o q _=>a9 b o q,λb xs q=>old b _ q (λ_ z=>nomatch z),λb ob u q=>old b _ q (λ_ z=>nomatch z),λb ps q=>⟨#[],?_⟩⟩
  ·obtain⟨n1,n2,_⟩:=un b o q n;exact a7 b o n1 n2 nf q
  ·obtain⟨n1,n2,_⟩:=un b o q n;exact a8 b o n1 n2 q
  ·obtain⟨n1,n2,n3⟩:=un b o q n
   rw[n9 n1 n3,hc b n1 n2];exact n
  ·rw[old b _ q (λ_ z=>nomatch z)];simp
 have ok:oM X.prog X.w (rO Hc e T C dd (rawInt X.env.locals)) h':=λb u q=>by
  by_cases z:b=e
  ·subst z
   rw[vY] at q;cases q
   refine⟨⟨_,a1,?_⟩,⟨_,a1⟩,λh1 h2 ⟨ws,q1,q2⟩ k=>⟨ws,k _ q1,q2⟩⟩
   have Q8:1<vs.size:=by
    cases to with
    | none=>exact(Array.getElem?_eq_some_iff.mp (show vs[1]?=some .none from lies)).1
    | some T0=>exact(Array.getElem?_eq_some_iff.mp lies.1).1
   simp[Q8]
  ·by_cases z2:b=T
   ·subst z2
    rw[sW a3] at q;cases q
    exact⟨⟨oT,ts,a4,a5,a6⟩,⟨_,a4⟩,λh1 h2 ⟨o1,t1,q1,q2,q3⟩ k=>⟨o1,t1,k _ q1,q2,q3⟩⟩
   ·rw[n9 z z2] at q
    have z3:∀ T0,to=some T0->b≠T0:=λT0 w w2=>by rw[w2,(hT T0 w).2] at q;cases q
    rw[hc b z z3] at q
    have nf:∀ c u',H c=some u'->c ∉ xP (X.env::X.outer):=λc u' q' hm=>by have:=sf c hm;rw[q'] at this;cases this
    refine(I.cp b u q).pB (λc v Sg q'=>?_) (λc q'=>old c _ q' (λ_ z=>nomatch z)) λc xs q'=>old c _ q' (λ_ z=>nomatch z)
    rcases Sg with rfl | Sg
    ·exact a7 c v z z3 (nf c u q) q'
    ·obtain⟨n1,n2⟩:=RP c _ Sg (λ_ z=>nomatch z)
     exact a7 c v n1 n2 (nf c _ Sg) q'
 exact I.call (ch:=[]) U ok I.bare (λb z=>absurd z (by simp))
theorem Inv.HG{e:Addr}(I:Inv X Pf σ (rO Hc e T C dd fl) s)(n:T≠e):∃ vs oT ts,s.heap.get? e=some ⟨.ref C,dd,.fields vs,#[]⟩/\vs[1]?=some (.ref T)/\s.heap.get? T=some oT/\oT.data=.fields ts/\ts[3]?=some fl:=by
 obtain⟨vs,h1,h2⟩:=(I.cp e _ vY).1
 obtain⟨oT,ts,q⟩:=(I.cp T _ (sW n)).1
 exact⟨vs,oT,ts,h1,h2,q⟩
theorem Inv.KC{e:Addr}{Q:Unit->Shared->Prop}{E:Value->Shared->Prop}(I:Inv X Pf σ (rO Hc e T C dd fl) s)(hfl:fl=.none\/fl=rawInt X.env.locals)(n:T≠e)(hcT:Hc T=none)(PY:X.stack=X.env::X.outer)(hf:X.env.frame=some X.env.locals)
  (h:∀ h' T,Hc T=none->T≠e->Inv X Pf σ (rO Hc e T C dd (rawInt X.env.locals)) { s with heap:=h' }->Q () { s with heap:=h' }) :
  wpAny (model X.prog X.w) X.A (noteFrame (.ref e) X.env) Q E s:=by
 obtain⟨vs,oT,ts,hx,h1,hT,hd,h3⟩:=I.HG n
 rcases hfl with rfl | rfl
 ·refine I.note (Hc:=Hc) (to:=some T) PY hf vY hx ⟨h1,n,oT,ts,hT,hd,h3⟩ (λT0 z=>?_) (λb n1 n2=>(n9 n1 (n2 T rfl)).symm) h
  cases z
  exact⟨⟨_,sW n⟩,hcT⟩
 ·unfold noteFrame
  simp only[hf]
  refine wpAny_bind (wpAny_field hx rfl h1 ?_)
  rw[if_pos (show (Value.ref T != Value.none)=true from by simp)]
  refine wpAny_bind (wpAny_field hT hd h3 ?_)
  rw[if_pos (show (rawInt X.env.locals==rawInt X.env.locals)=true from by simp)]
  exact wpAny_pure (h s.heap T hcT n I)
theorem Inv.Li{e:Addr}{Q:Unit->Shared->Prop}{E:Value->Shared->Prop}(I:Inv X Pf σ H s)(he:H e=some (lV C dd e))(PY:X.stack=X.env::X.outer)(hf:X.env.frame=some X.env.locals)
  (h:∀ h' T,upd H e (j4 C dd e) T=none->T≠e->Inv X Pf σ (rO (upd H e (j4 C dd e)) e T C dd (rawInt X.env.locals)) { s with heap:=h' }->Q () { s with heap:=h' }) :
  wpAny (model X.prog X.w) X.A (noteFrame (.ref e) X.env) Q E s:=by
 obtain⟨t,hx⟩:=(I.cp e _ he).1
 exact I.note (Hc:=upd H e (j4 C dd e)) (to:=none) PY hf he hx rfl (λ_ z=>by cases z) (λb n1 _=>av n1) h
theorem Inv.Dv{e:Addr}{fr:Option Addr}{Q:Unit->Shared->Prop}{E:Value->Shared->Prop}(I:Inv X Pf σ (rO Hc e T C dd fl) s)(n:T≠e)
  (h:∀ h',Inv X Pf σ (rO Hc e T C dd (fr.elim .none λf=>rawInt f)) { s with heap:=h' }->Q () { s with heap:=h' }) :
  wpAny (model X.prog X.w) X.A (setFlight (.ref e) fr) Q E s:=by
 obtain⟨vs,oT,ts,hx,h1,hT,hd,h3⟩:=I.HG n
 unfold setFlight
 refine wpAny_bind (wpAny_field hx rfl h1 ?_)
 rw[if_pos (show (Value.ref T != Value.none)=true from by simp)]
 have Q8:3<ts.size:=(Array.getElem?_eq_some_iff.mp h3).1
 refine wpAny_setField hT hd Q8 (h _ ?_)
 have other:∀ b,b≠T->(s.heap.update T (Obj.mapFields (·.setIfInBounds 3 (fr.elim Value.none λf=>rawInt f)))).get? b=s.heap.get? b:=λb hb=>Heap.get?_update_other _ _ (Ne.symm hb)
 have Se:=Heap.get?_update_self (Obj.mapFields (·.setIfInBounds 3 (fr.elim Value.none λf=>rawInt f))) hT (Obj.isFreed_of_fields (Obj.data_mapFields hd _))
 have nT:∀ b,rO Hc e T C dd fl b=none->b≠T:=λb q z=>by rw[z,sW n] at q;cases q
 have same:∀ b,b≠T->rO Hc e T C dd (fr.elim .none λf=>rawInt f) b=rO Hc e T C dd fl b:=λb z=>by
  by_cases w:b=e
  ·subst w;rw[vY,vY]
  ·rw[n9 w z,n9 w z]
 have ne:∀ b u,rO Hc e T C dd fl b=some u->(∀ ψ,u≠.ext ψ)->b≠T:=λb u q hu z=>by rw[z,sW n] at q;exact hu _ (Option.some.inj q).symm
 refine I.un (t':=s.toks) ⟨λb o q z _ _=>(other b (nT b z)).trans q,λb o q z _ _=>⟨o.slots,(other b (nT b z)).trans q⟩,λb o q z _=>by rw[same b (nT b z)];exact z,λb o q _=>?_,λb xs q=>?_,λb ob u q=>?_,λb ps q=>⟨#[],?_⟩⟩ λb u q=>?_
 ·by_cases z:b=T
  ·subst z;exact⟨_,Se⟩
  ·exact⟨o,(other b z).trans q⟩
 ·rw[same b (ne b _ q λ_ z=>nomatch z)];exact q
 ·rw[same b (ne b _ q λ_ z=>nomatch z)];exact q
 ·rw[same b (ne b _ q λ_ z=>nomatch z),q];simp
 ·by_cases z:b=T
  ·subst z
   rw[sW n] at q;cases q
   refine⟨⟨_,_,Se,Obj.data_mapFields hd _,?_⟩,⟨_,Se⟩,λh1 h2 ⟨o1,t1,q1,q2,q3⟩ k=>⟨o1,t1,k _ q1,q2,q3⟩⟩
   simp[Q8]
  ·rw[same b z] at q
   refine(I.cp b u q).pB (λc v hc q'=>(other c ?_).trans q') (λc q'=>?_) λc xs q'=>?_
   ·rcases hc with rfl | hc
    ·exact z
    ·exact ne c _ hc λ_ z=>nomatch z
   ·rw[same c (ne c _ q' λ_ z=>nomatch z)];exact q'
   ·rw[same c (ne c _ q' λ_ z=>nomatch z)];exact q'
def bU(P:Program)(w:World):Ky:=λouter H s E e s'=>∃ (ea T C:Addr) (dd:Option Addr) (Hc:Hp),e=.ref ea/\s'.os=s.os/\AllBare s'.gens/\Un (xP outer) [] H (rO Hc ea T C dd .none) s.heap s'.heap/\oM P w (rO Hc ea T C dd .none) s'.heap ∧
 Hc ea=some (j4 C dd ea)/\Hc T=none/\T≠ea/\E (.ref ea) none Hc
def Zx (X : Cx) (E : St -> XK) (e : Value) (s : Shared) : Prop := ∃ (ea C : Addr) (dd : Option Addr) (Pf : List (Addr × Obj)) (σ : St), e = .ref ea ∧
  ((∃ H, Inv X Pf σ H s /\ H ea = some (lV C dd ea) /\ E σ (.ref ea) none (upd H ea (j4 C dd ea))) ∨
   (∃ Hc T fl, Inv X Pf σ (rO Hc ea T C dd fl) s /\ (fl = .none \/ fl = rawInt X.env.locals) /\ Hc ea = some (j4 C dd ea) /\ Hc T = none /\ T ≠ ea /\ E σ (.ref ea) none Hc))
variable{E:St->XK}
theorem Zx.note{e:Value}{Q:Unit->Shared->Prop}{F:Value->Shared->Prop}(z:Zx X E e s)(PY:X.stack=X.env::X.outer)(hf:X.env.frame=some X.env.locals)
  (h:∀ s' ea C dd Pf σ Hc T,e=.ref ea->Inv X Pf σ (rO Hc ea T C dd (rawInt X.env.locals)) s'->Hc ea=some (j4 C dd ea)->Hc T=none->T≠ea->E σ (.ref ea) none Hc->Q () s') :
  wpAny (model X.prog X.w) X.A (noteFrame e X.env) Q F s:=by
 obtain⟨ea,C,dd,Pf,σ,rfl,⟨H,I,h1,h2⟩ | ⟨Hc,T,fl,I,h1,h2,h3,h4,h5⟩⟩:=z
 ·exact I.Li h1 PY hf λh' T q1 q2 I2=>h _ ea C dd Pf σ _ T rfl I2 aC q1 q2 h2
 ·exact I.KC h1 h4 h3 PY hf λh' T q1 q2 I2=>h _ ea C dd Pf σ _ T rfl I2 h2 q1 q2 h5
theorem Zx.IS{E:XK}{e:Value}{F:Value->Shared->Prop}(z:Zx X (λ_=>E) e s)(PY:X.stack=X.env::X.outer)(hf:X.env.frame=some X.env.locals)(hex:X.ex=[]) :
  wpAny (model X.prog X.w) X.A (leaving X.env e) (λ_ s'=>bU X.prog X.w X.outer X.H₀ X.s₀ E e s') F s:=by
 unfold leaving
 refine wpAny_bind (z.note PY hf λs' ea C dd Pf σ Hc T he I h1 h2 h3 h4=>?_)
 subst he
 refine I.Dv h3 λh' I2=>⟨ea,T,C,dd,Hc,rfl,I2.os,I2.bare,?_,I2.cp,h1,h2,h3,h4⟩
 have:=I2.base
 rw[hex] at this
 exact this
theorem Zx.own(PY:X.stack=X.env::X.outer)(hf:X.env.frame=some X.env.locals):PassesOwn (model X.prog X.w) X.A X.env (Zx X E):=by
 intro e s z
 refine z.note PY hf λs' ea C dd Pf σ Hc T he I h1 h2 h3 h4=>?_
 subst he
 obtain⟨vs,oT,ts,hx,q1,_⟩:=I.HG h3
 show wpAny _ _ _ _ _ _
 refine wpAny_bind (wpAny_field hx rfl q1 ?_)
 rw[if_neg (show ¬ ((Value.ref T==Value.none)=true) from by simp)]
 rw[hf]
 refine I.Dv h3 λh' I2=>⟨ea,C,dd,Pf,σ,rfl,.inr ⟨Hc,T,_,I2,.inr rfl,h1,h2,h3,h4⟩⟩
structure fH (X:Cx) (E:St->XK):Prop where
 pass:∀ (Pf:List (Addr×Obj)) (σ:St) (H:Hp) (s:Shared) (e:Value) (s':Shared),Inv X Pf σ H s->bU X.prog X.w X.stack H s (E σ) e s'->X.xe e s'
 new:∀ (Pf:List (Addr×Obj)) (σ:St) (H:Hp) (s:Shared) (e C:Addr) (dd:Option Addr),Inv X Pf σ H s->H e=some (lV C dd e)->E σ (.ref e) none (upd H e (j4 C dd e))->X.xe (.ref e) s
 own:PassesOwn (model X.prog X.w) X.A X.env X.xe
abbrev Cx.out(X:Cx)(E:St->XK):Cx:=X.sd (Zx X E)
theorem GY(PY:X.stack=X.env::X.outer)(hf:X.env.frame=some X.env.locals):fH (X.out E) E where
 pass:=by
  intro Pf σ H s e s' I h
  obtain⟨ea,T,C,dd,Hc,rfl,os,bare,un,cp,h1,h2,h3,hE⟩:=h
  have I':=I.ji.BQ (ch:=[]) os un cp bare (λb z=>absurd z (by simp))
  exact⟨ea,C,dd,Pf,σ,rfl,.inr ⟨Hc,T,.none,I',.inl rfl,h1,h2,h3,hE⟩⟩
 new:=λPf σ H s e C dd I he hE=>⟨e,C,dd,Pf,σ,rfl,.inl ⟨H,I.ji,he,hE⟩⟩
 own:=Zx.own PY hf
variable{N:List Str}{R8:Array (Option Value)}{an od:Option Addr}{body:List Stmt}{params:Arguments}
theorem yV{K:PySem.W.Frag}{dV kV doc pm PD ct oc:Value}(lk:K.lookup f=some ⟨oc,od,.func (PySem.W.fnOf name qual params body scope dV kV doc pm an PD ct),R8⟩)(QP:PySem.W.codeIn K PD qual=true)(S:cv N ps scope)
  (len:∀ vs H Q E,sp vs H Q E->vs.length=ps.length)
  (RQ:∀ (A:Around) (outer:List Env) (s:Shared) (H:Hp) (vs:List V) (Q:VK) (E:XK),cV k (A.deeper (envOfC qual scope s.heap.objs.size f PD))->sp vs H Q E ->
   ∃ t,nQ ((mJ (bU P w) P w K mg base N qual scope f PD A outer s H E).out λ_=>E) body t/\t { nx:=λ_ H'=>Q .da H',rt:=Q } (start N vs) H) :
  aO P w K mg base (bU P w) (k+1) f (PySem.W.fnOf name qual params body scope dV kV doc pm an PD ct) ps sp:=by
 refine LR lk QP S len λA outer s H vs Q E hr hs=>?_
 obtain⟨t,h1,h2⟩:=RQ A outer s H vs Q E hr hs
 refine⟨t,λPf s1 σ H1 D I q=>?_,h2⟩
 refine wpAny_mono (h1 Pf s1 σ H1 D (I.sd _) q) (λf s' z=>z.ji) λe s' z=>?_
 exact z.IS rfl rfl rfl
variable{pos':Pos}
section
open PySem.Builtin.ObjectAttr (storeInOwnDict storeTaker? setByDescriptor)
theorem vA{e t:Addr}(he:h.get? e=some ⟨.ref C,dd,.fields #[.ref t,.none,.none,.none,.bool false,.none],#[]⟩):cU P w H h e (lV C dd e) :=
 ⟨⟨t,he⟩,⟨_,he⟩,λ_ _ ⟨t,q⟩ k=>⟨t,k _ q⟩⟩
section
variable{p pos:Pos}
def KU(C:Addr)(t:TA):TE:=fun σ H Q=>t σ H λvs H1=>vs.length<=sizeLine/\∀ a,H1 a=none->Q (.ref a) (upd H1 a (lV C none a))
theorem GK(hc:PySem.W.excIn X.K C fW "ValueError.__new__" = true)(kp:PySem.W.keepIn X.K (.ref C)=true)(hg:Gl X x)(hm:X.mg x=some (.ref C))
  (ha:PA X (e::es) t) (QD:autoParam ((x==("__debug__" : Str))=false) aD._auto_1) (he:autoParam (starEach (e::es) X.env=(false,eval e X.env)::starEach es X.env) aR._auto_1) (PK:autoParam ((backTo pos (starEach es X.env)).any (·.1)=false) aR._auto_1) :
  PE X (.Call (.Name x p) (e::es) [] pos) (KU C t):=by
 intro Pf s σ H Q I h
 refine wpAny_Call_Name_kw (mI I hg hm ?_ QD)
 refine PySem.W.callWith_K (h₀:=X.base) I.ok.mod.Hj kp (c9 (ha pos Pf s σ H _ I h) λus s1 ⟨vs,H1,I1,r,hl,q⟩=>⟨I1.kG,?_⟩) he PK
 obtain⟨bm,N,nm,qn,bs,Ru,sn,sub,ab,col,dd,k0,k1,k2,k3,k5,mN,hC,hN,RJ,T⟩:=Fq I1.kG hc
 obtain⟨hp,g,d,tk,os⟩:=s1
 refine wpAny_call_exc_subT PySem.F.excBase_ValueError T hC hN RJ (λh' a M=>?_) (by show us.length<=sizeLine;rw[← r.length];exact hl)
 obtain⟨t',e1,_,_⟩:=M.there
 have I2:Inv X Pf σ (upd H1 a (lV C none a)) ⟨h',g,d,tk,os⟩:=I1.Hb (t':=tk) M.keeps M.new (vA e1)
 have hn:H1 a=none:=I1.vh M.new
 exact⟨.ref a,_,I2,rfl,q a hn⟩
def Je(C:Addr)(sp:Sp)(t:TA):TE:=fun σ H Q=>t σ H λvs H1=>vs.length<=sizeLine/\∀ a,H1 a=none->sp (.ref a::vs) (upd H1 a (lV C none a)) (λv H2=>v=.da/\Q (.ref a) H2) E0
theorem C8(hc:qm X.K C "ValueError.__new__" f=true)(hf:PySem.W.isFn X.K (.ref f)=true)(kp:PySem.W.keepIn X.K (.ref C)=true)(F:aO X.prog X.w X.K X.mg X.base (bU X.prog X.w) k f fd ps sp)(hr:cV (k+1) X.A)(hb:Binds X.K fd ps [])(hg:Gl X x)(hm:X.mg x=some (.ref C))
  (ha:PA X (e::es) t) (QD:autoParam ((x==("__debug__" : Str))=false) aD._auto_1) (he:autoParam (starEach (e::es) X.env=(false,eval e X.env)::starEach es X.env) aR._auto_1) (PK:autoParam ((backTo pos (starEach es X.env)).any (·.1)=false) aR._auto_1) :
  PE X (.Call (.Name x p) (e::es) [] pos) (Je C sp t):=by
 intro Pf s σ H Q I h
 refine wpAny_Call_Name_kw (mI I hg hm ?_ QD)
 refine PySem.W.callWith_K (h₀:=X.base) I.ok.mod.Hj kp (c9 (ha pos Pf s σ H _ I h) λus s1 ⟨vs,H1,I1,r,hl,q⟩=>⟨I1.kG,?_⟩) he PK
 have X1:=I1.kG
 obtain⟨bm,N,nm,qn,bs,Ru,sn,sub,ab,col,dd,k0,k1,k2,k3,k5,mN,hC,hN,RJ,T⟩:=Dq X1 hc
 obtain⟨hp,g,d,tk,os⟩:=s1
 have f1:=tc_lookup
 have f2:=tc_bind (.ref C)
 have hT:(⟨hp,g,d,tk,os⟩:Shared).TypeIs (.ref C) "type" := ⟨_,hC,rfl⟩
 refine wpAny_call (codeAny_of_tree ?_)
 show wpAny _ _ (callAny (.ref C) _) _ _ _
 repeat (any_goals (first | assumption | with_reducible refine wpAny_loadPart_at hC ?_ | wp_step))
 refine⟨rfl,?_⟩
 refine codeAny_call_builtin_at (Code.quiet_builtin _ (by decide +kernel)) entry_typeCall (wpAny_check_type_call_sub hC (rH PySem.F.excBase_ValueError T hC hN RJ
  (λh' kk self=>PySem.W.bind_fn (λb o z=>kk b o (X1 b o z)) self (beq_iff_eq.mp hf)) (λh' kk ht hx hz=>?_) (by show us.length<=sizeLine;rw[← r.length];exact hl)))
 have I2:Inv X Pf σ (upd H1 (hp.objs.size+1) (lV C none (hp.objs.size+1))) ⟨h',g,d,tk,os⟩:=I1.Hb (t':=tk) kk (Heap.get?_none_of_le (Nat.le_succ _)) (vA hx)
 have hq:=q (hp.objs.size+1) (I1.vh (Heap.get?_none_of_le (Nat.le_succ _)))
 have r2:Vals (V.ref (hp.objs.size+1)::vs) (Value.ref (hp.objs.size+1)::us):=.cons rfl r
 have hlen:(Value.ref (hp.objs.size+1)::us++[]).length=ps.length:=by
  rw[List.append_nil,← r2.length]
  exact F.len _ _ _ _ hq
 refine wpAny_call (codeAny_mono (F.run _ X.stack _ _ ⟨Value.ref (hp.objs.size+1)::us,[]⟩ (Value.ref (hp.objs.size+1)::us) _ _ E0 (hr.make C us []) (I2.mF.make C us []) (by have:=hb _ (Value.ref (hp.objs.size+1)::us) I2.kG hlen;rwa [List.append_nil] at this) r2 hq) λr s' RM=>?_)
 cases r with
 | error e =>
  obtain⟨_,_,_,_,_,_,_,_,_,_,_,_,_,z⟩:=RM
  exact z.elim
 | ok fl =>
  cases fl with
  | ret u =>
   obtain⟨v,H',I3,rv,ev,q3⟩:=I2.after RM
   subst ev
   exact⟨rv,⟨V.ref (hp.objs.size+1),H',I3,rfl,q3⟩⟩
  | next=>exact False.elim RM
  | brk=>exact False.elim RM
  | cont=>exact False.elim RM
def JW(K:PySem.W.Frag)(ta tv:TE)(f:Str):TS:=λD σ H=>tv σ H λy H1=>ta σ H1 λx H2=>∃ a C,x=.ref a/\H2 a=some (lV C none a)/\gU K C/\((PySem.W.clsIn K C).any λcd=>gk cd.mro)=true/\bC K C f ∧
 ∀ d,H2 d=none->d≠a->D.nx σ (upd (upd H2 d (.xd [(f,y)])) a (lV C (some d) a))
theorem Eb{value:Expr}{tv:TE}{n:Str}(ha:PE X o ta)(hv:PE X value tv)(hs:swapsWith value (some (.Attribute o n pos')) pos.line X.env=pure false):PS X (.Assign [.Attribute o n pos'] value pos) (JW X.K ta tv n):=by
 intro Pf s σ H D I h
 refine plainObj_wpAny_Assign_Attribute (c9 (hv Pf s σ H _ I h) λu s1 ⟨y,H1,I1,ry,q⟩=>c9 (ha Pf s1 σ H1 _ I1 q) λov s2 ⟨x,H2,I2,rx,a,C,ex,ea,c,po,na,q2⟩=>?_) hs
 subst ex
 obtain rfl:ov=Value.ref a:=rx
 obtain⟨tt,hx⟩:=(I2.cp a _ ea).1
 refine CM po c I2.kG hx na.Hu λh' tk d e1 e2 e3 e4=>?_
 have hd:H2 d=none:=I2.vh e2
 have nda:d≠a:=λz=>by rw[z,ea] at hd;cases hd
 refine⟨σ,_,?_,q2 d hd nda⟩
 have up:∀ b,b≠a->b≠d->upd (upd H2 d (.xd [(n,y)])) a (lV C (some d) a) b=H2 b:=λb h1 h2=>by rw[av h1,av h2]
 have nd:∀ b u,s2.heap.get? b=some u->b≠d:=λb u e z=>by rw[z,e2] at e;cases e
 have nH:∀ b u,H2 b=some u->b≠d:=λb u e z=>by rw[z,hd] at e;cases e
 have nE:∀ b u,H2 b=some u->(∀ C dd,u≠lV C dd a)->b≠a:=λb u e hu z=>by
  rw[z,ea] at e
  exact hu C none (Option.some.inj e).symm
 refine I2.un (t':=tk) ⟨λb u e z _ _=>e4 b u (λw=>by rw[w,ea] at z;cases z) e,λb u e z _ _=>⟨u.slots,e4 b u (λw=>by rw[w,ea] at z;cases z) e⟩,λb u e z _=>?_,λb u e _=>?_,λb xs e=>?_,λb ob u e=>?_,λb ps e=>?_⟩ λb u e=>?_
 ·rw[up b (λw=>by rw[w,ea] at z;cases z) (nd b u e)];exact z
 ·by_cases w:b=a
  ·rw[w];exact⟨_,e1⟩
  ·exact⟨u,e4 b u w e⟩
 ·rw[up b (nE b _ e λ_ _ z=>by cases z) (nH b _ e)];exact e
 ·rw[up b (nE b _ e λ_ _ z=>by cases z) (nH b _ e)];exact e
 ·exact⟨#[],by rw[up b (nE b _ e λ_ _ z=>by cases z) (nH b _ e),e];simp⟩
 ·by_cases w:b=a
  ·subst w
   rw[aC] at e
   cases e
   exact vA e1
  ·rw[av w] at e
   by_cases w2:b=d
   ·subst w2
    rw[aC] at e
    cases e
    refine⟨_,e3,λg=>?_⟩
    show nU (List.lookup g [(n,y)]) (if g=n then some _ else none)
    rw[List.lookup_cons]
    by_cases z:g=n
    ·rw[if_pos z,show (g==n)=true from by simp[z]];exact ry
    ·rw[if_neg z,show (g==n)=false from by simp[z]];exact True.intro
   ·rw[av w2] at e
    refine(I2.cp b u e).pB (λc v hc z=>e4 c v ?_ z) (λc z=>?_) λc ys z=>?_
    ·rcases hc with z' | z'
     ·rw[z'];exact w
     ·exact nE c _ z' λ_ _ z=>by cases z
    ·rw[up c (nE c _ z λ_ _ z=>by cases z) (nH c _ z)];exact z
    ·rw[up c (nE c _ z λ_ _ z=>by cases z) (nH c _ z)];exact z
end
end
section
variable{M:Model}{E:Value->Shared->Prop}
theorem G7{e:Addr}{o:Obj}(hx:s.heap.get? e=some o)(h:Q o.cls s):wpAny M A (typeOf (.ref e)) Q E s:=by
 unfold typeOf
 exact wpAny_bind (wpAny_loadPart hx (wpAny_pure h))
theorem zq{e:Addr}{o:Obj}{vs:Array Value}{Q:Bool->Shared->Prop}(hx:s.heap.get? e=some o)(hd:o.data=.fields vs)(h:Q false s):wpAny M A (isType (.ref e)) Q E s:=by
 unfold isType loadHead
 refine wpAny_bind (wpAny_loadPart hx (wpAny_pure ?_))
 rw[hd];exact h
end
def Ik(K:PySem.W.Frag)(E:St->XK)(te:TE):TS:=λD σ H=>te σ H λv H1=>∃ e C dd,v=.ref e/\H1 e=some (lV C dd e)/\gU K C/\PySem.W.typeIn K (.ref C)=some (.type "type")/\E σ (.ref e) none (upd H1 e (j4 C dd e))
theorem wy{exc:Expr}{pos:Pos}(O:fH X E)(Pr:X.calm=true)(he:PE X exc te):PS X (.Raise (some exc) none pos) (Ik X.K E te):=by
 intro Pf s σ H D I h
 rw[arm_exec_Raise]
 refine wpAny_bind (wpAny_standAt ?_)
 unfold raiseStmt
 dsimp only [evalOpt,Option.map]
 refine wpAny_bind (wpAny_bind (c9 (he Pf s σ H _ I h) λu s1 hq=>wpAny_bind (wpAny_standAt (wpAny_pure ?_))))
 obtain⟨v,H1,I1,rv,e,C,dd,ev,hN,c,ht,hE⟩:=hq
 subst ev
 obtain rfl:u=Value.ref e:=rv
 obtain⟨t,hx⟩:=(I1.cp e _ hN).1
 have X1:=I1.kG
 refine wpAny_bind (wpAny_pure ?_)
 refine wpAny_bind (wpAny_holding ?_)
 unfold excFromValue isExcClass
 refine wpAny_bind (wpAny_bind (zq hx rfl ?_))
 refine wpAny_pure ?_
 refine wpAny_bind ?_
 unfold isInstance
 refine wpAny_bind (G7 hx ((PySem.W.looks_mroIn X1 c.mb).here ?_))
 refine wpAny_pure ?_
 dsimp only
 refine wpAny_bind (zq hx rfl ?_)
 unfold raisedInstance
 refine wpAny_bind (wpAny_bind (G7 hx (wpAny_bind ((PySem.W.looks_typeIn X1 ht).here ?_))))
 refine wpAny_pure ?_
 unfold setFlight
 refine wpAny_bind (wpAny_bind (wpAny_field hx rfl (x:=.none) rfl ?_))
 refine wpAny_pure ?_
 exact wpAny_raiseNew_none (I1.ok.hd Pr) (O.new Pf σ H1 s1 e C dd I1 hN hE)
inductive PV where
 | da | bl (b:Bool) | int (i:Int) | str (x:Str)
 | tup (xs:List PV) | lst (xs:List PV)
 | kF (xs:List PV)
 | obj (C:Addr) (fs:List (Str×PV))
 | exc (C:Addr) (fo:Option (List (Str×PV)))
 | emp
 deriving Inhabited
mutual
inductive Rep (H:Hp):PV->V->Prop where
 | da:Rep H .da .da
 | bl (b:Bool):Rep H (.bl b) (.bl b)
 | int (i:Int):Rep H (.int i) (.int i)
 | str (x:Str):Rep H (.str x) (.str x)
 | tup {a:Addr} {xs:List PV} {vs:List V}:H a=some (.tup vs)->aZ H xs vs->Rep H (.tup xs) (.ref a)
 | lst {a:Addr} {xs:List PV} {vs:List V}:H a=some (.lst vs)->aZ H xs vs->Rep H (.lst xs) (.ref a)
 | kF {a:Addr} {o:Obj} {xs:List PV} {vs:List V}:H a=some (.sG o (.lst vs))->aZ H xs vs->Rep H (.kF xs) (.ref a)
 | obj {a C dx:Addr} {fs:List (Str×PV)} {vs:List (Str×V)}:H a=some (.ins C dx vs)->jE H fs vs->Rep H (.obj C fs) (.ref a)
 | Bc {a C:Addr}:H a=some (j4 C none a)->Rep H (.exc C none) (.ref a)
 | AN {a C d:Addr} {fs:List (Str×PV)} {vs:List (Str×V)}:H a=some (j4 C (some d) a)->H d=some (.xd vs)->jE H fs vs->Rep H (.exc C (some fs)) (.ref a)
 | emp {a:Addr}:H a=some (.dK [])->Rep H .emp (.ref a)
inductive aZ (H:Hp):List PV->List V->Prop where
 | nil:aZ H [] []
 | cons {p:PV} {v:V} {ps:List PV} {vs:List V}:Rep H p v->aZ H ps vs->aZ H (p::ps) (v::vs)
inductive jE (H:Hp):List (Str×PV)->List (Str×V)->Prop where
 | nil:jE H [] []
 | cons {n:Str} {p:PV} {v:V} {ps:List (Str×PV)} {vs:List (Str×V)}:Rep H p v->jE H ps vs->jE H ((n,p)::ps) ((n,v)::vs)
end
mutual
theorem Rep.mono{H H':Hp}(s:bM H H'):∀ {p:PV} {v:V},Rep H p v->Rep H' p v
 | _,_,.da=>.da
 | _,_,.bl b=>.bl b
 | _,_,.int i=>.int i
 | _,_,.str x=>.str x
 | _,_,.tup h r=>.tup (s _ _ h) (r.mono s)
 | _,_,.lst h r=>.lst (s _ _ h) (r.mono s)
 | _,_,.kF h r=>.kF (s _ _ h) (r.mono s)
 | _,_,.obj h r=>.obj (s _ _ h) (r.mono s)
 | _,_,.Bc h=>.Bc (s _ _ h)
 | _,_,.AN h h2 r=>.AN (s _ _ h) (s _ _ h2) (r.mono s)
 | _,_,.emp h=>.emp (s _ _ h)
theorem aZ.mono{H H':Hp}(s:bM H H'):∀ {p:List PV} {v:List V},aZ H p v->aZ H' p v
 | _,_,.nil=>.nil
 | _,_,.cons h r=>.cons (h.mono s) (r.mono s)
theorem jE.mono{H H':Hp}(s:bM H H'):∀ {p:List (Str×PV)} {v:List (Str×V)},jE H p v->jE H' p v
 | _,_,.nil=>.nil
 | _,_,.cons h r=>.cons (h.mono s) (r.mono s)
end
theorem aZ.length{H:Hp}:∀ {p:List PV} {v:List V},aZ H p v->p.length=v.length
 | _,_,.nil=>rfl
 | _,_,.cons _ r=>by simp[r.length]
theorem aZ.get{H:Hp}:∀ {p:List PV} {v:List V} {i:Nat} {x:PV},aZ H p v->p[i]?=some x->∃ u,v[i]?=some u/\Rep H x u
 | _,_,_,_,.nil,e=>by simp at e
 | _,_,0,_,.cons h _,e=>by simp at e;subst e;exact⟨_,rfl,h⟩
 | _,_,i+1,x,.cons _ r,e=>by
  obtain⟨u,h1,h2⟩:=aZ.get (i:=i) (x:=x) r (by simpa using e)
  exact⟨u,by simpa using h1,h2⟩
theorem aZ.append{H:Hp}:∀ {p q:List PV} {v u:List V},aZ H p v->aZ H q u->aZ H (p++q) (v++u)
 | _,_,_,_,.nil,s=>s
 | _,_,_,_,.cons h r,s=>.cons h (r.append s)
theorem aZ.take{H:Hp}:∀ {p:List PV} {v:List V} (n:Nat),aZ H p v->aZ H (p.take n) (v.take n)
 | _,_,0,_=>.nil
 | _,_,_+1,.nil=>.nil
 | _,_,n+1,.cons h r=>.cons h (r.take n)
theorem aZ.drop{H:Hp}:∀ {p:List PV} {v:List V} (n:Nat),aZ H p v->aZ H (p.drop n) (v.drop n)
 | _,_,0,r=>r
 | _,_,_+1,.nil=>.nil
 | _,_,n+1,.cons _ r=>r.drop n
theorem aZ.set{H:Hp}{x:PV}{u:V}(h:Rep H x u):∀ {p:List PV} {v:List V} (i:Nat),aZ H p v->aZ H (p.set i x) (v.set i u)
 | _,_,_,.nil=>.nil
 | _,_,0,.cons _ r=>.cons h r
 | _,_,i+1,.cons q r=>.cons q (r.set h i)
theorem aZ.snoc{p:List PV}{v:List V}{x:PV}{u:V}(r:aZ H p v)(h:Rep H x u):aZ H (p++[x]) (v++[u]):=r.append (.cons h .nil)
theorem jE.look{H:Hp}{f:Str}:∀ {p:List (Str×PV)} {v:List (Str×V)} {x:PV},jE H p v->p.lookup f=some x->∃ u,v.lookup f=some u/\Rep H x u
 | _,_,_,.nil,e=>by simp at e
 | (n,_)::_,_,x,.cons h r,e=>by
  rw[List.lookup_cons] at e ⊢
  cases q:f==n with
  | true=>rw[q] at e;cases e;exact⟨_,rfl,h⟩
  | false=>rw[q] at e;exact r.look e
theorem jE.none{H:Hp}{f:Str}:∀ {p:List (Str×PV)} {v:List (Str×V)},jE H p v->p.lookup f=none->v.lookup f=none
 | _,_,.nil,_=>rfl
 | (n,_)::_,_,.cons h r,e=>by
  rw[List.lookup_cons] at e ⊢
  cases q:f==n with
  | true=>rw[q] at e;cases e
  | false=>rw[q] at e;exact r.none e
theorem aZ.ints{H:Hp}:∀ {ns:List Int} {v:List V},aZ H (ns.map PV.int) v->v=ns.map V.int
 | [],_,.nil=>rfl
 | _::_,_,.cons (.int i) r=>by rw[r.ints];rfl
theorem aZ.Ln{H:Hp}:∀ {ns:List Bool} {v:List V},aZ H (ns.map PV.bl) v->v=ns.map V.bl
 | [],_,.nil=>rfl
 | _::_,_,.cons (.bl i) r=>by rw[r.Ln];rfl
structure cw (Hs H Pk H':Hp):Prop where
 st:bM Hs Pk
 al:bM H H'
 sub:bM Pk H'
 nw:∀ a o,Hs a=none->H a=some o->Pk a=none
variable{Hs:Hp}
theorem cw.refl(s:bM Hs H):cw Hs H Hs H:=⟨λ_ _ e=>e,λ_ _ e=>e,s,λ_ _ e _=>e⟩
variable{Px:Hp}
theorem cw.trans{H1 Pw H2:Hp}(a:cw Hs H Px H1)(b:cw Px H1 Pw H2):cw Hs H Pw H2 :=
 ⟨λc o e=>b.st c o (a.st c o e),λc o e=>b.al c o (a.al c o e),b.sub,λc o e q=>b.nw c o (a.nw c o e q) (a.al c o q)⟩
theorem cw.new{p:Addr}{o:HO}(s:bM Hs H)(n:H p=none):cw Hs H (upd Hs p o) (upd H p o):=by
 have ne:∀ c u,H c=some u->c≠p:=λc u e z=>by rw[z,n] at e;cases e
 refine⟨λc u e=>?_,λc u e=>?_,λc u e=>?_,λc u e q=>?_⟩
 ·rw[av (ne c u (s c u e))];exact e
 ·rw[av (ne c u e)];exact e
 ·by_cases z:c=p
  ·subst z;rw[aC] at e ⊢;exact e
  ·rw[av z] at e ⊢;exact s c u e
 ·rw[av (ne c u q)];exact e
inductive SV where
 | sh (p:PV)
 | ow (xs:List PV)
 | bd (a C:Addr) (fs:List (Str×PV))
abbrev af:=List (Option SV)
structure SR (B H₀ Hs H:Hp) (σ:St) (env:af):Prop where
 gr:cw B H₀ Hs H
 len:σ.length=env.length
 sh:∀ (i:Nat) (p:PV),env[i]?=some (some (.sh p))->∃ v,σ[i]?=some (some v)/\Rep Hs p v
 ow:∀ (i:Nat) (xs:List PV),env[i]?=some (some (.ow xs))->∃ a vs,σ[i]?=some (some (.ref a))/\H a=some (.lst vs)/\Hs a=none/\H₀ a=none/\aZ Hs xs vs
 sep:∀ (i j:Nat) (xs ys:List PV) (a:Addr),i≠j->env[i]?=some (some (.ow xs))->env[j]?=some (some (.ow ys))->σ[i]?=some (some (.ref a))->σ[j]?≠some (some (.ref a))
 bd:∀ (i:Nat) (a C:Addr) (fs:List (Str×PV)),env[i]?=some (some (.bd a C fs))->∃ dx vs,σ[i]?=some (some (.ref a))/\H a=some (.ins C dx vs)/\Hs a=none/\H₀ a=none/\jE Hs fs vs
 one:∀ (i j:Nat) (a b C D:Addr) (fs gs:List (Str×PV)),env[i]?=some (some (.bd a C fs))->env[j]?=some (some (.bd b D gs))->i=j
variable{H₀:Hp}
theorem SR.grow{B Pk H':Hp}{env:af}(r:SR B H₀ Hs H σ env)(g:cw Hs H Pk H'):SR B H₀ Pk H' σ env where
 gr:=r.gr.trans g
 len:=r.len
 sh:=λi p e=>let ⟨v,h1,h2⟩:=r.sh i p e;⟨v,h1,h2.mono g.st⟩
 ow:=λi xs e=>let ⟨a,vs,h1,h2,h3,h4,h5⟩:=r.ow i xs e;⟨a,vs,h1,g.al _ _ h2,g.nw _ _ h3 h2,h4,h5.mono g.st⟩
 sep:=r.sep
 bd:=λi a C fs e=>let ⟨dx,vs,h1,h2,h3,h4,h5⟩:=r.bd i a C fs e;⟨dx,vs,h1,g.al _ _ h2,g.nw _ _ h3 h2,h4,h5.mono g.st⟩
 one:=r.one
abbrev EX:=Addr×Option (List (Str×PV))
abbrev M(α:Type):=Option (Except EX α)
def M.ok{α:Type}(a:α):M α:=some (.ok a)
variable{α:Type}
noncomputable def M.bind{β:Type}(x:M α)(f:α->M β):M β:=match x with
 | some (.ok a)=>f a
 | some (.error e)=>some (.error e)
 | none=>none
instance:Monad M where
 pure:=M.ok
 bind:=M.bind
def ay(r:M α)(Q:α->Prop)(E:EX->Prop):Prop:=match r with
 | some (.ok a)=>Q a
 | some (.error e)=>E e
 | none=>False
theorem ay.imp{r:M α}{Q Q':α->Prop}{E E':EX->Prop}(h:ay r Q E)(hq:∀ a,Q a->Q' a)(he:∀ e,E e->E' e):ay r Q' E':=by
 cases r with
 | none=>exact h
 | some x=>cases x with
  | ok a=>exact hq a h
  | error e=>exact he e h
theorem ay.bind{α β:Type}{x:M α}{f:α->M β}{Q:β->Prop}{E:EX->Prop}(h:ay (x.bind f) Q E):ay x (λa=>ay (f a) Q E) E:=by
 cases x with
 | none=>exact h
 | some x=>cases x with
  | ok a=>exact h
  | error e=>exact h
def XW(E:XK)(Hs H:Hp)(x:EX):Prop:=∀ ea Pk H',cw Hs H Pk H'->Rep Pk (.exc x.1 x.2) (.ref ea)->E (.ref ea) none H'
theorem XW.grow{E:XK}{Pk H':Hp}{x:EX}(h:XW E Hs H x)(g:cw Hs H Pk H'):XW E Pk H' x:=λea Pw H2 g2 r=>h ea Pw H2 (g.trans g2) r
def tE(E:St->XK)(f:af->M PV):TE:=fun σ H Q=>∃ B H₀ Hs env,SR B H₀ Hs H σ env/\ay (f env) (λp=>∀ v Pk H',cw Hs H Pk H'->Rep Pk p v->Q v H') (XW (E σ) Hs H)
theorem PE.imp{t t':TE}(h:PE X e t)(i:∀ σ H Q,t' σ H Q->t σ H Q):PE X e t':=λPf s σ H Q I q=>h Pf s σ H Q I (i σ H Q q)
theorem vJ{f:af->M PV}{g:af->PV->M PV}{Q R:VK}(h:tE E (λenv=>(f env).bind (g env)) σ H Q)
  (k:∀ B H₀ Hs H1 env p v,SR B H₀ Hs H1 σ env->Rep Hs p v->ay (g env p) (λq=>∀ u Pk H',cw Hs H1 Pk H'->Rep Pk q u->Q u H') (XW (E σ) Hs H1)->R v H1):tE E f σ H R:=by
 obtain⟨B,H₀,Hs,env,sr,h⟩:=h
 refine⟨B,H₀,Hs,env,sr,(ay.bind h).imp (λp hp v Pk H' g r=>?_) λe he=>he⟩
 exact k B H₀ Pk H' env p v (sr.grow g) r (hp.imp (λq hq u Pw H2 g2 r2=>hq u Pw H2 (g.trans g2) r2) λe he=>he.grow g)
theorem z8{f g:af->M PV}{op:PV->PV->M PV}{r:R2}{Q:VK}(h:tE E (λenv=>(f env).bind λp=>(g env).bind λq=>op p q) σ H Q)
  (k:∀ Hs H1 p q v u,bM Hs H1->Rep Hs p v->Rep Hs q u->ay (op p q) (λz=>∀ w Pk H',cw Hs H1 Pk H'->Rep Pk z w->Q w H') (XW (E σ) Hs H1)->r v u H1 Q):Mg r (tE E f) (tE E g) σ H Q:=by
 refine vJ h λB H₀ Hs H1 env p v sr rp hp=>?_
 refine⟨B,H₀,Hs,env,sr,(ay.bind hp).imp (λq hq u Pk H' g ru=>?_) λe he=>he⟩
 exact k Pk H' p q v u (sr.grow g).gr.sub (rp.mono g.st) ru (hq.imp (λz hz w Pw H2 g2 r2=>hz w Pw H2 (g.trans g2) r2) λe he=>he.grow g)
theorem KQ{f:af->M PV}{op:PV->M PV}{r:V->Hp->VK->Prop}{Q:VK}(h:tE E (λenv=>(f env).bind op) σ H Q)
  (k:∀ Hs H1 p v,bM Hs H1->Rep Hs p v->ay (op p) (λz=>∀ w Pk H',cw Hs H1 Pk H'->Rep Pk z w->Q w H') (XW (E σ) Hs H1)->r v H1 Q):OF r (tE E f) σ H Q :=
 vJ h λB H₀ Hs H1 env p v sr rp hp=>k Hs H1 p v sr.gr.sub rp hp
def HW(sp:Sp)(Qp:List V)(E:St->XK)(t:TA):TE:=fun σ H Q=>t σ H λvs H1=>sp (vs++Qp) H1 Q (E σ)
def Cz(C:Addr)(m:Str)(sp:Sp)(Qp:List V)(E:St->XK)(ta:TE)(t:TA):TE:=fun σ H Q=>ta σ H λx H1=>∃ a dx fs,x=.ref a/\H1 a=some (.ins C dx fs)/\fs.lookup m=none ∧
 t σ H1 λvs H2=>sp (x::(vs++Qp)) H2 Q (E σ)
def Kc(C:Addr)(sp:Sp)(Qp:List V)(E:St->XK)(t:TA):TE:=fun σ H Q=>t σ H λvs H1=>∀ x dx,H1 x=none->H1 dx=none->dx≠x ->
 sp (.ref x::(vs++Qp)) (upd (upd H1 dx (.own x)) x (.ins C dx [])) (λv H2=>v=.da/\Q (.ref x) H2) (E σ)
variable{Qp:List V}
variable{vs:List V}{us:List Value}
variable{pl:Sem Bool}
section
variable{p pos:Pos}
theorem pQ{Q:VK}(F:aO X.prog X.w X.K X.mg X.base (bU X.prog X.w) k f fd ps sp)(hr:cV k X.A)(hb:Binds X.K fd ps ds)(hd:Vals Qp ds)(hx:fH X E)
  (I:Inv X Pf σ H s) (r:Vals vs us) (h:sp (vs++Qp) H Q (E σ)):wpAny (model X.prog X.w) X.A (call (.ref f) us) (EP X Pf σ Q) X.xe s:=by
 have r2:Vals (vs++Qp) (us++ds):=r.append hd
 have hl:(us++ds).length=ps.length:=by rw[← r2.length];exact F.len _ _ _ _ h
 refine wpAny_call (codeAny_mono (F.run X.A X.stack s H ⟨us,[]⟩ (us++ds) (vs++Qp) Q (E σ) hr I.mF (hb s us I.kG hl) r2 h) λr s' hq=>?_)
 cases r with
 | error e=>exact hx.pass Pf σ H s e s' I hq
 | ok fl =>
  cases fl with
  | ret u=>exact I.after hq
  | next=>exact False.elim hq
  | brk=>exact False.elim hq
  | cont=>exact False.elim hq
theorem Cu(F:aO X.prog X.w X.K X.mg X.base (bU X.prog X.w) k f fd ps sp)(hr:cV k X.A)(hg:Gl X x)(hm:X.mg x=some (.ref f))(hk:PySem.W.keepIn X.K (.ref f)=true)(hb:Binds X.K fd ps ds)(hd:Vals Qp ds)(hx:fH X E)
  (ha:PA X (e::es) t) (QD:autoParam ((x==("__debug__" : Str))=false) aD._auto_1) (he:autoParam (starEach (e::es) X.env=(false,eval e X.env)::starEach es X.env) aR._auto_1) (PK:autoParam ((backTo pos (starEach es X.env)).any (·.1)=false) aR._auto_1) :
  PE X (.Call (.Name x p) (e::es) [] pos) (HW sp Qp E t):=by
 intro Pf s σ H Q I h
 refine wpAny_Call_Name_kw (mI I hg hm ?_ QD)
 refine PySem.W.callWith_K (h₀:=X.base) I.ok.mod.Hj hk (c9 (ha pos Pf s σ H _ I h) λus s1 ⟨vs,H1,I1,r,q⟩=>⟨I1.kG,?_⟩) he PK
 exact pQ F hr hb hd hx I1 r q
theorem CN(he:PE X o ta)(c:jl X.K C)(hm:Meth X.K C m f)(F:aO X.prog X.w X.K X.mg X.base (bU X.prog X.w) k f fd ps sp)(hr:cV k X.A)(hb:Binds X.K fd ps ds)(hd:Vals Qp ds)(hx:fH X E)(ha:PA X (e::es) t)
  (PY:autoParam (starEach (e::es) X.env=(false,eval e X.env)::starEach es X.env) aR._auto_1) (PK:autoParam ((backTo pos (starEach es X.env)).any (·.1)=false) aR._auto_1)
  (ht:autoParam (eval (.Call (.Attribute o m apos) (e::es) [] pos) X.env=(do
   let ov ← eval o X.env
   standAt apos.atName
   let (f,first) ← holding [ov] (getMethod ov m pl)
   callWith pos f first (backTo pos (starEach (e::es) X.env)) (backToKw pos (keywordEach [] X.env)))) aR._auto_1) :
  PE X (.Call (.Attribute o m apos) (e::es) [] pos) (Cz C m sp Qp E ta t):=by
 intro Pf s σ H Q I h
 refine PySem.W.methodCall_KW (pl:=pl) (c9 (he Pf s σ H _ I h) λu s1 ⟨x,H1,I1,rx,a,dx,fs,ex,ea,l,q⟩=>?_) ht
 subst ex
 obtain rfl:u=Value.ref a:=rx
 refine mj I1 ea c hm l ?_
 refine PySem.W.callWith_K (first:=[.ref a]) (h₀:=X.base) I.ok.mod.Hj hm.kp (c9 (ha pos Pf s1 σ H1 _ I1 q) λus s2 ⟨vs,H2,I2,r,q2⟩=>⟨I2.kG,?_⟩) PY PK
 exact pQ (us:=.ref a::us) (vs:=.ref a::vs) F hr hb hd hx I2 (.cons rfl r) q2
theorem Bi(he:PE X o ta)(c:jl X.K C)(hm:Meth X.K C m f)(F:aO X.prog X.w X.K X.mg X.base (bU X.prog X.w) k f fd ps sp)(hr:cV k X.A)(hb:Binds X.K fd ps ds)(hd:Vals Qp ds)(hx:fH X E)
  (ht:autoParam (eval (.Call (.Attribute o m apos) [] [] pos) X.env=(do
   let ov ← eval o X.env
   standAt apos.atName
   let (f,first) ← holding [ov] (getMethod ov m pl)
   callWith pos f first (backTo pos (starEach [] X.env)) (backToKw pos (keywordEach [] X.env)))) aR._auto_1) :
  PE X (.Call (.Attribute o m apos) [] [] pos) (Cz C m sp Qp E ta Mi):=by
 intro Pf s σ H Q I h
 refine PySem.W.methodCall_KW (pl:=pl) (c9 (he Pf s σ H _ I h) λu s1 ⟨x,H1,I1,rx,a,dx,fs,ex,ea,l,q⟩=>?_) ht
 subst ex
 obtain rfl:u=Value.ref a:=rx
 refine mj I1 ea c hm l ?_
 exact PySem.W.callWith_K0 (first:=[.ref a]) I1.kG hm.kp (pQ (us:=[.ref a]) (vs:=[.ref a]) F hr hb hd hx I1 (.cons rfl .nil) q)
theorem Ay{Q:VK}(M:Mk X.K C f)(F:aO X.prog X.w X.K X.mg X.base (bU X.prog X.w) k f fd ps sp)(hr:cV (k+1) X.A)(hb:Binds X.K fd ps ds)(hd:Vals Qp ds)
  (hx:fH X E) (I:Inv X Pf σ H s) (r:Vals vs us)
  (h:∀ x dx,H x=none->H dx=none->dx≠x->sp (.ref x::(vs++Qp)) (upd (upd H dx (.own x)) x (.ins C dx [])) (λv H2=>v=.da/\Q (.ref x) H2) (E σ)) :
  wpAny (model X.prog X.w) X.A (call (.ref C) us) (EP X Pf σ Q) X.xe s:=by
 have hq:=h (s.heap.objs.size+1) s.heap.objs.size (I.cp.fresh (Nat.le_succ _)) (I.cp.fresh (Nat.le_refl _)) (Nat.ne_of_lt (Nat.lt_succ_self _))
 have I2:=Inv.made (C:=C) I
 have r2:Vals (V.ref (s.heap.objs.size+1)::(vs++Qp)) (Value.ref (s.heap.objs.size+1)::(us++ds)):=.cons rfl (r.append hd)
 have hl:(Value.ref (s.heap.objs.size+1)::us++ds).length=ps.length:=by
  have e:=r2.length
  rw[F.len _ _ _ _ hq] at e
  exact e.symm
 refine wpAny_call (D9 (f:=f) I.kG M.makes M.init (beq_iff_eq.mp M.fn) (codeAny_mono (F.run _ X.stack _ _ ⟨Value.ref (s.heap.objs.size+1)::us,[]⟩ (Value.ref (s.heap.objs.size+1)::(us++ds)) _ _ (E σ) (hr.make C us [])
  (I2.mF.make C us []) (hb _ (Value.ref (s.heap.objs.size+1)::us) I2.kG hl) r2 hq) λr s' RM=>?_))
 cases r with
 | error e=>exact hx.pass Pf σ _ _ e s' I2 RM
 | ok fl =>
  cases fl with
  | ret u =>
   obtain⟨v,H',I3,rv,ev,q3⟩:=I2.after RM
   subst ev
   exact⟨rv,⟨V.ref (s.heap.objs.size+1),H',I3,rfl,q3⟩⟩
  | next=>exact False.elim RM
  | brk=>exact False.elim RM
  | cont=>exact False.elim RM
theorem Ej(M:Mk X.K C f)(F:aO X.prog X.w X.K X.mg X.base (bU X.prog X.w) k f fd ps sp)(hr:cV (k+1) X.A)(hg:Gl X x)(hm:X.mg x=some (.ref C))(hb:Binds X.K fd ps ds)(hd:Vals Qp ds)(hx:fH X E)
  (ha:PA X (e::es) t) (QD:autoParam ((x==("__debug__" : Str))=false) aD._auto_1) (he:autoParam (starEach (e::es) X.env=(false,eval e X.env)::starEach es X.env) aR._auto_1) (PK:autoParam ((backTo pos (starEach es X.env)).any (·.1)=false) aR._auto_1) :
  PE X (.Call (.Name x p) (e::es) [] pos) (Kc C sp Qp E t):=by
 intro Pf s σ H Q I h
 refine wpAny_Call_Name_kw (mI I hg hm ?_ QD)
 refine PySem.W.callWith_K (h₀:=X.base) I.ok.mod.Hj M.kp (c9 (ha pos Pf s σ H _ I h) λus s1 ⟨vs,H1,I1,r,q⟩=>⟨I1.kG,?_⟩) he PK
 exact Ay M F hr hb hd hx I1 r q
end
abbrev eP(Hs H:Hp)(Q:VK):PV->Prop:=λz=>∀ w Pk H',cw Hs H Pk H'->Rep Pk z w->Q w H'
variable{p:PV}
theorem eP.flat{Q:VK}(h:eP Hs H Q p)(s:bM Hs H)(r:Rep Hs p v):Q v H:=h v Hs H (.refl s) r
theorem eP.tup{Hs H:Hp}{Q:VK}{xs:List PV}{vs:List V}(h:eP Hs H Q (.tup xs))(s:bM Hs H)(r:aZ Hs xs vs):∀ p,H p=none->Q (.ref p) (upd H p (.tup vs)) :=
 λp n=>h _ (upd Hs p (.tup vs)) _ (cw.new s n) (.tup aC (r.mono (cw.new s n).st))
theorem eP.lst{Hs H:Hp}{Q:VK}{xs:List PV}{vs:List V}(h:eP Hs H Q (.lst xs))(s:bM Hs H)(r:aZ Hs xs vs):∀ p,H p=none->Q (.ref p) (upd H p (.lst vs)) :=
 λp n=>h _ (upd Hs p (.lst vs)) _ (cw.new s n) (.lst aC (r.mono (cw.new s n).st))
namespace HT
theorem CL{prog:Program}{w:World}{A:Around}{E:Value->Shared->Prop}{s:Shared}{t b:Addr}{ws:List Value}{Q:Value->Shared->Prop}(ht:IsTup s.heap t #[])(hb:IsTup s.heap b ws.toArray)
  (h1:Q (.ref b) s):wpAny (model prog w) A (binaryOp .Add (.ref t) (.ref b)) Q E s:=by
 obtain⟨⟨cls,dd,data,sl⟩,ho,hc,n,hd⟩:=id ht
 obtain⟨⟨cls2,SX,data2,sl2⟩,RL,Sh,n2,hd2⟩:=id hb
 simp only at hc hd Sh hd2
 subst hc hd Sh hd2
 exact concat_meets ⟨_,ho,rfl⟩ ⟨_,RL,rfl⟩ noFill_tuple_add seq_tuple_add PySem.F.slot_tuple_add PySem.F.entry_tuple_add (PySem.F.args_tuple_add_2 _ _)
   (tuple_addW0 t b #[] ws.toArray n n2 dd SX sl sl2 rfl) ⟨ho,RL,h1⟩
end HT
def DM(K:PySem.W.Frag):R2:=λx y H Q=>∃ a b ys,x=.ref a/\y=.ref b/\iD K H a []/\iD K H b ys/\Q (.ref b) H
theorem B0:iu X (binaryOp .Add) (DM X.K):=by
 intro Pf s σ H x y v u Q I rx ry h
 obtain⟨a,b,ys,rfl,rfl,ha,hb,q1⟩:=h
 cases rx
 cases ry
 obtain⟨Ph,r1,p1,_⟩:=I.tuple ha
 obtain⟨Rc,r2,p2,_⟩:=I.tuple hb
 have e:Ph=[]:=r1.mY.mpr rfl
 subst e
 exact HT.CL p1 p2 ⟨.ref b,H,I,rfl,q1⟩
def cZ(c:Prop)[Decidable c](x:M α):M α:=if c then x else none
theorem ay.cZ{α:Type}{c:Prop}[Decidable c]{x:M α}{Q:α->Prop}{E:EX->Prop}(h:ay (L2.cZ c x) Q E):c/\ay x Q E:=by
 unfold L2.cZ at h
 by_cases hc:c
 ·rw[if_pos hc] at h;exact⟨hc,h⟩
 ·rw[if_neg hc] at h;exact h.elim
def eM(o:Option PV):M PV:=match o with
 | some x=>M.ok x
 | none=>none
theorem ay.opt{o:Option PV}{Q:PV->Prop}{E:EX->Prop}(h:ay (eM o) Q E):∃ x,o=some x/\Q x:=by
 cases o with
 | none=>exact h.elim
 | some x=>exact⟨x,rfl,h⟩
variable{c:Expr}
variable{j:Nat}
variable{op:CmpOp}
section
variable{a b:Expr}{pos:Pos}{f g h:af->M PV}
def ae(i:Nat)(env:af):M PV:=match env[i]? with
 | some (some (.sh p))=>M.ok p
 | _=>none
theorem Jr(hN:X.N[i]?=some x)(hv:EN X.env.scope x)(hd:autoParam ((x==("__debug__" : Str))=false) aD._auto_1)(QP:autoParam ((x==("__classdict__" : Str))=false) aD._auto_1):PE X (.Name x pos) (tE E (ae i)):=by
 refine(oh hN hv hd QP).imp fun σ H Q q=>?_
 obtain⟨B,H₀,Hs,env,sr,q⟩:=q
 unfold ae at q
 split at q
 ·rename_i p e
  obtain⟨v,h1,h2⟩:=sr.sh i p e
  exact⟨v,h1,eP.flat q sr.gr.sub h2⟩
 ·exact q.elim
theorem nr(he:PE X e (tC v))(r:∀ H,Rep H p v):PE X e (tE E λ_=>M.ok p):=by
 refine he.imp fun σ H Q q=>?_
 obtain⟨B,H₀,Hs,env,sr,q⟩:=q
 exact eP.flat q sr.gr.sub (r Hs)
theorem Ek{i:Int}:PE X (.Constant (.int i) j pos) (tE E λ_=>M.ok (.int i)):=nr JV λ_=>.int i
theorem LN{i:Bool}:PE X (.Constant (.bool i) j pos) (tE E λ_=>M.ok (.bl i)):=nr LZ λ_=>.bl i
theorem Iu:PE X (.Constant .none j pos) (tE E λ_=>M.ok .da):=nr HS λ_=>.da
theorem Iw{i:Str}:PE X (.Constant (.str i) j pos) (tE E λ_=>M.ok (.str i)):=nr Jx λ_=>.str i
def aj(op:PV->PV->M PV)(f g:af->M PV):af->M PV:=λenv=>(f env).bind λp=>(g env).bind λq=>op p q
def nR(E:St->XK)(r:R2)(op:PV->PV->M PV):Prop:=∀ (σ:St) (Hs H:Hp) (p q:PV) (v u:V) (Q:VK),bM Hs H->Rep Hs p v->Rep Hs q u->ay (op p q) (eP Hs H Q) (XW (E σ) Hs H)->r v u H Q
theorem qS{op:Operator}{r:R2}{o:PV->PV->M PV}(ho:iu X (binaryOp op) r)(hv:nR E r o)(ha:PE X a (tE E f))(hb:PE X b (tE E g)):PE X (.BinOp a op b pos) (tE E (aj o f g)) :=
 (Hd ho ha hb).imp fun σ H Q q=>z8 q λHs H1 p q v u s rp rq h=>hv σ Hs H1 p q v u Q s rp rq h
theorem kI{r:R2}{o:PV->PV->M PV}(ho:iu X (compareOp op) r)(hv:nR E r o)(ha:PE X a (tE E f))(hb:PE X b (tE E g))(hm:behindInMarks op b=false):PE X (.Compare a [op] [b] pos) (tE E (aj o f g)) :=
 (Gy ho ha hb hm).imp fun σ H Q q=>z8 q λHs H1 p q v u s rp rq h=>hv σ Hs H1 p q v u Q s rp rq h
def dr:PV->PV->M PV
 | .int i,.int j=>M.ok (.int (i+j))
 | .str x,.str y=>cZ (x.length+y.length<=sizeLine) (M.ok (.str (x++y)))
 | .tup xs,.tup ys=>cZ (xs.length+ys.length<=sizeLine) (M.ok (.tup (xs++ys)))
 | .lst xs,.lst ys=>cZ (xs.length+ys.length<=sizeLine) (M.ok (.lst (xs++ys)))
 | _,_=>none
def Hn(K:PySem.W.Frag):R2:=λx y H Q=>(∃ i j,x=.int i/\y=.int j/\Q (.int (i+j)) H)\/(∃ i j,x=.str i/\y=.str j/\i.length+j.length<=sizeLine/\Q (.str (i++j)) H)\/Hf K x y H Q\/KD x y H Q\/DM K x y H Q
theorem Fl:iu X (binaryOp .Add) (Hn X.K):=iu.or IU (iu.or yi (iu.or Gh (iu.or HB B0)))
theorem Kf{K:PySem.W.Frag}:nR E (Hn K) dr:=by
 intro σ Hs H p q v u Q s rp rq h
 cases rp with
 | int i=>cases rq with
  | int j=>exact .inl ⟨i,j,rfl,rfl,eP.flat h s (.int _)⟩
  | _=>exact h.elim
 | str i=>cases rq with
  | str j =>
   obtain⟨hz,h⟩:=ay.cZ h
   exact .inr (.inl ⟨i,j,rfl,rfl,hz,eP.flat h s (.str _)⟩)
  | _=>exact h.elim
 | @tup a xs vs ha hx=>cases rq with
  | @tup b ys us hb hy =>
   obtain⟨hz,h⟩:=ay.cZ h
   cases hx with
   | nil=>exact .inr (.inr (.inr (.inr ⟨a,b,us,rfl,rfl,iD.of (s _ _ ha),iD.of (s _ _ hb),eP.flat h s (.tup hb hy)⟩)))
   | cons SQ Tf =>
    have hx:=aZ.cons SQ Tf
    refine .inr (.inr (.inl ⟨a,b,_,us,rfl,rfl,iD.of (s _ _ ha),iD.of (s _ _ hb),(λz=>nomatch z),by rw[← hx.length,← hy.length];exact hz,λz=>?_,λz=>eP.tup h s (hx.append hy)⟩))
    have e:ys=[]:=by cases hy with | nil=>rfl | cons _ _=>cases z
    subst e
    rw[List.append_nil] at h
    exact eP.flat h s (.tup ha hx)
  | _=>exact h.elim
 | @lst a xs vs ha hx=>cases rq with
  | @lst b ys us hb hy =>
   obtain⟨hz,h⟩:=ay.cZ h
   exact .inr (.inr (.inr (.inl ⟨a,b,vs,us,rfl,rfl,s _ _ ha,s _ _ hb,by rw[← hx.length,← hy.length];exact hz,eP.lst h s (hx.append hy)⟩)))
  | _=>exact h.elim
 | _=>exact h.elim
def D8(c:Int->Int->Bool)(o:Int->Int->Int):PV->PV->M PV
 | .int i,.int j=>cZ (c i j=true) (M.ok (.int (o i j)))
 | _,_=>none
theorem Et{C:Int->Int->Prop}{c:Int->Int->Bool}{o:Int->Int->Int}(hc:∀ i j,c i j=true->C i j):nR E (rI C λi j=>.int (o i j)) (D8 c o):=by
 intro σ Hs H p q v u Q s rp rq h
 cases rp with
 | int i=>cases rq with
  | int j =>
   obtain⟨hz,h⟩:=ay.cZ h
   exact⟨i,j,rfl,rfl,hc i j hz,eP.flat h s (.int _)⟩
  | _=>exact h.elim
 | _=>exact h.elim
def lW:PV->PV->M PV
 | .int i,.int j=>M.ok (.int (i-j))
 | _,_=>none
theorem Kd:nR E (zy λi j=>.int (i-j)) lW:=by
 intro σ Hs H p q v u Q s rp rq h
 cases rp with
 | int i=>cases rq with
  | int j=>exact⟨i,j,rfl,rfl,eP.flat h s (.int _)⟩
  | _=>exact h.elim
 | _=>exact h.elim
def Ca(o:Int->Int->Bool):PV->PV->M PV
 | .int i,.int j=>M.ok (.bl (o i j))
 | _,_=>none
theorem uv{o:Int->Int->Bool}:nR E (zy λi j=>.bl (o i j)) (Ca o):=by
 intro σ Hs H p q v u Q s rp rq h
 cases rp with
 | int i=>cases rq with
  | int j=>exact⟨i,j,rfl,rfl,eP.flat h s (.bl _)⟩
  | _=>exact h.elim
 | _=>exact h.elim
def aJ:PV->PV->M PV
 | .tup xs,.int i=>eM (vO xs i)
 | .lst xs,.int i=>eM (vO xs i)
 | .kF xs,.int i=>eM (vO xs i)
 | .str z,.int i=>cZ (z.length<=sizeLine) (eM ((vO z.cps.toList i).map λc=>.str ⟨#[c]⟩))
 | _,_=>none
theorem aZ.vO{H:Hp}{xs:List PV}{vs:List V}{i:Int}{x:PV}(r:aZ H xs vs)(e:L2.vO xs i=some x):∃ v,L2.vO vs i=some v/\Rep H x v:=by
 unfold L2.vO at e ⊢
 rw[← r.length]
 obtain⟨j,h1,h2⟩:=Option.bind_eq_some_iff.mp e
 obtain⟨v,h3,h4⟩:=r.get h2
 exact⟨v,by rw[h1];exact h3,h4⟩
theorem J6{K:PySem.W.Frag}:nR E (Oq K) aJ:=by
 intro σ Hs H p q v u Q s rp rq h
 cases rp with
 | @tup a xs vs ha hx=>cases rq with
  | int i =>
   obtain⟨x,ex,h⟩:=ay.opt h
   obtain⟨v,h1,h2⟩:=hx.vO ex
   exact .inr (.inl ⟨a,vs,i,v,rfl,rfl,iD.of (s _ _ ha),h1,eP.flat h s h2⟩)
  | _=>exact h.elim
 | @lst a xs vs ha hx=>cases rq with
  | int i =>
   obtain⟨x,ex,h⟩:=ay.opt h
   obtain⟨v,h1,h2⟩:=hx.vO ex
   exact .inl ⟨a,vs,i,v,rfl,rfl,iT.of (s _ _ ha),h1,eP.flat h s h2⟩
  | _=>exact h.elim
 | @kF a o xs vs ha hx=>cases rq with
  | int i =>
   obtain⟨x,ex,h⟩:=ay.opt h
   obtain⟨v,h1,h2⟩:=hx.vO ex
   exact .inl ⟨a,vs,i,v,rfl,rfl,.inl (.inr ⟨o,s _ _ ha⟩),h1,eP.flat h s h2⟩
  | _=>exact h.elim
 | str z=>cases rq with
  | int i =>
   obtain⟨hz,h⟩:=ay.cZ h
   obtain⟨x,ex,h⟩:=ay.opt h
   obtain⟨c,ec,rfl⟩:=Option.map_eq_some_iff.mp ex
   exact .inr (.inr ⟨z,i,c,rfl,rfl,hz,ec,eP.flat h s (.str _)⟩)
  | _=>exact h.elim
 | _=>exact h.elim
theorem J9(ha:PE X a (tE E f))(hb:PE X b (tE E g))(hs:uZ b):PE X (.Subscript a b pos) (tE E (aj aJ f g)) :=
 (Le JY ha hb hs).imp fun σ H Q q=>z8 q λHs H1 p q v u s rp rq h=>J6 σ Hs H1 p q v u Q s rp rq h
end
def tG(E:St->XK)(f:af->M α)(K:Hp->Hp->α->Prop):St->Hp->Prop:=fun σ H=>∃ B H₀ Hs env,SR B H₀ Hs H σ env/\ay (f env) (K Hs H) (XW (E σ) Hs H)
def KG(K:Hp->Hp->α->Prop):Prop:=∀ Hs H Pk H' b,K Hs H b->cw Hs H Pk H'->K Pk H' b
abbrev KB(Q:Bool->Hp->Prop):Hp->Hp->Bool->Prop:=λHs H k=>∀ Pk H',cw Hs H Pk H'->Q k H'
abbrev kD(Q:VK):Hp->Hp->PV->Prop:=λHs H p=>eP Hs H Q p
abbrev KL(Q:List V->Hp->Prop):Hp->Hp->List PV->Prop:=λHs H ps=>∀ vs Pk H',cw Hs H Pk H'->aZ Pk ps vs->Q vs H'
theorem KB.g{Q:Bool->Hp->Prop}:KG (KB Q):=λHs H Pk H' b k g Pw H2 g2=>k Pw H2 (g.trans g2)
theorem kD.g{Q:VK}:KG (kD Q):=λHs H Pk H' b k g w Pw H2 g2 r=>k w Pw H2 (g.trans g2) r
theorem KL.g{Q:List V->Hp->Prop}:KG (KL Q):=λHs H Pk H' b k g w Pw H2 g2 r=>k w Pw H2 (g.trans g2) r
def tT(E:St->XK)(f:af->M Bool):TT:=fun σ H Q=>tG E f (KB Q) σ H
def tL(E:St->XK)(f:af->M (List PV)):TA:=fun σ H Q=>tG E f (KL Q) σ H
theorem PT.imp{t t':TT}(h:PT X e t)(i:∀ σ H Q,t' σ H Q->t σ H Q):PT X e t':=λPf s σ H Q I q=>h Pf s σ H Q I (i σ H Q q)
theorem PW.imp{t t':TT}(h:PW X e t)(i:∀ σ H Q,t' σ H Q->t σ H Q):PW X e t':=λw Pf s σ H Q I q=>h w Pf s σ H Q I (i σ H Q q)
theorem PA.imp{e:List Expr}{t':TA}(h:PA X e t)(i:∀ σ H Q,t' σ H Q->t σ H Q):PA X e t':=λw Pf s σ H Q I q=>h w Pf s σ H Q I (i σ H Q q)
section
variable{β:Type}{K:Hp->Hp->β->Prop}
theorem cC{f:af->M PV}{g:af->PV->M β}{R:VK}(kg:KG K)(h:tG E (λenv=>(f env).bind (g env)) K σ H)
  (k:∀ B H₀ Hs H1 env p v,SR B H₀ Hs H1 σ env->Rep Hs p v->ay (g env p) (K Hs H1) (XW (E σ) Hs H1)->R v H1):tE E f σ H R:=by
 obtain⟨B,H₀,Hs,env,sr,h⟩:=h
 refine⟨B,H₀,Hs,env,sr,(ay.bind h).imp (λp hp v Pk H' g r=>?_) λe he=>he⟩
 exact k B H₀ Pk H' env p v (sr.grow g) r (hp.imp (λq hq=>kg _ _ _ _ q hq g) λe he=>he.grow g)
theorem ny{f:af->M Bool}{g:af->Bool->M β}{R:Bool->Hp->Prop}(kg:KG K)(h:tG E (λenv=>(f env).bind (g env)) K σ H)
  (k:∀ B H₀ Hs H1 env p,SR B H₀ Hs H1 σ env->ay (g env p) (K Hs H1) (XW (E σ) Hs H1)->R p H1):tT E f σ H R:=by
 obtain⟨B,H₀,Hs,env,sr,h⟩:=h
 refine⟨B,H₀,Hs,env,sr,(ay.bind h).imp (λp hp Pk H' g=>?_) λe he=>he⟩
 exact k B H₀ Pk H' env p (sr.grow g) (hp.imp (λq hq=>kg _ _ _ _ q hq g) λe he=>he.grow g)
theorem dZ{f:af->M (List PV)}{g:af->List PV->M β}{R:List V->Hp->Prop}(kg:KG K)(h:tG E (λenv=>(f env).bind (g env)) K σ H)
  (k:∀ B H₀ Hs H1 env p v,SR B H₀ Hs H1 σ env->aZ Hs p v->ay (g env p) (K Hs H1) (XW (E σ) Hs H1)->R v H1):tL E f σ H R:=by
 obtain⟨B,H₀,Hs,env,sr,h⟩:=h
 refine⟨B,H₀,Hs,env,sr,(ay.bind h).imp (λp hp v Pk H' g r=>?_) λe he=>he⟩
 exact k B H₀ Pk H' env p v (sr.grow g) r (hp.imp (λq hq=>kg _ _ _ _ q hq g) λe he=>he.grow g)
end
def yB:PV->M Bool
 | .bl b=>M.ok b
 | _=>none
def dz(f:af->M PV):af->M Bool:=λenv=>(f env).bind yB
theorem ay.Mt{Q:Bool->Prop}{E:EX->Prop}(h:ay (yB p) Q E):∃ b,p=.bl b/\Q b:=by
 cases p with
 | bl b=>exact⟨b,rfl,h⟩
 | _=>exact h.elim
variable{r:List V->Hp->VK->Prop}
section
variable{a b:Expr}{pos:Pos}{f g h:af->M PV}{u v:af->M Bool}{rest:List Expr}
theorem qx{Q:Bool->Hp->Prop}(q:tT E (dz f) σ H Q):tB (tE E f) σ H Q:=by
 refine cC KB.g q λB H₀ Hs H1 env p v sr rp hp=>?_
 obtain⟨k,rfl,hp⟩:=ay.Mt hp
 cases rp
 exact⟨k,rfl,hp Hs H1 (.refl sr.gr.sub)⟩
theorem qh(he:PE X e (tE E f))(hw:autoParam (∀ whole,isTrue e X.env whole=(do let v ← whole;standAt e.pos;holding [v] (truthy v))) aI._auto_1):PT X e (tT E (dz f)) :=
 (IV he hw).imp fun σ H Q q=>qx q
theorem kN{r:R2}{o:PV->PV->M PV}(ho:iu X (compareOp op) r)(hv:nR E r o)(ha:PE X a (tE E f))(hb:PE X b (tE E g))(hm:behindInMarks op b=false):PT X (.Compare a [op] [b] pos) (tT E (dz (aj o f g))):=by
 refine(Fz ho ha hb hm).imp fun σ H Q q=>?_
 have q':=qx q
 exact z8 q' λHs H1 p q v u s rp rq h=>hv σ Hs H1 p q v u _ s rp rq h
def gI(u:af->M Bool):af->M Bool:=λenv=>(u env).bind λb=>M.ok (!b)
def Ct(u v:af->M Bool):af->M Bool:=λenv=>(u env).bind λb=>if b=true then v env else M.ok false
def v_(u v:af->M Bool):af->M Bool:=λenv=>(u env).bind λb=>if b=true then M.ok true else v env
theorem Jb(ha:PT X a (tT E u)):PT X (.UnaryOp .Not a pos) (tT E (gI u)) :=
 (Jj ha).imp fun σ H Q q=>ny KB.g q λB H₀ Hs H1 env p sr hp=>hp Hs H1 (.refl sr.gr.sub)
theorem zU(ha:PT X a (tT E u)):PW X (.BoolOp .And [a] pos) (tT E u):=pw_and1 ha
theorem gT(ha:PT X a (tT E u)):PW X (.BoolOp .Or [a] pos) (tT E u):=pw_or1 ha
theorem zm(ha:PT X a (tT E u))(hb:PW X (.BoolOp .And (b::rest) pos) (tT E v)):PW X (.BoolOp .And (a::b::rest) pos) (tT E (Ct u v)):=by
 refine(pw_and ha hb).imp fun σ H Q q=>ny KB.g q λB H₀ Hs H1 env p sr hp=>?_
 cases p with
 | true=>exact⟨B,H₀,Hs,env,sr,hp⟩
 | false=>exact hp Hs H1 (.refl sr.gr.sub)
theorem iH(ha:PT X a (tT E u))(hb:PW X (.BoolOp .Or (b::rest) pos) (tT E v)):PW X (.BoolOp .Or (a::b::rest) pos) (tT E (v_ u v)):=by
 refine(pw_or ha hb).imp fun σ H Q q=>ny KB.g q λB H₀ Hs H1 env p sr hp=>?_
 cases p with
 | true=>exact hp Hs H1 (.refl sr.gr.sub)
 | false=>exact⟨B,H₀,Hs,env,sr,hp⟩
def HL(f:af->M PV):af->M PV:=λenv=>(f env).bind λp=>(yB p).bind λb=>M.ok (.bl (!b))
def Ey(f g:af->M PV):af->M PV:=λenv=>(f env).bind λp=>(yB p).bind λb=>if b=true then g env else M.ok (.bl false)
def Pe(f g:af->M PV):af->M PV:=λenv=>(f env).bind λp=>(yB p).bind λb=>if b=true then M.ok (.bl true) else g env
theorem JH(ha:PE X a (tE E f)):PE X (.UnaryOp .Not a pos) (tE E (HL f)):=by
 refine(Ke ha).imp fun σ H Q q=>cC (K:=kD Q) kD.g q λB H₀ Hs H1 env p v sr rp hp=>?_
 obtain⟨k,rfl,hp⟩:=ay.Mt (ay.bind hp)
 cases rp
 exact⟨k,rfl,eP.flat hp sr.gr.sub (.bl _)⟩
theorem zh(ha:PE X a (tE E f))(hb:PE X (.BoolOp .And (b::rest) pos) (tE E g)):PE X (.BoolOp .And (a::b::rest) pos) (tE E (Ey f g)):=by
 refine(JT ha hb).imp fun σ H Q q=>cC (K:=kD Q) kD.g q λB H₀ Hs H1 env p v sr rp hp=>?_
 obtain⟨k,rfl,hp⟩:=ay.Mt (ay.bind hp)
 cases rp
 refine⟨k,rfl,?_⟩
 cases k with
 | true=>exact⟨B,H₀,Hs,env,sr,hp⟩
 | false=>exact eP.flat hp sr.gr.sub (.bl _)
def wB(u:af->M Bool)(f g:af->M PV):af->M PV:=λenv=>(u env).bind λb=>if b=true then f env else g env
theorem Jo(hc:PT X c (tT E u))(ha:PE X a (tE E f))(hb:PE X b (tE E g)):PE X (.IfExp c a b pos) (tE E (wB u f g)):=by
 refine(DP hc ha hb).imp fun σ H Q q=>ny (K:=kD Q) kD.g q λB H₀ Hs H1 env p sr hp=>?_
 cases p with
 | true=>exact⟨B,H₀,Hs,env,sr,hp⟩
 | false=>exact⟨B,H₀,Hs,env,sr,hp⟩
def ak:af->M (List PV):=λ_=>M.ok []
def aa(f:af->M PV)(fs:af->M (List PV)):af->M (List PV):=λenv=>(f env).bind λp=>(fs env).bind λps=>M.ok (p::ps)
variable{fs:af->M (List PV)}
theorem Cw:PA X [] (tL E ak):=by
 refine mD.imp fun σ H Q q=>?_
 obtain⟨B,H₀,Hs,env,sr,q⟩:=q
 exact q [] Hs H (.refl sr.gr.sub) .nil
theorem z7(ha:PE X e (tE E f))(hr:PA X es (tL E fs))(hs:autoParam (starEach (e::es) X.env=(false,eval e X.env)::starEach es X.env) aR._auto_1):PA X (e::es) (tL E (aa f fs)):=by
 refine(fF ha hr hs).imp fun σ H Q q=>cC (K:=KL Q) KL.g q λB H₀ Hs H1 env p v sr rp hp=>?_
 refine⟨B,H₀,Hs,env,sr,(ay.bind hp).imp (λps RN vs Pk H' g r=>?_) λe he=>he⟩
 exact RN (v::vs) Pk H' g (.cons (rp.mono g.st) r)
def h9(fs:af->M (List PV)):af->M PV:=λenv=>(fs env).bind λps=>cZ (ps.length<=sizeLine) (M.ok (.tup ps))
def qw(fs:af->M (List PV)):af->M PV:=λenv=>(fs env).bind λps=>cZ (ps.length<=sizeLine) (M.ok (.lst ps))
theorem Jt(hr:PA X es (tL E fs)):PE X (.Tuple es x1 pos) (tE E (h9 fs)):=by
 refine(Co hr).imp fun σ H Q q=>dZ (K:=kD Q) kD.g q λB H₀ Hs H1 env p v sr rp hp=>?_
 obtain⟨hz,hp⟩:=ay.cZ hp
 exact⟨by rw[← rp.length];exact hz,eP.tup hp sr.gr.sub rp⟩
theorem Dt(hr:PA X es (tL E fs)):PE X (.List es pos) (tE E (qw fs)):=by
 refine(Dh hr).imp fun σ H Q q=>dZ (K:=kD Q) kD.g q λB H₀ Hs H1 env p v sr rp hp=>?_
 obtain⟨hz,hp⟩:=ay.cZ hp
 exact⟨by rw[← rp.length];exact hz,eP.lst hp sr.gr.sub rp⟩
def ai(o:List PV->M PV)(fs:af->M (List PV)):af->M PV:=λenv=>(fs env).bind o
def ma(E:St->XK)(r:List V->Hp->VK->Prop)(o:List PV->M PV):Prop:=∀ (σ:St) (Hs H:Hp) (ps:List PV) (vs:List V) (Q:VK),bM Hs H->aZ Hs ps vs->ay (o ps) (eP Hs H Q) (XW (E σ) Hs H)->r vs H Q
theorem CC{o:List PV->M PV}{Q:VK}(hv:ma E r o)(q:tE E (ai o fs) σ H Q):M_ r (tL E fs) σ H Q :=
 dZ (K:=kD Q) kD.g q λB H₀ Hs H1 env p v sr rp hp=>hv σ Hs H1 p v Q sr.gr.sub rp hp
variable{p:Pos}{id T:String}
theorem mX{o:List PV->M PV}(hc:dW X (.builtin id) r)(hv:ma E r o)(hg:Gl X x)(hm:X.mg x=none)(hx:bootBuiltins x=some (.builtin id))(ha:PA X (e::es) (tL E fs))(hn:autoParam (x ≠ "__name__") aD._auto_1)(QD:autoParam ((x==("__debug__" : Str))=false) aD._auto_1)
  (he:autoParam (starEach (e::es) X.env=(false,eval e X.env)::starEach es X.env) aR._auto_1) (PK:autoParam ((backTo pos (starEach es X.env)).any (·.1)=false) aR._auto_1):PE X (.Call (.Name x p) (e::es) [] pos) (tE E (ai o fs)) :=
 (mM hc hg hm hx ha hn QD he PK).imp fun σ H Q q=>CC hv q
theorem oj{o:List PV->M PV}(hc:dW X (.type T) r)(hv:ma E r o)(hg:Gl X x)(hm:X.mg x=none)(hx:bootBuiltins x=some (.type T))(ha:PA X (e::es) (tL E fs))(hn:autoParam (x ≠ "__name__") aD._auto_1)(QD:autoParam ((x==("__debug__" : Str))=false) aD._auto_1)
  (he:autoParam (starEach (e::es) X.env=(false,eval e X.env)::starEach es X.env) aR._auto_1) (PK:autoParam ((backTo pos (starEach es X.env)).any (·.1)=false) aR._auto_1):PE X (.Call (.Name x p) (e::es) [] pos) (tE E (ai o fs)) :=
 (AK hc hg hm hx ha hn QD he PK).imp fun σ H Q q=>CC hv q
end
variable{xs:List PV}
def cF:PV->Option (List PV)
 | .tup xs=>some xs
 | .lst xs=>some xs
 | .kF xs=>some xs
 | _=>none
theorem DT{K:PySem.W.Frag}(s:bM Hs H)(r:Rep Hs p v)(e:cF p=some xs):∃ a vs,v=.ref a/\(iT K H a vs\/iD K H a vs)/\aZ Hs xs vs:=by
 cases r with
 | tup h r=>cases e;exact⟨_,_,rfl,.inr (iD.of (s _ _ h)),r⟩
 | lst h r=>cases e;exact⟨_,_,rfl,.inl (iT.of (s _ _ h)),r⟩
 | kF h r=>cases e;exact⟨_,_,rfl,.inl (.inl (.inr ⟨_,s _ _ h⟩)),r⟩
 | _=>cases e
def ui:PV->M PV
 | .str z=>cZ (z.length<=sizeLine) (M.ok (.int z.length))
 | p=>eM ((cF p).map λxs=>.int xs.length)
def dJ:List PV->M PV
 | [p]=>ui p
 | _=>none
theorem aZ.one(r:aZ H [p] vs):∃ v,vs=[v]/\Rep H p v:=by
 cases r with
 | cons h r=>cases r;exact⟨_,rfl,h⟩
theorem aZ.two{q:PV}(r:aZ H [p,q] vs):∃ v u,vs=[v,u]/\Rep H p v/\Rep H q u:=by
 cases r with
 | cons h r=>obtain⟨u,rfl,h2⟩:=r.one;exact⟨_,_,rfl,h,h2⟩
def G2(K:PySem.W.Frag):List V->Hp->VK->Prop:=λxs H Q=>(∃ p ys,xs=[.ref p]/\(iT K H p ys\/iD K H p ys)/\Q (.int ys.length) H)\/∃ z,xs=[.str z]/\z.length<=sizeLine/\Q (.int z.length) H
theorem AO:dW X (.builtin "len") (G2 X.K):=dW.or va vn
theorem Jm{K:PySem.W.Frag}:ma E (G2 K) dJ:=by
 intro σ Hs H ps vs Q s r h
 match ps,r with
 | [],_=>exact h.elim
 | _::_::_,_=>exact h.elim
 | [p],r =>
  obtain⟨v,rfl,rp⟩:=r.one
  cases hp:cF p with
  | none =>
   cases p with
   | str z =>
    cases rp
    obtain⟨hz,h⟩:=ay.cZ h
    exact .inr ⟨z,rfl,hz,eP.flat h s (.int _)⟩
   | tup _=>cases hp
   | lst _=>cases hp
   | kF _=>cases hp
   | _=>exact h.elim
  | some xs =>
   obtain⟨a,us,rfl,hq,hx⟩:=DT (K:=K) s rp hp
   have h':ay (eM ((cF p).map λxs=>PV.int xs.length)) (eP Hs H Q) (XW (E σ) Hs H):=by
    cases p with
    | str z=>cases hp
    | _=>exact h
   rw[hp] at h'
   refine .inl ⟨a,us,rfl,hq,?_⟩
   rw[← hx.length]
   exact eP.flat h' s (.int _)
def xw:List PV->M PV
 | [p]=>eM ((cF p).map .lst)
 | _=>none
theorem E3{K:PySem.W.Frag}:ma E (λxs H Q=>∃ p ys,xs=[.ref p]/\(iT K H p ys\/iD K H p ys)/\∀ l,H l=none->Q (.ref l) (upd H l (.lst ys))) xw:=by
 intro σ Hs H ps vs Q s r h
 match ps,r with
 | [],_=>exact h.elim
 | _::_::_,_=>exact h.elim
 | [p],r =>
  obtain⟨v,rfl,rp⟩:=r.one
  obtain⟨x,ex,h⟩:=ay.opt h
  obtain⟨xs,hp,rfl⟩:=Option.map_eq_some_iff.mp ex
  obtain⟨a,us,rfl,hq,hx⟩:=DT (K:=K) s rp hp
  exact⟨a,us,rfl,hq,eP.lst h s hx⟩
def dc:List PV->M PV
 | [p]=>eM ((cF p).map .tup)
 | _=>none
theorem C2{K:PySem.W.Frag}:ma E (λxs H Q=>∃ p ys,xs=[.ref p]/\((iT K H p ys/\∀ l,H l=none->Q (.ref l) (upd H l (.tup ys)))\/(iD K H p ys/\Q (.ref p) H))) dc:=by
 intro σ Hs H ps vs Q s r h
 match ps,r with
 | [],_=>exact h.elim
 | _::_::_,_=>exact h.elim
 | [p],r =>
  obtain⟨v,rfl,rp⟩:=r.one
  obtain⟨x,ex,h⟩:=ay.opt h
  obtain⟨xs,hp,rfl⟩:=Option.map_eq_some_iff.mp ex
  cases rp with
  | tup ha hx=>cases hp;exact⟨_,_,rfl,.inr ⟨iD.of (s _ _ ha),eP.flat h s (.tup ha hx)⟩⟩
  | lst ha hx=>cases hp;exact⟨_,_,rfl,.inl ⟨iT.of (s _ _ ha),eP.tup h s hx⟩⟩
  | kF ha hx=>cases hp;exact⟨_,_,rfl,.inl ⟨.inl (.inr ⟨_,s _ _ ha⟩),eP.tup h s hx⟩⟩
  | _=>cases hp
def xD:List PV->Option (List Int)
 | []=>some []
 | .int i::r=>(xD r).map (i::·)
 | _=>none
def xV:List PV->Option (List Bool)
 | []=>some []
 | .bl i::r=>(xV r).map (i::·)
 | _=>none
theorem zw:∀ {ps:List PV} {ns:List Int},xD ps=some ns->ps=ns.map PV.int
 | [],_,e=>by cases e;rfl
 | .int i::r,_,e=>by
  obtain⟨ms,h1,rfl⟩:=Option.map_eq_some_iff.mp e
  rw[zw h1];rfl
theorem yk:∀ {ps:List PV} {ns:List Bool},xV ps=some ns->ps=ns.map PV.bl
 | [],_,e=>by cases e;rfl
 | .bl i::r,_,e=>by
  obtain⟨ms,h1,rfl⟩:=Option.map_eq_some_iff.mp e
  rw[yk h1];rfl
theorem sS:∀ (ns:List Int),xD (ns.map PV.int)=some ns
 | []=>rfl
 | n::r=>by show (xD (r.map PV.int)).map (n::·)=_;rw[sS r];rfl
theorem rN:∀ (ns:List Bool),xV (ns.map PV.bl)=some ns
 | []=>rfl
 | n::r=>by show (xV (r.map PV.bl)).map (n::·)=_;rw[rN r];rfl
def La:PV->M PV
 | .lst xs=>eM ((xD xs).map λns=>.int ns.sum)
 | _=>none
def p8:List PV->M PV
 | [p]=>La p
 | _=>none
theorem HU{K:PySem.W.Frag}:ma E (λxs H Q=>∃ (a:Addr) (ns:List Int),xs=[.ref a]/\iT K H a (ns.map V.int)/\Q (.int ns.sum) H) p8:=by
 intro σ Hs H ps vs Q s r h
 match ps,r with
 | [],_=>exact h.elim
 | _::_::_,_=>exact h.elim
 | [p],r =>
  obtain⟨v,rfl,rp⟩:=r.one
  cases rp with
  | lst ha hx =>
   obtain⟨x,ex,h⟩:=ay.opt h
   obtain⟨ns,hn,rfl⟩:=Option.map_eq_some_iff.mp ex
   rw[zw hn] at hx
   exact⟨_,ns,rfl,hx.ints▸iT.of (s _ _ ha),eP.flat h s (.int _)⟩
  | _=>exact h.elim
def all1:PV->M PV
 | .lst xs=>eM ((xV xs).map λns=>.bl (ns.all id))
 | _=>none
def qu:List PV->M PV
 | [p]=>all1 p
 | _=>none
theorem IE{K:PySem.W.Frag}:ma E (λxs H Q=>∃ (a:Addr) (bs:List Bool),xs=[.ref a]/\iT K H a (bs.map V.bl)/\Q (.bl (bs.all id)) H) qu:=by
 intro σ Hs H ps vs Q s r h
 match ps,r with
 | [],_=>exact h.elim
 | _::_::_,_=>exact h.elim
 | [p],r =>
  obtain⟨v,rfl,rp⟩:=r.one
  cases rp with
  | lst ha hx =>
   obtain⟨x,ex,h⟩:=ay.opt h
   obtain⟨ns,hn,rfl⟩:=Option.map_eq_some_iff.mp ex
   rw[yk hn] at hx
   exact⟨_,ns,rfl,hx.Ln▸iT.of (s _ _ ha),eP.flat h s (.bl _)⟩
  | _=>exact h.elim
def MY(o:Int->Int->Int):PV->PV->M PV
 | .int i,.int j=>M.ok (.int (o i j))
 | _,_=>none
def HA(o:Int->Int->Int):List PV->M PV
 | [p,q]=>MY o p q
 | _=>none
theorem Fi{o:Int->Int->Int}:ma E (λxs H Q=>∃ i j,xs=[.int i,.int j]/\Q (.int (o i j)) H) (HA o):=by
 intro σ Hs H ps vs Q s r h
 match ps,r with
 | [],_=>exact h.elim
 | [_],_=>exact h.elim
 | _::_::_::_,_=>exact h.elim
 | [p,q],r =>
  obtain⟨v,u,rfl,rp,rq⟩:=r.two
  cases rp with
  | int i=>cases rq with
   | int j=>exact⟨i,j,rfl,eP.flat h s (.int _)⟩
   | _=>exact h.elim
  | _=>exact h.elim
def dy(n:Nat)(sem:List PV->M PV):Sp:=λvs H Q E=>vs.length=n/\∃ Hs ps,bM Hs H/\aZ Hs ps vs/\ay (sem ps) (eP Hs H Q) (XW E Hs H)
variable{Rb:List PV}
section
variable{sem:List PV->M PV}{p pos:Pos}{fs:af->M (List PV)}{g:af->M PV}
theorem GI(F:aO X.prog X.w X.K X.mg X.base (bU X.prog X.w) k f fd ps (dy n sem))(hr:cV k X.A)(hg:Gl X x)(hm:X.mg x=some (.ref f))(hk:PySem.W.keepIn X.K (.ref f)=true)(hb:Binds X.K fd ps ds)(hd:Vals Qp ds)(hdp:∀ H,aZ H Rb Qp)(O:fH X E)
  (hl:∀ ps,sem (ps++Rb)≠none->ps.length+Rb.length=n)
  (ha:PA X (e::es) (tL E fs)) (QD:autoParam ((x==("__debug__" : Str))=false) aD._auto_1) (he:autoParam (starEach (e::es) X.env=(false,eval e X.env)::starEach es X.env) aR._auto_1) (PK:autoParam ((backTo pos (starEach es X.env)).any (·.1)=false) aR._auto_1) :
  PE X (.Call (.Name x p) (e::es) [] pos) (tE E (ai (λps=>sem (ps++Rb)) fs)):=by
 refine(Cu F hr hg hm hk hb hd O ha QD he PK).imp fun σ H Q q=>dZ (K:=kD Q) kD.g q λB H₀ Hs H1 env Q3 v sr rp hp=>?_
 have r2:aZ Hs (Q3++Rb) (v++Qp):=rp.append (hdp Hs)
 have hn:sem (Q3++Rb)≠none:=λz=>by rw[z] at hp;exact hp
 refine⟨?_,Hs,Q3++Rb,sr.gr.sub,r2,hp⟩
 rw[← r2.length,List.length_append]
 exact hl Q3 hn
def cu(ok:Addr->Bool)(f:Str)(g:af->M PV):af->M PV:=λenv=>(g env).bind λp=>match p with
 | .obj C fs=>cZ (ok C=true) (eM (fs.lookup f))
 | _=>none
theorem J3{ok:Addr->Bool}{fl:Str}(he:PE X e (tE E g))(cp:∀ C,ok C=true->jl X.K C/\bC X.K C fl)(hb:attributeBase e fl X.env (eval e X.env)=eval e X.env):PE X (.Attribute e fl pos) (tE E (cu ok fl g)):=by
 refine(JD he hb).imp fun σ H Q q=>cC (K:=kD Q) kD.g q λB H₀ Hs H1 env p v sr rp hp=>?_
 cases rp with
 | obj ha hx =>
  obtain⟨hc,hp⟩:=ay.cZ hp
  obtain⟨x,ex,hp⟩:=ay.opt hp
  obtain⟨u,h1,h2⟩:=hx.look ex
  exact⟨_,_,_,_,u,rfl,sr.gr.sub _ _ ha,(cp _ hc).1,(cp _ hc).2,h1,eP.flat hp sr.gr.sub h2⟩
 | _=>exact hp.elim
def b_(C:Addr)(m:Str)(sem:List PV->M PV)(g:af->M PV)(fs:af->M (List PV)):af->M PV:=λenv=>(g env).bind λp=>match p with
 | .obj C' fl=>cZ (C'=C/\fl.lookup m=none) ((fs env).bind λps=>sem (.obj C' fl::ps))
 | _=>none
theorem FJ(he:PE X o (tE E g))(c:jl X.K C)(hm:Meth X.K C m f)(F:aO X.prog X.w X.K X.mg X.base (bU X.prog X.w) k f fd ps (dy n sem))(hr:cV k X.A)(hb:Binds X.K fd ps [])(O:fH X E)(hl:∀ ps,sem ps≠none->ps.length=n)(ha:PA X (e::es) (tL E fs))
  (PY:autoParam (starEach (e::es) X.env=(false,eval e X.env)::starEach es X.env) aR._auto_1) (PK:autoParam ((backTo pos (starEach es X.env)).any (·.1)=false) aR._auto_1)
  (ht:autoParam (eval (.Call (.Attribute o m apos) (e::es) [] pos) X.env=(do
   let ov ← eval o X.env
   standAt apos.atName
   let (f,first) ← holding [ov] (getMethod ov m pl)
   callWith pos f first (backTo pos (starEach (e::es) X.env)) (backToKw pos (keywordEach [] X.env)))) aR._auto_1) :
  PE X (.Call (.Attribute o m apos) (e::es) [] pos) (tE E (b_ C m sem g fs)):=by
 refine(CN he c hm F hr hb .nil O ha PY PK ht).imp fun σ H Q q=>cC (K:=kD Q) kD.g q λB H₀ Hs H1 env p v sr rp hp=>?_
 cases rp with
 | @obj a C' dx fl fvs ho hx =>
  obtain⟨⟨e1,hn⟩,Hw⟩:=ay.cZ hp
  subst e1
  refine⟨a,dx,fvs,rfl,sr.gr.sub _ _ ho,hx.none hn,B,H₀,Hs,env,sr,(ay.bind Hw).imp (λQ3 RN vs Pk H' g' r=>?_) λe he=>he⟩
  have r2:aZ Pk (.obj C' fl::Q3) (V.ref a::(vs++[])):=by rw[List.append_nil];exact .cons ((Rep.obj ho hx).mono g'.st) r
  have hn:sem (.obj C' fl::Q3)≠none:=λz=>by rw[z] at RN;exact RN
  refine⟨by rw[← r2.length];exact hl _ hn,Pk,_,g'.sub,r2,RN.imp (λz hz w Pw H2 g2 r2=>hz w Pw H2 (g'.trans g2) r2) λe he=>he.grow g'⟩
 | _=>exact hp.elim
theorem BX(he:PE X o (tE E g))(c:jl X.K C)(hm:Meth X.K C m f)(F:aO X.prog X.w X.K X.mg X.base (bU X.prog X.w) k f fd ps (dy n sem))(hr:cV k X.A)(hb:Binds X.K fd ps [])(O:fH X E)(hl:∀ ps,sem ps≠none->ps.length=n)
  (ht:autoParam (eval (.Call (.Attribute o m apos) [] [] pos) X.env=(do
   let ov ← eval o X.env
   standAt apos.atName
   let (f,first) ← holding [ov] (getMethod ov m pl)
   callWith pos f first (backTo pos (starEach [] X.env)) (backToKw pos (keywordEach [] X.env)))) aR._auto_1) :
  PE X (.Call (.Attribute o m apos) [] [] pos) (tE E (b_ C m sem g ak)):=by
 refine(Bi he c hm F hr hb .nil O ht).imp fun σ H Q q=>cC (K:=kD Q) kD.g q λB H₀ Hs H1 env p v sr rp hp=>?_
 cases rp with
 | @obj a C' dx fl fvs ho hx =>
  obtain⟨⟨e1,hn⟩,Hw⟩:=ay.cZ hp
  subst e1
  have r2:aZ Hs [.obj C' fl] [V.ref a]:=.cons (Rep.obj ho hx) .nil
  have hn':sem [.obj C' fl]≠none:=λz=>by
   have Su:ay (sem [.obj C' fl]) (eP Hs H1 Q) (XW (E σ) Hs H1):=Hw
   rw[z] at Su;exact Su
  exact⟨a,dx,fvs,rfl,sr.gr.sub _ _ ho,hx.none hn,by rw[show ([]:List V)++[]=[] from rfl];exact r2.length▸hl _ hn',Hs,_,sr.gr.sub,r2,Hw⟩
 | _=>exact hp.elim
end
inductive Out where
 | nx (env:af) | rt (p:PV) | bk (env:af) | ct (env:af)
def KS(D:Ends)(B H₀:Hp):Out->Prop
 | .nx env=>∀ σ Hs H,SR B H₀ Hs H σ env->D.nx σ H
 | .rt p=>∀ v Hs H,cw B H₀ Hs H->Rep Hs p v->D.rt v H
 | .bk env=>∀ σ Hs H,SR B H₀ Hs H σ env->D.bk σ H
 | .ct env=>∀ σ Hs H,SR B H₀ Hs H σ env->D.ct σ H
def tS(E:XK)(f:af->M Out):TS:=λD σ H=>∃ B H₀ Hs env,SR B H₀ Hs H σ env/\ay (f env) (KS D B H₀) (XW E B H₀)
theorem PS.imp{st:Stmt}{t t':TS}(h:PS X st t)(i:∀ D σ H,t' D σ H->t D σ H):PS X st t':=λPf s σ H D I q=>h Pf s σ H D I (i D σ H q)
theorem nQ.imp{st:List Stmt}{t t':TS}(h:nQ X st t)(i:∀ D σ H,t' D σ H->t D σ H):nQ X st t':=λPf s σ H D I q=>h Pf s σ H D I (i D σ H q)
def ar:af->M Out:=λenv=>M.ok (.nx env)
def B7(g:af->M Out):Out->M Out
 | .nx env=>g env
 | o=>M.ok o
noncomputable def ao(f g:af->M Out):af->M Out:=λenv=>(f env).bind (B7 g)
theorem kL{E:XK}{f:af->M PV}{g:af->PV->M Out}{D:Ends}{R:VK}(h:tS E (λenv=>(f env).bind (g env)) D σ H)
  (k:∀ B H₀ Hs H1 env p v,SR B H₀ Hs H1 σ env->Rep Hs p v->ay (g env p) (KS D B H₀) (XW E B H₀)->R v H1):tE (λ_=>E) f σ H R:=by
 obtain⟨B,H₀,Hs,env,sr,h⟩:=h
 refine⟨B,H₀,Hs,env,sr,(ay.bind h).imp (λp hp v Pk H' g r=>?_) λe he=>he.grow sr.gr⟩
 exact k B H₀ Pk H' env p v (sr.grow g) r hp
theorem Cs{E:XK}{f:af->M Bool}{g:af->Bool->M Out}{D:Ends}{R:Bool->Hp->Prop}(h:tS E (λenv=>(f env).bind (g env)) D σ H)
  (k:∀ B H₀ Hs H1 env p,SR B H₀ Hs H1 σ env->ay (g env p) (KS D B H₀) (XW E B H₀)->R p H1):tT (λ_=>E) f σ H R:=by
 obtain⟨B,H₀,Hs,env,sr,h⟩:=h
 refine⟨B,H₀,Hs,env,sr,(ay.bind h).imp (λp hp Pk H' g=>?_) λe he=>he.grow sr.gr⟩
 exact k B H₀ Pk H' env p (sr.grow g) hp
theorem rR{E:XK}{f:af->M (List PV)}{g:af->List PV->M Out}{D:Ends}{R:List V->Hp->Prop}(h:tS E (λenv=>(f env).bind (g env)) D σ H)
  (k:∀ B H₀ Hs H1 env p v,SR B H₀ Hs H1 σ env->aZ Hs p v->ay (g env p) (KS D B H₀) (XW E B H₀)->R v H1):tL (λ_=>E) f σ H R:=by
 obtain⟨B,H₀,Hs,env,sr,h⟩:=h
 refine⟨B,H₀,Hs,env,sr,(ay.bind h).imp (λp hp v Pk H' g r=>?_) λe he=>he.grow sr.gr⟩
 exact k B H₀ Pk H' env p v (sr.grow g) r hp
theorem SR.set{B H₀ Hs H:Hp}{σ:St}{env:af}{p:PV}{v:V}{i:Nat}(r:SR B H₀ Hs H σ env)(h:Rep Hs p v):SR B H₀ Hs H (σ.set i (some v)) (env.set i (some (.sh p))) where
 gr:=r.gr
 len:=by rw[List.length_set,List.length_set];exact r.len
 sh:=λj q e=>by
  rw[List.getElem?_set] at e ⊢
  by_cases z:i=j
  ·subst z
   rw[if_pos rfl] at e ⊢
   split at e
   ·cases e
    rw[if_pos (by rw[r.len];assumption)]
    exact⟨v,rfl,h⟩
   ·cases e
  ·rw[if_neg z] at e ⊢
   exact r.sh j q e
 ow:=λj xs e=>by
  rw[List.getElem?_set] at e ⊢
  by_cases z:i=j
  ·subst z
   rw[if_pos rfl] at e
   split at e <;> cases e
  ·rw[if_neg z] at e ⊢
   exact r.ow j xs e
 sep:=λj k xs ys a n e1 e2 e3 e4=>by
  rw[List.getElem?_set] at e1 e2 e3 e4
  by_cases z:i=j
  ·subst z
   rw[if_pos rfl] at e1
   split at e1 <;> cases e1
  ·by_cases z2:i=k
   ·subst z2
    rw[if_pos rfl] at e2
    split at e2 <;> cases e2
   ·rw[if_neg z] at e1 e3
    rw[if_neg z2] at e2 e4
    exact r.sep j k xs ys a n e1 e2 e3 e4
 bd:=λj a C fs e=>by
  rw[List.getElem?_set] at e ⊢
  by_cases z:i=j
  ·subst z
   rw[if_pos rfl] at e
   split at e <;> cases e
  ·rw[if_neg z] at e ⊢
   exact r.bd j a C fs e
 one:=λj k a b C D fs gs e1 e2=>by
  rw[List.getElem?_set] at e1 e2
  by_cases z:i=j
  ·subst z
   rw[if_pos rfl] at e1
   split at e1 <;> cases e1
  ·by_cases z2:i=k
   ·subst z2
    rw[if_pos rfl] at e2
    split at e2 <;> cases e2
   ·rw[if_neg z] at e1
    rw[if_neg z2] at e2
    exact r.one j k _ _ C D fs gs e1 e2
theorem SR.own{B:Hp}{env:af}{p:Addr}(r:SR B H₀ Hs H σ env)(h:aZ Hs xs vs)(n:H p=none):SR B H₀ Hs (upd H p (.lst vs)) (σ.set i (some (.ref p))) (env.set i (some (.ow xs))):=by
 have ne:∀ c u,H c=some u->c≠p:=λc u e z=>by rw[z,n] at e;cases e
 have hs:Hs p=none:=by
  cases q:Hs p with
  | none=>rfl
  | some o=>have:=r.gr.sub _ _ q;rw[n] at this;cases this
 have h0:H₀ p=none:=by
  cases q:H₀ p with
  | none=>rfl
  | some o=>have:=r.gr.al _ _ q;rw[n] at this;cases this
 refine⟨⟨r.gr.st,λc u e=>by rw[av (ne c u (r.gr.al c u e))];exact r.gr.al c u e,λc u e=>by rw[av (ne c u (r.gr.sub c u e))];exact r.gr.sub c u e,r.gr.nw⟩,by rw[List.length_set,List.length_set];exact r.len,λj q e=>?_,λj ys e=>?_,λj k ys zs a nj e1 e2 e3 e4=>?_,λj ba C fs e=>?_,λj k _ _ C D fs gs e1 e2=>?_⟩
 ·rw[List.getElem?_set] at e ⊢
  by_cases z:i=j
  ·subst z
   rw[if_pos rfl] at e
   split at e <;> cases e
  ·rw[if_neg z] at e ⊢
   exact r.sh j q e
 ·rw[List.getElem?_set] at e ⊢
  by_cases z:i=j
  ·subst z
   rw[if_pos rfl] at e ⊢
   split at e
   ·cases e
    rw[if_pos (by rw[r.len];assumption)]
    exact⟨p,vs,rfl,aC,hs,h0,h⟩
   ·cases e
  ·rw[if_neg z] at e ⊢
   obtain⟨a,us,h1,h2,h3,h4,h5⟩:=r.ow j ys e
   exact⟨a,us,h1,by rw[av (ne a _ h2)];exact h2,h3,h4,h5⟩
 ·rw[List.getElem?_set] at e1 e2 e3 e4
  by_cases z:i=j
  ·subst z
   rw[if_pos rfl] at e3
   split at e3
   ·cases e3
    rw[if_neg nj] at e2 e4
    obtain⟨a',us,h1,h2,_⟩:=r.ow k zs e2
    rw[e4] at h1;cases h1
    rw[n] at h2;cases h2
   ·cases e3
  ·rw[if_neg z] at e1 e3
   by_cases z2:i=k
   ·subst z2
    rw[if_pos rfl] at e4
    split at e4
    ·cases e4
     obtain⟨a',us,h1,h2,_⟩:=r.ow j ys e1
     rw[e3] at h1;cases h1
     rw[n] at h2;cases h2
    ·cases e4
   ·rw[if_neg z2] at e2 e4
    exact r.sep j k ys zs a nj e1 e2 e3 e4
 ·rw[List.getElem?_set] at e ⊢
  by_cases z:i=j
  ·subst z
   rw[if_pos rfl] at e
   split at e <;> cases e
  ·rw[if_neg z] at e ⊢
   obtain⟨dx,us,h1,h2,h3,h4,h5⟩:=r.bd j ba C fs e
   exact⟨dx,us,h1,by rw[av (ne ba _ h2)];exact h2,h3,h4,h5⟩
 ·rw[List.getElem?_set] at e1 e2
  by_cases z:i=j
  ·subst z
   rw[if_pos rfl] at e1
   split at e1 <;> cases e1
  ·by_cases z2:i=k
   ·subst z2
    rw[if_pos rfl] at e2
    split at e2 <;> cases e2
   ·rw[if_neg z] at e1
    rw[if_neg z2] at e2
    exact r.one j k _ _ C D fs gs e1 e2
def vH(i:Nat)(env:af):af:=match env[i]? with
 | some (some (.ow xs))=>env.set i (some (.sh (.lst xs)))
 | _=>env
theorem SR.sG{B:Hp}{env:af}(i:Nat)(r:SR B H₀ Hs H σ env):∃ Pk,SR B H₀ Pk H σ (vH i env)/\bM Hs Pk:=by
 unfold vH
 split
 ·rename_i xs e
  obtain⟨a,vs,h1,h2,h3,h4,h5⟩:=r.ow i xs e
  have ne:∀ c u,Hs c=some u->c≠a:=λc u q z=>by rw[z,h3] at q;cases q
  have PY:bM Hs (upd Hs a (.lst vs)):=λc u q=>by rw[av (ne c u q)];exact q
  refine⟨upd Hs a (.lst vs),⟨⟨λc u q=>PY c u (r.gr.st c u q),r.gr.al,λc u q=>?_,λc u q1 q2=>?_⟩,by rw[List.length_set];exact r.len,λj q ej=>?_,λj ys ej=>?_,λj k ys zs b nj e1 e2 e3 e4=>?_,λj ba C fs ej=>?_,λj k _ _ C D fs gs e1 e2=>?_⟩,PY⟩
  ·by_cases z:c=a
   ·subst z;rw[aC] at q;cases q;exact h2
   ·rw[av z] at q;exact r.gr.sub c u q
  ·have z:c≠a:=λz=>by rw[z,h4] at q2;cases q2
   rw[av z];exact r.gr.nw c u q1 q2
  ·rw[List.getElem?_set] at ej
   by_cases z:i=j
   ·subst z
    rw[if_pos rfl] at ej
    split at ej
    ·cases ej
     exact⟨.ref a,h1,.lst aC (h5.mono PY)⟩
    ·cases ej
   ·rw[if_neg z] at ej
    obtain⟨v,q1,q2⟩:=r.sh j q ej
    exact⟨v,q1,q2.mono PY⟩
  ·rw[List.getElem?_set] at ej
   by_cases z:i=j
   ·subst z
    rw[if_pos rfl] at ej
    split at ej <;> cases ej
   ·rw[if_neg z] at ej
    obtain⟨b,us,q1,q2,q3,q4,q5⟩:=r.ow j ys ej
    have nb:b≠a:=λw=>by subst w;exact r.sep i j xs ys b z e ej h1 q1
    exact⟨b,us,q1,q2,by rw[av nb];exact q3,q4,q5.mono PY⟩
  ·rw[List.getElem?_set] at e1 e2
   by_cases z:i=j
   ·subst z
    rw[if_pos rfl] at e1
    split at e1 <;> cases e1
   ·by_cases z2:i=k
    ·subst z2
     rw[if_pos rfl] at e2
     split at e2 <;> cases e2
    ·rw[if_neg z] at e1
     rw[if_neg z2] at e2
     exact r.sep j k ys zs b nj e1 e2 e3 e4
  ·rw[List.getElem?_set] at ej
   by_cases z:i=j
   ·subst z
    rw[if_pos rfl] at ej
    split at ej <;> cases ej
   ·rw[if_neg z] at ej
    obtain⟨dx,us,q1,q2,q3,q4,q5⟩:=r.bd j ba C fs ej
    have nb:ba≠a:=λw=>by subst w;rw[h2] at q2;cases q2
    exact⟨dx,us,q1,q2,by rw[av nb];exact q3,q4,q5.mono PY⟩
  ·rw[List.getElem?_set] at e1 e2
   by_cases z:i=j
   ·subst z
    rw[if_pos rfl] at e1
    split at e1 <;> cases e1
   ·by_cases z2:i=k
    ·subst z2
     rw[if_pos rfl] at e2
     split at e2 <;> cases e2
    ·rw[if_neg z] at e1
     rw[if_neg z2] at e2
     exact r.one j k _ _ C D fs gs e1 e2
 ·exact⟨Hs,r,λ_ _ q=>q⟩
def uo(is:List Nat)(f:af->M Out):af->M Out:=λenv=>f (is.foldl (λe i=>vH i e) env)
theorem SR.oI{B H₀ H:Hp}{σ:St}:∀ {is:List Nat} {Hs:Hp} {env:af},SR B H₀ Hs H σ env->∃ Pk,SR B H₀ Pk H σ (is.foldl (λe i=>vH i e) env)/\bM Hs Pk
 | [],Hs,_,r=>⟨Hs,r,λ_ _ q=>q⟩
 | i::is,_,_,r=>by
  obtain⟨Px,r1,s1⟩:=r.sG i
  obtain⟨Pw,r2,s2⟩:=SR.oI (is:=is) r1
  exact⟨Pw,r2,λc u q=>s2 c u (s1 c u q)⟩
section
variable{E:XK}{pos:Pos}{f:af->M PV}{st:Stmt}{sts rest:List Stmt}{u:af->M Bool}{g h:af->M Out}
theorem Ir(is:List Nat)(hs:PS X st (tS E g)):PS X st (tS E (uo is g)):=hs.imp λD σ H q=>by
 obtain⟨B,H₀,Hs,env,sr,q⟩:=q
 obtain⟨Pk,r,_⟩:=sr.oI (is:=is)
 exact⟨B,H₀,Pk,_,r,q⟩
theorem Ff:nQ X [] (tS E ar):=Gf.imp λD σ H q=>by
 obtain⟨B,H₀,Hs,env,sr,q⟩:=q
 exact q σ Hs H sr
theorem BK(h1:PS X st (tS E g))(h2:nQ X rest (tS E h)):nQ X (st::rest) (tS E (ao g h)):=by
 refine(Du h1 h2).imp λD σ H q=>?_
 obtain⟨B,H₀,Hs,env,sr,q⟩:=q
 refine⟨B,H₀,Hs,env,sr,(ay.bind q).imp (λo ho=>?_) λe he=>he⟩
 cases o with
 | nx Pj=>exact fun σ' Pk H' Rn=>⟨B,H₀,Pk,Pj,Rn,ho⟩
 | rt p=>exact ho
 | bk Pj=>exact ho
 | ct Pj=>exact ho
def bg(i:Nat)(f:af->M PV):af->M Out:=λenv=>(f env).bind λp=>M.ok (.nx (env.set i (some (.sh p))))
theorem Kh(hN:X.N.Nodup)(hi:X.N[i]?=some x)(hx:Loc X.env.scope x)(he:PE X e (tE (λ_=>E) f))(hs:autoParam (swapsWith e (some (.Name x pos')) pos.line X.env=pure false) aR._auto_1)(hf:autoParam (X.fn x=true\/X.env.scope.names.lookup x=some .local) aF._auto_1) :
  PS X (.Assign [.Name x pos'] e pos) (tS E (bg i f)) :=
 (EI hN hi hx he hs hf).imp λD σ H q=>kL q λB H₀ Hs H1 env p v sr rp hp=>hp _ Hs H1 (sr.set rp)
def retS(f:af->M PV):af->M Out:=λenv=>(f env).bind λp=>M.ok (.rt p)
theorem JP(he:PE X e (tE (λ_=>E) f)):PS X (.Return (some e) pos) (tS E (retS f)) :=
 (Jq he).imp λD σ H q=>kL q λB H₀ Hs H1 env p v sr rp hp=>hp v Hs H1 sr.gr rp
def jA(f:af->M PV):af->M Out:=λenv=>(f env).bind λ_=>M.ok (.nx env)
theorem EU(he:PE X e (tE (λ_=>E) f))(hs:autoParam (swapsWith e none pos.line X.env=pure false) aR._auto_1):PS X (.Expr e pos) (tS E (jA f)) :=
 (Ad he hs).imp λD σ H q=>kL q λB H₀ Hs H1 env p v sr rp hp=>hp σ Hs H1 sr
def kd(u:af->M Bool)(g h:af->M Out):af->M Out:=λenv=>(u env).bind λb=>if b=true then g env else h env
theorem Lp{a b:List Stmt}(hc:PT X c (tT (λ_=>E) u))(ha:nQ X a (tS E g))(hb:nQ X b (tS E h)):PS X (.If c a b pos) (tS E (kd u g h)):=by
 refine(K7 hc ha hb).imp λD σ H q=>Cs q λB H₀ Hs H1 env p sr hp=>?_
 cases p with
 | true=>exact⟨B,H₀,Hs,env,sr,hp⟩
 | false=>exact⟨B,H₀,Hs,env,sr,hp⟩
end
def ov(Hs H₀:Hp):Hp:=λa=>match Hs a with
 | some o=>some o
 | none=>H₀ a
theorem pU{o:HO}(h:Hs a=some o):ov Hs H₀ a=some o:=by unfold ov;rw[h]
theorem kc(h:Hs a=none):ov Hs H₀ a=H₀ a:=by unfold ov;rw[h]
theorem F1(s:bM Hs H)(t:bM H₀ H):bM (ov Hs H₀) H:=λa o e=>by
 cases q:Hs a with
 | some o'=>rw[pU q] at e;cases e;exact s _ _ q
 | none=>rw[kc q] at e;exact t _ _ e
theorem SR.rebase{B:Hp}{env:af}(r:SR B H₀ Hs H σ env):SR Hs (ov Hs H₀) Hs H σ env where
 gr:=⟨λ_ _ e=>e,F1 r.gr.sub r.gr.al,r.gr.sub,λ_ _ e _=>e⟩
 len:=r.len
 sh:=r.sh
 ow:=λi xs e=>let ⟨a,vs,h1,h2,h3,h4,h5⟩:=r.ow i xs e;⟨a,vs,h1,h2,h3,by rw[kc h3];exact h4,h5⟩
 sep:=r.sep
 bd:=λi a C fs e=>let ⟨dx,vs,h1,h2,h3,h4,h5⟩:=r.bd i a C fs e;⟨dx,vs,h1,h2,h3,by rw[kc h3];exact h4,h5⟩
 one:=r.one
theorem cw.mz{B Pw H2:Hp}(g:cw B H₀ Hs H)(g2:cw Hs (ov Hs H₀) Pw H2):cw B H₀ Pw H2 where
 st:=λa o e=>g2.st a o (g.st a o e)
 al:=λa o e=>by
  cases q:Hs a with
  | some o' =>
   have h1:=g.sub a o' q
   have h2:=g.al a o e
   rw[h1] at h2;cases h2
   exact g2.al a _ (pU q)
  | none=>exact g2.al a o (by rw[kc q];exact e)
 sub:=g2.sub
 nw:=λa o e q=>by
  have h1:=g.nw a o e q
  exact g2.nw a o h1 (by rw[kc h1];exact q)
theorem SR.mz{B H₀ Hs H Pw H2:Hp}{σ:St}{env:af}(g:cw B H₀ Hs H)(r:SR Hs (ov Hs H₀) Pw H2 σ env):SR B H₀ Pw H2 σ env where
 gr:=g.mz r.gr
 len:=r.len
 sh:=r.sh
 ow:=λi xs e=>by
  obtain⟨a,vs,h1,h2,h3,h4,h5⟩:=r.ow i xs e
  refine⟨a,vs,h1,h2,h3,?_,h5⟩
  cases q:Hs a with
  | some o=>rw[pU q] at h4;cases h4
  | none=>rw[kc q] at h4;exact h4
 sep:=r.sep
 bd:=λi a C fs e=>by
  obtain⟨dx,vs,h1,h2,h3,h4,h5⟩:=r.bd i a C fs e
  refine⟨dx,vs,h1,h2,h3,?_,h5⟩
  cases q:Hs a with
  | some o=>rw[pU q] at h4;cases h4
  | none=>rw[kc q] at h4;exact h4
 one:=r.one
theorem XW.rebase{E:XK}{B:Hp}(g:cw B H₀ Hs H){x:EX}(h:XW E B H₀ x):XW E Hs (ov Hs H₀) x:=λea Pw H2 r q=>h ea Pw H2 (g.mz r) q
def KW(k:af->M Out):Out->M Out
 | .nx env=>k env
 | .ct env=>k env
 | .bk env=>M.ok (.nx env)
 | .rt p=>M.ok (.rt p)
def ku(set:PV->af->M af)(body:af->M Out):List PV->af->M Out
 | [],env=>M.ok (.nx env)
 | x::xs,env=>(set x env).bind λPj=>(body Pj).bind (KW (ku set body xs))
def ER(E:XK)(g:TG)(set:PV->af->M af):Prop:=∀ (B H₀ Hs H:Hp) (σ:St) (env:af) (p:PV) (v:V) (Q:St->Hp->Prop) (Z:EX->Prop),SR B H₀ Hs H σ env->Rep Hs p v->ay (set p env) (λPj=>∀ σ',SR B H₀ Hs H σ' Pj->Q σ' H) Z->g v σ H Q
def bK(i:Nat)(p:PV)(env:af):M af:=M.ok (env.set i (some (.sh p)))
theorem bf{E:XK}:ER E (aE i) (bK i):=λB H₀ Hs H σ env p v Q Z sr r h=>h _ (sr.set r)
def bB(i j:Nat):PV->af->M af
 | .tup [p,q],env=>M.ok ((env.set i (some (.sh p))).set j (some (.sh q)))
 | _,_=>none
theorem ck{E:XK}{K:PySem.W.Frag}:ER E (fM K 2 (bh (aE i) (bh (aE j) fV))) (bB i j):=by
 intro B H₀ Hs H σ env p v Q Z sr r h
 cases r with
 | @tup a xs vs ha hx =>
  match xs,hx with
  | [p,q],hx =>
   obtain⟨v,u,rfl,rp,rq⟩:=hx.two
   exact⟨a,[v,u],rfl,iD.of (sr.gr.sub _ _ ha),rfl,v,[u],rfl,u,[],rfl,rfl,h _ ((sr.set rp).set rq)⟩
  | [],_=>exact h.elim
  | [_],_=>exact h.elim
  | _::_::_::_,_=>exact h.elim
 | _=>exact h.elim
section
variable{E:XK}{g:TG}{set:PV->af->M af}{body:af->M Out}{D:Ends}{B:Hp}
def Jv(E:XK)(set:PV->af->M af)(body:af->M Out)(D:Ends)(B H₀ Px:Hp)(xs:List PV)(i:Nat)(σ:St)(H:Hp):Prop:=∃ Hs env,SR B H₀ Hs H σ env/\bM Px Hs/\ay (ku set body (xs.drop i) env) (KS D B H₀) (XW E B H₀)
theorem Jv.done(j:Jv E set body D B H₀ Px xs n σ H)(hn:xs.length<=n):D.nx σ H:=by
 obtain⟨Hs,env,sr,_,h⟩:=j
 rw[List.drop_eq_nil_of_le hn] at h
 exact h σ Hs H sr
theorem Jv.turn{H1 Hx:Hp}{x:PV}(tg:ER E g set)(hx:xs[i]?=some x){env:af}(sr:SR B H₀ Hs H σ env)(s1:bM Px Hs)(h:ay (ku set body (xs.drop i) env) (KS D B H₀) (XW E B H₀)){Pw H2:Hp}(gr:cw Hs H Pw H2)(rv:Rep Pw x v) :
  g v σ H2 fun σ2 H3=>tS E body { D with nx:=Jv E set body D B H₀ Px xs (i+1),ct:=Jv E set body D B H₀ Px xs (i+1),bk:=D.nx } σ2 H3:=by
 have QQ:i<xs.length:=(List.getElem?_eq_some_iff.mp hx).1
 have hd:xs.drop i=x::xs.drop (i+1):=by
  rw[List.drop_eq_getElem_cons QQ]
  rw[List.getElem?_eq_getElem QQ] at hx
  rw[Option.some.inj hx]
 rw[hd] at h
 have Qk:=sr.grow gr
 refine tg B H₀ Pw H2 σ env x v _ _ Qk rv ((ay.bind h).imp (λPj h' σ' Rn=>?_) λ_ z=>z)
 refine⟨Pw,ov Pw H₀,Pw,Pj,Rn.rebase,(ay.bind h').imp (λo ho=>?_) λe he=>he.rebase Rn.gr⟩
 cases o with
 | nx e2=>exact fun σ3 Rf H3 r=>⟨Rf,e2,r.mz Rn.gr,λa o z=>r.gr.st a o (gr.st a o (s1 a o z)),ho⟩
 | ct e2=>exact fun σ3 Rf H3 r=>⟨Rf,e2,r.mz Rn.gr,λa o z=>r.gr.st a o (gr.st a o (s1 a o z)),ho⟩
 | bk e2=>exact fun σ3 Rf H3 r=>ho σ3 Rf H3 (r.mz Rn.gr)
 | rt p=>exact λv3 Rf H3 r q=>ho v3 Rf H3 (Rn.gr.mz r) q
end
def je(it:af->M (List PV))(set:PV->af->M af)(body:af->M Out):af->M Out:=λenv=>(it env).bind λxs=>ku set body xs env
def itemsOf(f:af->M PV):af->M (List PV):=λenv=>(f env).bind λp=>match cF p with | some xs=>M.ok xs | none=>none
theorem lp{K:PySem.W.Frag}(s:bM Hs H)(r:Rep Hs p v)(e:cF p=some xs):∃ b a vs,v=.ref a/\(∀ Pk H',bM Hs Pk->bM Pk H'->lU K H' b a vs)/\aZ Hs xs vs:=by
 cases r with
 | tup h r=>cases e;exact⟨false,_,_,rfl,λPk H' s1 s2=>iD.of (s2 _ _ (s1 _ _ h)),r⟩
 | lst h r=>cases e;exact⟨true,_,_,rfl,λPk H' s1 s2=>iT.of (s2 _ _ (s1 _ _ h)),r⟩
 | kF h r=>cases e;exact⟨true,_,_,rfl,λPk H' s1 s2=>.inl (.inr ⟨_,s2 _ _ (s1 _ _ h)⟩),r⟩
 | _=>cases e
section
variable{E:XK}{pos p:Pos}{f f2:af->M PV}{g:TG}{set:PV->af->M af}{body:af->M Out}{bd:List Stmt}
end
def Of:PV->M (List PV)
 | .int n=>cZ (-(2^62)<=n/\n<2^62) (M.ok ((List.range n.toNat).map λ(i:Nat)=>.int (0+(i:Int))))
 | _=>none
def Nf:PV->PV->M (List PV)
 | .int a,.int b=>cZ (-(2^62)<=a/\a<2^62/\-(2^62)<=b/\b<2^62) (M.ok ((List.range (b-a).toNat).map λ(i:Nat)=>.int (a+(i:Int))))
 | _,_=>none
def rm:List PV->M (List PV)
 | [p]=>Of p
 | _=>none
def yW:List PV->M (List PV)
 | [p,q]=>Nf p q
 | _=>none
variable{Z:EX->Prop}
theorem Bg{ps:List PV}{k:List PV->M α}{Q:α->Prop}(h:ay ((rm ps).bind k) Q Z):∃ n:Int,ps=[.int n]/\-(2^62)<=n/\n<2^62/\ay (k ((List.range n.toNat).map λ(i:Nat)=>.int (0+(i:Int)))) Q Z:=by
 match ps with
 | []=>exact h.elim
 | _::_::_=>exact h.elim
 | [p] =>
  cases p with
  | int n =>
   obtain⟨hc,h⟩:=ay.cZ (ay.bind h)
   exact⟨n,rfl,hc.1,hc.2,h⟩
  | _=>exact h.elim
theorem A8{ps:List PV}{k:List PV->M α}{Q:α->Prop}(h:ay ((yW ps).bind k) Q Z):∃ a b:Int,ps=[.int a,.int b]/\(-(2^62)<=a/\a<2^62/\-(2^62)<=b/\b<2^62)/\ay (k ((List.range (b-a).toNat).map λ(i:Nat)=>.int (a+(i:Int)))) Q Z:=by
 match ps with
 | []=>exact h.elim
 | [_]=>exact h.elim
 | _::_::_::_=>exact h.elim
 | [p,q] =>
  cases p with
  | int a=>cases q with
   | int b =>
    obtain⟨hc,h⟩:=ay.cZ (ay.bind h)
    exact⟨a,b,rfl,hc,h⟩
   | _=>exact h.elim
  | _=>exact h.elim
def zip2:List PV->M (List PV)
 | [p,q]=>match cF p,cF q with
  | some xs,some ys=>M.ok (List.zipWith (λa b=>.tup [a,b]) xs ys)
  | _,_=>none
 | _=>none
theorem AW{ps:List PV}{k:List PV->M α}{Q:α->Prop}(h:ay ((zip2 ps).bind k) Q Z):∃ p q xs ys,ps=[p,q]/\cF p=some xs/\cF q=some ys/\ay (k (List.zipWith (λa b=>.tup [a,b]) xs ys)) Q Z:=by
 match ps with
 | []=>exact h.elim
 | [_]=>exact h.elim
 | _::_::_::_=>exact h.elim
 | [p,q] =>
  unfold zip2 at h
  dsimp only at h
  cases e1:cF p with
  | none=>rw[e1] at h;exact h.elim
  | some xs =>
   cases e2:cF q with
   | none=>rw[e1,e2] at h;exact h.elim
   | some ys=>rw[e1,e2] at h;exact⟨p,q,xs,ys,rfl,e1,e2,h⟩
theorem BA{f:Nat->PV}(h:i<n):((List.range n).map f)[i]?=some (f i):=by
 rw[List.getElem?_map,List.getElem?_range h];rfl
section
variable{E:XK}{a b l l1 l2:Expr}{pos p tp:Pos}{fs:af->M (List PV)}{g:TG}{set:PV->af->M af}{body:af->M Out}{bd:List Stmt}
end
def KO(Q:VK):Hp->Hp->List PV->Prop:=λHs H ps=>∀ vs p Pk H',cw Hs H Pk H'->aZ Pk ps vs->H' p=none->Q (.ref p) (upd H' p (.lst vs))
def tO(E:St->XK)(f:af->M (List PV)):TE:=fun σ H Q=>tG E f (KO Q) σ H
variable{px:Pos}
section
variable{E:XK}{pos:Pos}{fs:af->M (List PV)}{f:af->M PV}
def uA(i:Nat)(f:af->M (List PV)):af->M Out:=λenv=>(f env).bind λps=>M.ok (.nx (env.set i (some (.ow ps))))
theorem Fw(hN:X.N.Nodup)(hi:X.N[i]?=some x)(hx:Loc X.env.scope x)(he:PE X e (tO (λ_=>E) fs))(hs:autoParam (swapsWith e (some (.Name x pos')) pos.line X.env=pure false) aR._auto_1)(hf:autoParam (X.fn x=true\/X.env.scope.names.lookup x=some .local) aF._auto_1) :
  PS X (.Assign [.Name x pos'] e pos) (tS E (uA i fs)):=by
 refine(EI hN hi hx he hs hf).imp λD σ H q=>?_
 obtain⟨B,H₀,Hs,env,sr,q⟩:=q
 refine⟨B,H₀,Hs,env,sr,(ay.bind q).imp (λps hp vs p Pk H' g r n=>?_) λe he=>he.grow sr.gr⟩
 exact hp _ Pk _ ((sr.grow g).own r n)
def nJ(fs:af->M (List PV)):af->M (List PV):=λenv=>(fs env).bind λps=>if ps.length<=sizeLine then M.ok ps else none
theorem IH{E:St->XK}(hr:PA X es (tL E fs)):PE X (.List es pos) (tO E (nJ fs)):=by
 refine(Dh hr).imp fun σ H Q q=>?_
 obtain⟨B,H₀,Hs,env,sr,q⟩:=q
 refine⟨B,H₀,Hs,env,sr,(ay.bind q).imp (λps hp vs Pk H' g r=>?_) λe he=>he⟩
 by_cases hz:ps.length<=sizeLine
 ·rw[if_pos hz] at hp
  exact⟨by rw[← r.length];exact hz,λp n=>hp vs p Pk H' g r n⟩
 ·rw[if_neg hz] at hp;exact hp.elim
def pv(i:Nat)(f:af->M PV):af->M Out:=λenv=>match env[i]? with
 | some (some (.ow xs))=>(f env).bind λp=>if xs.length<sizeLine then M.ok (.nx (env.set i (some (.ow (xs++[p]))))) else none
 | _=>none
theorem SR.put{B:Hp}{env:af}{ys:List PV}{us:List V}(r:SR B H₀ Hs H σ env)(e:env[i]?=some (some (.ow xs)))(hi:σ[i]?=some (some (.ref a)))(h:aZ Hs ys us):SR B H₀ Hs (upd H a (.lst us)) σ (env.set i (some (.ow ys))):=by
 obtain⟨a',vs,h1,h2,h3,h4,h5⟩:=r.ow i xs e
 rw[hi] at h1;cases h1
 have nS:∀ c u,Hs c=some u->c≠a:=λc u q z=>by rw[z,h3] at q;cases q
 have n0:∀ c u,H₀ c=some u->c≠a:=λc u q z=>by rw[z,h4] at q;cases q
 refine⟨⟨r.gr.st,λc u q=>by rw[av (n0 c u q)];exact r.gr.al c u q,λc u q=>by rw[av (nS c u q)];exact r.gr.sub c u q,r.gr.nw⟩,by rw[List.length_set];exact r.len,λj q ej=>?_,λj zs ej=>?_,λj k y1 y2 b nj e1 e2 e3 e4=>?_,λj ba C fs ej=>?_,λj k _ _ C D fs gs e1 e2=>?_⟩
 ·rw[List.getElem?_set] at ej
  by_cases z:i=j
  ·subst z
   rw[if_pos rfl] at ej
   split at ej <;> cases ej
  ·rw[if_neg z] at ej;exact r.sh j q ej
 ·rw[List.getElem?_set] at ej
  by_cases z:i=j
  ·subst z
   rw[if_pos rfl] at ej
   split at ej
   ·cases ej;exact⟨a,us,hi,aC,h3,h4,h⟩
   ·cases ej
  ·rw[if_neg z] at ej
   obtain⟨b,ws,q1,q2,q3,q4,q5⟩:=r.ow j zs ej
   have nb:b≠a:=λw=>by subst w;exact r.sep i j xs zs b z e ej hi q1
   exact⟨b,ws,q1,by rw[av nb];exact q2,q3,q4,q5⟩
 ·have o1:∃ w,env[j]?=some (some (.ow w)):=by
   rw[List.getElem?_set] at e1
   by_cases z:i=j
   ·subst z;exact⟨xs,e⟩
   ·rw[if_neg z] at e1;exact⟨_,e1⟩
  have o2:∃ w,env[k]?=some (some (.ow w)):=by
   rw[List.getElem?_set] at e2
   by_cases z:i=k
   ·subst z;exact⟨xs,e⟩
   ·rw[if_neg z] at e2;exact⟨_,e2⟩
  obtain⟨w1,o1⟩:=o1
  obtain⟨w2,o2⟩:=o2
  exact r.sep j k w1 w2 b nj o1 o2 e3 e4
 ·rw[List.getElem?_set] at ej
  by_cases z:i=j
  ·subst z
   rw[if_pos rfl] at ej
   split at ej <;> cases ej
  ·rw[if_neg z] at ej
   obtain⟨dx,ws,q1,q2,q3,q4,q5⟩:=r.bd j ba C fs ej
   have nb:ba≠a:=λw=>by subst w;rw[h2] at q2;cases q2
   exact⟨dx,ws,q1,by rw[av nb];exact q2,q3,q4,q5⟩
 ·rw[List.getElem?_set] at e1 e2
  by_cases z:i=j
  ·subst z
   rw[if_pos rfl] at e1
   split at e1 <;> cases e1
  ·by_cases z2:i=k
   ·subst z2
    rw[if_pos rfl] at e2
    split at e2 <;> cases e2
   ·rw[if_neg z] at e1
    rw[if_neg z2] at e2
    exact r.one j k _ _ C D fs gs e1 e2
theorem Ap(hi:X.N[i]?=some x)(hv:EN X.env.scope x)(he:PE X e (tE (λ_=>E) f))(hd:autoParam ((x==("__debug__" : Str))=false) aD._auto_1)(QP:autoParam ((x==("__classdict__" : Str))=false) aD._auto_1)
  (Ro:autoParam (attributeBase (.Name x px) "append" X.env (eval (.Name x px) X.env)=eval (.Name x px) X.env) aR._auto_1)
  (RU:autoParam (((backTo Pz (starEach [e] X.env)).all (λx=>!x.1)&&(backToKw Pz (keywordEach [] X.env)).all (λx=>x.1.isSome)
   && decide (([e]:List Expr).length+([]:List Keyword).length+(if ([]:List Keyword).isEmpty then 0 else 1)<30))=true) aR._auto_1)
  (Rp:autoParam ((apos.endLine==Pz.line)=true) aR._auto_1) (PY:autoParam (starEach [e] X.env=(false,eval e X.env)::starEach [] X.env) aR._auto_1) (Q7:autoParam ((backTo Pz (starEach [] X.env)).any (·.1)=false) aR._auto_1)
  (hs:autoParam (swapsWith (.Call (.Attribute (.Name x px) "append" apos) [e] [] Pz) none pos.line X.env=pure false) aR._auto_1) :
  PS X (.Expr (.Call (.Attribute (.Name x px) "append" apos) [e] [] Pz) pos) (tS E (pv i f)):=by
 refine(Ad (G9 PySem.F.plainAttrs_list PySem.F.slot_list_append PySem.F.type_list_append sR (oh hi hv hd QP) (fF he mD PY) Ro RU Rp PY Q7) hs).imp λD σ H q=>?_
 obtain⟨B,H₀,Hs,env,sr,q⟩:=q
 unfold pv at q
 split at q
 ·rename_i xs ex
  obtain⟨a,vs,h1,h2,h3,h4,h5⟩:=sr.ow i xs ex
  refine⟨.ref a,h1,.inl ⟨rfl,vs,iT.of h2⟩,B,H₀,Hs,env,sr,(ay.bind q).imp (λp hp v Pk H' g r=>?_) λe he=>he.grow sr.gr⟩
  by_cases hz:xs.length<sizeLine
  ·rw[if_pos hz] at hp
   have Rn:=sr.grow g
   have r5:aZ Pk (xs++[p]) (vs++[v]):=(h5.mono g.st).snoc r
   exact⟨a,vs,v,rfl,rfl,g.al _ _ h2,by rw[← h5.length];exact hz,hp σ Pk _ (Rn.put ex h1 r5)⟩
  ·rw[if_neg hz] at hp;exact hp.elim
 ·exact q.elim
end
def HI:Out->M PV
 | .rt p=>M.ok p
 | .nx _=>M.ok .da
 | _=>none
def mF(m:Nat)(ps:List PV):af:=ps.map (λp=>some (.sh p))++List.replicate (m-ps.length) none
def au(m:Nat)(g:af->M Out)(ps:List PV):M PV:=(g (mF m ps)).bind HI
theorem SR.start{Hs H:Hp}{N:List Str}{ps:List PV}{vs:List V}(s:bM Hs H)(r:aZ Hs ps vs):SR Hs H Hs H (start N vs) (mF N.length ps) where
 gr:=.refl s
 len:=by unfold L2.start mF;simp[r.length]
 sh:=λi p e=>by
  unfold mF at e
  unfold L2.start
  by_cases hi:i<ps.length
  ·rw[List.getElem?_append_left (by simpa using hi),List.getElem?_map,List.getElem?_eq_getElem hi] at e
   cases e
   obtain⟨v,h1,h2⟩:=r.get (List.getElem?_eq_getElem hi)
   exact⟨v,by rw[List.getElem?_append_left (by simpa using (r.length▸hi)),List.getElem?_map,h1];rfl,h2⟩
  ·rw[List.getElem?_append_right (by simpa using hi),List.getElem?_replicate] at e
   split at e <;> cases e
 ow:=λi xs e=>by
  unfold mF at e
  by_cases hi:i<ps.length
  ·rw[List.getElem?_append_left (by simpa using hi),List.getElem?_map,List.getElem?_eq_getElem hi] at e
   cases e
  ·rw[List.getElem?_append_right (by simpa using hi),List.getElem?_replicate] at e
   split at e <;> cases e
 sep:=λi j xs ys a _ e=>by
  unfold mF at e
  by_cases hi:i<ps.length
  ·rw[List.getElem?_append_left (by simpa using hi),List.getElem?_map,List.getElem?_eq_getElem hi] at e
   cases e
  ·rw[List.getElem?_append_right (by simpa using hi),List.getElem?_replicate] at e
   split at e <;> cases e
 bd:=λi a C fs e=>by
  unfold mF at e
  by_cases hi:i<ps.length
  ·rw[List.getElem?_append_left (by simpa using hi),List.getElem?_map,List.getElem?_eq_getElem hi] at e
   cases e
  ·rw[List.getElem?_append_right (by simpa using hi),List.getElem?_replicate] at e
   split at e <;> cases e
 one:=λi j a b C D fs gs e=>by
  unfold mF at e
  by_cases hi:i<ps.length
  ·rw[List.getElem?_append_left (by simpa using hi),List.getElem?_map,List.getElem?_eq_getElem hi] at e
   cases e
  ·rw[List.getElem?_append_right (by simpa using hi),List.getElem?_replicate] at e
   split at e <;> cases e
theorem HM{K:PySem.W.Frag}{dV kV doc pm PD ct oc:Value}{g:af->M Out}(lk:K.lookup f=some ⟨oc,od,.func (PySem.W.fnOf name qual params body scope dV kV doc pm an PD ct),R8⟩)(QP:PySem.W.codeIn K PD qual=true)(S:cv N ps scope)
  (hb:∀ (A:Around) (outer:List Env) (s:Shared) (H:Hp) (E:XK),cV k (A.deeper (envOfC qual scope s.heap.objs.size f PD))->nQ ((mJ (bU P w) P w K mg base N qual scope f PD A outer s H E).out λ_=>E) body (tS E g)) :
  aO P w K mg base (bU P w) (k+1) f (PySem.W.fnOf name qual params body scope dV kV doc pm an PD ct) ps (dy ps.length (au N.length g)):=by
 refine yV lk QP S (λvs H Q E h=>h.1) λA outer s H vs Q E hr hs=>⟨_,hb A outer s H E hr,?_⟩
 obtain⟨_,Hs,Q3,sm,r,h⟩:=hs
 refine⟨Hs,H,Hs,_,SR.start sm r,(ay.bind h).imp (λo ho=>?_) λe he=>he⟩
 cases o with
 | rt p=>exact λv Pk H' gr rv=>ho v Pk H' gr rv
 | nx env=>exact fun σ Pk H' sr=>ho .da Pk H' sr.gr .da
 | bk env=>exact ho.elim
 | ct env=>exact ho.elim
section
variable{E:XK}{pos p:Pos}{fs:af->M (List PV)}
def mC(C:Addr)(fs:af->M (List PV)):af->M Out:=λenv=>(fs env).bind λps=>cZ (ps.length<=sizeLine) (some (.error (C,none)))
theorem Aj(O:fH X λ_=>E)(Pr:X.calm=true)(hc:PySem.W.excIn X.K C fW "ValueError.__new__" = true)(c:gU X.K C)(ht:PySem.W.typeIn X.K (.ref C)=some (.type "type"))(kp:PySem.W.keepIn X.K (.ref C)=true)(hg:Gl X x)(hm:X.mg x=some (.ref C))(ha:PA X (e::es) (tL (λ_=>E) fs))
  (QD:autoParam ((x==("__debug__" : Str))=false) aD._auto_1) (he:autoParam (starEach (e::es) X.env=(false,eval e X.env)::starEach es X.env) aR._auto_1) (PK:autoParam ((backTo Pz (starEach es X.env)).any (·.1)=false) aR._auto_1) :
  PS X (.Raise (some (.Call (.Name x p) (e::es) [] Pz)) none pos) (tS E (mC C fs)):=by
 refine(wy O Pr (GK hc kp hg hm ha QD he PK)).imp λD σ H q=>rR q λB H₀ Hs H1 env Q3 v sr rp hp=>?_
 obtain⟨hz,hp⟩:=ay.cZ hp
 refine⟨by rw[← rp.length];exact hz,λa n=>⟨a,C,none,rfl,aC,c,ht,?_⟩⟩
 rw[z_]
 exact hp a (upd Hs a (j4 C none a)) _ (sr.gr.trans (cw.new sr.gr.sub n)) (.Bc aC)
def yz(K:PySem.W.Frag)(C:Addr)(fl:Str):Sp:=λvs H Q _=>∃ a y,vs=[.ref a,y]/\H a=some (lV C none a)/\∀ d,H d=none->d≠a->Q .da (upd (upd H d (.xd [(fl,y)])) a (lV C (some d) a))
def jo(C:Addr)(fl:Str)(fs:af->M (List PV)):af->M Out:=λenv=>(fs env).bind λps=>match ps with
 | [p]=>some (.error (C,some [(fl,p)]))
 | _=>none
theorem Bn{fl:Str}(O:fH X λ_=>E)(Pr:X.calm=true)(hc:qm X.K C "ValueError.__new__" f=true)(hf:PySem.W.isFn X.K (.ref f)=true)(c:gU X.K C)(ht:PySem.W.typeIn X.K (.ref C)=some (.type "type"))(kp:PySem.W.keepIn X.K (.ref C)=true)(F:aO X.prog X.w X.K X.mg X.base (bU X.prog X.w) k f fd ps (yz X.K C fl))(hr:cV (k+1) X.A)(hb:Binds X.K fd ps [])
  (hg:Gl X x) (hm:X.mg x=some (.ref C)) (ha:PA X [e] (tL (λ_=>E) fs))
  (QD:autoParam ((x==("__debug__" : Str))=false) aD._auto_1) (he:autoParam (starEach [e] X.env=(false,eval e X.env)::starEach [] X.env) aR._auto_1) (PK:autoParam ((backTo Pz (starEach [] X.env)).any (·.1)=false) aR._auto_1) :
  PS X (.Raise (some (.Call (.Name x p) [e] [] Pz)) none pos) (tS E (jo C fl fs)):=by
 refine(wy O Pr (C8 hc hf kp F hr hb hg hm ha QD he PK)).imp λD σ H q=>rR q λB H₀ Hs H1 env Q3 v sr rp hp=>?_
 match Q3,rp,hp with
 | [],_,hp=>exact hp.elim
 | _::_::_,_,hp=>exact hp.elim
 | [y],rp,hp =>
  obtain⟨v,rfl,ry⟩:=rp.one
  refine⟨by show 1<=sizeLine;decide,λa n=>⟨a,v,rfl,aC,λd hd hda=>⟨rfl,a,C,some d,rfl,aC,c,ht,?_⟩⟩⟩
  rw[z_]
  have hd1:H1 d=none:=by rw[av hda] at hd;exact hd
  have g1:=cw.new (o:=.xd [(fl,v)]) sr.gr.sub hd1
  have RX:upd H1 d (.xd [(fl,v)]) a=none:=by rw[av (Ne.symm hda)];exact n
  have g2:=cw.new (o:=j4 C (some d) a) g1.sub RX
  have hH:upd (upd (upd H1 a (lV C none a)) d (.xd [(fl,v)])) a (j4 C (some d) a)=upd (upd H1 d (.xd [(fl,v)])) a (j4 C (some d) a):=by
   funext b
   by_cases z:b=a
   ·subst z;rw[aC,aC]
   ·rw[av z,av z]
    by_cases z2:b=d
    ·subst z2;rw[aC,aC]
    ·rw[av z2,av z2,av z]
  rw[hH]
  refine hp a (upd (upd Hs d (.xd [(fl,v)])) a (j4 C (some d) a)) _ ((sr.gr.trans g1).trans g2) ?_
  exact .AN aC (by rw[av hda];exact aC) (.cons ((ry.mono g1.st).mono g2.st) .nil)
theorem mT{K:PySem.W.Frag}{dV kV doc pm PD ct oc:Value}{n0 n1 fl:Str}{p0 p1 p2 p3:Pos}(lk:K.lookup f=some ⟨oc,od,.func (PySem.W.fnOf name qual params [.Assign [.Attribute (.Name n0 p0) fl p1] (.Name n1 p2) p3] scope dV kV doc pm an PD ct),R8⟩)(QP:PySem.W.codeIn K PD qual=true)(S:cv [n0,n1] [n0,n1] scope)
  (c:gU K C) (ho:((PySem.W.clsIn K C).any λcd=>gk cd.mro)=true) (na:bC K C fl) (v0:EN scope n0) (v1:EN scope n1) (d0:(n0==("__debug__" : Str))=false) (d1:(n1==("__debug__" : Str))=false) (c0:(n0==("__classdict__" : Str))=false) (c1:(n1==("__classdict__" : Str))=false)
  (hs:∀ env,swapsWith (.Name n1 p2) (some (.Attribute (.Name n0 p0) fl p1)) p3.line env=pure false) :
  aO P w K mg base (bU P w) 1 f (PySem.W.fnOf name qual params [.Assign [.Attribute (.Name n0 p0) fl p1] (.Name n1 p2) p3] scope dV kV doc pm an PD ct) [n0,n1] (yz K C fl):=by
 refine yV (k:=0) lk QP S (λvs H Q E h=>by obtain⟨a,y,rfl,_⟩:=h;rfl) λA outer s H vs Q E hr h=>?_
 obtain⟨a,y,rfl,ha,hq⟩:=h
 refine⟨_,Fo (Eb (oh (i:=0) rfl v0 d0 c0) (oh (i:=1) rfl v1 d1 c1) (hs _)),?_⟩
 exact⟨y,rfl,.ref a,rfl,a,C,rfl,ha,c,ho,na,hq⟩
end
structure kU (J:It) (Px:Hp) (xs:List PV):Prop where
 stop:∀ (i:Nat) (Hs H:Hp),bM Px Hs->bM Hs H->xs.length<=i->J.stop i H
 go:∀ (i:Nat) (Hs H:Hp),bM Px Hs->bM Hs H->i<xs.length->J.go i H
 w4:∀ (i:Nat) (Hs H:Hp) (x:V) (H2:Hp),bM Px Hs->bM Hs H->i<xs.length->J.w4 i H x H2->∃ p Pw,xs[i]?=some p/\cw Hs H Pw H2/\Rep Pw p x
def KI(R:It->Hp->Prop):Hp->Hp->List PV->Prop:=λHs H xs=>∀ J Pk H',cw Hs H Pk H'->kU J Pk xs->R J H'
def A5(E:St->XK)(wi:TI)(it:af->M (List PV)):Prop:=∀ (σ:St) (H:Hp) (R:It->Hp->Prop),tG E it (KI R) σ H->wi σ H R
theorem KI.g{R:It->Hp->Prop}:KG (KI R):=λHs H Pk H' b k g J Pw H2 g2 o=>k J Pw H2 (g.trans g2) o
section
variable{K:PySem.W.Frag}{f:af->M PV}{fs:af->M (List PV)}
theorem DR(hq:∀ Pk H',bM Px Pk->bM Pk H'->lU K H' b a vs)(hr:aZ Px xs vs):kU (Nw K b a) Px xs where
 stop:=λi Hs H s1 s2 hi=>by
  have q:=hq Hs H s1 s2
  cases b with
  | true=>exact⟨vs,q,by rw[← hr.length];exact hi⟩
  | false=>exact⟨vs,q,by rw[← hr.length];exact hi⟩
 go:=λi Hs H s1 s2 hi=>by
  have q:=hq Hs H s1 s2
  obtain⟨v,e,_⟩:=hr.get (List.getElem?_eq_getElem hi)
  cases b with
  | true=>exact⟨vs,v,q,e⟩
  | false=>exact⟨vs,v,q,e⟩
 w4:=λi Hs H x H2 s1 s2 hi y=>by
  have q:=hq Hs H s1 s2
  obtain⟨v,e,r⟩:=hr.get (List.getElem?_eq_getElem hi)
  have z:H2=H/\vs[i]?=some x:=by
   cases b with
   | true=>exact⟨y.1,y.2 vs q⟩
   | false=>exact⟨y.1,y.2 vs q⟩
  obtain⟨rfl,z⟩:=z
  rw[e] at z;cases z
  exact⟨xs[i],Hs,List.getElem?_eq_getElem hi,.refl s2,r.mono s1⟩
theorem bX:A5 E (Lj K (tE E f)) (itemsOf f):=by
 intro σ H R q
 refine cC (K:=KI R) KI.g q λB H₀ Hs H1 env p v sr rp hp=>?_
 cases e:cF p with
 | none=>rw[e] at hp;exact hp.elim
 | some xs =>
  rw[e] at hp
  obtain⟨b,a,vs,rfl,hq,hr⟩:=lp (K:=K) sr.gr.sub rp e
  exact⟨b,a,rfl,⟨vs,hq Hs H1 (λ_ _ z=>z) sr.gr.sub⟩,hp (Nw K b a) Hs H1 (.refl sr.gr.sub) (DR hq hr)⟩
def jg(o:List PV->M (List PV))(fs:af->M (List PV)):af->M (List PV):=λenv=>(fs env).bind o
theorem wI{lo:Int}:kU (L6 lo n) Px ((List.range n).map λ(i:Nat)=>PV.int (lo+(i:Int))) where
 stop:=λi Hs H s1 s2 hi=>show n<=i by simpa using hi
 go:=λi Hs H s1 s2 hi=>show i<n by simpa using hi
 w4:=λi Hs H x H2 s1 s2 hi y=>by
  obtain⟨rfl,rfl⟩:=y
  exact⟨_,Hs,BA (by simpa using hi),.refl s2,.int _⟩
theorem aV(x:M α):x.bind M.ok=x:=by
 cases x with
 | none=>rfl
 | some x=>cases x <;> rfl
theorem iz:A5 E (Ho (tL E fs)) (jg rm fs):=by
 intro σ H R q
 refine dZ (K:=KI R) KI.g q λB H₀ Hs H1 env ps v sr rp hp=>?_
 rw[← aV (rm ps)] at hp
 obtain⟨n,rfl,h1,h2,hp⟩:=Bg hp
 obtain⟨w,rfl,Ra⟩:=rp.one
 cases Ra
 exact⟨n,rfl,h1,h2,hp _ Hs H1 (.refl sr.gr.sub) wI⟩
theorem xu:A5 E (GR (tL E fs)) (jg yW fs):=by
 intro σ H R q
 refine dZ (K:=KI R) KI.g q λB H₀ Hs H1 env ps v sr rp hp=>?_
 rw[← aV (yW ps)] at hp
 obtain⟨n,m,rfl,h1,hp⟩:=A8 hp
 obtain⟨w,u,rfl,Ra,ru⟩:=rp.two
 cases Ra
 cases ru
 exact⟨n,m,rfl,h1,hp _ Hs H1 (.refl sr.gr.sub) wI⟩
theorem Cg{ys:List PV}(h1:i<xs.length)(h2:i<ys.length):(List.zipWith (λa b=>PV.tup [a,b]) xs ys)[i]?=some (.tup [xs[i],ys[i]]):=by
 rw[List.getElem?_zipWith,List.getElem?_eq_getElem h1,List.getElem?_eq_getElem h2]
theorem DQ{b1 b2:Bool}{a1 a2:Addr}{ys:List PV}{us:List V}(Qm:∀ Pk H',bM Px Pk->bM Pk H'->lU K H' b1 a1 vs)(RY:aZ Px xs vs)(P9:∀ Pk H',bM Px Pk->bM Pk H'->lU K H' b2 a2 us)(RZ:aZ Px ys us) :
  kU (NP K b1 b2 a1 a2) Px (List.zipWith (λa b=>PV.tup [a,b]) xs ys) where
 stop:=λi Hs H s1 s2 hi=>by
  rw[List.length_zipWith,RY.length,RZ.length] at hi
  exact⟨vs,us,Qm Hs H s1 s2,P9 Hs H s1 s2,by omega⟩
 go:=λi Hs H s1 s2 hi=>by
  rw[List.length_zipWith] at hi
  obtain⟨v,e,_⟩:=RY.get (List.getElem?_eq_getElem (show i<xs.length by omega))
  obtain⟨u,e',_⟩:=RZ.get (List.getElem?_eq_getElem (show i<ys.length by omega))
  exact⟨vs,us,v,u,Qm Hs H s1 s2,P9 Hs H s1 s2,e,e'⟩
 w4:=λi Hs H x H2 s1 s2 hi y=>by
  rw[List.length_zipWith] at hi
  have l1:i<xs.length:=by omega
  have l2:i<ys.length:=by omega
  obtain⟨v,e,r⟩:=RY.get (List.getElem?_eq_getElem l1)
  obtain⟨u,e',r'⟩:=RZ.get (List.getElem?_eq_getElem l2)
  obtain⟨pa,v',u',hn,rfl,rfl,y1,y2⟩:=y
  have z1:=y1 vs (Qm Hs H s1 s2)
  have z2:=y2 us (P9 Hs H s1 s2)
  rw[e] at z1;cases z1
  rw[e'] at z2;cases z2
  have gr:=cw.new (o:=.tup [v,u]) s2 hn
  exact⟨_,_,Cg l1 l2,gr,.tup aC (.cons ((r.mono s1).mono gr.st) (.cons ((r'.mono s1).mono gr.st) .nil))⟩
theorem eI:A5 E (LI K (tL E fs)) (jg zip2 fs):=by
 intro σ H R q
 refine dZ (K:=KI R) KI.g q λB H₀ Hs H1 env ps v sr rp hp=>?_
 rw[← aV (zip2 ps)] at hp
 obtain⟨p,q,xs,ys,rfl,e1,e2,hp⟩:=AW hp
 obtain⟨w,u,rfl,Ra,ru⟩:=rp.two
 obtain⟨b1,a1,vs,rfl,Qm,RY⟩:=lp (K:=K) sr.gr.sub Ra e1
 obtain⟨b2,a2,us,rfl,P9,RZ⟩:=lp (K:=K) sr.gr.sub ru e2
 exact⟨b1,b2,a1,a2,rfl,⟨vs,Qm Hs H1 (λ_ _ z=>z) sr.gr.sub⟩,⟨us,P9 Hs H1 (λ_ _ z=>z) sr.gr.sub⟩,hp _ Hs H1 (.refl sr.gr.sub) (DQ Qm RY P9 RZ)⟩
end
theorem cL{E:XK}{pos:Pos}{g:TG}{set:PV->af->M af}{body:af->M Out}{bd:List Stmt}{wi:TI}{it:af->M (List PV)}(O:fH X λ_=>E)(hc:X.calm=true)(hi:PI X tg iter wi)(hv:A5 (λ_=>E) wi it)(hg:PG X tg g)(R_:ER E g set)(hb:nQ X bd (tS E body))(hs:autoParam (∀ x,foldedSetIterable iter X.env x=pure x) aI._auto_1) :
  PS X (.For tg iter bd [] pos) (tS E (je it set body)):=by
 refine(J4 O.own hc hi hg hb hs).imp λD σ H q=>hv σ H _ ?_
 obtain⟨B,H₀,Hs,env,sr,q⟩:=q
 refine⟨B,H₀,Hs,env,sr,(ay.bind q).imp (λxs hp J Pk H' gr ok=>?_) λe he=>he.grow sr.gr⟩
 have Rn:=sr.grow gr
 refine⟨λi m σ H=>m=xs.length-i/\i<=xs.length/\Jv E set body D B H₀ Pk xs i σ H,⟨xs.length,by simp,Nat.zero_le _,Pk,env,Rn,λ_ _ z=>z,hp⟩,?_⟩
 rintro i m σ' H2 ⟨rfl,hi,Pw,env2,Qk,s2,h2⟩
 by_cases QQ:i<xs.length
 ·refine .inr ⟨ok.go i Pw H2 s2 Qk.gr.sub QQ,Jv E set body D B H₀ Pk xs (i+1),fun σ3 H3 j=>⟨xs.length-(i+1),by omega,rfl,QQ,j⟩,λx H3 y=>?_⟩
  obtain⟨p,Rf,ep,g3,r3⟩:=ok.w4 i Pw H2 x H3 s2 Qk.gr.sub QQ y
  exact Jv.turn (Hx:=H2) (H1:=H2) R_ ep Qk s2 h2 g3 r3
 ·have e:i=xs.length:=by omega
  refine .inl ⟨ok.stop i Pw H2 s2 Qk.gr.sub (by omega),?_⟩
  exact Jv.done (E:=E) (set:=set) (body:=body) (xs:=xs) (B:=B) (H₀:=H₀) (Px:=Pk) (n:=i) ⟨Pw,env2,Qk,s2,h2⟩ (by omega)
abbrev EF:St->XK:=λ_ _ _ _=>False
def o7(env:af):Prop:=∀ (i:Nat) (x:SV),env[i]?=some (some x)->∃ p,x=.sh p
theorem o7.ow{env:af}(n:o7 env){i:Nat}{xs:List PV}(e:env[i]?=some (some (.ow xs))):False:=by obtain⟨p,z⟩:=n i _ e;cases z
theorem o7.bd{env:af}(n:o7 env){i:Nat}{a C:Addr}{fs:List (Str×PV)}(e:env[i]?=some (some (.bd a C fs))):False:=by obtain⟨p,z⟩:=n i _ e;cases z
def Kw:M α->M α
 | some (.ok a)=>some (.ok a)
 | _=>none
theorem ay.Kw{α:Type}{x:M α}{Q:α->Prop}{E:EX->Prop}(h:ay (L2.Kw x) Q E):ay x Q (λ_=>False):=by
 cases x with
 | none=>exact h
 | some x=>cases x with
  | ok a=>exact h
  | error e=>exact h
def mv(n:Nat)(js:List Nat)(env:af):af:=List.replicate n none++js.map λj=>match env[j]? with
 | some (some (.sh p))=>some (.sh p)
 | _=>none
theorem tj{env:af}{x:SV}(h:(mv n js env)[i]?=some (some x)):∃ j p,n<=i/\js[i-n]?=some j/\env[j]?=some (some (.sh p))/\x=.sh p:=by
 unfold mv at h
 by_cases hi:i<n
 ·rw[List.getElem?_append_left (by simpa using hi),List.getElem?_replicate] at h
  split at h <;> cases h
 ·rw[List.getElem?_append_right (by simpa using hi),List.getElem?_map,List.length_replicate] at h
  cases hj:js[i-n]? with
  | none=>rw[hj] at h;cases h
  | some j =>
   rw[hj] at h
   have h':(match env[j]? with | some (some (.sh p))=>some (SV.sh p) | _=>none)=some x:=Option.some.inj h
   split at h'
   ·rename_i p e
    cases h'
    exact⟨j,p,by omega,rfl,e,rfl⟩
   ·cases h'
theorem fO{env:af}:o7 (mv n js env):=λi xs e=>by
 obtain⟨_,p,_,_,_,z⟩:=tj e
 exact⟨p,z⟩
variable{D:Addr}
theorem SR.block{B:Hp}{env:af}(r:SR B H₀ Hs H σ env)(hD:H D=none):SR Hs H Hs (upd H D (.lst [])) (gg ts js σ) (mv ts.length js env) where
 gr:=by
  have ne:∀ c u,H c=some u->c≠D:=λc u q z=>by rw[z,hD] at q;cases q
  exact⟨λ_ _ e=>e,λc u e=>by rw[av (ne c u e)];exact e,λc u e=>by rw[av (ne c u (r.gr.sub c u e))];exact r.gr.sub c u e,λ_ _ e _=>e⟩
 len:=by unfold gg mv;simp
 sh:=λi p e=>by
  obtain⟨j,q,hn,hj,he,z⟩:=tj e
  cases z
  obtain⟨v,h1,h2⟩:=r.sh j p he
  refine⟨v,?_,h2⟩
  unfold gg
  rw[List.getElem?_append_right (by simpa using hn),List.getElem?_map,List.length_map,hj]
  show some (σ[j]?).join=_
  rw[h1];rfl
 ow:=λi xs e=>(fO.ow e).elim
 sep:=λi j xs ys a _ e=>(fO.ow e).elim
 bd:=λi a C fs e=>(fO.bd e).elim
 one:=λi j a b C D fs gs e=>(fO.bd e).elim
theorem SR.Jz{B:Hp}{env:af}{o:HO}(r:SR B H₀ Hs H σ env)(n:o7 env)(h1:Hs D=none)(h2:H₀ D=none):SR B H₀ Hs (upd H D o) σ env where
 gr:=⟨r.gr.st,λc u q=>by rw[av (λz=>by rw[z,h2] at q;cases q)];exact r.gr.al c u q,λc u q=>by rw[av (λz=>by rw[z,h1] at q;cases q)];exact r.gr.sub c u q,r.gr.nw⟩
 len:=r.len
 sh:=r.sh
 ow:=λi xs e=>(n.ow e).elim
 sep:=λi j xs ys a _ e=>(n.ow e).elim
 bd:=λi a C fs e=>(n.bd e).elim
 one:=λi j a b C D fs gs e=>(n.bd e).elim
def bA(set:PV->af->M af)(t:Option (af->M Bool))(f:af->M PV):List PV->af->M (List PV)
 | [],_=>M.ok []
 | x::xs,env=>(set x env).bind λe=>match t with
  | none=>(f e).bind λy=>(bA set t f xs e).bind λys=>M.ok (y::ys)
  | some t'=>(t' e).bind λb=>if b=true then (f e).bind λy=>(bA set t f xs e).bind λys=>M.ok (y::ys) else bA set t f xs e
def bH(it:af->M (List PV))(set:PV->af->M af)(t:Option (af->M Bool))(f:af->M PV)(n:Nat)(js:List Nat):af->M (List PV):=λenv=>(it env).bind λxs=>cZ (xs.length<=sizeLine) (Kw (bA set t f xs (mv n js env)))
def oJ(set:PV->af->M af):Prop:=∀ p env e,set p env=some (.ok e)->o7 env->o7 e
theorem lM{env:af}(n:o7 env):o7 (env.set i (some (.sh p))):=λj xs e=>by
 rw[List.getElem?_set] at e
 by_cases z:i=j
 ·rw[if_pos z] at e
  split at e
  ·cases e;exact⟨p,rfl⟩
  ·cases e
 ·rw[if_neg z] at e;exact n j xs e
theorem aX:oJ (bK i):=λp env e h n=>by
 cases h
 exact lM n
theorem bY:oJ (bB i j):=λp env e h n=>by
 unfold bB at h
 split at h
 ·cases h;exact lM (lM n)
 ·cases h
section
variable{set:PV->af->M af}{t:Option (af->M Bool)}{f:af->M PV}{Q:VK}{H1:Hp}
def Jc(set:PV->af->M af)(t:Option (af->M Bool))(f:af->M PV)(Q:VK)(Px H1:Hp)(D:Addr)(xs:List PV)(i:Nat)(σ:St)(H:Hp):Prop:=∃ Hs env ys vs,SR Px H1 Hs H σ env/\o7 env/\H D=some (.lst vs)/\Hs D=none/\aZ Hs ys vs/\ys.length<=i ∧
 ay (bA set t f (xs.drop i) env) (λzs=>KO Q Px H1 (ys++zs)) (λ_=>False)
def rem(H:Hp)(D:Addr):Hp:=λa=>if a=D then none else H a
theorem Dw:rem H D D=none:=by unfold rem;rw[if_pos rfl]
theorem xX(n:a≠D):rem H D a=H a:=by unfold rem;rw[if_neg n]
theorem FN{o:HO}(h:H D=some o):upd (rem H D) D o=H:=by
 funext a
 by_cases z:a=D
 ·subst z;rw[aC,h]
 ·rw[av z,xX z]
theorem Jc.done(hD:H1 D=none)(j:Jc set t f Q Px H1 D xs i σ H)(hi:xs.length<=i):Q (.ref D) H:=by
 obtain⟨Hs,env,ys,vs,sr,n,h1,h2,r,_,h⟩:=j
 rw[List.drop_eq_nil_of_le hi] at h
 have h':KO Q Px H1 (ys++[]):=h
 rw[List.append_nil] at h'
 have gr:cw Px H1 Hs (rem H D):=by
  refine⟨sr.gr.st,λc u q=>?_,λc u q=>?_,sr.gr.nw⟩
  ·rw[xX (λz=>by rw[z,hD] at q;cases q)];exact sr.gr.al c u q
  ·rw[xX (λz=>by rw[z,h2] at q;cases q)];exact sr.gr.sub c u q
 have:=h' vs D Hs (rem H D) gr r Dw
 rw[FN h1] at this
 exact this
theorem Jc.put{env:af}{ys:List PV}{y:PV}(hD:H1 D=none)(sr:SR Px H1 Hs H σ env)(n:o7 env)(h1:H D=some (.lst vs))(h2:Hs D=none)(r:aZ Hs ys vs)(hy:ys.length<=i)(hi:i<sizeLine)(rv:Rep Hs y v)
  (h:ay ((bA set t f (xs.drop (i+1)) env).bind λzs=>M.ok (y::zs)) (λzs=>KO Q Px H1 (ys++zs)) (λ_=>False)) :
  ∃ us,H D=some (.lst us)/\us.length<sizeLine/\Jc set t f Q Px H1 D xs (i+1) σ (upd H D (.lst (us++[v]))):=by
 refine⟨vs,h1,by rw[← r.length];omega,Hs,env,ys++[y],vs++[v],sr.Jz n h2 hD,n,aC,h2,r.snoc rv,by rw[List.length_append];show ys.length+1<=i+1;omega,(ay.bind h).imp (λzs hz=>?_) λ_ z=>z⟩
 have Ri:KO Q Px H1 (ys++(y::zs)):=hz
 rw[List.append_assoc]
 exact Ri
end
section
variable{cl:List (Str×Addr)}{pos:Pos}{wi:TI}{it:af->M (List PV)}{g:TG}{set:PV->af->M af}{f:af->M PV}{u:af->M Bool}{fs:List Str}
theorem t5{s₀:Shared}{ex:List Addr}:fH (rT X scope cl N C s₀ H₀ ex Pf) EF where
 pass:=λ_ _ _ _ _ _ _ h=>by
  obtain⟨_,_,_,_,_,_,_,_,_,_,_,_,_,z⟩:=h
  exact z.elim
 new:=λ_ _ _ _ _ _ _ _ _ z=>z.elim
 own:=PassesOwn.never
theorem wF{Q:VK}(hv:A5 E wi it)(R_:∀ E,ER E g set)(so:oJ set)(q:tO E (bH it set none f ts.length js) σ H Q):y_ wi g (tE EF f) ts js σ H Q:=by
 refine hv σ H _ ?_
 obtain⟨B,H₀,Hs,env,sr,q⟩:=q
 refine⟨B,H₀,Hs,env,sr,(ay.bind q).imp (λxs hp J Px H1 gr ok D hD=>?_) λe he=>he⟩
 obtain⟨hz,hp⟩:=ay.cZ hp
 have hp:=ay.Kw hp
 have SK:=sr.grow gr
 refine⟨λi m σ H=>m=xs.length-i/\i<=xs.length/\Jc set none f Q Px H1 D xs i σ H,⟨xs.length,by simp,Nat.zero_le _,Px,_,[],[],SK.block hD,fO,aC,?_,.nil,Nat.le_refl _,hp.imp (λzs hz vs p Pw H2 g2 r n=>hz vs p Pw H2 (gr.trans g2) r n) λ_ z=>z⟩,?_⟩
 ·cases z:Px D with
  | none=>rfl
  | some o=>have:=gr.sub _ _ z;rw[hD] at this;cases this
 rintro i m σ' H2 ⟨rfl,hi,Pw,env2,ys,vs,Qk,n2,d1,d2,r2,l2,h2⟩
 by_cases QQ:i<xs.length
 ·refine .inr ⟨ok.go i Pw H2 Qk.gr.st Qk.gr.sub QQ,Jc set none f Q Px H1 D xs (i+1),fun σ3 H3 j=>⟨xs.length-(i+1),by omega,rfl,QQ,j⟩,λx H3 y=>?_⟩
  obtain⟨p,Rf,ep,g3,r3⟩:=ok.w4 i Pw H2 x H3 Qk.gr.st Qk.gr.sub QQ y
  have hd:xs.drop i=p::xs.drop (i+1):=by
   rw[List.drop_eq_getElem_cons QQ]
   rw[List.getElem?_eq_getElem QQ] at ep
   rw[Option.some.inj ep]
  rw[hd] at h2
  have h3:=ay.bind h2
  have Ry:=Qk.grow g3
  refine R_ (λ_ _ _=>False) Px H1 Rf H3 σ' env2 p x _ (λ_=>False) Ry r3 ?_
  cases hset:set p env2 with
  | none=>rw[hset] at h3;exact h3
  | some z=>cases z with
   | error e=>rw[hset] at h3;exact h3
   | ok e3 =>
    rw[hset] at h3
    intro σ4 sr4
    have n4:=so p env2 e3 hset n2
    refine⟨Px,H1,Rf,e3,sr4,(ay.bind h3).imp (λy hy v SU H5 g5 r5=>?_) λ_ z=>z.elim⟩
    exact Jc.put (set:=set) (t:=none) (f:=f) hD (sr4.grow g5) n4 (g5.al _ _ (g3.al _ _ d1)) (g5.nw _ _ (g3.nw _ _ d2 d1) (g3.al _ _ d1)) ((r2.mono g3.st).mono g5.st) l2 (by omega) r5 hy
 ·refine .inl ⟨ok.stop i Pw H2 Qk.gr.st Qk.gr.sub (by omega),?_⟩
  exact Jc.done (set:=set) (t:=none) (f:=f) (xs:=xs) (Px:=Px) (H1:=H1) (i:=i) hD ⟨Pw,env2,ys,vs,Qk,n2,d1,d2,r2,l2,h2⟩ (by omega)
theorem B5{Q:VK}(hv:A5 E wi it)(R_:∀ E,ER E g set)(so:oJ set)(q:tO E (bH it set (some u) f ts.length js) σ H Q):BR wi g (tT EF u) (tE EF f) ts js σ H Q:=by
 refine hv σ H _ ?_
 obtain⟨B,H₀,Hs,env,sr,q⟩:=q
 refine⟨B,H₀,Hs,env,sr,(ay.bind q).imp (λxs hp J Px H1 gr ok D hD=>?_) λe he=>he⟩
 obtain⟨hz,hp⟩:=ay.cZ hp
 have hp:=ay.Kw hp
 have SK:=sr.grow gr
 refine⟨λi m σ H=>m=xs.length-i/\i<=xs.length/\Jc set (some u) f Q Px H1 D xs i σ H,⟨xs.length,by simp,Nat.zero_le _,Px,_,[],[],SK.block hD,fO,aC,?_,.nil,Nat.le_refl _,hp.imp (λzs hz vs p Pw H2 g2 r n=>hz vs p Pw H2 (gr.trans g2) r n) λ_ z=>z⟩,?_⟩
 ·cases z:Px D with
  | none=>rfl
  | some o=>have:=gr.sub _ _ z;rw[hD] at this;cases this
 rintro i m σ' H2 ⟨rfl,hi,Pw,env2,ys,vs,Qk,n2,d1,d2,r2,l2,h2⟩
 by_cases QQ:i<xs.length
 ·refine .inr ⟨ok.go i Pw H2 Qk.gr.st Qk.gr.sub QQ,Jc set (some u) f Q Px H1 D xs (i+1),fun σ3 H3 j=>⟨xs.length-(i+1),by omega,rfl,QQ,j⟩,λx H3 y=>?_⟩
  obtain⟨p,Rf,ep,g3,r3⟩:=ok.w4 i Pw H2 x H3 Qk.gr.st Qk.gr.sub QQ y
  have hd:xs.drop i=p::xs.drop (i+1):=by
   rw[List.drop_eq_getElem_cons QQ]
   rw[List.getElem?_eq_getElem QQ] at ep
   rw[Option.some.inj ep]
  rw[hd] at h2
  have h3:=ay.bind h2
  have Ry:=Qk.grow g3
  refine R_ (λ_ _ _=>False) Px H1 Rf H3 σ' env2 p x _ (λ_=>False) Ry r3 ?_
  cases hset:set p env2 with
  | none=>rw[hset] at h3;exact h3
  | some z=>cases z with
   | error e=>rw[hset] at h3;exact h3
   | ok e3 =>
    rw[hset] at h3
    intro σ4 sr4
    have n4:=so p env2 e3 hset n2
    refine⟨Px,H1,Rf,e3,sr4,(ay.bind h3).imp (λb hb SU H5 g5=>?_) λ_ z=>z.elim⟩
    have d5:=g5.al _ _ (g3.al _ _ d1)
    have e5:=g5.nw _ _ (g3.nw _ _ d2 d1) (g3.al _ _ d1)
    cases b with
    | true =>
     refine⟨Px,H1,SU,e3,sr4.grow g5,(ay.bind hb).imp (λy hy v Hs6 H6 g6 r6=>?_) λ_ z=>z.elim⟩
     exact Jc.put (set:=set) (t:=some u) (f:=f) hD ((sr4.grow g5).grow g6) n4 (g6.al _ _ d5) (g6.nw _ _ e5 d5) (((r2.mono g3.st).mono g5.st).mono g6.st) l2 (by omega) r6 hy
    | false=>exact⟨SU,e3,ys,vs,sr4.grow g5,n4,d5,e5,(r2.mono g3.st).mono g5.st,by omega,hb⟩
 ·refine .inl ⟨ok.stop i Pw H2 Qk.gr.st Qk.gr.sub (by omega),?_⟩
  exact Jc.done (set:=set) (t:=some u) (f:=f) (xs:=xs) (Px:=Px) (H1:=H1) (i:=i) hD ⟨Pw,env2,ys,vs,Qk,n2,d1,d2,r2,l2,h2⟩ (by omega)
theorem aY(Pr:X.calm=true)
  (PZ:closureFor scope X.env=pure cl) (hk:scope.kind=.function) (nc:gR scope.names=true) (lo:i0 scope.names=true) (fh:i4 cl scope.names=true) (ag:fw X cl) (fr:jJ X scope cl fs js)
  (hi:PI X tg iter wi) (hv:A5 E wi it) (hg:∀ C s₀ H₀ ex Pf,PG (rT X scope cl (ts++fs) C s₀ H₀ ex Pf) tg g) (R_:∀ E,ER E g set) (so:oJ set) (he:∀ C s₀ H₀ ex Pf,PE (rT X scope cl (ts++fs) C s₀ H₀ ex Pf) elt (tE EF f))
  (hs:autoParam (∀ x,foldedSetIterable iter X.env x=pure x) aI._auto_1):PE X (.ListComp elt [⟨tg,iter,[],0⟩] scope pos) (tO E (bH it set none f ts.length js)):=by
 exact(C_ Pr PZ hk nc lo fh ag fr hi hg he hs).imp fun σ H Q q=>wF hv R_ so q
def bJ(fo:af->M (List PV)):af->M PV:=λenv=>(fo env).bind λps=>M.ok (.lst ps)
theorem bN{fo:af->M (List PV)}(he:PE X e (tO E fo)):PE X e (tE E (bJ fo)):=he.imp fun σ H Q q=>by
 obtain⟨B,H₀,Hs,env,sr,q⟩:=q
 refine⟨B,H₀,Hs,env,sr,(ay.bind q).imp (λps hp vs p Pk H' g r n=>?_) λe he=>he⟩
 have gn:=cw.new (o:=.lst vs) g.sub n
 exact hp _ _ _ (g.trans gn) (.lst aC (r.mono gn.st))
end
def uP(f:Str)(v:PV):List (Str×PV)->List (Str×PV)
 | []=>[(f,v)]
 | (g,x)::r=>if g=f then (g,v)::r else (g,x)::uP f v r
theorem jE.put{H:Hp}{f:Str}{p:PV}{v:V}(h:Rep H p v):∀ {fs:List (Str×PV)} {vs:List (Str×V)},jE H fs vs->jE H (uP f p fs) (kB f v vs)
 | _,_,.nil=>.cons h .nil
 | (g,x)::r,_,.cons hx hr=>by
  unfold uP kB
  by_cases z:g=f
  ·rw[if_pos z,if_pos z];exact .cons h hr
  ·rw[if_neg z,if_neg z];exact .cons hx (hr.put h)
theorem jE.length{H:Hp}:∀ {fs:List (Str×PV)} {vs:List (Str×V)},jE H fs vs->fs.length=vs.length
 | _,_,.nil=>rfl
 | _,_,.cons _ r=>by simp[r.length]
theorem SR.MT{B:Hp}{env:af}{dx:Addr}{fs gs:List (Str×PV)}{us:List (Str×V)}(r:SR B H₀ Hs H σ env)(e:env[i]?=some (some (.bd a C fs)))(h:jE Hs gs us):SR B H₀ Hs (upd H a (.ins C dx us)) σ (env.set i (some (.bd a C gs))):=by
 obtain⟨dx0,vs,h1,h2,h3,h4,h5⟩:=r.bd i a C fs e
 have nS:∀ c u,Hs c=some u->c≠a:=λc u q z=>by rw[z,h3] at q;cases q
 have n0:∀ c u,H₀ c=some u->c≠a:=λc u q z=>by rw[z,h4] at q;cases q
 refine⟨⟨r.gr.st,λc u q=>by rw[av (n0 c u q)];exact r.gr.al c u q,λc u q=>by rw[av (nS c u q)];exact r.gr.sub c u q,r.gr.nw⟩,by rw[List.length_set];exact r.len,λj q ej=>?_,λj zs ej=>?_,λj k y1 y2 b nj e1 e2 e3 e4=>?_,λj ba D So ej=>?_,λj k _ _ C' D So gs' e1 e2=>?_⟩
 ·rw[List.getElem?_set] at ej
  by_cases z:i=j
  ·subst z
   rw[if_pos rfl] at ej
   split at ej <;> cases ej
  ·rw[if_neg z] at ej;exact r.sh j q ej
 ·rw[List.getElem?_set] at ej
  by_cases z:i=j
  ·subst z
   rw[if_pos rfl] at ej
   split at ej <;> cases ej
  ·rw[if_neg z] at ej
   obtain⟨b,ws,q1,q2,q3,q4,q5⟩:=r.ow j zs ej
   have nb:b≠a:=λw=>by subst w;rw[h2] at q2;cases q2
   exact⟨b,ws,q1,by rw[av nb];exact q2,q3,q4,q5⟩
 ·rw[List.getElem?_set] at e1 e2
  by_cases z:i=j
  ·subst z
   rw[if_pos rfl] at e1
   split at e1 <;> cases e1
  ·by_cases z2:i=k
   ·subst z2
    rw[if_pos rfl] at e2
    split at e2 <;> cases e2
   ·rw[if_neg z] at e1
    rw[if_neg z2] at e2
    exact r.sep j k y1 y2 b nj e1 e2 e3 e4
 ·rw[List.getElem?_set] at ej
  by_cases z:i=j
  ·subst z
   rw[if_pos rfl] at ej
   split at ej
   ·cases ej;exact⟨dx,us,h1,aC,h3,h4,h⟩
   ·cases ej
  ·rw[if_neg z] at ej
   exact absurd (r.one i j _ _ _ _ _ _ e ej) z
 ·have o1:∃ b D w,env[j]?=some (some (.bd b D w)):=by
   rw[List.getElem?_set] at e1
   by_cases z:i=j
   ·subst z;exact⟨_,_,_,e⟩
   ·rw[if_neg z] at e1;exact⟨_,_,_,e1⟩
  have o2:∃ b D w,env[k]?=some (some (.bd b D w)):=by
   rw[List.getElem?_set] at e2
   by_cases z:i=k
   ·subst z;exact⟨_,_,_,e⟩
   ·rw[if_neg z] at e2;exact⟨_,_,_,e2⟩
  obtain⟨_,_,w1,o1⟩:=o1
  obtain⟨_,_,w2,o2⟩:=o2
  exact r.one j k _ _ _ _ _ _ o1 o2
def Dy(i:Nat)(C:Addr)(f:Str)(p:PV)(env:af):M Out:=match env[i]? with
 | some (some (.bd a C' fs))=>cZ (C'=C/\fs.length<1000) (M.ok (.nx (env.set i (some (.bd a C (uP f p fs))))))
 | _=>none
def fI(i:Nat)(C:Addr)(fl:Str)(f:af->M PV):af->M Out:=λenv=>(f env).bind λp=>Dy i C fl p env
section
variable{E:XK}{pos:Pos}{f:af->M PV}{fl:Str}
theorem fZ(hi:X.N[i]?=some x)(hv:EN X.env.scope x)(c:jl X.K C)(na:bC X.K C fl)(he:PE X e (tE (λ_=>E) f))(hd:autoParam ((x==("__debug__" : Str))=false) aD._auto_1)(QP:autoParam ((x==("__classdict__" : Str))=false) aD._auto_1)
  (hs:autoParam (swapsWith e (some (.Attribute (.Name x px) fl pos')) pos.line X.env=pure false) aR._auto_1):PS X (.Assign [.Attribute (.Name x px) fl pos'] e pos) (tS E (fI i C fl f)):=by
 refine(IM (oh hi hv hd QP) he hs).imp λD σ H q=>kL q λB H₀ Hs H1 env p v sr rp hp=>?_
 unfold Dy at hp
 split at hp
 ·rename_i a C' fs ex
  obtain⟨⟨rfl,hz⟩,hp⟩:=ay.cZ hp
  obtain⟨dx,vs,h1,h2,h3,h4,h5⟩:=sr.bd i a _ fs ex
  exact⟨.ref a,h1,a,_,dx,vs,rfl,h2,c,na,by rw[← h5.length];exact hz,hp σ Hs _ (sr.MT ex (h5.put rp))⟩
 ·exact hp.elim
end
def rE(m:Nat)(a C:Addr)(ps:List PV):af:=some (.bd a C [])::mF (m-1) ps
def CH(a C:Addr)(env:af):M (List (Str×PV)):=match (env[0]?:Option (Option SV)) with
 | some (some (.bd b D fs))=>cZ (b=a/\D=C) (M.ok fs)
 | _=>none
def outI(a C:Addr):Out->M (List (Str×PV))
 | .nx env=>CH a C env
 | _=>none
def mq(m:Nat)(g:af->M Out)(C a:Addr)(ps:List PV):M (List (Str×PV)):=(g (rE m a C ps)).bind (outI a C)
def JR(s:Addr->M α):M α:=open Classical in if h:∃ r,∀ a,s a=r then h.choose else none
theorem mx{s:Addr->M α}{r:M α}(h:∀ a,s a=r):JR s=r:=by
 have hx:∃ r,∀ a,s a=r:=⟨r,h⟩
 unfold JR
 rw[dif_pos hx,← hx.choose_spec 0,h 0]
theorem ay.JR{α:Type}{s:Addr->M α}{Q:α->Prop}{E:EX->Prop}(h:ay (L2.JR s) Q E)(a:Addr):ay (s a) Q E:=by
 unfold L2.JR at h
 split at h
 ·rename_i hx
  rw[hx.choose_spec a];exact h
 ·exact h.elim
def BG(n:Nat)(C:Addr)(sem:Addr->List PV->M (List (Str×PV))):Sp:=λvs H Q E=>vs.length=n/\∃ a dx us Hs H1 ps,vs=.ref a::us/\H1 a=none/\H1 dx=none/\dx≠a/\H=upd (upd H1 dx (.own a)) a (.ins C dx [])/\bM Hs H1/\aZ Hs ps us ∧
 ay (sem a ps) (λfs=>∀ SN ws Pk H',cw Hs H1 Pk H'->H' a=some (.ins C SN ws)->Pk a=none->jE Pk fs ws->Q .da H') (XW E Hs H1)
theorem SR.HV{dx:Addr}{ps:List PV}(s:bM Hs H₀)(hN:0<N.length)(ha:H₀ a=none)(r:aZ Hs ps vs)(hH:H=upd H₀ a (.ins C dx [])):SR Hs H₀ Hs H (L2.start N (.ref a::vs)) (rE N.length a C ps):=by
 have hs:Hs a=none:=by
  cases q:Hs a with
  | none=>rfl
  | some o=>have:=s _ _ q;rw[ha] at this;cases this
 have ne:∀ c u,H₀ c=some u->c≠a:=λc u e z=>by rw[z,ha] at e;cases e
 have s0:=SR.start (N:=N.tail) s r
 have e1:L2.start N (.ref a::vs)=some (.ref a)::L2.start N.tail vs:=by
  unfold L2.start
  simp only[List.map_cons,List.cons_append,List.length_cons,List.length_tail]
  rw[Nat.sub_sub,Nat.add_comm]
 have e2:rE N.length a C ps=some (.bd a C [])::mF N.tail.length ps:=by unfold rE;rw[List.length_tail]
 have al:bM H₀ H:=λc u q=>by rw[hH,av (ne c u q)];exact q
 rw[e1,e2]
 refine⟨⟨λ_ _ e=>e,al,λc u q=>al c u (s c u q),λc u q _=>q⟩,by simp[s0.len],λj q ej=>?_,λj zs ej=>?_,λj k y1 y2 b nj e1 e2 e3 e4=>?_,λj ba D So ej=>?_,λj k a1 a2 C' D So gs' e1 e2=>?_⟩
 ·cases j with
  | zero=>cases ej
  | succ j=>exact s0.sh j q (by simpa using ej)
 ·cases j with
  | zero=>cases ej
  | succ j=>exact absurd (s0.ow j zs (by simpa using ej)) (λ⟨b,ws,q1,q2,q3,q4,q5⟩=>by rw[q4] at q2;cases q2)
 ·cases j with
  | zero=>cases e1
  | succ j=>exact absurd (s0.ow j y1 (by simpa using e1)) (λ⟨b,ws,q1,q2,q3,q4,q5⟩=>by rw[q4] at q2;cases q2)
 ·cases j with
  | zero=>cases ej;exact⟨dx,[],rfl,by rw[hH];exact aC,hs,ha,.nil⟩
  | succ j=>exact absurd (s0.bd j ba D So (by simpa using ej)) (λ⟨b,ws,q1,q2,q3,q4,q5⟩=>by rw[q4] at q2;cases q2)
 ·cases j with
  | zero=>cases k with
   | zero=>rfl
   | succ k=>exact absurd (s0.bd k a2 D gs' (by simpa using e2)) (λ⟨b,ws,q1,q2,q3,q4,q5⟩=>by rw[q4] at q2;cases q2)
  | succ j=>exact absurd (s0.bd j a1 C' So (by simpa using e1)) (λ⟨b,ws,q1,q2,q3,q4,q5⟩=>by rw[q4] at q2;cases q2)
theorem E1{K:PySem.W.Frag}{dV kV doc pm PD ct oc:Value}{g:af->M Out}(lk:K.lookup f=some ⟨oc,od,.func (PySem.W.fnOf name qual params body scope dV kV doc pm an PD ct),R8⟩)(QP:PySem.W.codeIn K PD qual=true)(S:cv N ps scope)(hN:0<N.length)
  (hb:∀ (A:Around) (outer:List Env) (s:Shared) (H:Hp) (E:XK),cV k (A.deeper (envOfC qual scope s.heap.objs.size f PD))->nQ ((mJ (bU P w) P w K mg base N qual scope f PD A outer s H E).out λ_=>E) body (tS E g)) :
  aO P w K mg base (bU P w) (k+1) f (PySem.W.fnOf name qual params body scope dV kV doc pm an PD ct) ps (BG ps.length C (mq N.length g C)):=by
 refine yV lk QP S (λvs H Q E h=>h.1) λA outer s H vs Q E hr hs=>⟨_,hb A outer s H E hr,?_⟩
 obtain⟨_,a,dx,us,Hs,H1,Q3,rfl,ha,hdx,Rm,hH,sm,r,h⟩:=hs
 have ne:∀ c u,H1 c=some u->c≠dx:=λc u e z=>by rw[z,hdx] at e;cases e
 have s0:bM H1 (upd H1 dx (.own a)):=λc u q=>by rw[av (ne c u q)];exact q
 have g0:cw Hs H1 Hs (upd H1 dx (.own a)):=⟨λ_ _ e=>e,s0,λc u q=>s0 c u (sm c u q),λ_ _ e _=>e⟩
 refine⟨Hs,_,Hs,_,SR.HV (dx:=dx) g0.sub hN (by rw[av (Ne.symm Rm)];exact ha) r hH,(ay.bind h).imp (λo ho=>?_) λe he=>he.grow g0⟩
 cases o with
 | rt p=>exact ho.elim
 | bk env=>exact ho.elim
 | ct env=>exact ho.elim
 | nx env =>
  intro σ Pk H' sr
  have Rh:ay (CH a C env) _ _:=ho
  unfold CH at Rh
  split at Rh
  ·rename_i b D fs ex
   obtain⟨⟨rfl,rfl⟩,hp⟩:=ay.cZ Rh
   obtain⟨SN,ws,h1,h2,h3,h4,h5⟩:=sr.bd 0 _ _ fs ex
   exact hp SN ws Pk H' (g0.trans sr.gr) h2 h3 h5
  ·exact Rh.elim
def cM(C:Addr)(sem:Addr->List PV->M (List (Str×PV)))(Rb:List PV)(ps:List PV):M PV:=(JR λa=>sem a (ps++Rb)).bind λfs=>M.ok (.obj C fs)
section
variable{ns:List Str}{sem:Addr->List PV->M (List (Str×PV))}{p pos:Pos}{fs:af->M (List PV)}
theorem Gw(Mk:Mk X.K C f)(F:aO X.prog X.w X.K X.mg X.base (bU X.prog X.w) k f fd ns (BG n C sem))(hr:cV (k+1) X.A)(hg:Gl X x)(hm:X.mg x=some (.ref C))(hb:Binds X.K fd ns ds)(hd:Vals Qp ds)(hdp:∀ H,aZ H Rb Qp)(O:fH X E)
  (hl:∀ a ps,sem a (ps++Rb)≠none->ps.length+Rb.length+1=n)
  (ha:PA X (e::es) (tL E fs)) (QD:autoParam ((x==("__debug__" : Str))=false) aD._auto_1) (he:autoParam (starEach (e::es) X.env=(false,eval e X.env)::starEach es X.env) aR._auto_1) (PK:autoParam ((backTo pos (starEach es X.env)).any (·.1)=false) aR._auto_1) :
  PE X (.Call (.Name x p) (e::es) [] pos) (tE E (ai (cM C sem Rb) fs)):=by
 refine(Ej Mk F hr hg hm hb hd O ha QD he PK).imp fun σ H Q q=>dZ (K:=kD Q) kD.g q λB H₀ Hs H1 env Q3 v sr rp hp=>?_
 intro a dx ha hdx Rm
 have r2:aZ Hs (Q3++Rb) (v++Qp):=rp.append (hdp Hs)
 have Su:=(ay.bind hp).JR a
 have hn:sem a (Q3++Rb)≠none:=λz=>by
  rw[z] at Su;exact Su
 refine⟨?_,a,dx,v++Qp,Hs,H1,Q3++Rb,rfl,ha,hdx,Rm,rfl,sr.gr.sub,r2,Su.imp (λfl hfl SN ws Pk H' g hw Sj Ra=>⟨rfl,?_⟩) λe he=>he⟩
 ·show (v++Qp).length+1=n
  rw[← r2.length,List.length_append]
  exact hl a Q3 hn
 ·have ne:∀ c u,Pk c=some u->c≠a:=λc u q z=>by rw[z,Sj] at q;cases q
  have PY:bM Pk (upd Pk a (.ins C SN ws)):=λc u q=>by rw[av (ne c u q)];exact q
  refine hfl (.ref a) (upd Pk a (.ins C SN ws)) H' ⟨λc u q=>PY c u (g.st c u q),g.al,λc u q=>?_,λc u q1 q2=>?_⟩ (.obj aC (Ra.mono PY))
  ·by_cases z:c=a
   ·subst z;rw[aC] at q;cases q;exact hw
   ·rw[av z] at q;exact g.sub c u q
  ·have z:c≠a:=λz=>by rw[z,ha] at q2;cases q2
   rw[av z];exact g.nw c u q1 q2
end
section
variable{a b:Expr}{pos:Pos}{f g h:af->M PV}
theorem oY{m:Nat}(h:n.log2<m):n<2^m:=by
 by_cases z:n=0
 ·subst z;exact Nat.two_pow_pos m
 ·exact(Nat.log2_lt z).mp h
theorem aZ.rep{H:Hp}{xs:List PV}{vs:List V}(r:aZ H xs vs):∀ k:Nat,aZ H (List.replicate k xs).flatten (List.replicate k vs).flatten
 | 0=>.nil
 | k+1=>by rw[List.replicate_succ,List.replicate_succ,List.flatten_cons,List.flatten_cons];exact r.append (r.rep k)
def cj:PV->PV->M PV
 | .int i,.int j=>cZ (i.natAbs.log2<67108864/\j.natAbs.log2<67108864) (M.ok (.int (i*j)))
 | .tup xs,.int k=>cZ (xs.isEmpty=false/\-(2^63)<=k/\k<2^63/\xs.length*k.toNat<=sizeLine) (M.ok (.tup (List.replicate k.toNat xs).flatten))
 | .lst xs,.int k=>cZ (-(2^63)<=k/\k<2^63/\xs.length*k.toNat<=sizeLine) (M.ok (.lst (List.replicate k.toNat xs).flatten))
 | _,_=>none
def Hk(K:PySem.W.Frag):R2:=λx y H Q=>(rI (λi j=>IntMulOk i j) λi j=>.int (i*j)) x y H Q\/Hl K x y H Q\/KP x y H Q
theorem F3:iu X (binaryOp .Mult) (Hk X.K):=iu.or Fp (iu.or Gv DN)
theorem IK{K:PySem.W.Frag}:nR E (Hk K) cj:=by
 intro σ Hs H p q v u Q s rp rq h
 cases rp with
 | int i=>cases rq with
  | int j =>
   obtain⟨hz,h⟩:=ay.cZ h
   exact .inl ⟨i,j,rfl,rfl,CV (oY hz.1) (oY hz.2) (Nat.le_refl _),eP.flat h s (.int _)⟩
  | _=>exact h.elim
 | @tup a xs vs ha hx=>cases rq with
  | int k =>
   obtain⟨⟨h0,h1,h2,h3⟩,h⟩:=ay.cZ h
   have n1:vs≠[]:=λz=>by
    have:=hx.length
    rw[z] at this
    cases xs with
    | nil=>cases h0
    | cons _ _=>cases this
   refine .inr (.inl ⟨a,k,vs,rfl,rfl,iD.of (s _ _ ha),n1,h1,h2,by rw[← hx.length];exact h3,λz=>?_,λz=>eP.tup h s (hx.rep _)⟩)
   subst z
   rw[show (1:Int).toNat=1 from rfl,List.replicate_succ,List.replicate_zero,List.flatten_cons,List.flatten_nil,List.append_nil] at h
   exact eP.flat h s (.tup ha hx)
  | _=>exact h.elim
 | @lst a xs vs ha hx=>cases rq with
  | int k =>
   obtain⟨⟨h1,h2,h3⟩,h⟩:=ay.cZ h
   exact .inr (.inr ⟨a,k,vs,rfl,rfl,s _ _ ha,h1,h2,by rw[← hx.length];exact h3,eP.lst h s (hx.rep _)⟩)
  | _=>exact h.elim
 | _=>exact h.elim
theorem FH:nR E (rI BZ λi j=>.int (i.fdiv j)) (D8 (λ_ j=>decide (j≠0/\j.natAbs.log2<9000)) λi j=>i.fdiv j):=Et λi j z=>(of_decide_eq_true z:j≠0/\j.natAbs.log2<9000)
theorem IQ:nR E (rI (λ_ j=>j≠0) λi j=>.int (i.fmod j)) (D8 (λ_ j=>decide (j≠0)) λi j=>i.fmod j):=Et λi j z=>of_decide_eq_true z
def L9:PV->M PV
 | .int i=>M.ok (.int (-i))
 | _=>none
def k4(f:af->M PV):af->M PV:=λenv=>(f env).bind L9
theorem Im(ha:PE X a (tE E f)):PE X (.UnaryOp .USub a pos) (tE E (k4 f)) :=
 (Mm Jy ha).imp fun σ H Q q=>KQ q λHs H1 p v s rp h=>by
  cases rp with
  | int i=>exact⟨i,rfl,eP.flat h s (.int _)⟩
  | _=>exact h.elim
def sX:PV->Bool
 | .da=>true
 | _=>false
theorem xq(r:Rep H p v):decide (v=.da)=sX p:=by
 cases r <;> rfl
def CQ:PV->PV->M PV
 | p,.da=>M.ok (.bl (sX p))
 | _,_=>none
def lG:PV->PV->M PV
 | p,.da=>M.ok (.bl (!sX p))
 | _,_=>none
theorem Cm:nR E (λx y H Q=>y=.da/\Q (.bl (decide (x=.da))) H) CQ:=by
 intro σ Hs H p q v u Q s rp rq h
 cases rq with
 | da =>
  have h':ay (M.ok (PV.bl (sX p))) (eP Hs H Q) (XW (E σ) Hs H):=by cases p <;> exact h
  exact⟨rfl,by rw[xq rp];exact eP.flat h' s (.bl _)⟩
 | _=>cases p <;> exact h.elim
theorem zx:nR E (λx y H Q=>y=.da/\Q (.bl (!decide (x=.da))) H) lG:=by
 intro σ Hs H p q v u Q s rp rq h
 cases rq with
 | da =>
  have h':ay (M.ok (PV.bl (!sX p))) (eP Hs H Q) (XW (E σ) Hs H):=by cases p <;> exact h
  exact⟨rfl,by rw[xq rp];exact eP.flat h' s (.bl _)⟩
 | _=>cases p <;> exact h.elim
def jY(o o':PV->PV->M PV)(f g h:af->M PV):af->M PV:=λenv=>(f env).bind λp=>(g env).bind λq=>(o p q).bind λz=>(yB z).bind λk=>if k=true then (h env).bind λr=>o' q r else M.ok (.bl false)
theorem xK{r r':R2}{o o':PV->PV->M PV}(hv:nR E r o)(SH:nR E r' o'){Q:VK}(q:tE E (jY o o' f g h) σ H Q):yc r r' (tE E f) (tE E g) (tE E h) σ H Q:=by
 refine cC (K:=kD Q) kD.g q λB H₀ Hs H1 env p v sr rp hp=>?_
 refine⟨B,H₀,Hs,env,sr,(ay.bind hp).imp (λq hq u Pw H2 g2 ru=>?_) λe he=>he⟩
 have Qk:=sr.grow g2
 refine hv σ Pw H2 p q v u _ Qk.gr.sub (rp.mono g2.st) ru ((ay.bind hq).imp (λz hz w Rf H3 g3 Ra=>?_) λe he=>he.grow g2)
 obtain⟨k,ek,hk⟩:=ay.Mt (ay.bind hz)
 subst ek
 cases Ra
 refine⟨k,rfl,?_⟩
 have Ry:=Qk.grow g3
 cases k with
 | false=>exact hk _ _ _ (g2.trans g3) (.bl _)
 | true =>
  have Sb:ay ((h env).bind λr=>o' q r) (kD Q Hs H1) (XW (E σ) Hs H1):=hk
  refine⟨B,H₀,Rf,env,Ry,(ay.bind Sb).imp (λr hr w Hs4 H4 g4 rw4=>?_) λe he=>he.grow (g2.trans g3)⟩
  exact SH σ Hs4 H4 q r u w Q (Ry.grow g4).gr.sub ((ru.mono g3.st).mono g4.st) rw4 (hr.imp (λz hz w' SU H5 g5 r5=>hz w' SU H5 ((g2.trans g3).trans (g4.trans g5)) r5) λe he=>he.grow ((g2.trans g3).trans g4))
theorem xJ{Rx:CmpOp}{r r':R2}{o o':PV->PV->M PV}(ho:iu X (compareOp op) r)(hv:nR E r o)(Rh:iu X (compareOp Rx) r')(SH:nR E r' o')(ha:PE X a (tE E f))(hb:PE X b (tE E g))(hc:PE X c (tE E h))
  (hm:autoParam (lastMarks [op,Rx] [b,c]=false) aU._auto_1):PE X (.Compare a [op,Rx] [b,c] pos) (tE E (jY o o' f g h)) :=
 (Dk ho Rh ha hb hc hm).imp fun σ H Q q=>xK hv SH q
theorem C7{Rx:CmpOp}{r r':R2}{o o':PV->PV->M PV}(ho:iu X (compareOp op) r)(hv:nR E r o)(Rh:iu X (compareOp Rx) r')(SH:nR E r' o')(ha:PE X a (tE E f))(hb:PE X b (tE E g))(hc:PE X c (tE E h))
  (hm:autoParam (lastMarks [op,Rx] [b,c]=false) aU._auto_1):PT X (.Compare a [op,Rx] [b,c] pos) (tT E (dz (jY o o' f g h))) :=
 (De ho Rh ha hb hc hm).imp fun σ H Q q=>xK hv SH (qx q)
def de(u:af->M Bool)(b:af->M Out):Nat->af->M Out
 | 0,_=>none
 | n+1,env=>(u env).bind λt=>if t=true then (b env).bind λo=>match o with
   | .nx Pj=>de u b n Pj
   | .ct Pj=>de u b n Pj
   | .bk Pj=>M.ok (.nx Pj)
   | .rt p=>M.ok (.rt p)
  else M.ok (.nx env)
theorem An{E:XK}{u:af->M Bool}{g:af->M Out}(n:af->Nat)(O:fH X λ_=>E)(hc:PT X c (tT (λ_=>E) u))(hb:nQ X body (tS E g)):PS X (.While c body [] pos) (tS E λenv=>de u g (n env) env):=by
 refine(Cq O.own hc hb).imp λD σ H q=>?_
 obtain⟨B,H₀,Hs,env,sr,q⟩:=q
 refine⟨λm σ H=>∃ Hs env,SR B H₀ Hs H σ env/\ay (de u g m env) (KS D B H₀) (XW E B H₀),⟨n env,Hs,env,sr,q⟩,?_⟩
 rintro m σ1 H1 ⟨Px,env1,SK,q1⟩
 cases m with
 | zero=>exact q1.elim
 | succ m =>
  refine⟨B,H₀,Px,env1,SK,(ay.bind q1).imp (λt ht Pw H2 g2=>?_) λe he=>he.grow SK.gr⟩
  have Qk:=SK.grow g2
  cases t with
  | false=>exact ht σ1 Pw H2 Qk
  | true =>
   refine⟨fun σ' H'=>∃ Pk Pj,SR B H₀ Pk H' σ' Pj/\ay (de u g m Pj) (KS D B H₀) (XW E B H₀),fun σ' H' z=>⟨m,Nat.lt_succ_self m,z⟩,B,H₀,Pw,env1,Qk,(ay.bind ht).imp (λo ho=>?_) λe he=>he⟩
   cases o with
   | nx Pj=>exact fun σ' Pk H' Rn=>⟨Pk,Pj,Rn,ho⟩
   | ct Pj=>exact fun σ' Pk H' Rn=>⟨Pk,Pj,Rn,ho⟩
   | bk Pj=>exact ho
   | rt p=>exact ho
theorem jQ{u:af->M Bool}{g:af->M Out}:∀ (n k:Nat) (env:af),de u g n env≠none->de u g (n+k) env=de u g n env
 | 0,_,_,h=>(h rfl).elim
 | n+1,k,env,h=>by
  rw[show n+1+k=(n+k)+1 by omega]
  unfold de at h ⊢
  cases hu:u env with
  | none=>rfl
  | some z =>
   cases z with
   | error e=>rfl
   | ok t =>
    rw[hu] at h
    cases t with
    | false=>rfl
    | true =>
     show M.bind (g env) _=M.bind (g env) _
     have h':M.bind (g env) (λo=>match o with
      | .nx Pj=>de u g n Pj
      | .ct Pj=>de u g n Pj
      | .bk Pj=>M.ok (.nx Pj)
      | .rt p=>M.ok (.rt p))≠none:=h
     cases hg:g env with
     | none=>rfl
     | some z =>
      cases z with
      | error e=>rfl
      | ok o =>
       rw[hg] at h'
       cases o with
       | nx Pj=>exact jQ n k Pj h'
       | ct Pj=>exact jQ n k Pj h'
       | bk Pj=>rfl
       | rt p=>rfl
def ml(u:af->M Bool)(b:af->M Out)(env:af):M Out:=open Classical in de u b (if h:∃ n,de u b n env≠none then h.choose else 0) env
theorem A4{u:af->M Bool}{b:af->M Out}{env:af}(h:de u b n env≠none):ml u b env=de u b n env:=by
 have hx:∃ n,de u b n env≠none:=⟨n,h⟩
 unfold ml
 rw[dif_pos hx]
 have h1:=hx.choose_spec
 rw[← jQ _ n env h1,← jQ n hx.choose env h,Nat.add_comm]
theorem wq{E:XK}{u:af->M Bool}{g:af->M Out}(O:fH X λ_=>E)(hc:PT X c (tT (λ_=>E) u))(hb:nQ X body (tS E g)):PS X (.While c body [] pos) (tS E (ml u g)) :=
 An (λenv=>open Classical in if h:∃ n,de u g n env≠none then h.choose else 0) O hc hb
end
def G1:PV->Option String
 | .da=>some "NoneType"
 | .bl _=>some "bool"
 | .int _=>some "int"
 | .str _=>some "str"
 | .lst _=>some "list"
 | .kF _=>some "list"
 | .tup _=>some "tuple"
 | .emp=>some "dict"
 | _=>none
def lY(a t:String):Bool:=a==t||(a == "bool" && t == "int")
theorem pj(K:PySem.W.Frag):PySem.W.kitOne K (.type "NoneType") (.type "int")=some false:=by with_unfolding_all kernel_rfl
theorem wL(K:PySem.W.Frag):PySem.W.kitOne K (.type "bool") (.type "int")=some true:=by with_unfolding_all kernel_rfl
def tys:List String:=["int", "bool", "str", "list", "tuple"]
theorem LY(K:PySem.W.Frag){a t:String}(ha:G1 p=some a)(ht:t∈tys):PySem.W.kitOne K (.type a) (.type t)=some (lY a t):=by
 have ht2:t = "int" \/ t = "bool" \/ t = "str" \/ t = "list" \/ t = "tuple" := by simpa [tys] using ht
 cases p <;> cases ha <;> rcases ht2 with rfl | rfl | rfl | rfl | rfl <;> first
  | exact pj K
  | exact kt_NoneType_bool K
  | exact kt_NoneType_str K
  | exact kt_NoneType_list K
  | exact kt_NoneType_tuple K
  | exact wL K
  | exact kt_bool_bool K
  | exact kt_bool_str K
  | exact kt_bool_list K
  | exact kt_bool_tuple K
  | exact kt_int_int K
  | exact kt_int_bool K
  | exact kt_int_str K
  | exact kt_int_list K
  | exact kt_int_tuple K
  | exact kt_str_int K
  | exact kt_str_bool K
  | exact kt_str_str K
  | exact kt_str_list K
  | exact kt_str_tuple K
  | exact kt_list_int K
  | exact kt_list_bool K
  | exact kt_list_str K
  | exact kt_list_list K
  | exact kt_list_tuple K
  | exact kt_tuple_int K
  | exact kt_tuple_bool K
  | exact kt_tuple_str K
  | exact kt_tuple_list K
  | exact kt_tuple_tuple K
  | exact kt_dict_int K
  | exact kt_dict_bool K
  | exact kt_dict_str K
  | exact kt_dict_list K
  | exact kt_dict_tuple K
theorem yM{K:PySem.W.Frag}{a:String}(s:bM Hs H)(r:Rep Hs p v)(ha:G1 p=some a):kA K H v (.type a):=by
 cases r with
 | da=>cases ha;exact .da
 | bl b=>cases ha;exact .bl b
 | int i=>cases ha;exact .int i
 | str x=>cases ha;exact .str x
 | tup h _=>cases ha;exact .tup (s _ _ h)
 | lst h _=>cases ha;exact .lst (s _ _ h)
 | kF h _=>cases ha;exact .sG (s _ _ h)
 | emp h=>cases ha;exact .dK (s _ _ h)
 | _=>cases ha
theorem zR(K:PySem.W.Frag){p:PV}{a:String}(ha:G1 p=some a):∀ {Ts:List String},(∀ t∈Ts,t∈tys)->PySem.W.kitAny K (.type a) (Ts.map Value.type)=some (Ts.any λt=>lY a t)
 | [],_=>rfl
 | t::r,h=>by
  have h1:=LY K ha (h t List.mem_cons_self)
  have h2:=zR K ha (Ts:=r) λt q=>h t (List.mem_cons_of_mem _ q)
  simp only[List.map_cons,PySem.W.kitAny,h1,List.any_cons]
  cases lY a t with
  | true=>rfl
  | false=>exact h2
structure oB (K:PySem.W.Frag) (C:Addr):Prop where
 cls:jl K C
 ha:PySem.W.findIn K (.ref C) "__class__" = some (some (.builtin "object.__class__"))
 hn:PySem.W.specialIn K (.builtin "object.__class__") "__get__" = some (some (.builtin "getset_descriptor.__get__"))
 Kv:PySem.W.takesIn K (.builtin "object.__class__")=some true
 hm:PySem.W.mroIn K C (.type "object")=some true
def xU(b:String->Bool)(ob oe:Addr->Option Bool):PV->M PV
 | .obj C _=>eM ((ob C).map .bl)
 | .exc C _=>eM ((oe C).map .bl)
 | p=>eM ((G1 p).map λa=>.bl (b a))
section
variable{pos p pt:Pos}{f:af->M PV}{T:String}{ob oe:Addr->Option Bool}
theorem DV{fo:Option (List (Str×PV))}(s:bM Hs H)(r:Rep Hs (.exc C fo) v):∃ a S2,v=.ref a/\ExcAt H a C S2:=by
 cases r with
 | @Bc a _ h=>exact⟨a,none,rfl,s _ _ h⟩
 | @AN a _ d _ vs h h2 _=>exact⟨a,some vs,rfl,d,s _ _ h,s _ _ h2⟩
def ug(b:String->Bool)(ob oe:Addr->Option Bool)(f:af->M PV):af->M PV:=λenv=>(f env).bind (xU b ob oe)
theorem rB{b:String->Bool}{p:PV}{Q:PV->Prop}{F:EX->Prop}(h:ay (xU b ob oe p) Q F):(∃ a,G1 p=some a/\Q (.bl (b a)))\/(∃ C fs k,p=.obj C fs/\ob C=some k/\Q (.bl k))\/∃ C fo k,p=.exc C fo/\oe C=some k/\Q (.bl k):=by
 cases p with
 | obj C fs =>
  obtain⟨z,e,q⟩:=ay.opt h
  obtain⟨k,e2,rfl⟩:=Option.map_eq_some_iff.mp e
  exact .inr (.inl ⟨C,fs,k,rfl,e2,q⟩)
 | exc C fo =>
  obtain⟨z,e,q⟩:=ay.opt h
  obtain⟨k,e2,rfl⟩:=Option.map_eq_some_iff.mp e
  exact .inr (.inr ⟨C,fo,k,rfl,e2,q⟩)
 | da=>exact .inl ⟨_,rfl,h⟩
 | bl _=>exact .inl ⟨_,rfl,h⟩
 | int _=>exact .inl ⟨_,rfl,h⟩
 | str _=>exact .inl ⟨_,rfl,h⟩
 | tup _=>exact .inl ⟨_,rfl,h⟩
 | lst _=>exact .inl ⟨_,rfl,h⟩
 | kF _=>exact .inl ⟨_,rfl,h⟩
 | emp=>exact .inl ⟨_,rfl,h⟩
theorem zc{K:PySem.W.Frag}{fs:List (Str×PV)}(s:bM Hs H)(r:Rep Hs (.obj C fs) v)(c:oB K C):kA K H v (.ref C):=by
 cases r with
 | obj h _=>exact .ins (s _ _ h) c.cls c.ha c.hn c.Kv c.hm
theorem kb(hg:Gl X "isinstance")(hm:X.mg "isinstance" = none)(hT:PE X (.Name x pt) (tC (.ty T)))(ht:T∈tys)(Ss:∀ C b,ob C=some b->oB X.K C/\PySem.W.kitOne X.K (.ref C) (.type T)=some b)(Q1:∀ C b,oe C=some b->gU X.K C/\PySem.W.kitOne X.K (.ref C) (.type T)=some b)(he:PE X e (tE E f))
  (h1:autoParam (starEach [e,.Name x pt] X.env=(false,eval e X.env)::starEach [.Name x pt] X.env) aR._auto_1) (h2:autoParam (starEach [.Name x pt] X.env=(false,eval (.Name x pt) X.env)::starEach [] X.env) aR._auto_1) (PK:autoParam ((backTo pos (starEach [.Name x pt] X.env)).any (·.1)=false) aR._auto_1) :
  PE X (.Call (.Name "isinstance" p) [e,.Name x pt] [] pos) (tE E (ug (λa=>lY a T) ob oe f)):=by
 refine(mM (dW.or Cn xf) hg hm yD (fF he (fF hT mD h2) h1) (by decide) (by decide) h1 PK).imp fun σ H Q q=>cC (K:=kD Q) kD.g q λB H₀ Hs H1 env p v sr rp hp=>?_
 rcases rB hp with ⟨a,ha,q⟩ | ⟨C,fs,k,rfl,e,q⟩ | ⟨C,fo,k,rfl,e,q⟩
 ·exact .inl ⟨v,T,_,_,rfl,yM sr.gr.sub rp ha,LY X.K ha ht,eP.flat q sr.gr.sub (.bl _)⟩
 ·exact .inl ⟨v,T,_,_,rfl,zc sr.gr.sub rp (Ss C k e).1,(Ss C k e).2,eP.flat q sr.gr.sub (.bl _)⟩
 ·obtain⟨a,S2,rfl,hx⟩:=DV sr.gr.sub rp
  exact .inr ⟨a,C,S2,k,(Q1 C k e).1,hx,.inl ⟨T,rfl,(Q1 C k e).2⟩,eP.flat q sr.gr.sub (.bl _)⟩
theorem Jp(hg:Gl X "isinstance")(hm:X.mg "isinstance" = none)(hT:PE X (.Name x pt) (tC (.ref D)))(hk:∀ p a,G1 p=some a->PySem.W.kitOne X.K (.type a) (.ref D)=some false)(Ss:∀ C b,ob C=some b->oB X.K C/\PySem.W.kitOne X.K (.ref C) (.ref D)=some b)(Q1:∀ C b,oe C=some b->gU X.K C/\PySem.W.kitOne X.K (.ref C) (.ref D)=some b)(he:PE X e (tE E f))
  (h1:autoParam (starEach [e,.Name x pt] X.env=(false,eval e X.env)::starEach [.Name x pt] X.env) aR._auto_1) (h2:autoParam (starEach [.Name x pt] X.env=(false,eval (.Name x pt) X.env)::starEach [] X.env) aR._auto_1) (PK:autoParam ((backTo pos (starEach [.Name x pt] X.env)).any (·.1)=false) aR._auto_1) :
  PE X (.Call (.Name "isinstance" p) [e,.Name x pt] [] pos) (tE E (ug (λ_=>false) ob oe f)):=by
 refine(mM (dW.or Cb xf) hg hm yD (fF he (fF hT mD h2) h1) (by decide) (by decide) h1 PK).imp fun σ H Q q=>cC (K:=kD Q) kD.g q λB H₀ Hs H1 env p v sr rp hp=>?_
 rcases rB hp with ⟨a,ha,q⟩ | ⟨C,fs,k,rfl,e,q⟩ | ⟨C,fo,k,rfl,e,q⟩
 ·exact .inl ⟨v,D,_,_,rfl,yM sr.gr.sub rp ha,hk p a ha,eP.flat q sr.gr.sub (.bl _)⟩
 ·exact .inl ⟨v,D,_,_,rfl,zc sr.gr.sub rp (Ss C k e).1,(Ss C k e).2,eP.flat q sr.gr.sub (.bl _)⟩
 ·obtain⟨a,S2,rfl,hx⟩:=DV sr.gr.sub rp
  exact .inr ⟨a,C,S2,k,(Q1 C k e).1,hx,.inr ⟨D,rfl,(Q1 C k e).2⟩,eP.flat q sr.gr.sub (.bl _)⟩
theorem ET{e2:Expr}{t2:TE}{Ts:List String}(hg:Gl X "isinstance")(hm:X.mg "isinstance" = none)(hT:PE X e2 t2)(ht2:∀ σ H R,(∀ p,H p=none->R (.ref p) (upd H p (.tup (Ts.map V.ty))))->t2 σ H R)(ht:∀ t∈Ts,t∈tys)(Ss:∀ C b,ob C=some b->oB X.K C/\PySem.W.kitAny X.K (.ref C) (Ts.map Value.type)=some b)(he:PE X e (tE E f))
  (h1:autoParam (starEach [e,e2] X.env=(false,eval e X.env)::starEach [e2] X.env) aR._auto_1) (h2:autoParam (starEach [e2] X.env=(false,eval e2 X.env)::starEach [] X.env) aR._auto_1) (PK:autoParam ((backTo pos (starEach [e2] X.env)).any (·.1)=false) aR._auto_1) :
  PE X (.Call (.Name "isinstance" p) [e,e2] [] pos) (tE E (ug (λa=>Ts.any λt=>lY a t) ob (λ_=>none) f)):=by
 refine(mM AL hg hm yD (fF he (fF hT mD h2) h1) (by decide) (by decide) h1 PK).imp fun σ H Q q=>cC (K:=kD Q) kD.g q λB H₀ Hs H1 env p v sr rp hp=>?_
 refine ht2 σ H1 _ λtp hn=>?_
 have g:=cw.new (o:=.tup (Ts.map V.ty)) sr.gr.sub hn
 rcases rB hp with ⟨a,ha,q⟩ | ⟨C,fs,k,rfl,e,q⟩ | ⟨C,fo,k,rfl,e,q⟩
 ·exact⟨v,tp,Ts,_,_,rfl,aC,yM g.sub (rp.mono g.st) ha,zR X.K ha ht,q _ _ _ g (.bl _)⟩
 ·exact⟨v,tp,Ts,_,_,rfl,aC,zc g.sub (rp.mono g.st) (Ss C k e).1,(Ss C k e).2,q _ _ _ g (.bl _)⟩
 ·cases e
end
section
open PySem.SeqAt (shaped noMix noMixAll)
mutual
def dat:PV->Option PyData
 | .da=>some .none
 | .bl b=>some (.bool b)
 | .int i=>some (.int i)
 | .str x=>some (.str x)
 | .tup xs=>(my xs).map .tuple
 | .lst xs=>(my xs).map .list
 | .kF xs=>(my xs).map .list
 | .obj _ _=>none
 | .exc _ _=>none
 | .emp=>none
def my:List PV->Option (List PyData)
 | []=>some []
 | p::r=>(dat p).bind λd=>(my r).map (d::·)
end
mutual
theorem Rep.reads{Hs:Hp}(I:Inv X Pf σ H s)(sm:bM Hs H):∀ {p:PV} {v:V} {u:Value} {d:PyData},Rep Hs p v->RelV v u->dat p=some d->∃ as,Reads s.heap u d as
 | _,_,u,d,.da,r,e=>by
  cases e;cases (show u=Value.none from r);exact⟨_,.none⟩
 | _,_,u,d,.bl b,r,e=>by
  cases e;cases (show u=Value.bool b from r);exact⟨_,.bool b⟩
 | _,_,u,d,.int i,r,e=>by
  cases e;obtain⟨t,rfl⟩:=(show ∃ t,u=Value.int i t from r);exact⟨_,.int i t⟩
 | _,_,u,d,.str i,r,e=>by
  cases e;obtain⟨t,rfl⟩:=(show ∃ t,u=Value.str i t from r);exact⟨_,.str i t⟩
 | _,_,u,d,.tup (a:=a) ha hx,r,e=>by
  obtain⟨ds,e2,rfl⟩:=Option.map_eq_some_iff.mp (show (my _).map PyData.tuple=some d from e)
  cases (show u=Value.ref a from r)
  obtain⟨Ph,r1,⟨o,ho,hc,n,hd⟩,_⟩:=I.tuple (iD.of (sm _ _ ha))
  obtain⟨as,ra⟩:=aZ.reads I sm hx r1 e2
  exact⟨_,.tuple ho hc hd (by simpa using ra)⟩
 | _,_,u,d,.lst (a:=a) ha hx,r,e=>by
  obtain⟨ds,e2,rfl⟩:=Option.map_eq_some_iff.mp (show (my _).map PyData.list=some d from e)
  cases (show u=Value.ref a from r)
  obtain⟨Ph,r1,⟨o,n,ho,hc,_,hd⟩,_⟩:=I.list (iT.of (sm _ _ ha))
  obtain⟨as,ra⟩:=aZ.reads I sm hx r1 e2
  exact⟨_,.list ho hc hd (by simpa using ra)⟩
 | _,_,u,d,.kF (a:=a) (o:=ob) ha hx,r,e=>by
  obtain⟨ds,e2,rfl⟩:=Option.map_eq_some_iff.mp (show (my _).map PyData.list=some d from e)
  cases (show u=Value.ref a from r)
  obtain⟨Ph,r1,⟨o,n,ho,hc,_,hd⟩,_⟩:=I.list (.inl (.inr ⟨ob,sm _ _ ha⟩))
  obtain⟨as,ra⟩:=aZ.reads I sm hx r1 e2
  exact⟨_,.list ho hc hd (by simpa using ra)⟩
 | _,_,u,d,.obj _ _,r,e=>by cases e
 | _,_,u,d,.Bc _,r,e=>by cases e
 | _,_,u,d,.AN _ _ _,r,e=>by cases e
 | _,_,u,d,.emp _,r,e=>by cases e
theorem aZ.reads{Hs:Hp}(I:Inv X Pf σ H s)(sm:bM Hs H):∀ {p:List PV} {v:List V} {u:List Value} {d:List PyData},aZ Hs p v->Vals v u->my p=some d->∃ as,ReadsAll s.heap u d as
 | _,_,_,_,.nil,.nil,e=>by cases e;exact⟨_,.nil⟩
 | _,_,_,d,.cons (p:=p) (ps:=ps) h hr,.cons r rr,e=>by
  obtain⟨d1,e1,e2⟩:=Option.bind_eq_some_iff.mp (show (dat p).bind (λd=>(my ps).map (d::·))=some d from e)
  obtain⟨ds,e3,rfl⟩:=Option.map_eq_some_iff.mp e2
  obtain⟨as,ra⟩:=Rep.reads I sm h r e1
  obtain⟨bs,rb⟩:=aZ.reads I sm hr rr e3
  exact⟨_,.cons ra rb⟩
end
def El(d e:PyData):M Bool:=cZ (shaped d=true/\shaped e=true/\noMix d e=true) (M.ok (same d e))
def nA(o:Bool->PV)(p q:PV):M PV:=match dat p,dat q with
 | some d,some e=>(El d e).bind λb=>M.ok (o b)
 | _,_=>none
def jP:PV->PV->M PV:=nA λb=>.bl b
def nX:PV->PV->M PV:=nA λb=>.bl (!b)
def EG(o:Bool->Bool):R2:=λx y H Q=>∃ Hs p q d e,bM Hs H/\Rep Hs p x/\Rep Hs q y/\dat p=some d/\dat q=some e/\shaped d=true/\shaped e=true/\noMix d e=true/\Q (.bl (o (same d e))) H
theorem En(hu:X.A.units+64<cLine):iu X (compareOp .Eq) (EG id):=by
 intro Pf s σ H x y v u Q I rx ry h
 obtain⟨Hs,p,q,d,e,sm,rp,rq,hd,he,h1,h2,h3,hq⟩:=h
 obtain⟨as,ra⟩:=Rep.reads I sm rp rx hd
 obtain⟨bs,rb⟩:=Rep.reads I sm rq ry he
 exact eq_dataH_same ra rb h1 h2 hu h3 (ua I hq rfl)
theorem Dc(hu:X.A.units+64<cLine):iu X (compareOp .NotEq) (EG not):=by
 intro Pf s σ H x y v u Q I rx ry h
 obtain⟨Hs,p,q,d,e,sm,rp,rq,hd,he,h1,h2,h3,hq⟩:=h
 obtain⟨as,ra⟩:=Rep.reads I sm rp rx hd
 obtain⟨bs,rb⟩:=Rep.reads I sm rq ry he
 exact ne_dataH_same ra rb h1 h2 hu h3 (ua I hq rfl)
theorem Ez{o:Bool->Bool}:nR E (EG o) (nA λb=>.bl (o b)):=by
 intro σ Hs H p q v u Q s rp rq h
 unfold nA at h
 split at h
 ·rename_i d e hd he
  have h':=ay.bind h
  obtain⟨⟨h1,h2,h3⟩,h⟩:=ay.cZ h'
  exact⟨Hs,p,q,d,e,s,rp,rq,hd,he,h1,h2,h3,eP.flat h s (.bl _)⟩
 ·exact h.elim
theorem Hz:nR E (EG id) jP:=Ez
theorem Hi:nR E (EG not) nX:=Ez
def ni(xs:List PV)(lo hi:Option Int):List PV:=(xs.drop (HT.d_ xs.length 0 lo)).take (HT.d_ xs.length xs.length hi-HT.d_ xs.length 0 lo)
theorem aZ.cut(r:aZ H xs vs)(lo hi:Option Int):aZ H (ni xs lo hi) (w_ vs lo hi):=by
 unfold ni w_
 rw[r.length]
 exact(r.drop _).take _
abbrev Ms(Q:Option Int->Hp->Prop):Hp->Hp->Option Int->Prop:=λHs H k=>∀ Pk H',cw Hs H Pk H'->Q k H'
def Mv(E:St->XK)(g:af->M (Option Int)):TO:=fun σ H Q=>tG E g (Ms Q) σ H
theorem PO.imp{e:Option Expr}{t t':TO}(h:PO X e t)(i:∀ σ H Q,t' σ H Q->t σ H Q):PO X e t':=λPf s σ H Q I q=>h Pf s σ H Q I (i σ H Q q)
def Iy:PV->M (Option Int)
 | .int i=>M.ok (some i)
 | _=>none
def DY:af->M (Option Int):=λ_=>M.ok none
def jq(f:af->M PV):af->M (Option Int):=λenv=>(f env).bind Iy
section
variable{lo hi:Option Expr}{pos p2:Pos}{f:af->M PV}{gl gh:af->M (Option Int)}
theorem Ms.g{Q:Option Int->Hp->Prop}:KG (Ms Q):=λHs H Pk H' b k g Pw H2 g2=>k Pw H2 (g.trans g2)
theorem u4:PO X none (Mv E DY):=Fm.imp fun σ H Q q=>by
 obtain⟨B,H₀,Hs,env,sr,q⟩:=q
 exact q Hs H (.refl sr.gr.sub)
theorem jX(he:PE X e (tE E f)):PO X (some e) (Mv E (jq f)):=(Gm he).imp fun σ H Q q=>cC (K:=Ms Q) Ms.g q λB H₀ Hs H1 env p v sr rp hp=>by
 cases rp with
 | int i=>exact⟨i,rfl,hp Hs H1 (.refl sr.gr.sub)⟩
 | _=>exact hp.elim
end
def i5(xs:List PV):List PV:=xs.mapIdx λi x=>.tup [.int (i:Nat),x]
section
variable{K:PySem.W.Frag}{fs:af->M (List PV)}
theorem tX(hq:∀ Pk H',bM Px Pk->bM Pk H'->iT K H' a vs)(hr:aZ Px xs vs):kU (IC K a) Px (i5 xs) where
 stop:=λi Hs H s1 s2 hi=>by
  unfold i5 at hi
  rw[List.length_mapIdx,hr.length] at hi
  exact⟨vs,hq Hs H s1 s2,hi⟩
 go:=λi Hs H s1 s2 hi=>by
  unfold i5 at hi
  rw[List.length_mapIdx] at hi
  obtain⟨v,e,_⟩:=hr.get (List.getElem?_eq_getElem hi)
  exact⟨vs,v,hq Hs H s1 s2,e⟩
 w4:=λi Hs H x H2 s1 s2 hi y=>by
  unfold i5 at hi
  rw[List.length_mapIdx] at hi
  obtain⟨v,e,r⟩:=hr.get (List.getElem?_eq_getElem hi)
  obtain⟨pa,v',hn,rfl,rfl,y1⟩:=y
  have z1:=y1 vs (hq Hs H s1 s2)
  rw[e] at z1;cases z1
  have gr:=cw.new (o:=.tup [.int (i:Nat),v]) s2 hn
  refine⟨.tup [.int (i:Nat),xs[i]],_,?_,gr,.tup aC (.cons (.int _) (.cons ((r.mono s1).mono gr.st) .nil))⟩
  unfold i5
  rw[List.getElem?_mapIdx,List.getElem?_eq_getElem hi]
  rfl
end
end
def FX(lo st:Int)(n:Nat):It:=⟨λi _=>i<n,λi H x H'=>H'=H/\x=.int (lo+(i:Nat)*st),λi _=>n<=i⟩
theorem v9{K:PySem.W.Frag}(it:Addr)(lo st:Int)(n:Nat):Turn P w K tg (FX lo st n) [it] it (λi h=>IsRangeIter h it (lo+(i:Nat)*st) ((n:Int)-(i:Nat)) st) where
 mem:=by simp
 obj:=λi h st b hb=>by
  have e:b=it:=by simpa using hb
  subst e
  exact⟨_,st,λv z=>by
   have z':Data.fields _=Data.cell v:=z
   cases z'⟩
 keep:=λi h h' st k=>k it (by simp) _ st
 item:=by
  intro X hP hw hK hc i Pf s σ H E I hf QE hg
  subst hP hw hK
  obtain⟨f0,f1,f2,f3,f4,f5⟩:=hf it (by simp)
  have W:=Walks.range (prog:=X.prog) (w:=X.w) (I.ok.hd hc) it lo st n
  refine W.item i s _ _ hg QE λv h' tk hv Tu kk=>?_
  obtain⟨t,rfl⟩:=hv
  have I1:Inv X Pf σ H { s with heap:=h',toks:=tk }:=I.turned (λb o hb e=>kk b o (by simpa using hb) e) f0 f1 f3 f4 f5
  exact⟨_,rfl,zS (s:={ s with heap:=h',toks:=tk }) (n := "range_iterator") Tu rfl rfl (by decide) ⟨.int (lo+(i:Nat)*st),H,I1,⟨t,rfl⟩,⟨rfl,rfl⟩,Tu,λb hb=>(hf b hb).1⟩⟩
 done:=by
  intro X hP hw hK hc i Pf s σ H E I hf QE hg
  subst hP hw hK
  obtain⟨f0,f1,f2,f3,f4,f5⟩:=hf it (by simp)
  exact wpAny_pyNext_range_end (I.ok.hd hc) QE (by have:n<=i:=hg;omega) λh' eb=>⟨rfl,I.turned (t':=s.toks) (λb o hb e=>eb b o hb e) f0 f1 f3 f4 f5⟩
 self:=λ_ _ _ _ _ st h=>wpAny_pyIter_rangeiter st h
theorem uX(a b c:Int):0<=Builtin.Range.rangeSize a b c:=by
 unfold Builtin.Range.rangeSize
 split
 ·split
  ·have:=Int.ediv_nonneg (a:=b-a-1) (b:=c) (by omega) (by omega);omega
  ·omega
 ·split
  ·have:=Int.ediv_nonneg (a:=a-b-1) (b:=-c) (by omega) (by omega);omega
  ·omega
theorem AM{R:It->Hp->Prop}{E:Value->Shared->Prop}{lo hi st:Int}{t u v:Tok}{tk:Nat}(I:Inv X Pf σ H s)(hsm:Builtin.Range.small lo hi st=true)
  (q:R (FX lo st (Builtin.Range.rangeSize lo hi st).toNat) H):wpAny (model X.prog X.w) X.A (pyIter (.ref s.heap.objs.size)) (NS X Pf σ tg R) E { s with heap:=s.heap.push { cls:=.type "range", data:=.fields #[.int lo t,.int hi u,.int st v] },toks:=tk }:=by
 refine wpAny_pyIter_range (IsRange.new ..) hsm ?_
 have I1:Inv X Pf σ H { s with heap:=s.heap.push { cls:=.type "range", data:=.fields #[.int lo t,.int hi u,.int st v] },toks:=tk }:=I.kept λb o e=>Heap.get?_push_of_some _ e
 refine⟨(s.heap.push { cls:=.type "range", data:=.fields #[.int lo t,.int hi u,.int st v] }).objs.size,[(s.heap.push { cls:=.type "range", data:=.fields #[.int lo t,.int hi u,.int st v] }).objs.size],_,_,H,rfl,
  I1.kept (t':=tk) λb o e=>Heap.get?_push_of_some _ e,v9 _ lo st (Builtin.Range.rangeSize lo hi st).toNat,?_,λb hb=>?_,q⟩
 ·have e1:lo+((0:Nat):Int)*st=lo:=by simp
  have e2:(((Builtin.Range.rangeSize lo hi st).toNat:Nat):Int)-((0:Nat):Int)=Builtin.Range.rangeSize lo hi st:=by have:=uX lo hi st;omega
  show IsRangeIter _ _ (lo+((0:Nat):Int)*st) ((((Builtin.Range.rangeSize lo hi st).toNat:Nat):Int)-((0:Nat):Int)) st
  rw[e1,e2]
  exact Heap.get?_push_size _ rfl
 ·have e:b=(s.heap.push { cls:=.type "range", data:=.fields #[.int lo t,.int hi u,.int st v] }).objs.size:=by simpa using hb
  subst e
  exact I1.vo (Nat.le_refl _) (I1.cp.fresh (Nat.le_refl _))
def C3(i j k:Int):Bool:=decide (k≠0)&&decide (k.natAbs<1073741824)&&Builtin.Range.small i j k
def GV(ta:TA):TI:=fun σ H R=>ta σ H λvs H1=>∃ i j k:Int,vs=[.int i,.int j,.int k]/\C3 i j k=true/\R (FX i k (Builtin.Range.rangeSize i j k).toNat) H1
theorem tW{a b:Expr}{ta:TA}{p pos:Pos}(hg:Gl X "range")(hm:X.mg "range" = none)(ha:PA X [a,b,c] ta)(hs:autoParam (starEach [a,b,c] X.env=[(false,eval a X.env),(false,eval b X.env),(false,eval c X.env)]) aR._auto_1)(Q2:autoParam (starEach [b,c] X.env=[(false,eval b X.env),(false,eval c X.env)]) aR._auto_1) :
  PI X tg (.Call (.Name "range" p) [a,b,c] [] pos) (GV ta):=by
 intro Pf s σ H R I h
 refine Call_ (ki I hg hm boot_range (PyProof.Rows.callWith_type1 (c9 (ha pos Pf s σ H _ I h) λus s1 ⟨vs,H1,I1,r1,q1⟩=>?_) (by rw[hs,Q2]) (by rw[Q2];rfl)))
 obtain⟨i,j,k,e,hc,q⟩:=q1
 subst e
 cases r1 with
 | cons r rr =>
  cases rr with
  | cons r' rr =>
   cases rr with
   | cons Tr rr =>
    cases rr
    obtain⟨t,rfl⟩:=r
    obtain⟨t',rfl⟩:=r'
    obtain⟨t'',rfl⟩:=Tr
    unfold C3 at hc
    rw[Bool.and_eq_true,Bool.and_eq_true] at hc
    exact call_range_3 (of_decide_eq_true hc.1.1) (AM I1 hc.2 q) (.inl (PyProof.noPylong_small (of_decide_eq_true hc.1.2)))
def A_:List PV->M (List PV)
 | [.int i,.int j,.int k]=>cZ (C3 i j k=true) (M.ok ((List.range (Builtin.Range.rangeSize i j k).toNat).map λ(n:Nat)=>.int (i+n*k)))
 | _=>none
section
variable{K:PySem.W.Frag}{fs:af->M (List PV)}
theorem AG{lo st:Int}:kU (FX lo st n) Px ((List.range n).map λ(i:Nat)=>PV.int (lo+(i:Int)*st)) where
 stop:=λi Hs H s1 s2 hi=>show n<=i by simpa using hi
 go:=λi Hs H s1 s2 hi=>show i<n by simpa using hi
 w4:=λi Hs H x H2 s1 s2 hi y=>by
  obtain⟨rfl,rfl⟩:=y
  have Sa:i<n:=by simpa using hi
  exact⟨.int (lo+(i:Int)*st),Hs,by simp[Sa],.refl s2,.int _⟩
theorem By{ps:List PV}{Q:List PV->Prop}{F:EX->Prop}(h:ay (A_ ps) Q F):∃ i j k,ps=[.int i,.int j,.int k]/\C3 i j k=true/\Q ((List.range (Builtin.Range.rangeSize i j k).toNat).map λ(n:Nat)=>.int (i+n*k)):=by
 unfold A_ at h
 split at h
 ·obtain⟨hc,h⟩:=ay.cZ h
  exact⟨_,_,_,rfl,hc,h⟩
 ·exact h.elim
theorem aZ.three{q r:PV}(h:aZ H [p,q,r] vs):∃ v u w,vs=[v,u,w]/\Rep H p v/\Rep H q u/\Rep H r w:=by
 cases h with
 | cons h r=>obtain⟨u,w,rfl,h2,h3⟩:=r.two;exact⟨_,_,_,rfl,h,h2,h3⟩
theorem xr:A5 E (GV (tL E fs)) (jg A_ fs):=by
 intro σ H R q
 refine dZ (K:=KI R) KI.g q λB H₀ Hs H1 env ps v sr rp hp=>?_
 obtain⟨i,j,k,rfl,hc,hp⟩:=By hp
 obtain⟨w,u,z,rfl,Ra,ru,rz⟩:=rp.three
 cases Ra
 cases ru
 cases rz
 exact⟨i,j,k,rfl,hc,hp _ Hs H1 (.refl sr.gr.sub) AG⟩
end
def ko:List PV->List PV->List PV->List PV
 | x::xs,y::ys,z::zs=>.tup [x,y,z]::ko xs ys zs
 | _,_,_=>[]
theorem tD:∀ {xs ys zs:List PV} {i:Nat} (h1:i<xs.length) (h2:i<ys.length) (h3:i<zs.length),(ko xs ys zs)[i]?=some (.tup [xs[i],ys[i],zs[i]])
 | x::xs,y::ys,z::zs,0,_,_,_=>rfl
 | x::xs,y::ys,z::zs,i+1,h1,h2,h3=>by
  show (ko xs ys zs)[i]?=_
  exact tD (xs:=xs) (ys:=ys) (zs:=zs) (i:=i) (by simpa using h1) (by simpa using h2) (by simpa using h3)
 | [],_,_,_,h1,_,_=>by simp at h1
 | _::_,[],_,_,_,h2,_=>by simp at h2
 | _::_,_::_,[],_,_,_,h3=>by simp at h3
theorem lR:∀ {xs ys zs:List PV},(ko xs ys zs).length=min xs.length (min ys.length zs.length)
 | x::xs,y::ys,z::zs=>by
  show (ko xs ys zs).length+1=_
  rw[lR]
  simp only[List.length_cons]
  omega
 | [],_,_=>by simp[ko]
 | _::_,[],_=>by simp[ko]
 | _::_,_::_,[]=>by simp[ko]
def yp:List PV->M (List PV)
 | [p,q,r]=>match cF p,cF q,cF r with
  | some xs,some ys,some zs=>M.ok (ko xs ys zs)
  | _,_,_=>none
 | _=>none
section
variable{K:PySem.W.Frag}{fs:af->M (List PV)}
theorem Am{b1 b2 b3:Bool}{a1 a2 a3:Addr}{ys zs:List PV}{us ws:List V}(Qm:∀ Pk H',bM Px Pk->bM Pk H'->lU K H' b1 a1 vs)(RY:aZ Px xs vs)(P9:∀ Pk H',bM Px Pk->bM Pk H'->lU K H' b2 a2 us)(RZ:aZ Px ys us)
  (Rw:∀ Pk H',bM Px Pk->bM Pk H'->lU K H' b3 a3 ws) (Tc:aZ Px zs ws):kU (Nq K b1 b2 b3 a1 a2 a3) Px (ko xs ys zs) where
 stop:=λi Hs H s1 s2 hi=>by
  rw[lR,RY.length,RZ.length,Tc.length] at hi
  exact⟨vs,us,ws,Qm Hs H s1 s2,P9 Hs H s1 s2,Rw Hs H s1 s2,by omega⟩
 go:=λi Hs H s1 s2 hi=>by
  rw[lR] at hi
  obtain⟨v,e,_⟩:=RY.get (List.getElem?_eq_getElem (show i<xs.length by omega))
  obtain⟨u,e',_⟩:=RZ.get (List.getElem?_eq_getElem (show i<ys.length by omega))
  obtain⟨w,e'',_⟩:=Tc.get (List.getElem?_eq_getElem (show i<zs.length by omega))
  exact⟨vs,us,ws,v,u,w,Qm Hs H s1 s2,P9 Hs H s1 s2,Rw Hs H s1 s2,e,e',e''⟩
 w4:=λi Hs H x H2 s1 s2 hi y=>by
  rw[lR] at hi
  have l1:i<xs.length:=by omega
  have l2:i<ys.length:=by omega
  have l3:i<zs.length:=by omega
  obtain⟨v,e,r⟩:=RY.get (List.getElem?_eq_getElem l1)
  obtain⟨u,e',r'⟩:=RZ.get (List.getElem?_eq_getElem l2)
  obtain⟨w,e'',Tr⟩:=Tc.get (List.getElem?_eq_getElem l3)
  obtain⟨pa,v',u',w',hn,rfl,rfl,y1,y2,y3⟩:=y
  have z1:=y1 vs (Qm Hs H s1 s2)
  have z2:=y2 us (P9 Hs H s1 s2)
  have z3:=y3 ws (Rw Hs H s1 s2)
  rw[e] at z1;cases z1
  rw[e'] at z2;cases z2
  rw[e''] at z3;cases z3
  have gr:=cw.new (o:=.tup [v,u,w]) s2 hn
  exact⟨_,_,tD l1 l2 l3,gr,.tup aC (.cons ((r.mono s1).mono gr.st) (.cons ((r'.mono s1).mono gr.st) (.cons ((Tr.mono s1).mono gr.st) .nil)))⟩
theorem AZ{ps:List PV}{Q:List PV->Prop}{F:EX->Prop}(h:ay (yp ps) Q F):∃ p q r xs ys zs,ps=[p,q,r]/\cF p=some xs/\cF q=some ys/\cF r=some zs/\Q (ko xs ys zs):=by
 unfold yp at h
 split at h
 ·split at h
  ·exact⟨_,_,_,_,_,_,rfl,by assumption,by assumption,by assumption,h⟩
  ·exact h.elim
 ·exact h.elim
theorem wM:A5 E (Hh K (tL E fs)) (jg yp fs):=by
 intro σ H R q
 refine dZ (K:=KI R) KI.g q λB H₀ Hs H1 env ps v sr rp hp=>?_
 obtain⟨p,q,r,xs,ys,zs,rfl,e1,e2,e3,hp⟩:=AZ hp
 obtain⟨w,u,z,rfl,Ra,ru,rz⟩:=rp.three
 obtain⟨b1,a1,vs,rfl,Qm,RY⟩:=lp (K:=K) sr.gr.sub Ra e1
 obtain⟨b2,a2,us,rfl,P9,RZ⟩:=lp (K:=K) sr.gr.sub ru e2
 obtain⟨b3,a3,ws,rfl,Rw,Tc⟩:=lp (K:=K) sr.gr.sub rz e3
 exact⟨b1,b2,b3,a1,a2,a3,rfl,⟨vs,Qm Hs H1 (λ_ _ z=>z) sr.gr.sub⟩,⟨us,P9 Hs H1 (λ_ _ z=>z) sr.gr.sub⟩,⟨ws,Rw Hs H1 (λ_ _ z=>z) sr.gr.sub⟩,hp _ Hs H1 (.refl sr.gr.sub) (Am Qm RY P9 RZ Rw Tc)⟩
end
def oZ(i j k:Nat):PV->af->M af
 | .tup [p,q,r],env=>M.ok (((env.set i (some (.sh p))).set j (some (.sh q))).set k (some (.sh r)))
 | _,_=>none
theorem zE{E:XK}{K:PySem.W.Frag}:ER E (fM K 3 (bh (aE i) (bh (aE j) (bh (aE k) fV)))) (oZ i j k):=by
 intro B H₀ Hs H σ env p v Q Z sr r h
 cases r with
 | @tup a xs vs ha hx =>
  match xs,hx with
  | [p,q,r],hx =>
   obtain⟨v,u,w,rfl,rp,rq,rr⟩:=hx.three
   exact⟨a,[v,u,w],rfl,iD.of (sr.gr.sub _ _ ha),rfl,v,[u,w],rfl,u,[w],rfl,w,[],rfl,rfl,h _ (((sr.set rp).set rq).set rr)⟩
  | [],_=>exact h.elim
  | [_],_=>exact h.elim
  | [_,_],_=>exact h.elim
  | _::_::_::_::_,_=>exact h.elim
 | _=>exact h.elim
theorem qN:oJ (oZ i j k):=λp env e h n=>by
 unfold oZ at h
 split at h
 ·cases h;exact lM (lM (lM n))
 ·cases h
section
variable{E:XK}{pos:Pos}{fs:af->M (List PV)}{f h:af->M PV}
def ownAt(i:Nat)(env:af):M (List PV):=match env[i]? with
 | some (some (.ow xs))=>M.ok xs
 | _=>none
theorem ay.own{env:af}{Q:List PV->Prop}{F:EX->Prop}(h:ay (ownAt i env) Q F):∃ xs,env[i]?=some (some (.ow xs))/\Q xs:=by
 unfold ownAt at h
 split at h
 ·exact⟨_,by assumption,h⟩
 ·exact h.elim
def G6(i:Nat)(xs:List PV)(p:PV)(env:af):PV->M Out
 | .int n=>match BH xs.length n with
  | some j=>M.ok (.nx (env.set i (some (.ow (xs.set j p)))))
  | none=>none
 | _=>none
def K3(i:Nat)(g f:af->M PV):af->M Out:=λenv=>(f env).bind λp=>(ownAt i env).bind λxs=>(g env).bind (G6 i xs p env)
theorem Ha{ie:Expr}(hi:X.N[i]?=some x)(hv:EN X.env.scope x)(hk:PE X ie (tE (λ_=>E) h))(he:PE X e (tE (λ_=>E) f))(hd:autoParam ((x==("__debug__" : Str))=false) aD._auto_1)(QP:autoParam ((x==("__classdict__" : Str))=false) aD._auto_1)
  (ha:autoParam (∀ v,assign (.Subscript (.Name x px) ie pos') X.env v=(do
   let ov ← holding [v] (eval (.Name x px) X.env)
   let iv ← holding [v,ov] (eval ie X.env)
   standAt pos'
   holding [v,ov,iv] (setItem ov iv v)
   release [v,ov,iv] [])) aI._auto_1)
  (hs:autoParam (swapsWithSole [.Subscript (.Name x px) ie pos'] e pos.line X.env=pure false) aR._auto_1) (hw:autoParam (swappedStores [.Subscript (.Name x px) ie pos'] e X.env=pure none) aR._auto_1)
  (h1:autoParam ((assignEach [.Subscript (.Name x px) ie pos'] X.env).map (·.2)=[assign (.Subscript (.Name x px) ie pos') X.env]) aR._auto_1):PS X (.Assign [.Subscript (.Name x px) ie pos'] e pos) (tS E (K3 i h f)):=by
 refine(J1 he (JK (oh hi hv hd QP) hk set_list ha) hs hw h1).imp λD σ H q=>kL q λB H₀ Hs H1 env p v sr rp hp=>?_
 obtain⟨xs,ex,hp⟩:=ay.own (ay.bind hp)
 obtain⟨a,vs,h1,h2,h3,h4,h5⟩:=sr.ow i xs ex
 refine⟨.ref a,h1,B,H₀,Hs,env,sr,(ay.bind hp).imp (λk hk w Pw H2 g2 rk=>?_) λe he=>he.grow sr.gr⟩
 have Qk:=sr.grow g2
 cases rk with
 | int n =>
  have Sb:ay (match BH xs.length n with | some j=>M.ok (Out.nx (env.set i (some (.ow (xs.set j p))))) | none=>none) (KS D B H₀) (XW E B H₀):=hk
  split at Sb
  ·rename_i j ej
   exact⟨a,vs,n,j,rfl,rfl,g2.al _ _ h2,by rw[← h5.length];exact ej,Sb σ Pw _ (Qk.put ex h1 ((h5.mono g2.st).set (rp.mono g2.st) j))⟩
  ·exact Sb.elim
 | _=>exact hk.elim
end
theorem KO.gr{Q:VK}:KG (KO Q):=λHs H Pk H' b k g vs p Pw H2 g2 r n=>k vs p Pw H2 (g.trans g2) r n
section
variable{sem:List PV->M (List PV)}{p pos:Pos}{fs:af->M (List PV)}{g:af->M PV}
end
mutual
def qU:PV->Bool
 | .da=>true
 | .bl _=>true
 | .int _=>true
 | .str _=>true
 | .tup xs=>oF xs
 | _=>false
def oF:List PV->Bool
 | []=>true
 | p::r=>qU p&&oF r
end
mutual
theorem Rep.away{Hs:Hp}{a:Addr}{ws:List V}(ha:Hs a=some (.lst ws)):∀ {p:PV} {v:V},Rep Hs p v->qU p=true->Rep (rem Hs a) p v
 | _,_,.da,_=>.da
 | _,_,.bl b,_=>.bl b
 | _,_,.int b,_=>.int b
 | _,_,.str b,_=>.str b
 | _,_,.tup (a:=c) h r,n=>by
  have nc:c≠a:=λz=>by subst z;rw[ha] at h;cases h
  exact .tup (by unfold rem;rw[if_neg nc];exact h) (r.away ha n)
 | _,_,.lst _ _,n=>by cases n
 | _,_,.kF _ _,n=>by cases n
 | _,_,.obj _ _,n=>by cases n
 | _,_,.Bc _,n=>by cases n
 | _,_,.AN _ _ _,n=>by cases n
theorem aZ.away{Hs:Hp}{a:Addr}{ws:List V}(ha:Hs a=some (.lst ws)):∀ {p:List PV} {v:List V},aZ Hs p v->oF p=true->aZ (rem Hs a) p v
 | _,_,.nil,_=>.nil
 | _,_,.cons h r,n=>by
  have n':=Bool.and_eq_true_iff.mp (show (qU _&&oF _)=true from n)
  exact .cons (h.away ha n'.1) (r.away ha n'.2)
end
def Er:M PV->M PV
 | some (.ok p)=>cZ (qU p=true) (M.ok p)
 | _=>none
theorem ay.Er{r:M PV}{Q:PV->Prop}{E:EX->Prop}(h:ay (L2.Er r) Q E):ay r (λp=>qU p=true/\Q p) (λ_=>False):=by
 cases r with
 | none=>exact h
 | some r=>cases r with
  | error e=>exact h
  | ok p =>
   obtain⟨n,h⟩:=ay.cZ h
   exact⟨n,h⟩
theorem cw.back{Pk H':Hp}{ws:List V}(h1:Hs a=none)(hH:H a=some (.lst ws))(s:bM Hs H)(g:cw (upd Hs a (.lst ws)) H Pk H'):cw Hs H (rem Pk a) H'/\Pk a=some (.lst ws):=by
 have e:Pk a=some (.lst ws):=g.st _ _ aC
 refine⟨⟨λc u q=>?_,g.al,λc u q=>?_,λc u q1 q2=>?_⟩,e⟩
 ·have nc:c≠a:=λz=>by subst z;rw[h1] at q;cases q
  unfold rem;rw[if_neg nc]
  exact g.st c u (by rw[av nc];exact q)
 ·unfold rem at q
  split at q
  ·cases q
  ·exact g.sub c u q
 ·unfold rem
  by_cases nc:c=a
  ·rw[if_pos nc]
  ·rw[if_neg nc]
   exact g.nw c u (by rw[av nc];exact q1) q2
theorem SR.lend{B:Hp}{env:af}(r:SR B H₀ Hs H σ env)(e:env[i]?=some (some (.ow xs))):∃ a vs,Hs a=none/\H a=some (.lst vs)/\SR B H₀ (upd Hs a (.lst vs)) H σ (vH i env):=by
 obtain⟨a,vs,h1,h2,h3,h4,h5⟩:=r.ow i xs e
 refine⟨a,vs,h3,h2,?_⟩
 have ne:∀ c u,Hs c=some u->c≠a:=λc u q z=>by rw[z,h3] at q;cases q
 have PY:bM Hs (upd Hs a (.lst vs)):=λc u q=>by rw[av (ne c u q)];exact q
 unfold vH
 rw[e]
 refine⟨⟨λc u q=>PY c u (r.gr.st c u q),r.gr.al,λc u q=>?_,λc u q1 q2=>?_⟩,by rw[List.length_set];exact r.len,λj q ej=>?_,λj ys ej=>?_,λj k ys zs b nj e1 e2 e3 e4=>?_,λj ba C fs ej=>?_,λj k _ _ C D fs gs e1 e2=>?_⟩
 ·by_cases z:c=a
  ·subst z;rw[aC] at q;cases q;exact h2
  ·rw[av z] at q;exact r.gr.sub c u q
 ·have z:c≠a:=λz=>by rw[z,h4] at q2;cases q2
  rw[av z];exact r.gr.nw c u q1 q2
 ·rw[List.getElem?_set] at ej
  by_cases z:i=j
  ·subst z
   rw[if_pos rfl] at ej
   split at ej
   ·cases ej
    exact⟨.ref a,h1,.lst aC (h5.mono PY)⟩
   ·cases ej
  ·rw[if_neg z] at ej
   obtain⟨v,q1,q2⟩:=r.sh j q ej
   exact⟨v,q1,q2.mono PY⟩
 ·rw[List.getElem?_set] at ej
  by_cases z:i=j
  ·subst z
   rw[if_pos rfl] at ej
   split at ej <;> cases ej
  ·rw[if_neg z] at ej
   obtain⟨b,us,q1,q2,q3,q4,q5⟩:=r.ow j ys ej
   have nb:b≠a:=λw=>by subst w;exact r.sep i j xs ys b z e ej h1 q1
   exact⟨b,us,q1,q2,by rw[av nb];exact q3,q4,q5.mono PY⟩
 ·rw[List.getElem?_set] at e1 e2
  by_cases z:i=j
  ·subst z
   rw[if_pos rfl] at e1
   split at e1 <;> cases e1
  ·by_cases z2:i=k
   ·subst z2
    rw[if_pos rfl] at e2
    split at e2 <;> cases e2
   ·rw[if_neg z] at e1
    rw[if_neg z2] at e2
    exact r.sep j k ys zs b nj e1 e2 e3 e4
 ·rw[List.getElem?_set] at ej
  by_cases z:i=j
  ·subst z
   rw[if_pos rfl] at ej
   split at ej <;> cases ej
  ·rw[if_neg z] at ej
   obtain⟨dx,us,q1,q2,q3,q4,q5⟩:=r.bd j ba C fs ej
   have nb:ba≠a:=λw=>by subst w;rw[h2] at q2;cases q2
   exact⟨dx,us,q1,q2,by rw[av nb];exact q3,q4,q5.mono PY⟩
 ·rw[List.getElem?_set] at e1 e2
  by_cases z:i=j
  ·subst z
   rw[if_pos rfl] at e1
   split at e1 <;> cases e1
  ·by_cases z2:i=k
   ·subst z2
    rw[if_pos rfl] at e2
    split at e2 <;> cases e2
   ·rw[if_neg z] at e1
    rw[if_neg z2] at e2
    exact r.one j k _ _ C D fs gs e1 e2
def v7(i:Nat)(f:af->M PV):af->M PV:=λenv=>(ownAt i env).bind λ_=>Er (f (vH i env))
section
variable{f:af->M PV}{u:af->M Bool}
theorem zv(i:Nat)(he:PE X e (tE E f)):PE X e (tE E (v7 i f)):=he.imp fun σ H Q q=>by
 obtain⟨B,H₀,Hs,env,sr,q⟩:=q
 obtain⟨xs,ex,q⟩:=ay.own (ay.bind q)
 obtain⟨a,vs,h3,h2,Qk⟩:=sr.lend ex
 refine⟨B,H₀,_,_,Qk,(ay.Er q).imp (λp hp v Pk H' g r=>?_) λ_ z=>z.elim⟩
 obtain⟨g2,ea⟩:=cw.back h3 h2 sr.gr.sub g
 exact hp.2 v _ _ g2 (r.away ea hp.1)
end
def cn:PV->PV->M PV:=D8 (λ_ j=>decide (j≠0/\j.natAbs.log2<9000)) λi j=>i.fdiv j
def bW:PV->PV->M PV:=D8 (λ_ j=>decide (j≠0)) λi j=>i.fmod j
def EO:PV->PV->M PV:=Ca λi j=>decide (i<j)
def EM:PV->PV->M PV:=Ca λi j=>decide (i<=j)
def Fh:PV->PV->M PV:=Ca λi j=>decide (j<i)
def Ku:PV->PV->M PV:=Ca λi j=>decide (j<=i)
theorem D5:nR E (rI BZ λi j=>.int (i.fdiv j)) cn:=FH
theorem FT:nR E (rI (λ_ j=>j≠0) λi j=>.int (i.fmod j)) bW:=IQ
theorem uB:nR E (zy λi j=>.bl (decide (i<j))) EO:=uv
theorem og:nR E (zy λi j=>.bl (decide (i<=j))) EM:=uv
theorem EH:nR E (zy λi j=>.bl (decide (j<i))) Fh:=uv
theorem BY:nR E (zy λi j=>.bl (decide (j<=i))) Ku:=uv
def bo(n:Nat)(s:List PV->M PV):List PV->M PV:=λps=>cZ (ps.length=n) (s ps)
theorem mS{s:List PV->M PV}{ps:List PV}(h:bo n s ps≠none):ps.length=n:=by
 unfold bo cZ at h
 split at h
 ·assumption
 ·exact(h rfl).elim
variable{dv:Value}
section
variable{K:PySem.W.Frag}
theorem Cj{s:List PV->M PV}(F:aO P w K mg base (bU P w) k f fd ps (dy n s)):aO P w K mg base (bU P w) k f fd ps (dy n (bo n s)) where
 len:=λvs H Q E h=>by
  obtain⟨h0,Hs,qs,sm,r,h⟩:=h
  exact F.len vs H Q E ⟨h0,Hs,qs,sm,r,(ay.cZ h).2⟩
 run:=λA outer s H args us vs Q E hr e hb rv h=>by
  obtain⟨h0,Hs,qs,sm,r,h⟩:=h
  exact F.run A outer s H args us vs Q E hr e hb rv ⟨h0,Hs,qs,sm,r,(ay.cZ h).2⟩
structure cP (P:Program) (w:World) (K:PySem.W.Frag) (mg:Str->Option Value) (base:Heap) (n:Nat) (x:Str) (m:Nat) (sem:List PV->M PV):Prop where
 ex:∃ (f:Addr) (fd:FuncData) (ps:List Str),mg x=some (.ref f)/\PySem.W.keepIn K (.ref f)=true/\ps.length=m/\Binds K fd ps []/\aO P w K mg base (bU P w) n f fd ps (dy m (bo m sem))
theorem bb.Pa{st:Stmt}{g:af->M Out}(F:bb K x qual st dv f fd)(S:cv N ps (a_ st))
  (hb:∀ (PD:Value) (A:Around) (outer:List Env) (s:Shared) (H:Hp) (E:XK),cV k (A.deeper (envOfC qual (a_ st) s.heap.objs.size f PD))->fH ((mJ (bU P w) P w K mg base N qual (a_ st) f PD A outer s H E).out λ_=>E) (λ_=>E)->nQ ((mJ (bU P w) P w K mg base N qual (a_ st) f PD A outer s H E).out λ_=>E) (fD st) (tS E g)) :
  aO P w K mg base (bU P w) (k+1) f fd ps (dy ps.length (bo ps.length (au N.length g))):=by
 obtain⟨oc,od,kV,doc,pm,an,PD,ct,R8,rfl,lk,QP⟩:=F.ex
 exact Cj (HM lk QP S λA outer s H E hr=>hb PD A outer s H E hr (GY rfl rfl))
end
section
variable{m:Nat}{sem:List PV->M PV}{fs:af->M (List PV)}{p pos:Pos}
theorem cP.call(F:cP X.prog X.w X.K X.mg X.base n x m sem)(hr:cV k X.A)(hn:n<=k)(hg:Gl X x)(O:fH X E)(ha:PA X (e::es) (tL E fs))(QD:autoParam ((x==("__debug__" : Str))=false) aD._auto_1)(he:autoParam (starEach (e::es) X.env=(false,eval e X.env)::starEach es X.env) aR._auto_1)(PK:autoParam ((backTo pos (starEach es X.env)).any (·.1)=false) aR._auto_1) :
  PE X (.Call (.Name x p) (e::es) [] pos) (tE E (ai (bo m sem) fs)):=by
 obtain⟨f,fd,ps,h1,h2,h3,h4,h5⟩:=F.ex
 have:=GI (p:=p) (Rb:=[]) h5 (hr.mono hn) hg h1 h2 h4 .nil (λ_=>.nil) O (λQ3 hp=>by rw[List.append_nil] at hp;exact mS hp) ha QD he PK
 refine this.imp fun σ H Q q=>?_
 have e:(λps=>bo m sem (ps++[]))=bo m sem:=by funext ps;rw[List.append_nil]
 rw[e];exact q
structure jr (P:Program) (w:World) (K:PySem.W.Frag) (mg:Str->Option Value) (base:Heap) (C:Addr) (n:Nat) (x:Str) (m:Nat) (sem:List PV->M PV):Prop where
 ex:∃ (f:Addr) (fd:FuncData) (ps:List Str),jl K C/\Meth K C x f/\Binds K fd ps []/\aO P w K mg base (bU P w) n f fd ps (dy m (bo m sem))
theorem jr.call{g:af->M PV}(F:jr X.prog X.w X.K X.mg X.base C n x m sem)(hr:cV k X.A)(hn:n<=k)(O:fH X E)(ho:PE X o (tE E g))(ha:PA X (e::es) (tL E fs))
  (PY:autoParam (starEach (e::es) X.env=(false,eval e X.env)::starEach es X.env) aR._auto_1) (PK:autoParam ((backTo pos (starEach es X.env)).any (·.1)=false) aR._auto_1)
  (ht:autoParam (eval (.Call (.Attribute o x apos) (e::es) [] pos) X.env=(do
   let ov ← eval o X.env
   standAt apos.atName
   let (f,first) ← holding [ov] (getMethod ov x pl)
   callWith pos f first (backTo pos (starEach (e::es) X.env)) (backToKw pos (keywordEach [] X.env)))) aR._auto_1) :
  PE X (.Call (.Attribute o x apos) (e::es) [] pos) (tE E (b_ C x (bo m sem) g fs)):=by
 obtain⟨f,fd,ps,h1,h2,h3,h4⟩:=F.ex
 exact FJ ho h1 h2 h4 (hr.mono hn) h3 O (λQ3 hp=>mS hp) ha PY PK ht
theorem jr.C4{g:af->M PV}(F:jr X.prog X.w X.K X.mg X.base C n x m sem)(hr:cV k X.A)(hn:n<=k)(O:fH X E)(ho:PE X o (tE E g))
  (ht:autoParam (eval (.Call (.Attribute o x apos) [] [] pos) X.env=(do
   let ov ← eval o X.env
   standAt apos.atName
   let (f,first) ← holding [ov] (getMethod ov x pl)
   callWith pos f first (backTo pos (starEach [] X.env)) (backToKw pos (keywordEach [] X.env)))) aR._auto_1) :
  PE X (.Call (.Attribute o x apos) [] [] pos) (tE E (b_ C x (bo m sem) g ak)):=by
 obtain⟨f,fd,ps,h1,h2,h3,h4⟩:=F.ex
 exact BX ho h1 h2 h4 (hr.mono hn) h3 O (λQ3 hp=>mS hp) ht
end
structure tZ (P:Program) (w:World) (K:PySem.W.Frag) (mg:Str->Option Value) (base:Heap) (C:Addr) (n:Nat) (x:Str) (m:Nat) (Rb:List PV) (sem:Addr->List PV->M (List (Str×PV))):Prop where
 ex:∃ (f:Addr) (fd:FuncData) (ps:List Str) (ds:List Value) (Qp:List V),mg x=some (.ref C)/\Mk K C f/\Binds K fd ps ds/\Vals Qp ds/\(∀ H,aZ H Rb Qp)/\aO P w K mg base (bU P w) n f fd ps (BG m C sem)
def kE(m:Nat)(sem:Addr->List PV->M (List (Str×PV))):Addr->List PV->M (List (Str×PV)):=λa ps=>cZ (ps.length+1=m) (sem a ps)
theorem Bs{K:PySem.W.Frag}{s:Addr->List PV->M (List (Str×PV))}(F:aO P w K mg base (bU P w) k f fd ps (BG n C s)):aO P w K mg base (bU P w) k f fd ps (BG n C (kE n s)) where
 len:=λvs H Q E h=>by
  obtain⟨h0,a,dx,us,Hs,H1,qs,e1,e2,e3,e4,e5,sm,r,h⟩:=h
  exact F.len vs H Q E ⟨h0,a,dx,us,Hs,H1,qs,e1,e2,e3,e4,e5,sm,r,(ay.cZ h).2⟩
 run:=λA outer s H args us vs Q E hr e hb rv h=>by
  obtain⟨h0,a,dx,us',Hs,H1,qs,e1,e2,e3,e4,e5,sm,r,h⟩:=h
  exact F.run A outer s H args us vs Q E hr e hb rv ⟨h0,a,dx,us',Hs,H1,qs,e1,e2,e3,e4,e5,sm,r,(ay.cZ h).2⟩
theorem bb.Kx{K:PySem.W.Frag}{st:Stmt}{g:af->M Out}(F:bb K x qual st dv f fd)(S:cv N ps (a_ st))(hN:0<N.length)
  (hb:∀ (PD:Value) (A:Around) (outer:List Env) (s:Shared) (H:Hp) (E:XK),cV k (A.deeper (envOfC qual (a_ st) s.heap.objs.size f PD))->fH ((mJ (bU P w) P w K mg base N qual (a_ st) f PD A outer s H E).out λ_=>E) (λ_=>E)->nQ ((mJ (bU P w) P w K mg base N qual (a_ st) f PD A outer s H E).out λ_=>E) (fD st) (tS E g)) :
  aO P w K mg base (bU P w) (k+1) f fd ps (BG ps.length C (kE ps.length (mq N.length g C))):=by
 obtain⟨oc,od,kV,doc,pm,an,PD,ct,R8,rfl,lk,QP⟩:=F.ex
 exact Bs <| E1 lk QP S hN λA outer s H E hr=>hb PD A outer s H E hr (GY rfl rfl)
section
variable{m:Nat}{fs:af->M (List PV)}{p pos:Pos}
theorem tZ.make{sem:Addr->List PV->M (List (Str×PV))}(F:tZ X.prog X.w X.K X.mg X.base C n x m Rb (kE m sem))(hr:cV k X.A)(hn:n+1<=k)(hg:Gl X x)(O:fH X E)(ha:PA X (e::es) (tL E fs))(QD:autoParam ((x==("__debug__" : Str))=false) aD._auto_1)(he:autoParam (starEach (e::es) X.env=(false,eval e X.env)::starEach es X.env) aR._auto_1)(PK:autoParam ((backTo pos (starEach es X.env)).any (·.1)=false) aR._auto_1) :
  PE X (.Call (.Name x p) (e::es) [] pos) (tE E (ai (cM C (kE m sem) Rb) fs)):=by
 obtain⟨f,fd,ps,ds,Qp,h1,h2,h4,h5,h6,h7⟩:=F.ex
 refine Gw (p:=p) h2 h7 (hr.mono hn) hg h1 h4 h5 h6 O (λa Q3 hp=>?_) ha QD he PK
 unfold kE cZ at hp
 split at hp
 ·rename_i h;rwa [List.length_append] at h
 ·exact(hp rfl).elim
end
def nI:Addr->Option Bool:=λ_=>none
theorem j0{P:Addr->Bool->Prop}:∀ C b,nI C=some b->P C b:=λ_ _ h=>by cases h
theorem vr{pos:Pos}(i:Nat)(hN:autoParam (X.N[i]?=some x) aR._auto_1)(hv:EN X.env.scope x:=by first | exact .inl rfl | exact .inr (.inl rfl) | exact .inr (.inr rfl))(hd:autoParam ((x==("__debug__" : Str))=false) aD._auto_1)(QP:autoParam ((x==("__classdict__" : Str))=false) aD._auto_1):PE X (.Name x pos) (tE E (ae i)):=Jr hN hv hd QP
theorem Hq{env:Env}(h:(match e with | .Starred ..=>true | _=>false)=false):starEach (e::es) env=(false,eval e env)::starEach es env:=by
 cases e <;> first | rfl | cases h
def lB:List Expr->Option (List Int)
 | []=>some []
 | .Constant (.int i) _ _::r=>(lB r).map (i::·)
 | _=>none
section
variable{pos:Pos}
theorem zO:∀ {es:List Expr} {ns:List Int},lB es=some ns->PA X es (tL E λ_=>M.ok (ns.map PV.int))
 | [],_,h=>by cases h;exact Cw
 | .Constant (.int i) j p::r,ns,h=>by
  obtain⟨ms,h1,rfl⟩:=Option.map_eq_some_iff.mp (show (lB r).map (i::·)=some ns from h)
  exact z7 Ek (zO h1) (Hq rfl)
theorem pO(ns:List Int)(h:autoParam (lB es=some ns) aR._auto_1)(hz:autoParam (ns.length<=1000) aD._auto_1):PE X (.List es pos) (tE E λ_=>M.ok (.lst (ns.map PV.int))):=by
 refine(Dt (E:=E) (zO h)).imp fun σ H Q q=>?_
 have e:(qw λ_=>M.ok (ns.map PV.int))=λ_=>M.ok (.lst (ns.map PV.int)):=by
  funext env
  show cZ _ _=_
  unfold cZ
  rw[if_pos (by rw[List.length_map];exact Nat.le_trans hz (by decide))]
 rw[e];exact q
end
def Dl:PV->PV->M (List PV)
 | .lst xs,.int k=>cZ (-(2^63)<=k/\k<2^63/\xs.length*k.toNat<=sizeLine) (M.ok (List.replicate k.toNat xs).flatten)
 | _,_=>none
def Ih(f g:af->M PV):af->M (List PV):=λenv=>(f env).bind λp=>(g env).bind λq=>Dl p q
section
variable{a b:Expr}{pos:Pos}{f g:af->M PV}
theorem J5(ha:PE X a (tE E f))(hb:PE X b (tE E g)):PE X (.BinOp a .Mult b pos) (tO E (Ih f g)):=by
 refine(Hd DN ha hb).imp fun σ H Q q=>cC (K:=KO Q) KO.gr q λB H₀ Hs H1 env p v sr rp hp=>?_
 refine⟨B,H₀,Hs,env,sr,(ay.bind hp).imp (λq hq u Pk H' g' ru=>?_) λe he=>he⟩
 have Rn:=sr.grow g'
 have rp':=rp.mono g'.st
 cases rp' with
 | @lst l xs vs ha hx=>cases ru with
  | int k =>
   obtain⟨⟨h1,h2,h3⟩,h⟩:=ay.cZ hq
   exact⟨l,k,vs,rfl,rfl,Rn.gr.sub _ _ ha,h1,h2,by rw[← hx.length];exact h3,λp n=>h _ p Pk H' g' (hx.rep _) n⟩
  | _=>exact hq.elim
 | _=>exact hq.elim
end
structure BF (K:PySem.W.Frag) (mg:Str->Option Value) (C:Addr) (x:Str):Prop where
 hc:PySem.W.excIn K C fW "ValueError.__new__" = true
 c:gU K C
 ht:PySem.W.typeIn K (.ref C)=some (.type "type")
 kp:PySem.W.keepIn K (.ref C)=true
 m:mg x=some (.ref C)
structure pf (P:Program) (w:World) (K:PySem.W.Frag) (mg:Str->Option Value) (base:Heap) (C:Addr) (x fl:Str):Prop where
 ex:∃ (f:Addr) (fd:FuncData) (ps:List Str),qm K C "ValueError.__new__" f=true/\PySem.W.isFn K (.ref f)=true/\aO P w K mg base (bU P w) 1 f fd ps (yz K C fl)/\Binds K fd ps []
 c:gU K C
 ht:PySem.W.typeIn K (.ref C)=some (.type "type")
 kp:PySem.W.keepIn K (.ref C)=true
 m:mg x=some (.ref C)
section
variable{E:XK}{pos p:Pos}{fl:Str}{fs:af->M (List PV)}
theorem BF.raise(F:BF X.K X.mg C x)(O:fH X λ_=>E)(Pr:X.calm=true)(hg:Gl X x)(ha:PA X (e::es) (tL (λ_=>E) fs))
  (QD:autoParam ((x==("__debug__" : Str))=false) aD._auto_1) (he:autoParam (starEach (e::es) X.env=(false,eval e X.env)::starEach es X.env) aR._auto_1) (PK:autoParam ((backTo Pz (starEach es X.env)).any (·.1)=false) aR._auto_1) :
  PS X (.Raise (some (.Call (.Name x p) (e::es) [] Pz)) none pos) (tS E (mC C fs)):=Aj O Pr F.hc F.c F.ht F.kp hg F.m ha QD he PK
theorem pf.raise(F:pf X.prog X.w X.K X.mg X.base C x fl)(hr:cV k X.A)(hn:2<=k)(O:fH X λ_=>E)(Pr:X.calm=true)(hg:Gl X x)(ha:PA X [e] (tL (λ_=>E) fs))
  (QD:autoParam ((x==("__debug__" : Str))=false) aD._auto_1) (he:autoParam (starEach [e] X.env=(false,eval e X.env)::starEach [] X.env) aR._auto_1) (PK:autoParam ((backTo Pz (starEach [] X.env)).any (·.1)=false) aR._auto_1) :
  PS X (.Raise (some (.Call (.Name x p) [e] [] Pz)) none pos) (tS E (jo C fl fs)):=by
 obtain⟨f,fd,ps,h1,h2,h3,h4⟩:=F.ex
 exact Bn O Pr h1 h2 F.c F.ht F.kp h3 (hr.mono hn) h4 hg F.m ha QD he PK
end
def Mc(i j:Nat)(env:af):List PV->M Out
 | [p,q]=>M.ok (.nx ((env.set i (some (.sh p))).set j (some (.sh q))))
 | _=>none
def JU(i j:Nat)(fs:af->M (List PV)):af->M Out:=λenv=>(fs env).bind (Mc i j env)
theorem JJ{E:XK}{a b:Expr}{fs:af->M (List PV)}{py pt pos:Pos}{kt:Nat}{SJ:Pos}(hc:X.calm=true)(hN:X.N.Nodup)(hi:X.N[i]?=some x)(hj:X.N[j]?=some y)(hij:i≠j)
  (hx:X.env.scope.names.lookup x=some .local) (hy:X.env.scope.names.lookup y=some .local) (ha:PA X [a,b] (tL (λ_=>E) fs))
  (hw:swappedStores [.Tuple [.Name x px,.Name y py] kt pt] (.Tuple [a,b] k2 SJ) X.env=pure (some [x,y]))
  (hs:autoParam (swapsWithSole [.Tuple [.Name x px,.Name y py] kt pt] (.Tuple [a,b] k2 SJ) pos.line X.env=pure false) aR._auto_1) :
  PS X (.Assign [.Tuple [.Name x px,.Name y py] kt pt] (.Tuple [a,b] k2 SJ) pos) (tS E (JU i j fs)):=by
 refine(Kl hc hN hi hj hij hx hy ha hw hs).imp λD σ H q=>rR q λB H₀ Hs H1 env ps v sr rp hp=>?_
 match ps,rp,hp with
 | [],_,hp=>exact hp.elim
 | [_],_,hp=>exact hp.elim
 | _::_::_::_,_,hp=>exact hp.elim
 | [p,q],rp,hp =>
  obtain⟨v,u,rfl,r1,r2⟩:=rp.two
  exact⟨v,u,rfl,hp _ Hs H1 ((sr.set r1).set r2)⟩
section
variable{pos:Pos}
end
section
variable{cl:List (Str×Addr)}{pos:Pos}{wi:TI}{it:af->M (List PV)}{g:TG}{set:PV->af->M af}{f:af->M PV}{fs:List Str}
variable{E:XK}{py Q4:Pos}
theorem j7(Pr:X.calm=true)
  (PZ:closureFor scope X.env=pure cl) (hk:scope.kind=.function) (nc:gR scope.names=true) (lo:i0 scope.names=true) (fh:i4 cl scope.names=true) (ag:fw X cl) (fr:jJ X scope cl fs js)
  (hi:PI X tg iter wi) (hv:A5 (λ_=>E) wi it) (hg:∀ C s₀ H₀ ex Pf,PG (rT X scope cl (ts++fs) C s₀ H₀ ex Pf) tg g) (R_:∀ E,ER E g set) (so:oJ set) (he:∀ C s₀ H₀ ex Pf,PE (rT X scope cl (ts++fs) C s₀ H₀ ex Pf) elt (tE EF f))
  (hN:X.N.Nodup) (SA:X.N[i]?=some y) (hy:Loc X.env.scope y)
  (hs:autoParam (∀ x,foldedSetIterable iter X.env x=pure x) aI._auto_1) (Sj:autoParam (swapsWith (.ListComp elt [⟨tg,iter,[],0⟩] scope pos) (some (.Name y py)) Q4.line X.env=pure true) aR._auto_1)
  (hf:autoParam (X.fn y=true\/X.env.scope.names.lookup y=some .local) aF._auto_1) :
  PS X (.Assign [.Name y py] (.ListComp elt [⟨tg,iter,[],0⟩] scope pos) Q4) (tS E (bg i (bJ (bH it set none f ts.length js)))):=by
 refine(FD hN SA hy Pr PZ hk nc lo fh ag fr hi hg he hs Sj hf).imp λD σ H q=>?_
 refine wF hv R_ so ?_
 obtain⟨B,H₀,Hs,env,sr,q⟩:=q
 refine⟨B,H₀,Hs,env,sr,(ay.bind (ay.bind q)).imp (λps hp vs p Pk H' g r n=>?_) λe he=>he.grow sr.gr⟩
 have gn:=cw.new (o:=.lst vs) g.sub n
 exact hp _ _ _ ((sr.grow (g.trans gn)).set (.lst aC (r.mono gn.st)))
end
section
variable{a:Expr}{ta:TA}{p pos:Pos}
end
section
variable{fs:af->M (List PV)}{a:Expr}{p p2 pos pos2:Pos}
end
section
open AutoSeq1 (wpAny_loadPart')
theorem AU(l:Addr)(items:Array Value)(n:Nat)(dct:Option Addr)(sl:Array (Option Value)) :
  Meets (Builtin.«enumerate.__new__» ⟨[.type "enumerate", .ref l],[]⟩) (λ_ R s=>s.heap.get? l=some { cls:=.type "tuple", dict:=dct,data:=.seq items n,slots:=sl } ∧
   R (.ok (.ret (.ref (s.heap.push { cls:=.type "tuple_iterator", data:=.fields #[.ref l,.int 0 0] }).objs.size)))
    { s with heap:=(s.heap.push { cls:=.type "tuple_iterator", data:=.fields #[.ref l,.int 0 0] }).push { cls:=.type "enumerate", data:=.fields #[.none,.bool false,.ref s.heap.objs.size,rawInt 0,.none,.none] } }) :=
 .of_wp λprog w A R s h=>by
  obtain⟨hp,g,d,tk,os⟩:=s;obtain⟨hl,h⟩:=h
  have Td:=sub_enumerate
  have hL:Heap.IsTuple (Shared.heap ⟨hp,g,d,tk,os⟩) l items:=⟨_,hl,rfl,n,rfl⟩
  wp_walk using wpAny_loadPart' hl
  refine wpAny_stack_any λst=>wpAny_pure ?_
  split
  ·rename_i c _ _ _ _ _
   cases (c==Value.type "enumerate")
   ·wp_walk using wpAny_loadPart' hl,wpAny_pyIter_tuple hL
    exact⟨_,rfl,h⟩
   ·wp_walk using wpAny_loadPart' hl,wpAny_pyIter_tuple hL
    exact⟨_,rfl,h⟩
  ·wp_walk using wpAny_loadPart' hl,wpAny_pyIter_tuple hL
   exact⟨_,rfl,h⟩
section
variable{E:Value->Shared->Prop}
theorem yI(hL:s.heap.IsTuple l items)
  (h:∀ h',IsEnum h' (s.heap.objs.size+1) s.heap.objs.size 0 .none->h'.IsTupleIter s.heap.objs.size l 0->h'.objs.size=s.heap.objs.size+2 ->
   (∀ b o,s.heap.get? b=some o->h'.get? b=some o)->Q (.ref (s.heap.objs.size+1)) { s with heap:=h' }) :
  wpAny (model prog w) A (call (.type "enumerate") [.ref l]) Q E s:=by
 obtain⟨⟨c,dct,dt,sl⟩,hl,hc,n,hd⟩:=hL
 replace hc:c=.type "tuple" := hc
 replace hd:dt=.seq items n:=hd
 subst hc hd
 refine callType_new F.called_enumerate (by decide) (F.typeCall_enumerate_1 _) (F.newCall_enumerate_1 _) (λobj=>F.args_object_init_2 obj _) F.entry_enumerate_new
  (AU l items n dct sl) ⟨hl,?_⟩
 have hz:(s.heap.push { cls:=.type "tuple_iterator", data:=.fields #[.ref l,.int 0 0] }).objs.size=s.heap.objs.size+1:=Heap.size_push ..
 show _/\_
 rw[hz]
 have he:IsEnum ((s.heap.push { cls:=.type "tuple_iterator", data:=.fields #[.ref l,.int 0 0] }).push
   { cls:=.type "enumerate", data:=.fields #[.none,.bool false,.ref s.heap.objs.size,rawInt 0,.none,.none] }) (s.heap.objs.size+1) s.heap.objs.size 0 .none:=by
  have:=Heap.get?_push_size (s.heap.push { cls:=.type "tuple_iterator", data:=.fields #[.ref l,.int 0 0] })
   (o:={ cls:=.type "enumerate", data:=.fields #[.none,.bool false,.ref s.heap.objs.size,rawInt 0,.none,.none] }) rfl
  rw[hz] at this;exact this
 refine⟨⟨_,he,rfl⟩,h _ he ⟨_,Heap.get?_push_of_some _ (Heap.get?_push_size _ rfl),rfl,rfl⟩ (by rw[Heap.size_push,hz]) λb o x=>Heap.get?_push_of_some _ (Heap.get?_push_of_some _ x)⟩
end
theorem IP(hh:A.handled=none)(it t:Addr)(items:Array Value) :
  Draws prog w A it [it,t] items.size (λi v=>items[i]?=some v) (λi h=>h.IsTupleIter it t i/\h.IsTuple t items) where
 live:=λ_ _ st=>let ⟨⟨o,ho,_⟩,_⟩:=st;⟨o,ho⟩
 frame:=λ_ _ _ st hk=>by
  obtain⟨⟨o,ho,r⟩,⟨o2,RL,r2⟩⟩:=st
  exact⟨⟨o,hk it (by simp) o ho,r⟩,⟨o2,hk t (by simp) o2 RL,r2⟩⟩
 item:=λi s Q E hi st hQ=>by
  obtain⟨st,tt⟩:=st
  refine iV st tt (x:=items[i]) (by simp[hi]) λh' Sy Sv=>?_
  refine hQ _ h' s.toks (by simp[hi]) ⟨Sy,?_⟩ Sv
  obtain⟨o,ho,c1,_⟩:=st
  obtain⟨o2,RL,c2,r2⟩:=tt
  refine⟨o2,(Sv.2 t λz=>?_).trans RL,c2,r2⟩
  rw[z,ho] at RL;cases RL
  rw[c1] at c2;exact absurd c2 (by decide)
 done:=λs Q E st hE=>fP hh st.1 st.2 (by simp) hE
def HX (K : PySem.W.Frag) (a : Addr) : It :=
  ⟨λi H => ∃ xs x, iD K H a xs /\ xs[i]? = some x,
   λi H y H' => ∃ p x, H p = none /\ y = .ref p /\ H' = upd H p (.tup [.int i, x]) /\ ∀ xs, iD K H a xs -> xs[i]? = some x,
   λi H => ∃ xs, iD K H a xs /\ xs.length <= i⟩
theorem yX{K:PySem.W.Frag}{tp:Pos}(a e it:Addr)(Rm:e≠it):Turn P w K (.Tuple elts x1 tp) (HX K a) [e,it] e (λi h=>(∃ old,IsEnum h e it i old)/\h.IsTupleIter it a i) where
 mem:=by simp
 obj:=λi h st b hb=>by
  obtain⟨⟨old,he⟩,⟨o,e1,c,d⟩⟩:=st
  rcases List.mem_cons.mp hb with z | z
  ·subst z
   exact⟨_,he,λv z=>by cases z⟩
  ·have z':b=it:=by simpa using z
   subst z'
   exact⟨o,e1,λv z=>by rw[d] at z;cases z⟩
 keep:=λi h h' st k=>by
  obtain⟨⟨old,he⟩,⟨o,ho,r⟩⟩:=st
  exact⟨⟨old,k e (by simp) _ he⟩,⟨o,k it (by simp) o ho,r⟩⟩
 item:=by
  intro X hP hw hK hc i Pf s σ H E I hf st hg
  subst hP hw hK
  obtain⟨xs,x,hq,hx⟩:=hg
  obtain⟨Ph,rv,p,hz⟩:=I.tuple hq
  obtain⟨u,hu,ru⟩:=rv.get hx
  obtain⟨⟨old,he⟩,hit⟩:=st
  have RT:e<s.heap.objs.size:=Heap.lt_size he
  have Sx:it<s.heap.objs.size:=by obtain⟨_,z,_⟩:=hit;exact Heap.lt_size z
  have hea:e ∉ [it,a]:=λz=>by
   rcases List.mem_cons.mp z with z | z
   ·exact Rm z
   ·obtain⟨o,ho,c,_⟩:=p
    rw[← List.mem_singleton.mp z,he] at ho
    cases ho;exact absurd (show Value.type "enumerate" = Value.type "tuple" from c) (by decide)
  have Sa:i<Ph.toArray.size:=by
   have:=(List.getElem?_eq_some_iff.mp hu).1
   simpa using this
  refine wpAny_pyNext_enum_itemD (IP (A:=X.A.in1) (I.ok.hd hc) it a Ph.toArray) he ⟨hit,p⟩ Sa Rm hea λu' h' tk hu' ho PY hT Q8 hk=>⟨_,rfl,?_⟩
  have eu:u'=u:=by
   rw[List.getElem?_toArray,hu] at hu';exact(Option.some.inj hu').symm
  subst eu
  refine wpAny_letOwnedTupleGo_enum (s:={ s with heap:=h',toks:=tk+1 }) ho λh2 he2 Q2=>?_
  have R3:∀ b o,b ∉ [e,it]->s.heap.get? b=some o->h2.get? b=some o:=λb o hb q=>by
   have n1:b≠e:=λz=>hb (by simp[z])
   have n2:b≠it:=λz=>hb (by simp[z])
   exact(Q2.2 b n1).trans (hk b o n1 n2 q)
  have Se:h2.get? s.heap.objs.size=some { cls:=.type "tuple", data:=.seq #[.int i tk,u'] }:=(Q2.2 _ (Nat.ne_of_gt RT)).trans hT
  have I2:Inv X Pf σ (upd H s.heap.objs.size (.tup [.int i,x])) { s with heap:=h2,toks:=tk+1 } :=
   I.lC (ch:=[e,it]) R3 hf (Nat.le_refl _) (λb hb=>by
    rcases List.mem_cons.mp hb with z | z
    ·subst z;exact⟨_,he⟩
    ·have z':b=it:=by simpa using z
     subst z'
     obtain⟨o,z,_⟩:=hit
     exact⟨o,z⟩)
    ⟨by show 2<=sizeLine;decide,[.int i tk,u'],.cons ⟨_,rfl⟩ (.cons ru .nil),⟨_,Se,rfl,_,rfl⟩⟩
  have Q0:H s.heap.objs.size=none:=I.cp.fresh (Nat.le_refl _)
  obtain⟨oi,hoi,ri⟩:=PY.1
  refine⟨.ref s.heap.objs.size,_,I2,rfl,⟨_,x,Q0,rfl,rfl,λys hy=>by rw[I.oE hy hq];exact hx⟩,⟨⟨u',by simpa using he2⟩,⟨oi,(Q2.2 it (Ne.symm Rm)).trans hoi,ri⟩⟩,λb hb=>?_⟩
  have nb:b≠s.heap.objs.size:=by
   rcases List.mem_cons.mp hb with z | z
   ·rw[z];exact Nat.ne_of_lt RT
   ·have z':b=it:=by simpa using z
    rw[z'];exact Nat.ne_of_lt Sx
  rw[av nb]
  exact(hf b hb).1
 done:=by
  intro X hP hw hK hc i Pf s σ H E I hf st hg
  subst hP hw hK
  obtain⟨xs,hq,hx⟩:=hg
  obtain⟨Ph,rv,p,hz⟩:=I.tuple hq
  have hl:=rv.length
  obtain⟨⟨old,he⟩,hit⟩:=st
  obtain⟨f0,f1,f2,f3,f4,f5⟩:=hf it (by simp)
  have hT:s.TypeIs (.ref e) "enumerate" := ⟨_,he,rfl⟩
  unfold pyNext
  refine wpAny_bind (wpAny_attempt (wpAny_callSpecial?_slot (name:=Str.ofString "__next__") hT F.slot_enumerate_next
   (wpAny_call_entry F.slot_enumerate_next hT F.entry_enumerate_next ?_ (F.args_enumerate_next_1 _))))
  show wpAny _ _ (field (.ref e) 2 >>= _) _ _ _
  refine wpAny_bind (wpAny_field he rfl (x:=.ref it) rfl ?_)
  refine wpAny_bind (fP (I.ok.hd hc) hit p (by simp;omega) λh' x he' Te=>?_)
  obtain⟨o,ho,Sg⟩:=Te
  refine wpAny_bind (wpAny_isInstance (T := "StopIteration") (b:=true) ⟨o,ho,Sg⟩ isSubtype_stop ?_)
  exact wpAny_pure ⟨rfl,I.turned (t':=s.toks) (λb o hb e=>he' b o hb e) f0 f1 f3 f4 f5⟩
 self:=λ_ _ _ _ _ st h=>by
  obtain⟨⟨old,he⟩,_⟩:=st
  exact wpAny_pyIter_enum he h
def K1(K:PySem.W.Frag)(tl:TA):TI:=fun σ H R=>tl σ H λvs H1=>∃ a,vs=[.ref a]/\(((∃ xs,iT K H1 a xs)/\R (IC K a) H1)\/((∃ xs,iD K H1 a xs)/\R (HX K a) H1))
theorem kh{tp:Pos}{l:Expr}{p pos:Pos}(hg:Gl X "enumerate")(hm:X.mg "enumerate" = none)(hl:PA X [l] tl)(hs:autoParam (starEach [l] X.env=[(false,eval l X.env)]) aR._auto_1) :
  PI X (.Tuple elts x1 tp) (.Call (.Name "enumerate" p) [l] [] pos) (K1 X.K tl):=by
 intro Pf s σ H R I h
 refine Call_ (ki I hg hm PyProof.Rows.boot_enumerate (PyProof.Rows.callWith_type1 (c9 (hl pos Pf s σ H _ I h) λus s1 ⟨vs,H1,I1,r1,q1⟩=>?_) hs rfl))
 obtain⟨a,e,q⟩:=q1
 subst e
 cases r1 with
 | cons r rr =>
  cases rr
  cases (show _=Value.ref a from r)
  have fp:∀ b∈[s1.heap.objs.size+1,s1.heap.objs.size],mG X Pf H1 b:=λb hb=>by
   rcases List.mem_cons.mp hb with z | z
   ·subst z
    exact I1.vo (Nat.le_succ _) (I1.cp.fresh (Nat.le_succ _))
   ·have z':b=s1.heap.objs.size:=by simpa using z
    subst z'
    exact I1.vo (Nat.le_refl _) (I1.cp.fresh (Nat.le_refl _))
  rcases q with ⟨⟨xs,hq⟩,q⟩ | ⟨⟨xs,hq⟩,q⟩
  ·obtain⟨Ph,rv,pl,hz⟩:=I1.list hq
   refine call_enumerate_list pl.isList λh' he hit Q8 hk=>?_
   refine wpAny_pyIter_enum (s:={ s1 with heap:=h' }) he ?_
   exact⟨s1.heap.objs.size+1,[s1.heap.objs.size+1,s1.heap.objs.size],_,_,H1,rfl,I1.kept (t':=s1.toks) hk,AJ a _ _ (Nat.succ_ne_self _),⟨⟨_,he⟩,hit⟩,fp,q⟩
  ·obtain⟨Ph,rv,pl,hz⟩:=I1.tuple hq
   refine yI pl λh' he hit Q8 hk=>?_
   refine wpAny_pyIter_enum (s:={ s1 with heap:=h' }) he ?_
   exact⟨s1.heap.objs.size+1,[s1.heap.objs.size+1,s1.heap.objs.size],_,_,H1,rfl,I1.kept (t':=s1.toks) hk,yX a _ _ (Nat.succ_ne_self _),⟨⟨_,he⟩,hit⟩,fp,q⟩
def Oc(p:PV):M (List PV):=match cF p with
 | some xs=>M.ok (i5 xs)
 | none=>none
def Bq:List PV->M (List PV)
 | [p]=>Oc p
 | _=>none
section
variable{K:PySem.W.Frag}{fs:af->M (List PV)}
theorem BN(hq:∀ Pk H',bM Px Pk->bM Pk H'->iD K H' a vs)(hr:aZ Px xs vs):kU (HX K a) Px (i5 xs) where
 stop:=λi Hs H s1 s2 hi=>by
  unfold i5 at hi
  rw[List.length_mapIdx,hr.length] at hi
  exact⟨vs,hq Hs H s1 s2,hi⟩
 go:=λi Hs H s1 s2 hi=>by
  unfold i5 at hi
  rw[List.length_mapIdx] at hi
  obtain⟨v,e,_⟩:=hr.get (List.getElem?_eq_getElem hi)
  exact⟨vs,v,hq Hs H s1 s2,e⟩
 w4:=λi Hs H x H2 s1 s2 hi y=>by
  unfold i5 at hi
  rw[List.length_mapIdx] at hi
  obtain⟨v,e,r⟩:=hr.get (List.getElem?_eq_getElem hi)
  obtain⟨pa,v',hn,rfl,rfl,y1⟩:=y
  have z1:=y1 vs (hq Hs H s1 s2)
  rw[e] at z1;cases z1
  have gr:=cw.new (o:=.tup [.int (i:Nat),v]) s2 hn
  refine⟨.tup [.int (i:Nat),xs[i]],_,?_,gr,.tup aC (.cons (.int _) (.cons ((r.mono s1).mono gr.st) .nil))⟩
  unfold i5
  rw[List.getElem?_mapIdx,List.getElem?_eq_getElem hi]
  rfl
theorem ia:A5 E (K1 K (tL E fs)) (jg Bq fs):=by
 intro σ H R q
 refine dZ (K:=KI R) KI.g q λB H₀ Hs H1 env ps v sr rp hp=>?_
 match ps,rp,hp with
 | [],_,hp=>exact hp.elim
 | _::_::_,_,hp=>exact hp.elim
 | [p],rp,hp =>
  obtain⟨w,rfl,Ra⟩:=rp.one
  cases Ra with
  | lst ha hx=>exact⟨_,rfl,.inl ⟨⟨_,iT.of (sr.gr.sub _ _ ha)⟩,hp _ Hs H1 (.refl sr.gr.sub) (tX (λPk H' s1 s2=>iT.of (s2 _ _ (s1 _ _ ha))) hx)⟩⟩
  | kF ha hx=>exact⟨_,rfl,.inl ⟨⟨_,.inl (.inr ⟨_,sr.gr.sub _ _ ha⟩)⟩,hp _ Hs H1 (.refl sr.gr.sub) (tX (λPk H' s1 s2=>.inl (.inr ⟨_,s2 _ _ (s1 _ _ ha)⟩)) hx)⟩⟩
  | tup ha hx=>exact⟨_,rfl,.inr ⟨⟨_,iD.of (sr.gr.sub _ _ ha)⟩,hp _ Hs H1 (.refl sr.gr.sub) (BN (λPk H' s1 s2=>iD.of (s2 _ _ (s1 _ _ ha))) hx)⟩⟩
  | _=>exact hp.elim
end
end
section
variable{pos:Pos}{f:af->M PV}
end
section
variable{pos:Pos}{f:af->M PV}
end
section
variable{R9:List (Addr×Obj)}{ea:Addr}
end
section
variable{B:Hp}{ea:Addr}{E:XK}{env:af}{fo:Option (List (Str×PV))}{D:Ends}{F:Value->Shared->Prop}
end
def m_(ys ns:List Addr)(C:Addr):Option Bool:=if ys.contains C=true then some true else if ns.contains C=true then some false else none
variable{ns:List Addr}
theorem qc{ys:List Addr}(h:m_ ys ns C=some b):(b=true/\C∈ys)\/(b=false/\C∈ns):=by
 unfold m_ at h
 by_cases h1:ys.contains C=true
 ·rw[if_pos h1] at h;cases h;exact .inl ⟨rfl,by simpa using h1⟩
 ·rw[if_neg h1] at h
  by_cases h2:ns.contains C=true
  ·rw[if_pos h2] at h;cases h;exact .inr ⟨rfl,by simpa using h2⟩
  ·rw[if_neg h2] at h;cases h
def EJ(f:Addr->Option Bool)(ys ns:List Addr):Bool:=ys.all (λC=>f C==some true)&&ns.all λC=>f C==some false
theorem CG{f:Addr->Option Bool}{ys:List Addr}(h:EJ f ys ns=true)(e:m_ ys ns C=some b):f C=some b:=by
 unfold EJ at h
 rw[Bool.and_eq_true,List.all_eq_true,List.all_eq_true] at h
 rcases qc e with ⟨rfl,m⟩ | ⟨rfl,m⟩
 ·exact eq_of_beq (h.1 C m)
 ·exact eq_of_beq (h.2 C m)
theorem pd{p:α->Prop}:∀ x∈([]:List α),p x:=λ_ h=>nomatch h
theorem vN{p:α->Prop}{a:α}{l:List α}(h:p a)(r:∀ x∈l,p x):∀ x∈a::l,p x:=λx m=>by
 rcases List.mem_cons.mp m with rfl | m
 ·exact h
 ·exact r x m
def D6:List String:=["NoneType", "bool", "int", "str", "tuple", "list", "dict"]
theorem FZ{a:String}(h:G1 p=some a):a∈D6:=by
 cases p <;> first | (cases h;decide) | cases h
structure HY (K:PySem.W.Frag) (mg:Str->Option Value) (x:Str) (D:Addr) (ys ns yo no:List Addr):Prop where
 mg:mg x=some (.ref D)
 ty:∀ p a,G1 p=some a->PySem.W.kitOne K (.type a) (.ref D)=some false
 ob:∀ C b,m_ yo no C=some b->oB K C/\PySem.W.kitOne K (.ref C) (.ref D)=some b
 oe:∀ C b,m_ ys ns C=some b->gU K C/\PySem.W.kitOne K (.ref C) (.ref D)=some b
theorem HY.of{K:PySem.W.Frag}{ys yo no:List Addr}(h1:mg x=some (.ref D))(h2:(D6.all λa=>PySem.W.kitOne K (.type a) (.ref D)==some false)=true)
  (h3:EJ (λC=>PySem.W.kitOne K (.ref C) (.ref D)) yo no=true) (h4:EJ (λC=>PySem.W.kitOne K (.ref C) (.ref D)) ys ns=true) (o1:∀ C∈yo,oB K C) (o2:∀ C∈no,oB K C) (e1:∀ C∈ys,gU K C) (e2:∀ C∈ns,gU K C):HY K mg x D ys ns yo no where
 mg:=h1
 ty:=λp a h=>by
  rw[List.all_eq_true] at h2
  exact eq_of_beq (h2 a (FZ h))
 ob:=λC b h=>⟨by rcases qc h with ⟨_,m⟩ | ⟨_,m⟩ <;> first | exact o1 C m | exact o2 C m,CG h3 h⟩
 oe:=λC b h=>⟨by rcases qc h with ⟨_,m⟩ | ⟨_,m⟩ <;> first | exact e1 C m | exact e2 C m,CG h4 h⟩
section
variable{pos p pt:Pos}{f:af->M PV}{ys yo no:List Addr}
theorem HY.is(c:HY X.K X.mg x D ys ns yo no)(hg:Gl X "isinstance")(hm:X.mg "isinstance" = none)(hx:Gl X x)(he:PE X e (tE E f))(hd:autoParam ((x==("__debug__" : Str))=false) aD._auto_1)
  (h1:autoParam (starEach [e,.Name x pt] X.env=(false,eval e X.env)::starEach [.Name x pt] X.env) aR._auto_1) (h2:autoParam (starEach [.Name x pt] X.env=(false,eval (.Name x pt) X.env)::starEach [] X.env) aR._auto_1) (PK:autoParam ((backTo pos (starEach [.Name x pt] X.env)).any (·.1)=false) aR._auto_1) :
  PE X (.Call (.Name "isinstance" p) [e,.Name x pt] [] pos) (tE E (ug (λ_=>false) (m_ yo no) (m_ ys ns) f)) :=
 Jp hg hm (zQ hx c.mg rfl hd) c.ty c.ob c.oe he h1 h2 PK
end
section
variable{pos:Pos}{f g:af->M PV}
def GS:List V->Hp->VK->Prop:=λxs H Q=>∃ b,xs=[.bl b]/\Q (.int (if b then 1 else 0)) H
theorem Bf:dW X (.type "int") GS:=by
 intro Pf s σ H xs us Q I r h
 obtain⟨b,rfl,q⟩:=h
 obtain⟨u,rfl,rx⟩:=vals1 r
 cases rx
 exact call_int_bool ⟨.int _,H,I.kept (t':=s.toks+1) λ_ _ z=>z,⟨_,rfl⟩,q⟩
def K0:PV->M PV
 | .bl b=>M.ok (.int (if b then 1 else 0))
 | _=>none
def l8:List PV->M PV
 | [p]=>K0 p
 | _=>none
theorem F8:ma E GS l8:=by
 intro σ Hs H ps vs Q s rp h
 match ps,rp,h with
 | [],_,h=>exact h.elim
 | _::_::_,_,h=>exact h.elim
 | [p],rp,h =>
  obtain⟨w,rfl,Ra⟩:=rp.one
  cases Ra with
  | bl b=>exact⟨b,rfl,eP.flat h s (.int _)⟩
  | _=>exact h.elim
def Lx(K:PySem.W.Frag):V->List V->Hp->VK->Prop:=λx vs H Q=>∃ (l:Addr) (bs:List Bool) (b:Bool) (j:Nat),x=.ref l/\vs=[.bl b]/\iT K H l (bs.map V.bl)/\bs.findIdx? (·==b)=some j/\Q (.int j) H
theorem Vals.Ln{bs:List Bool}(r:Vals (bs.map V.bl) us):us=bs.map Value.bool:=by
 induction bs generalizing us with
 | nil=>cases r;rfl
 | cons a t ih =>
  cases r with
  | cons h r =>
   cases (show _=Value.bool a from h)
   rw[ih r];rfl
theorem Ce:Ow X "list.index" (Lx X.K):=by
 intro Pf s σ H x vs v us Q I rx rv h
 obtain⟨l,bs,b,j,rfl,rfl,hq,hj,q⟩:=h
 cases rx
 obtain⟨u,rfl,ru⟩:=rv.one
 cases ru
 obtain⟨Ph,r,⟨ob,n,e,c,hdd,hd⟩,hz⟩:=I.list hq
 obtain rfl:=r.Ln
 obtain⟨oc,od,dt,sl⟩:=ob
 simp only at c hd
 subst c hd
 obtain⟨hj1,hj2,hj3⟩:=List.findIdx?_eq_some_iff_getElem.mp hj
 have hl:j<(bs.map Value.bool).toArray.size:=by simpa using hj1
 have Ri:bs.length<=sizeLine:=by simpa using hz
 have hs:(j:Int)<2^63-1:=by
  have:sizeLine<2^40:=by decide
  omega
 refine call_meets F.slot_list_index ⟨_,e,rfl⟩ F.entry_list_index (F.args_list_index_2 _ _) (SeqAt.list_indexAt l (bs.map Value.bool).toArray n od sl (.bool b) (λy=>y==.bool b) j hl hs ?_ ?_) ⟨e,λy hy=>?_,?_⟩
 ·have:=eq_of_beq hj2
  simp[this]
 ·intro m hm h2
  have:=hj3 m h2
  simpa using this
 ·obtain⟨a,ha,rfl⟩:∃ a,a∈bs/\Value.bool a=y:=by simpa using hy
  have:=SeqAt.EqAt.bool_bool (A:=X.A.in1) (s:=s) a b
  have e2:(Value.bool a==Value.bool b)=(a==b):=by cases a <;> cases b <;> rfl
  rw[e2];exact this
 ·exact⟨.int j,H,I.kept (t':=s.toks+1) λ_ _ z=>z,⟨_,rfl⟩,q⟩
def Hr(p q:PV):M PV:=match p,q with
 | .lst xs,.bl b=>eM ((xV xs).bind λbs=>(bs.findIdx? (·==b)).map λ(j:Nat)=>.int (j:Int))
 | _,_=>none
def Mp(p:PV)(k:M PV):M PV:=match p with
 | .lst xs=>k.bind λq=>Hr (.lst xs) q
 | _=>none
def CJ(f g:af->M PV):af->M PV:=λenv=>(f env).bind λp=>Mp p (g env)
theorem B_(ho:PE X o (tE E f))(ha:PE X e (tE E g))(Ro:autoParam (attributeBase o "index" X.env (eval o X.env)=eval o X.env) aR._auto_1)
  (RU:autoParam (((backTo Pz (starEach [e] X.env)).all (λx=>!x.1)&&(backToKw Pz (keywordEach [] X.env)).all (λx=>x.1.isSome)&&decide ([e].length+([]:List Keyword).length+(if ([]:List Keyword).isEmpty then 0 else 1)<30))=true) aR._auto_1)
  (Rp:autoParam ((apos.endLine==Pz.line)=true) aR._auto_1) (hs:autoParam (starEach [e] X.env=(false,eval e X.env)::starEach [] X.env) aR._auto_1) (Q7:autoParam ((backTo Pz (starEach [] X.env)).any (·.1)=false) aR._auto_1) :
  PE X (.Call (.Attribute o "index" apos) [e] [] Pz) (tE E (CJ f g)):=by
 refine(G9 PySem.F.plainAttrs_list PySem.F.slot_list_index PySem.F.type_list_index Ce ho (fF ha mD hs) Ro RU Rp hs Q7).imp fun σ H Q q=>?_
 refine vJ q λB H₀ Hs H1 env p v sr rp hp=>?_
 cases rp with
 | @lst a _ vs ha' hx =>
  refine⟨.inl ⟨rfl,_,iT.of (sr.gr.sub _ _ ha')⟩,B,H₀,Hs,env,sr,(ay.bind hp).imp (λq2 hq u Pk H' g' ru=>?_) λe he=>he⟩
  cases ru with
  | bl b =>
   obtain⟨z,ez,P9⟩:=ay.opt hq
   obtain⟨bs,e1,e2⟩:=Option.bind_eq_some_iff.mp ez
   obtain⟨j,e3,rfl⟩:=Option.map_eq_some_iff.mp e2
   obtain rfl:=yk e1
   obtain rfl:=hx.Ln
   exact⟨a,bs,b,j,rfl,rfl,iT.of ((sr.grow g').gr.sub _ _ (g'.st _ _ ha')),e3,P9 _ _ _ g' (.int _)⟩
  | _=>exact hq.elim
 | _=>exact hp.elim
end
section
open PySem PySem.Spec PyProof.Rows _root_.HT
section
variable{E:Value->Shared->Prop}
theorem nP{t sl:Addr}{vl vu:Value}{lo hi:Option Int}(ht:IsTup s.heap t items)(hs:s.heap.IsSliceOf sl vl vu .none)(pl:IsPart vl lo)(pu:IsPart vu hi)
  (hw:d_ items.size 0 lo=0/\d_ items.size items.size hi=items.size) (h:Q (.ref t) s):wpAny (model prog w) A (getItem (.ref t) (.ref sl)) Q E s:=by
 obtain⟨os,SE,hcs,S7⟩:=id hs
 have hTs:s.TypeIs (.ref sl) "slice" := ⟨os,SE,hcs⟩
 unfold getItem
 try with_reducible refine wpAny_holding ?_
 first | refine wpAny_bind (wpAny_pure ?_) | skip
 refine wpAny_bind (wpAny_sequenceKey ht.typeIs (by decide) ?_)
 refine wpAny_bind (wpAny_callSpecial?_slot (name:=Str.ofString "__getitem__") ht.typeIs PyProof.Rows.slot_tuple_getitem
  (wpAny_call_entry PyProof.Rows.slot_tuple_getitem ht.typeIs entry_tuple_getitem ?_ (args_tuple_getitem _ _)))
 show wpAny _ _ (Builtin.Tuple.tupleItemsOf (.ref t) >>= _) _ _ s
 refine wpAny_bind (tupleItemsOf_ ht ?_)
 refine wpAny_bind (wpAny_typeOf hTs ?_)
 rw[if_pos (by decide)]
 refine wpAny_bind (jL hs pl pu ?_)
 have hyes:(((d_ items.size 0 lo:Nat):Int)==0&&(1:Int)==1&&(d_ items.size items.size hi-d_ items.size 0 lo)==items.size)=true:=by
  rw[hw.1,hw.2];simp
 show wpAny _ _ (if (((d_ items.size 0 lo:Nat):Int)==0&&(1:Int)==1&&(d_ items.size items.size hi-d_ items.size 0 lo)==items.size)=true then _ else _) _ _ s
 rw[if_pos hyes]
 unfold Builtin.Tuple.tupleIsExact
 refine wpAny_bind (wpAny_bind (wpAny_typeOf ht.typeIs (wpAny_pure ?_)))
 rw[if_pos (show ((Value.type "tuple" == Value.type "tuple")=true) from beq_self_eq_true _)]
 refine wpAny_bind (wpAny_rule ?_)
 first
  | exact wpAny_bind (wpAny_pure (wpAny_pure ⟨_,rfl,wpAny_pure h⟩))
  | exact wpAny_bind (wpAny_pure ⟨_,rfl,wpAny_pure h⟩)
  | exact wpAny_pure ⟨_,rfl,wpAny_pure h⟩
end
section
variable{lo hi:Option Expr}{pos p2:Pos}{f:af->M PV}{gl gh:af->M (Option Int)}
def NL(K:PySem.W.Frag):V->Option Int->Option Int->Hp->VK->Prop:=λx lo hi H Q=>∃ a xs,x=.ref a/\iD K H a xs/\(d_ xs.length 0 lo=0/\d_ xs.length xs.length hi=xs.length)/\Q (.ref a) H
theorem GO:EL X (NL X.K):=by
 intro Pf s σ H x v vl vu lo hi sl Q I rx hs pl pu h
 obtain⟨a,xs,rfl,hx,hw,q⟩:=h
 cases rx
 obtain⟨Ph,r,ht,hz⟩:=I.tuple hx
 have hlen:Ph.toArray.size=xs.length:=by rw[List.size_toArray];exact r.length.symm
 refine⟨"tuple", _,PyProof.Rows.slot_tuple_getitem.lookup,ht.typeIs,?_⟩
 exact nP ht hs pl pu (by rw[hlen];exact hw) ⟨.ref a,H,I,rfl,q⟩
def Jn(p:PV)(lo hi:Option Int):M PV:=match p with
 | .tup xs=>M.ok (.tup (ni xs lo hi))
 | .lst xs=>M.ok (.lst (ni xs lo hi))
 | .kF xs=>M.ok (.lst (ni xs lo hi))
 | _=>none
def kX(f:af->M PV)(lo hi:af->M (Option Int)):af->M PV:=λenv=>(f env).bind λp=>(lo env).bind λl=>(hi env).bind λh=>Jn p l h
theorem jC(he:PE X e (tE E f))(hl:PO X lo (Mv E gl))(hh:PO X hi (Mv E gh)):PE X (.Subscript e (.Slice lo hi none p2) pos) (tE E (kX f gl gh)):=by
 refine(EB (EL.or Jl (EL.or GO Fn)) he hl hh).imp fun σ H Q q=>cC (K:=kD Q) kD.g q λB H₀ Hs H1 env p v sr rp hp=>?_
 refine⟨B,H₀,Hs,env,sr,(ay.bind hp).imp (λl hl Pw H2 g2=>?_) λe he=>he⟩
 have Qk:=sr.grow g2
 refine⟨B,H₀,Pw,env,Qk,(ay.bind hl).imp (λh hh Rf H3 g3=>?_) λe he=>he.grow g2⟩
 have Ry:=Qk.grow g3
 have hz:ay (Jn p l h) (eP Rf H3 Q) (λ_=>True):=hh.imp (λz hz w Hs4 H4 g4 r=>hz w Hs4 H4 ((g2.trans g3).trans g4) r) λ_ _=>trivial
 have rp3:=(rp.mono g2.st).mono g3.st
 cases rp3 with
 | @tup a xs vs ha hx =>
  by_cases hn:d_ xs.length 0 l=0/\d_ xs.length xs.length h=xs.length
  ·refine .inr (.inl ⟨_,_,rfl,iD.of (Ry.gr.sub _ _ ha),by rw[← hx.length];exact hn,?_⟩)
   have e:ni xs l h=xs:=by
    unfold ni;rw[hn.1,hn.2,List.drop_zero,Nat.sub_zero,List.take_length]
   have Ri:eP Rf H3 Q (.tup xs):=by
    have z:eP Rf H3 Q (.tup (ni xs l h)):=hz
    rw[e] at z;exact z
   exact eP.flat Ri Ry.gr.sub (.tup ha hx)
  ·exact .inl ⟨_,_,rfl,iD.of (Ry.gr.sub _ _ ha),by rw[← hx.length];exact hn,eP.tup hz Ry.gr.sub (hx.cut l h)⟩
 | lst ha hx=>exact .inr (.inr ⟨_,_,rfl,iT.of (Ry.gr.sub _ _ ha),eP.lst hz Ry.gr.sub (hx.cut l h)⟩)
 | kF ha hx=>exact .inr (.inr ⟨_,_,rfl,.inl (.inr ⟨_,Ry.gr.sub _ _ ha⟩),eP.lst hz Ry.gr.sub (hx.cut l h)⟩)
 | _=>exact hz.elim
end
end
section
variable{pos:Pos}{g:af->M PV}{fs:af->M (List PV)}{L:List (Addr×(List PV->M PV))}{K:PySem.W.Frag}
structure BD (P:Program) (w:World) (K:PySem.W.Frag) (mg:Str->Option Value) (base:Heap) (m:Str) (k:Nat) (L:List (Addr×(List PV->M PV))):Prop where
 ex:∀ C sem,L.lookup C=some sem->∃ n f fd ps j,n<=k/\jl K C/\Meth K C m f/\Binds K fd ps []/\aO P w K mg base (bU P w) n f fd ps (dy j sem)/\∀ ps,sem ps≠none->ps.length=j
theorem BD.nil:BD P w K mg base m k []:=⟨λC sem h=>by cases h⟩
theorem BD.cons{sem:List PV->M PV}(F:jr P w K mg base C n m j sem)(hn:n<=k)(r:BD P w K mg base m k L):BD P w K mg base m k ((C,bo j sem)::L):=⟨λC' sem' h=>by
 rw[List.lookup_cons] at h
 by_cases e:C'=C
 ·rw[e,beq_self_eq_true] at h
  cases h
  obtain⟨f,fd,ps,h1,h2,h3,h4⟩:=F.ex
  exact⟨n,f,fd,ps,j,hn,by rw[e];exact h1,by rw[e];exact h2,h3,h4,λQ3 hp=>mS hp⟩
 ·rw[beq_false_of_ne e] at h
  exact r.ex C' sem' h⟩
def NI(L:List (Addr×(List PV->M PV)))(C:Addr)(ps:List PV):M PV:=match L.lookup C with
 | some sem=>sem ps
 | none=>none
def kT(L:List (Addr×(List PV->M PV)))(m:Str)(p:PV)(x:M (List PV)):M PV:=match p with
 | .obj B fl=>cZ ((L.lookup B).isSome/\fl.lookup m=none) (x.bind λps=>NI L B (.obj B fl::ps))
 | _=>none
def iQ(L:List (Addr×(List PV->M PV)))(m:Str)(g:af->M PV)(fs:af->M (List PV)):af->M PV:=λenv=>(g env).bind λp=>kT L m p (fs env)
def I_(L:List (Addr×(List PV->M PV)))(m:Str)(E:St->XK)(ta:TE)(t:TA):TE:=fun σ H Q=>ta σ H λx H1 =>
 ∃ C sem a dx fs,L.lookup C=some sem/\x=V.ref a/\H1 a=some (HO.ins C dx fs)/\List.lookup m fs=none/\t σ H1 λvs H2=>∀ j,(∀ ps,sem ps≠none->ps.length=j)->dy j sem (x::(vs++[])) H2 Q (E σ)
theorem AX{Q:VK}(q:tE E (iQ L m g fs) σ H Q):I_ L m E (tE E g) (tL E fs) σ H Q:=by
 refine cC (K:=kD Q) kD.g q λB H₀ Hs H1 env p v sr rp hp=>?_
 cases rp with
 | @obj a C' dx fl fvs ho hx =>
  obtain⟨⟨e1,hn⟩,Hw⟩:=ay.cZ hp
  obtain⟨sem,es⟩:=Option.isSome_iff_exists.mp e1
  refine⟨C',sem,a,dx,fvs,es,rfl,sr.gr.sub _ _ ho,hx.none hn,B,H₀,Hs,env,sr,(ay.bind Hw).imp (λQ3 RN vs Pk H' g' r j hl=>?_) λe he=>he⟩
  unfold NI at RN
  rw[es] at RN
  have r2:aZ Pk (.obj C' fl::Q3) (V.ref a::(vs++[])):=by rw[List.append_nil];exact .cons ((Rep.obj ho hx).mono g'.st) r
  have hn:sem (.obj C' fl::Q3)≠none:=λz=>by rw[show (some sem:Option (List PV->M PV))=some sem from rfl] at RN;simp only[z] at RN;exact RN
  exact⟨by rw[← r2.length];exact hl _ hn,Pk,_,g'.sub,r2,RN.imp (λz hz w Pw H2 g2 r2=>hz w Pw H2 (g'.trans g2) r2) λe he=>he.grow g'⟩
 | _=>exact hp.elim
theorem BD.C4(hr:cV k X.A)(F:BD X.prog X.w X.K X.mg X.base m k L)(O:fH X E)(he:PE X o (tE E g))
  (ht:autoParam (eval (.Call (.Attribute o m apos) [] [] pos) X.env=(do
   let ov ← eval o X.env
   standAt apos.atName
   let (f,first) ← holding [ov] (getMethod ov m pl)
   callWith pos f first (backTo pos (starEach [] X.env)) (backToKw pos (keywordEach [] X.env)))) aR._auto_1) :
  PE X (.Call (.Attribute o m apos) [] [] pos) (tE E (iQ L m g ak)):=by
 intro Pf s σ H Q I h
 refine PySem.W.methodCall_KW (pl:=pl) (c9 (he Pf s σ H _ I (AX h)) λu s1 ⟨x,H1,I1,rx,q⟩=>?_) ht
 obtain⟨C,sem,a,dx,fs,ex,rfl,ea,l,B,H₀,Hs,env,sr,q⟩:=q
 obtain⟨n,f,fd,ps,j,hn,c,hm,hb,F',hl⟩:=F.ex C sem ex
 obtain rfl:u=Value.ref a:=rx
 refine mj I1 ea c hm l ?_
 exact PySem.W.callWith_K0 (first:=[.ref a]) I1.kG hm.kp (pQ (us:=[.ref a]) (vs:=[.ref a]) F' (hr.mono hn) hb .nil O I1 (.cons rfl .nil) (q [] Hs H1 (.refl sr.gr.sub) .nil j hl))
end
section
open PySem.SeqAt (shaped EqAt RcAt RcNeAt)
section
variable{b:Addr}
end
end
end L2
namespace HT
open PySem PyProof.Rows
variable{E:Value->Shared->Prop}{A:Around}{w:World}{prog:Program}
section
variable{a b v:Value}{k:Bool}{I S ax:Addr}{t:Shared}{n:Nat}{R:Result->Shared->Prop}
end
section
open PySem.SeqAt
open PySem.AutoSeq1 (wpAny_loadPart')
open PySem.MeetsSeq PySem.MeetsSeq2 PySem.MeetsSeq3
end
section
variable{s:Shared}
end
end HT
namespace L2
open PySem PySem.Spec PyProof.Rows
variable{X:Cx}
section
variable{E:St->XK}
end
variable{js:List Nat}{ts:List Str}{f:af->M PV}{it:af->M (List PV)}{wi:TI}{scope:Scope}
variable{y:Str}{i:Nat}{E:XK}
section
variable{tg elt iter c:Expr}{cl:List (Str×Addr)}{pos:Pos}{g:TG}{set:PV->af->M af}{fs:List Str}
variable{py Q4:Pos}
end
theorem Es{tg elt iter c:Expr}{cl:List (Str×Addr)}{pos Q4 py:Pos}{g:TG}{t:TT}{te:TE}{fs:List Str}(hN:X.N.Nodup)(SA:X.N[i]?=some y)(hy:Loc X.env.scope y)(Pr:X.calm=true)
  (PZ:closureFor scope X.env=pure cl) (hk:scope.kind=.function) (nc:gR scope.names=true) (lo:i0 scope.names=true) (fh:i4 cl scope.names=true) (ag:fw X cl) (fr:jJ X scope cl fs js)
  (hi:PI X tg iter wi) (hg:∀ C s₀ H₀ ex Pf,PG (rT X scope cl (ts++fs) C s₀ H₀ ex Pf) tg g) (ht:∀ C s₀ H₀ ex Pf,PT (rT X scope cl (ts++fs) C s₀ H₀ ex Pf) c t) (he:∀ C s₀ H₀ ex Pf,PE (rT X scope cl (ts++fs) C s₀ H₀ ex Pf) elt te)
  (hs:autoParam (∀ x,foldedSetIterable iter X.env x=pure x) aI._auto_1) (Sj:autoParam (swapsWith (.ListComp elt [⟨tg,iter,[c],0⟩] scope pos) (some (.Name y py)) Q4.line X.env=pure true) aR._auto_1)
  (hf:autoParam (X.fn y=true\/X.env.scope.names.lookup y=some .local) aF._auto_1) :
  PS X (.Assign [.Name y py] (.ListComp elt [⟨tg,iter,[c],0⟩] scope pos) Q4) (FL (BR wi g t te ts js) (aE i)):=by
 intro Pf s σ H D I h
 rw[exec_Assign_Name_used _ _ _ _ Sj]
 refine wpAny_bind (wpAny_standAt (wpAny_bind ?_))
 show wpAny _ X.A (do let _ ← comprehension (.ListComp elt [⟨tg,iter,[c],0⟩] scope pos) scope X.env _ (newList []) false (eval iter X.env) (some (assign (.Name y py) X.env))) _ _ s
 refine wpAny_bind (wpAny_mono (qp (ifs:=[c]) (tt:=some t) Pr PZ hk nc lo fh ag fr hi hg ht he hs I (show Ac wi g (some t) te ts js σ H (λx H1=>D.nx (σ.set i (some x)) H1) from h) (some (assign (.Name y py) X.env)) (λ_ s'=>SP X Pf D .next s') λDd H' s' C Io q hm f=>?_) (λ_ s' hq=>wpAny_pure (wpAny_pure hq)) λ_ _ e=>e)
 show wpAny _ X.A (assign (.Name y py) X.env (.ref Dd)) _ _ s'
 refine wpAny_assign_Name (oz Io hN SA hy (v:=.ref Dd) rfl (λTt I'' ⟨a,sb,ha⟩=>?_) hf)
 obtain⟨m,hn⟩:=hm
 obtain⟨f0,f1,f2,f3,f4,f5⟩:=f
 have naC:a≠C:=by
  rcases ha with z | z
  ·rw[z];exact λw=>f1 w.symm
  ·exact f4 y a z
 refine⟨m,hn.sameBut sb (Ne.symm naC),λh' Sv=>?_⟩
 exact⟨_,H',I''.other ⟨f0,f1,f2,f3,f4,f5⟩ Sv,q⟩
variable{u:af->M Bool}
section
variable{tg elt iter c:Expr}{cl:List (Str×Addr)}{pos:Pos}{g:TG}{set:PV->af->M af}{fs:List Str}
variable{py Q4:Pos}
theorem Ef(Pr:X.calm=true)
  (PZ:closureFor scope X.env=pure cl) (hk:scope.kind=.function) (nc:gR scope.names=true) (lo:i0 scope.names=true) (fh:i4 cl scope.names=true) (ag:fw X cl) (fr:jJ X scope cl fs js)
  (hi:PI X tg iter wi) (hv:A5 (λ_=>E) wi it) (hg:∀ C s₀ H₀ ex Pf,PG (rT X scope cl (ts++fs) C s₀ H₀ ex Pf) tg g) (R_:∀ E,ER E g set) (so:oJ set) (ht:∀ C s₀ H₀ ex Pf,PT (rT X scope cl (ts++fs) C s₀ H₀ ex Pf) c (tT EF u)) (he:∀ C s₀ H₀ ex Pf,PE (rT X scope cl (ts++fs) C s₀ H₀ ex Pf) elt (tE EF f))
  (hN:X.N.Nodup) (SA:X.N[i]?=some y) (hy:Loc X.env.scope y)
  (hs:autoParam (∀ x,foldedSetIterable iter X.env x=pure x) aI._auto_1) (Sj:autoParam (swapsWith (.ListComp elt [⟨tg,iter,[c],0⟩] scope pos) (some (.Name y py)) Q4.line X.env=pure true) aR._auto_1)
  (hf:autoParam (X.fn y=true\/X.env.scope.names.lookup y=some .local) aF._auto_1) :
  PS X (.Assign [.Name y py] (.ListComp elt [⟨tg,iter,[c],0⟩] scope pos) Q4) (tS E (bg i (bJ (bH it set (some u) f ts.length js)))):=by
 refine(Es hN SA hy Pr PZ hk nc lo fh ag fr hi hg ht he hs Sj hf).imp λD σ H q=>?_
 refine B5 hv R_ so ?_
 obtain⟨B,H₀,Hs,env,sr,q⟩:=q
 refine⟨B,H₀,Hs,env,sr,(ay.bind (ay.bind q)).imp (λps hp vs p Pk H' g r n=>?_) λe he=>he.grow sr.gr⟩
 have gn:=cw.new (o:=.lst vs) g.sub n
 exact hp _ _ _ ((sr.grow (g.trans gn)).set (.lst aC (r.mono gn.st)))
end
variable{α β:Type}
variable{x0:Option SV}
variable{p:PV}
variable{b:af->M Out}
variable{k:Nat}
variable{j:Int}
variable{xs:List PV}
variable{body:af->M Out}
variable{n:Nat}
section
open PySem.SeqAt (shaped noMix noMixAll)
theorem M.aV(a:α)(f:α->M β):M.bind (M.ok a) f=f a:=Eq.trans rfl rfl
theorem M.Ec(e:EX)(f:α->M β):M.bind (some (Except.error e)) f=some (.error e):=Eq.trans rfl rfl
theorem M.bind_none(f:α->M β):M.bind none f=none:=Eq.trans rfl rfl
theorem M.bind_some(a:α)(f:α->M β):M.bind (some (Except.ok a)) f=f a:=Eq.trans rfl rfl
theorem M.bind_assoc{γ:Type}(x:M α)(f:α->M β)(g:β->M γ):M.bind (M.bind x f) g=M.bind x λa=>M.bind (f a) g:=by
 cases x with
 | none=>rfl
 | some x=>cases x <;> rfl
theorem aq{c:Prop}[Decidable c]{x:M α}(h:c):cZ c x=x:=if_pos h
theorem Kj(a:α):Kw (M.ok a)=M.ok a:=Eq.trans rfl rfl
theorem Bl(x:PV):eM (some x)=M.ok x:=Eq.trans rfl rfl
theorem vU(g:af->M Out)(env:af):B7 g (.nx env)=g env:=Eq.trans rfl rfl
theorem vQ(g:af->M Out)(p:PV):B7 g (.rt p)=M.ok (.rt p):=Eq.trans rfl rfl
theorem GC(b:Bool):yB (.bl b)=M.ok b:=Eq.trans rfl rfl
theorem FI(p:PV):HI (.rt p)=M.ok p:=Eq.trans rfl rfl
theorem E6(e:af):HI (.nx e)=M.ok .da:=Eq.trans rfl rfl
def tI(xs:List Int):PV:=.tup (xs.map PV.int)
def lI(xs:List Int):PV:=.lst (xs.map PV.int)
theorem zV(xs:List Int):cF (tI xs)=some (xs.map PV.int):=Eq.trans rfl rfl
theorem Af(xs:List Int):cF (lI xs)=some (xs.map PV.int):=Eq.trans rfl rfl
theorem xp(xs:List PV):cF (.tup xs)=some xs:=Eq.trans rfl rfl
theorem rj(xs:List PV):cF (.lst xs)=some xs:=Eq.trans rfl rfl
theorem Ee(xs:List PV):cF (.kF xs)=some xs:=Eq.trans rfl rfl
theorem Fs(xs:List Int):ui (tI xs)=M.ok (.int xs.length):=by simp[ui,tI,cF,eM]
theorem F5(xs:List Int):ui (lI xs)=M.ok (.int xs.length):=by simp[ui,lI,cF,eM]
theorem DU(xs:List PV):ui (.tup xs)=M.ok (.int xs.length):=Eq.trans rfl rfl
theorem Dx(xs:List PV):ui (.lst xs)=M.ok (.int xs.length):=Eq.trans rfl rfl
theorem EE(xs:List PV):ui (.kF xs)=M.ok (.int xs.length):=Eq.trans rfl rfl
theorem qz(xs:List Int):p8 [.lst (xs.map PV.int)]=M.ok (.int xs.sum):=by simp[p8,La,sS,eM]
theorem qR(xs:List Bool):qu [.lst (xs.map PV.bl)]=M.ok (.bl (xs.all id)):=by simp[qu,all1,rN,eM]
theorem du{inj h:α->PV}{rest:af}(xs:List α)(H:∀ a∈xs,f (some (.sh (inj a))::rest)=M.ok (h a)):bA (bK 0) none f (xs.map inj) (x0::rest)=M.ok (xs.map h):=by
 induction xs generalizing x0 with
 | nil=>rfl
 | cons a r ih =>
  rw[List.map_cons,bA]
  show M.bind (M.ok ((x0::rest).set 0 (some (.sh (inj a))))) _=_
  rw[M.aV,List.set_cons_zero]
  show M.bind (f _) _=_
  rw[H a List.mem_cons_self,M.aV,ih λb hb=>H b (List.mem_cons_of_mem _ hb)]
  rfl
theorem fv{p q h:α->PV}{rest:af}{x1:Option SV}(xs:List α)(H:∀ a∈xs,f (some (.sh (p a))::some (.sh (q a))::rest)=M.ok (h a)):bA (bB 0 1) none f (xs.map λa=>.tup [p a,q a]) (x0::x1::rest)=M.ok (xs.map h):=by
 induction xs generalizing x0 x1 with
 | nil=>rfl
 | cons a r ih =>
  rw[List.map_cons,bA]
  show M.bind (M.ok (((x0::x1::rest).set 0 (some (.sh (p a)))).set 1 (some (.sh (q a))))) _=_
  rw[M.aV,List.set_cons_zero,List.set_cons_succ,List.set_cons_zero]
  show M.bind (f _) _=_
  rw[H a List.mem_cons_self,M.aV,ih λb hb=>H b (List.mem_cons_of_mem _ hb)]
  rfl
theorem BI{p q s h:α->PV}{rest:af}{x1 x2:Option SV}(xs:List α)(H:∀ a∈xs,f (some (.sh (p a))::some (.sh (q a))::some (.sh (s a))::rest)=M.ok (h a)):bA (oZ 0 1 2) none f (xs.map λa=>.tup [p a,q a,s a]) (x0::x1::x2::rest)=M.ok (xs.map h):=by
 induction xs generalizing x0 x1 x2 with
 | nil=>rfl
 | cons a r ih =>
  rw[List.map_cons,bA]
  show M.bind (M.ok ((((x0::x1::x2::rest).set 0 (some (.sh (p a)))).set 1 (some (.sh (q a)))).set 2 (some (.sh (s a))))) _=_
  rw[M.aV,List.set_cons_zero,List.set_cons_succ,List.set_cons_zero,List.set_cons_succ,List.set_cons_succ,List.set_cons_zero]
  show M.bind (f _) _=_
  rw[H a List.mem_cons_self,M.aV,ih λb hb=>H b (List.mem_cons_of_mem _ hb)]
  rfl
theorem cR{f:α->PV}{g:β->PV}{q:PV}(xs:List α)(ys:List β)(hp:cF p=some (xs.map f))(hq:cF q=some (ys.map g)):zip2 [p,q]=M.ok ((xs.zip ys).map λz=>.tup [f z.1,g z.2]):=by
 simp only[zip2,hp,hq]
 congr 2
 rw[List.zipWith_map,List.zip_eq_zipWith,List.map_zipWith]
theorem xh{γ:Type}{f:α->PV}{g:β->PV}{h:γ->PV}{q r:PV}(xs:List α)(ys:List β)(zs:List γ)(hp:cF p=some (xs.map f))(hq:cF q=some (ys.map g))(hr:cF r=some (zs.map h)):yp [p,q,r]=M.ok ((xs.zip (ys.zip zs)).map λz=>.tup [f z.1,g z.2.1,h z.2.2]):=by
 simp only[yp,hp,hq,hr]
 congr 2
 clear hp hq hr
 induction xs generalizing ys zs with
 | nil=>cases ys <;> cases zs <;> rfl
 | cons a r ih =>
  cases ys with
  | nil=>rfl
  | cons b s =>
   cases zs with
   | nil=>rfl
   | cons c t=>simp only[List.map_cons,ko,List.zip_cons_cons,ih]
theorem A0{f:α->PV}(xs:List α):i5 (xs.map f)=(xs.zipIdx).map λz=>.tup [.int (z.2:Int),f z.1]:=by
 unfold i5
 rw[List.mapIdx_eq_zipIdx_map,List.zipIdx_map,List.map_map]
 rfl
theorem wQ{set:PV->af->M af}{body:af->M Out}{α:Type}{inj:α->PV}(J:List α->af->Prop)
  (H:∀ a r env,J (a::r) env->∃ e' Pj,set (inj a) env=M.ok e'/\body e'=M.ok (.nx Pj)/\J r Pj):∀ (xs:List α) (env:af),J xs env->∃ Pj,ku set body (xs.map inj) env=M.ok (.nx Pj)/\J [] Pj
 | [],env,h=>⟨env,rfl,h⟩
 | a::r,env,h=>by
  obtain⟨e',Pj,h1,h2,h3⟩:=H a r env h
  obtain⟨RO,h4,h5⟩:=wQ J H r Pj h3
  refine⟨RO,?_,h5⟩
  rw[List.map_cons,ku,h1,M.aV,h2,M.aV]
  exact h4
theorem tQ(J:af->Prop)(m:af->Nat)
  (H:∀ env,J env->(u env=M.ok false)\/(u env=M.ok true/\∃ Pj,b env=M.ok (.nx Pj)/\J Pj/\m Pj<m env)) (env:af) (h:J env):∃ Pj,ml u b env=M.ok (.nx Pj)/\J Pj/\u Pj=M.ok false:=by
 have key:∀ (n:Nat) (env:af),J env->m env<n->∃ Pj,de u b n env=M.ok (.nx Pj)/\J Pj/\u Pj=M.ok false:=by
  intro n
  induction n with
  | zero=>intro env _ hn;omega
  | succ n ih =>
   intro env h hn
   rcases H env h with hu | ⟨hu,Pj,hb,hj,hm⟩
   ·exact⟨env,by rw[de,hu,M.aV];rfl,h,hu⟩
   ·obtain⟨RO,h1,h2,h3⟩:=ih Pj hj (by omega)
    exact⟨RO,by rw[de,hu,M.aV,if_pos rfl,hb,M.aV];exact h1,h2,h3⟩
 obtain⟨Pj,h1,h2,h3⟩:=key (m env+1) env h (Nat.lt_succ_self _)
 refine⟨Pj,?_,h2,h3⟩
 rw[A4 (n:=m env+1) (by rw[h1];exact λz=>nomatch z),h1]
theorem log2_small{i:Int}(h:i.natAbs<2^k)(hk:k<=9000):i.natAbs.log2<67108864:=by
 by_cases z:i.natAbs=0
 ·rw[z];decide
 ·have:=(Nat.log2_lt z).mpr h
  omega
theorem bq{i:Int}{l:Nat}(hi:i.natAbs<2^k)(hj:j.natAbs<2^l)(hk:autoParam (k<=9000) aD._auto_1)(hl:autoParam (l<=9000) aD._auto_1):cj (.int i) (.int j)=M.ok (.int (i*j)):=by
 rw[cj,aq ⟨log2_small hi hk,log2_small hj hl⟩]
theorem sZ{i:Int}(h0:j≠0)(h:j.natAbs<2^9000):cn (.int i) (.int j)=M.ok (.int (i.fdiv j)):=by
 show cZ _ _=_
 refine aq (decide_eq_true ⟨h0,(Nat.log2_lt (by omega)).mpr h⟩)
theorem Cv{i:Int}(h0:j≠0):bW (.int i) (.int j)=M.ok (.int (i.fmod j)):=by
 show cZ _ _=_
 exact aq (decide_eq_true h0)
theorem aS{i:Int}(h0:0<j)(h:j<2^64):cn (.int i) (.int j)=M.ok (.int (i/j)):=by
 rw[sZ (by omega) (Nat.lt_of_lt_of_le (show j.natAbs<2^64 by omega) (Nat.pow_le_pow_right (by decide) (by decide))),Int.fdiv_eq_ediv_of_nonneg _ (by omega)]
theorem aM{i:Int}(h0:0<j):bW (.int i) (.int j)=M.ok (.int (i%j)):=by
 rw[Cv (by omega),Int.fmod_eq_emod_of_nonneg _ (by omega)]
theorem bD{j:Nat}{x:PV}(hs:cF p=some xs)(h:xs[j]?=some x):aJ p (.int (j:Int))=M.ok x:=by
 cases p with
 | tup ys=>cases hs;simp only[aJ,vv h,eM]
 | lst ys=>cases hs;simp only[aJ,vv h,eM]
 | kF ys=>cases hs;simp only[aJ,vv h,eM]
 | _=>cases hs
section
variable{b:String->Bool}{ob oe:Addr->Option Bool}
theorem HE(xs:List Int):xU b ob oe (tI xs)=M.ok (.bl (b "tuple")):=Eq.trans rfl rfl
theorem Jf(xs:List Int):xU b ob oe (lI xs)=M.ok (.bl (b "list")):=Eq.trans rfl rfl
theorem GA(xs:List PV):xU b ob oe (.tup xs)=M.ok (.bl (b "tuple")):=Eq.trans rfl rfl
theorem F_(xs:List PV):xU b ob oe (.lst xs)=M.ok (.bl (b "list")):=Eq.trans rfl rfl
theorem FW(i:Int):xU b ob oe (.int i)=M.ok (.bl (b "int")):=Eq.trans rfl rfl
theorem Kn(i:Bool):xU b ob oe (.bl i)=M.ok (.bl (b "bool")):=Eq.trans rfl rfl
theorem Gp:xU b ob oe .da=M.ok (.bl (b "NoneType")):=Eq.trans rfl rfl
theorem Gz(x:Str):xU b ob oe (.str x)=M.ok (.bl (b "str")):=Eq.trans rfl rfl
theorem GH:xU b ob oe .emp=M.ok (.bl (b "dict")):=Eq.trans rfl rfl
end
theorem Gs(i j:Int):nX (.int i) (.int j)=M.ok (.bl (!decide (i=j))):=by
 simp only[nX,nA,dat,El,shaped,PyData.canLay0,PyData.depth,noMix]
 rw[aq ⟨rfl,rfl,trivial⟩]
 unfold same
 rw[M.aV];congr
theorem Fg(i j:Int):jP (.int i) (.int j)=M.ok (.bl (decide (i=j))):=by
 simp only[jP,nA,dat,El,shaped,PyData.canLay0,PyData.depth,noMix]
 rw[aq ⟨rfl,rfl,trivial⟩]
 unfold same
 rw[M.aV];congr
theorem IW(i j:Bool):nX (.bl i) (.bl j)=M.ok (.bl (!decide (i=j))):=by
 simp only[nX,nA,dat,El,shaped,PyData.canLay0,PyData.depth,noMix]
 rw[aq ⟨rfl,rfl,trivial⟩]
 unfold same
 rw[M.aV];congr
theorem Iq(i j:Bool):jP (.bl i) (.bl j)=M.ok (.bl (decide (i=j))):=by
 simp only[jP,nA,dat,El,shaped,PyData.canLay0,PyData.depth,noMix]
 rw[aq ⟨rfl,rfl,trivial⟩]
 unfold same
 rw[M.aV];congr
theorem jM(xs:List Int):my (xs.map PV.int)=some (xs.map PyData.int):=by
 induction xs with
 | nil=>rfl
 | cons a r ih=>simp[my,dat,ih]
theorem e7(xs:List Int):PyData.canLayAll0 (xs.map PyData.int)=true:=by
 induction xs with
 | nil=>rfl
 | cons a r ih=>simp[PyData.canLayAll0,PyData.canLay0,ih]
theorem iM(xs:List Int):PyData.depthAll (xs.map PyData.int)=0:=by
 induction xs with
 | nil=>rfl
 | cons a r ih=>simp[PyData.depthAll,PyData.depth,ih]
theorem noMix_ints:∀ (xs ys:List Int),noMixAll (xs.map PyData.int) (ys.map PyData.int)=true
 | [],[]=>by simp[noMixAll]
 | [],_::_=>by simp[noMixAll]
 | _::_,[]=>by simp[noMixAll]
 | a::r,b::s=>by simp[noMixAll,noMix,noMix_ints r s]
theorem same_ints:∀ (xs ys:List Int),sameAll (xs.map PyData.int) (ys.map PyData.int)=decide (xs=ys)
 | [],[]=>by simp[sameAll]
 | [],_::_=>by simp[sameAll]
 | _::_,[]=>by simp[sameAll]
 | a::r,b::s=>by
  simp only[List.map_cons,sameAll,same_ints r s]
  unfold same
  rw[Bool.eq_iff_iff];simp
theorem B8(xs ys:List Int):nX (tI xs) (tI ys)=M.ok (.bl (!decide (xs=ys))):=by
 simp only[nX,nA,dat,tI,jM,Option.map_some,El]
 rw[aq (by simp[shaped,PyData.canLay0,PyData.depth,e7,iM,noMix,noMix_ints])]
 unfold same
 rw[same_ints];rfl
theorem FU(i j:Int):EO (.int i) (.int j)=M.ok (.bl (decide (i<j))):=Eq.trans rfl rfl
theorem Fe(i j:Int):EM (.int i) (.int j)=M.ok (.bl (decide (i<=j))):=Eq.trans rfl rfl
theorem FE(i j:Int):Fh (.int i) (.int j)=M.ok (.bl (decide (j<i))):=Eq.trans rfl rfl
theorem FF(i j:Int):Ku (.int i) (.int j)=M.ok (.bl (decide (j<=i))):=Eq.trans rfl rfl
theorem DF(i j:Int):dr (.int i) (.int j)=M.ok (.int (i+j)):=Eq.trans rfl rfl
theorem Eg(i j:Int):lW (.int i) (.int j)=M.ok (.int (i-j)):=Eq.trans rfl rfl
theorem jF{n:Int}(h:0<=n)(h2:n<2^62):rm [.int n]=M.ok ((List.range n.toNat).map λ(i:Nat)=>.int (i:Int)):=by
 show cZ (-(2^62)<=n/\n<2^62) _=_
 rw[aq (by omega)]
 simp
theorem f7{set:PV->af->M af}{inj:α->PV}{k:Out->M β}{r:M β}(xs:List α)(J:List α->af->Prop){env:af}(h:J xs env)
  (H:∀ a r env,J (a::r) env->∃ e' Pj,set (inj a) env=M.ok e'/\body e'=M.ok (.nx Pj)/\J r Pj) (hk:∀ Pj,J [] Pj->k (.nx Pj)=r):M.bind (ku set body (xs.map inj) env) k=r:=by
 obtain⟨Pj,e,h'⟩:=wQ J H xs env h
 rw[e,M.aV];exact hk Pj h'
theorem zo{k:Out->M β}{r:M β}(J:af->Prop)(m:af->Nat){env:af}(h:J env)
  (H:∀ env,J env->(u env=M.ok false)\/(u env=M.ok true/\∃ Pj,b env=M.ok (.nx Pj)/\J Pj/\m Pj<m env)) (hk:∀ Pj,J Pj->u Pj=M.ok false->k (.nx Pj)=r):M.bind (ml u b env) k=r:=by
 obtain⟨Pj,e,h',h2⟩:=tQ J m H env h
 rw[e,M.aV];exact hk Pj h' h2
theorem aH(h:n<=1000):n<=sizeLine:=Nat.le_of_lt (oA h)
def tupK(ps:List PV):M PV:=cZ (ps.length<=sizeLine) (M.ok (.tup ps))
def lstK(ps:List PV):M PV:=cZ (ps.length<=sizeLine) (M.ok (.lst ps))
theorem Gj(fs:af->M (List PV))(env:af):h9 fs env=(fs env).bind tupK:=rfl
theorem GL(fs:af->M (List PV))(env:af):qw fs env=(fs env).bind lstK:=rfl
theorem JA:tupK []=M.ok (.tup []):=aq (aH (show 0<=1000 by decide))
theorem Js:lstK []=M.ok (.lst []):=aq (aH (show 0<=1000 by decide))
theorem JN(a:PV):tupK [a]=M.ok (.tup [a]):=aq (aH (show 1<=1000 by decide))
theorem HF(a:PV):lstK [a]=M.ok (.lst [a]):=aq (aH (show 1<=1000 by decide))
theorem IA(a b:PV):tupK [a,b]=M.ok (.tup [a,b]):=aq (aH (show 2<=1000 by decide))
theorem Jg(a b:PV):lstK [a,b]=M.ok (.lst [a,b]):=aq (aH (show 2<=1000 by decide))
theorem Ju(a b c:PV):tupK [a,b,c]=M.ok (.tup [a,b,c]):=aq (aH (show 3<=1000 by decide))
theorem Jk(a b c:PV):lstK [a,b,c]=M.ok (.lst [a,b,c]):=aq (aH (show 3<=1000 by decide))
theorem Ie(a b c d:PV):tupK [a,b,c,d]=M.ok (.tup [a,b,c,d]):=aq (aH (show 4<=1000 by decide))
theorem Ko(a b c d:PV):lstK [a,b,c,d]=M.ok (.lst [a,b,c,d]):=aq (aH (show 4<=1000 by decide))
theorem JF(a b c d e:PV):tupK [a,b,c,d,e]=M.ok (.tup [a,b,c,d,e]):=aq (aH (show 5<=1000 by decide))
theorem J7(a b c d e:PV):lstK [a,b,c,d,e]=M.ok (.lst [a,b,c,d,e]):=aq (aH (show 5<=1000 by decide))
theorem Kg(a b c d e f:PV):tupK [a,b,c,d,e,f]=M.ok (.tup [a,b,c,d,e,f]):=aq (aH (show 6<=1000 by decide))
theorem Ig(a b c d e f:PV):lstK [a,b,c,d,e,f]=M.ok (.lst [a,b,c,d,e,f]):=aq (aH (show 6<=1000 by decide))
end
def i_(m:M α)(Q:α->Prop):Prop:=∃ a,m=M.ok a/\Q a
section
variable{γ:Type}{Q Q':α->Prop}{m:M α}
theorem i_.eq{a:α}(h:i_ m λx=>x=a):m=M.ok a:=by obtain⟨b,e,rfl⟩:=h;exact e
def Tn(J:af->Prop)(B:af->Prop)(R:PV->Prop):Out->Prop
 | .nx e=>J e
 | .ct e=>J e
 | .bk e=>B e
 | .rt p=>R p
theorem i_.zT{set:PV->af->M af}{body:af->M Out}{inj:γ->PV}{B:af->Prop}{R:PV->Prop}(J:List γ->af->Prop)
  (H:∀ a r env,J (a::r) env->i_ (M.bind (set (inj a) env) body) (Tn (J r) B R)):∀ (xs:List γ) (env:af),J xs env->i_ (ku set body (xs.map inj) env) λo=>(∃ e,o=.nx e/\(J [] e\/B e))\/∃ p,o=.rt p/\R p
 | [],env,h=>⟨_,rfl,.inl ⟨_,rfl,.inl h⟩⟩
 | a::r,env,h=>by
  obtain⟨o,e,q⟩:=H a r env h
  rw[List.map_cons,ku,← M.bind_assoc,e,M.aV]
  cases o with
  | nx e'=>exact i_.zT J H r e' q
  | ct e'=>exact i_.zT J H r e' q
  | bk e'=>exact⟨_,rfl,.inl ⟨_,rfl,.inr q⟩⟩
  | rt p=>exact⟨_,rfl,.inr ⟨_,rfl,q⟩⟩
theorem i_.loop{R:β->Prop}{set:PV->af->M af}{inj:γ->PV}{k:Out->M β}{xs:List γ}{env:af}(J:List γ->af->Prop)(h:J xs env)
  (H:∀ a r env,J (a::r) env->i_ (M.bind (set (inj a) env) body) (Tn (J r) (λ_=>False) λ_=>False)) (hk:∀ Pj,J [] Pj->i_ (k (.nx Pj)) R):i_ (M.bind (ku set body (xs.map inj) env) k) R:=by
 obtain⟨o,e,q⟩:=i_.zT J H xs env h
 rw[e,M.aV]
 rcases q with ⟨e',rfl,q | q⟩ | ⟨p,_,q⟩
 ·exact hk e' q
 ·exact q.elim
 ·exact q.elim
theorem i_.C5{R:β->Prop}{set:PV->af->M af}{inj:γ->PV}{k:Out->M β}{xs:List γ}{env:af}(J:List γ->af->Prop)(h:J xs env)
  (H:∀ a r env,J (a::r) env->i_ (M.bind (set (inj a) env) body) (Tn (J r) (λe=>i_ (k (.nx e)) R) λp=>i_ (k (.rt p)) R)) (hk:∀ Pj,J [] Pj->i_ (k (.nx Pj)) R):i_ (M.bind (ku set body (xs.map inj) env) k) R:=by
 obtain⟨o,e,q⟩:=i_.zT J H xs env h
 rw[e,M.aV]
 rcases q with ⟨e',rfl,q | q⟩ | ⟨p,rfl,q⟩
 ·exact hk e' q
 ·exact q
 ·exact q
end
def Mf(i:Nat)(env:af)(xs:List PV)(p:PV):M Out:=if xs.length<sizeLine then M.ok (.nx (env.set i (some (.ow (xs++[p]))))) else none
theorem vE(i:Nat)(f:af->M PV)(env:af):pv i f env=(ownAt i env).bind λxs=>(f env).bind λp=>Mf i env xs p:=by
 unfold pv ownAt
 rcases env[i]? with _ | _ | (_ | _ | _) <;> rfl
theorem vB{env:af}(h:xs.length<1000):Mf i env xs p=M.ok (.nx (env.set i (some (.ow (xs++[p]))))):=if_pos (oA (Nat.le_of_lt h))
def oU(C:Addr)(m:Str)(sem:List PV->M PV)(p:PV)(x:M (List PV)):M PV:=match p with
 | .obj C' fl=>cZ (C'=C/\fl.lookup m=none) (x.bind λps=>sem (.obj C' fl::ps))
 | _=>none
theorem bR(C:Addr)(m:Str)(sem:List PV->M PV)(g:af->M PV)(fs:af->M (List PV))(env:af):b_ C m sem g fs env=(g env).bind λp=>oU C m sem p (fs env):=rfl
variable{sem:List PV->M PV}{C:Addr}
theorem ix{m:Str}{fl:List (Str×PV)}{x:M (List PV)}(h:fl.lookup m=none):oU C m sem (.obj C fl) x=x.bind λps=>sem (.obj C fl::ps):=aq ⟨rfl,h⟩
def rP(ok:Addr->Bool)(f:Str)(p:PV):M PV:=match p with
 | .obj C fs=>cZ (ok C=true) (eM (fs.lookup f))
 | _=>none
theorem cW(ok:Addr->Bool)(f:Str)(g:af->M PV)(env:af):cu ok f g env=(g env).bind (rP ok f):=rfl
theorem fm{ok:Addr->Bool}{f:Str}{fs:List (Str×PV)}{x:PV}(h:ok C=true)(hl:fs.lookup f=some x):rP ok f (.obj C fs)=M.ok x:=by
 show cZ _ _=_
 rw[aq h,hl];rfl
theorem CP(xs ys:List Int):jP (lI xs) (lI ys)=M.ok (.bl (decide (xs=ys))):=by
 simp only[jP,nA,dat,lI,jM,Option.map_some,El]
 rw[aq (by simp[SeqAt.shaped,PyData.canLay0,PyData.depth,e7,iM,SeqAt.noMix,noMix_ints])]
 unfold same
 rw[same_ints];rfl
theorem n_(xs:List Int)(x:Int):xs.map PV.int++[.int x]=(xs++[x]).map PV.int:=by simp
theorem vD{f:α->PV}(xs:List α)(h:cF p=some (xs.map f)):Bq [p]=M.ok (xs.zipIdx.map λz=>.tup [.int (z.2:Int),f z.1]):=by
 show Oc p=_
 unfold Oc
 rw[h]
 show M.ok (i5 _)=_
 rw[A0]
theorem yQ(xs:List Int):Bq [lI xs]=M.ok (xs.zipIdx.map λz=>.tup [.int (z.2:Int),.int z.1]):=vD xs rfl
theorem nO{f:α->PV}(xs:List α):Bq [.lst (xs.map f)]=M.ok (xs.zipIdx.map λz=>.tup [.int (z.2:Int),f z.1]):=vD xs rfl
theorem OT{us:List α}(h:us.length=1):∃ a,us=[a]:=by
 cases us with
 | nil=>cases h
 | cons a t=>cases t with
  | nil=>exact⟨a,rfl⟩
  | cons b t=>cases h
theorem ln2{us:List α}(h:us.length=2):∃ a b,us=[a,b]:=by
 cases us with
 | nil=>cases h
 | cons a t=>obtain⟨b,rfl⟩:=OT (Nat.succ.inj h);exact⟨a,b,rfl⟩
theorem OA{us:List α}(h:us.length=3):∃ a b c,us=[a,b,c]:=by
 cases us with
 | nil=>cases h
 | cons a t=>obtain⟨b,c,rfl⟩:=ln2 (Nat.succ.inj h);exact⟨a,b,c,rfl⟩
theorem OP{us:List α}(h:us.length=4):∃ a b c d,us=[a,b,c,d]:=by
 cases us with
 | nil=>cases h
 | cons a t=>obtain⟨b,c,d,rfl⟩:=OA (Nat.succ.inj h);exact⟨a,b,c,d,rfl⟩
def Ae(K:PySem.W.Frag):Bool:=K.all λp=>match p.2.cls with
 | .type t=>t != "list"
 | _=>true
theorem CF{K:PySem.W.Frag}(h:Ae K=true){a:Addr}{o:Obj}(e:K.lookup a=some o):o.cls≠.type "list" := by
 induction K with
 | nil=>cases e
 | cons p r ih =>
  obtain⟨b,u⟩:=p
  rw[Ae,List.all_cons,Bool.and_eq_true] at h
  rw[List.lookup_cons] at e
  cases q:a==b with
  | true =>
   rw[q] at e;cases e
   intro z
   have h1:=h.1
   simp only[z] at h1
   exact absurd h1 (by decide)
  | false=>rw[q] at e;exact ih h.2 e
theorem tY{H:Hp}:∀ ns:List Int,aZ H (ns.map PV.int) (ns.map V.int)
 | []=>.nil
 | i::r=>.cons (.int i) (tY r)
variable{x:Str}
theorem yF{l:PySem.W.OpenLaw}{q:Program}{loose:List Str}{XP:(Str->Option Value)->Heap->Prop}{YP:World->Heap->Prop}{d:DefRec}{K:Params->PySem.W.Frag}
  (hn:l.most=some n) (RX:n<=sizeLine) (hdf:d.params.defaults=[]) (hr:cV k callerA)
  (hY:∀ (w:World) (h:Heap),YP w h->(K w.params).In h)
  (hK:∀ w:World,Ae (K w.params)=true)
  (F:∀ (w:World) (mg:Str->Option Value) (fa:Addr) (h:Heap),(K w.params).In h->h.Ns mainGlobals mg->mg d.name=some (.ref fa) ->
   ∃ fd:FuncData,(∀ (s:Shared) (u:Value),BindsTo s fd ⟨[u],[]⟩ [(x,u)]) ∧
    ∀ base:Heap,(K w.params).In base->base.Ns mainGlobals mg->aO l.prog w (K w.params) mg base (bU l.prog w) k fa fd [x] (dy 1 sem))
  (SG:∀ ns:List Int,ns.length<=n->(∀ i∈ns,Builtin.Int.intBits i<=1048576)->sem [.kF (ns.map PV.int)]=M.ok (.bl true)) :
  PySem.W.WalkO q loose XP YP l.row.toRowW d [] (λf vs=>PySem.call f vs):=by
 intro w s₀ s₁ mg mb G Y fa o pm cd doc dV kV ho hd QP hD hmg hg args vals as A1 hlay hrd hwl hlo
 obtain rfl:dV=.none:=PySem.W.Dflts.none hD hdf
 obtain rfl:kV=.none:=PySem.W.Dflts.noKw hD
 obtain⟨a,vs,ns,rfl,rfl,hobj,hints,hlen⟩:=Att.As hn A1 hwl
 have S5:∀ i∈ns,Builtin.Int.intBits i<=1048576:=λi hi=>by
  have h1:=PySem.W.layableW_arg hlay _ (List.mem_singleton.mpr rfl)
  have h2:=PySem.W.layableW_item h1 (.int i) (List.mem_map.mpr ⟨i,hi,rfl⟩)
  exact intBits_le_of_layable h2
 have KX:=hY w _ Y
 obtain⟨fd,hb,hF⟩:=F w mg fa _ KX G.T.g hmg
 have hs:=SG ns hlen S5
 refine PySem.W.enter_call (codeAny_mono (EC KX G.T.g G.T.b G.T.builtins G.T.nolimit hg hobj hints (Nat.le_trans hlen RX) hr hF hb (λH hO hS=>⟨rfl,H,[.kF (ns.map PV.int)],λ_ _ e=>e,?_,?_⟩) λH e s' z=>?_) λr s' hq=>?_)
 ·rcases hS with (hS | ⟨ob,hS⟩) | ⟨ob,Ph,m,e1,e2,_⟩
  ·rcases hO a with z | ⟨ob,xs,z⟩
   ·rw[z] at hS;cases hS
   ·rw[z] at hS;cases hS
  ·exact .cons (.kF hS (tY ns)) .nil
  ·exact absurd e2 (CF (hK w) e1)
 ·rw[hs]
  intro v Pk H' g r
  cases r;rfl
 ·obtain⟨ea,T,C,dd,Hc,_,_,_,_,_,_,_,_,z⟩:=z;exact z
 ·obtain⟨rfl,h2,h3,h4⟩:=hq
  exact⟨.inl ⟨.bool true,.bool true,[],rfl,λ_=>rfl,.bool true,Att.Bt l _,λ_=>⟨List.Pairwise.nil,λ_ hm=>(nomatch hm)⟩⟩,h2,h3,h4⟩
abbrev vM(x q:Str)(t:Stmt)(s:Value)(c:Addr):FuncData:=PySem.W.fnOf x q (i6 t) (fD t) (a_ t) .none .none .none s none (.ref c) .none
variable{t:Stmt}
theorem bb.of{K:PySem.W.Frag}{q:Str}{dv kV doc pm:Value}{an:Option Addr}{PD ct:Value}{f:Addr}(h1:K.lookup f=some ⟨.type "function", none,.func (PySem.W.fnOf x q (i6 t) (fD t) (a_ t) dv kV doc pm an PD ct),⟨[]⟩⟩)(h2:PySem.W.codeIn K PD q=true)(h3:PySem.W.keepIn K (.ref f)=true):bb K x q t dv f (PySem.W.fnOf x q (i6 t) (fD t) (a_ t) dv kV doc pm an PD ct):=⟨⟨_,_,_,_,_,_,_,_,_,rfl,h1,h2⟩,h3⟩
section
variable{P:List α->Prop}
theorem GQ(h:∀ a b,P [a,b]):∀ us,us.length=2->P us:=λus hl=>by obtain⟨a,b,rfl⟩:=ln2 hl;exact h a b
theorem OR(h:∀ a b c d,P [a,b,c,d]):∀ us,us.length=4->P us:=λus hl=>by obtain⟨a,b,c,d,rfl⟩:=OP hl;exact h a b c d
end
theorem cv.of{N P:List Str}{sc:Scope}(h1:autoParam (sc.kind=.function) aR._auto_1)(h2:autoParam (sc.isCoroutine=false) aR._auto_1)(h3:autoParam (sc.isGenerator=false) aR._auto_1)(h4:autoParam (N.Nodup) aN._auto_1)(h5:autoParam (N.take P.length=P) aR._auto_1)(h6:autoParam (∀ x∈P,sc.names.lookup x=some .local\/sc.names.lookup x=some .cell) aN._auto_1)(h7:autoParam (∀ y∈sc.names,y.2≠.free) aN._auto_1):cv N P sc:=⟨h1,h2,h3,h4,h5,h6,h7⟩
theorem aL{pos:Pos}(hN:X.N.Nodup)(hi:autoParam (X.N[i]?=some x) aR._auto_1)(hx:autoParam (Loc X.env.scope x) aG._auto_1)(hf:autoParam (X.fn x=true\/X.env.scope.names.lookup x=some .local) aG._auto_1):PG X (.Name x pos) (aE i):=E2 hN hi hx hf
def E5:Nat->(List Value->Prop)->Prop
 | 0,P=>P []
 | n+1,P=>∀ a,E5 n λl=>P (a::l)
theorem vL:∀ {n:Nat} {P:List Value->Prop},E5 n P->∀ us:List Value,us.length=n->P us
 | 0,_,h,[],_=>h
 | n+1,_,h,a::r,e=>vL (h a) r (Nat.succ.inj e)
variable{ps:List Str}{mg:Str->Option Value}
section
variable{K:PySem.W.Frag}{h:Heap}{q:Str}{m:Nat}{tO:List PV->M (List PV)}
theorem gY(P:Program)(w:World)(base:Heap)(X:K.In h)(G:h.Ns mainGlobals mg)(a c:Addr)(s:Value)(ok:bb K x q t .none a (vM x q t s c)->aO P w K mg base (bU P w) n a (vM x q t s c) ps (dy m (bo m sem)))
  (h1:autoParam (K.lookup a=some ⟨.type "function", none,.func (vM x q t s c),⟨[]⟩⟩) aK._auto_1) (h2:autoParam (PySem.W.codeIn K (.ref c) q=true) aK._auto_1) (h3:autoParam (PySem.W.keepIn K (.ref a)=true) aK._auto_1) (h4:autoParam (PySem.W.nsIn K mainGlobals x=some (some (.ref a))) aK._auto_1)
  (h5:autoParam (ps.length=m) aR._auto_1) (h6:E5 ps.length λus=>bindArgs (vM x q t s c) ⟨us,[]⟩=pure (ps.zip us):=by (repeat intro _);rfl):cP P w K mg base n x m sem :=
 ⟨⟨a,_,ps,PySem.W.mg_of X G h4,h3,h5,.all (vL h6),ok (.of h1 h2 h3)⟩⟩
theorem xT(P:Program)(w:World)(base:Heap)(cc:jl K C)(a c:Addr)(s:Value)(ok:bb K x q t .none a (vM x q t s c)->aO P w K mg base (bU P w) n a (vM x q t s c) ps (dy m (bo m sem)))
  (h1:autoParam (K.lookup a=some ⟨.type "function", none,.func (vM x q t s c),⟨[]⟩⟩) aK._auto_1) (h2:autoParam (PySem.W.codeIn K (.ref c) q=true) aK._auto_1) (h3:autoParam (PySem.W.keepIn K (.ref a)=true) aK._auto_1) (h4:autoParam (PySem.W.findIn K (.ref C) x=some (some (.ref a))) aK._auto_1) (h5:autoParam (PySem.W.isFn K (.ref a)=true) aK._auto_1)
  (h6:E5 ps.length λus=>bindArgs (vM x q t s c) ⟨us,[]⟩=pure (ps.zip us):=by (repeat intro _);rfl):jr P w K mg base C n x m sem :=
 ⟨⟨a,_,ps,cc,⟨h4,h5,h3⟩,.all (vL h6),ok (.of h1 h2 h3)⟩⟩
end
theorem bb.eO{P:Program}{w:World}{K:PySem.W.Frag}{base:Heap}{qual:Str}{st:Stmt}{dv:Value}{f:Addr}{fd:FuncData}{g:af->M Out}(F:bb K x qual st dv f fd)(N:List Str)
  (hb:N.Nodup->∀ (PD:Value) (A:Around) (outer:List Env) (s:Shared) (H:Hp) (E:XK),cV k (A.deeper (envOfC qual (a_ st) s.heap.objs.size f PD))->fH ((mJ (bU P w) P w K mg base N qual (a_ st) f PD A outer s H E).out λ_=>E) (λ_=>E)->nQ ((mJ (bU P w) P w K mg base N qual (a_ st) f PD A outer s H E).out λ_=>E) (fD st) (tS E g))
  (S:cv N ps (a_ st):=by exact .of):aO P w K mg base (bU P w) (k+1) f fd ps (dy ps.length (bo ps.length (au N.length g))):=F.Pa S (hb S.nd)
end L2
namespace xS
open PySem L2 PyProof.Rows
def bL:Addr:=487
def aQ:Addr:=641
def gN:Addr:=65
def jz:Addr:=91
def kR:Addr:=200
def iy:Addr:=117
def sU:Addr:=155
def kY:Addr:=136
def az:Addr:=608
def aT:Addr:=710
def jw:Addr:=174
def aw:Addr:=282
def bT:Addr:=454
def pW:List Addr:=[]
def pN:List Addr:=[]
def ly:List Addr:=[aQ]
def lJ:List Addr:=[bL,az,aT,aw,bT]
def pK:List Addr:=[]
def pL:List Addr:=[]
def lS:List Addr:=[aT]
def lK:List Addr:=[bL,aQ,az,aw,bT]
def qa:List Addr:=[]
def qr:List Addr:=[]
def jZ:List Addr:=[bT]
def jT:List Addr:=[bL,aQ,az,aT,aw]
abbrev cI(i:Int):af->M PV:=λ_=>M.ok (.int i)
def iI:af->M Out :=
 (ao (retS (Ey (ug (λa=>lY a "int") nI nI (ae 0)) (HL (ug (λa=>lY a "bool") nI nI (ae 0)))))
 ar)
def dY:List PV->M PV:=bo 1 (au 1 iI)
def jy:af->M Out :=
 (ao (kd (v_ (gI (dz (ug (λa=>["list", "tuple"].any λt=>lY a t) nI nI (ae 0)))) (dz (aj nX (ai dJ (aa (ae 0) ak)) (ae 1)))) (ao (retS (λ_=>M.ok (.bl false)))
 ar) ar)
 (ao (retS (ai qu (aa (bJ (bH (itemsOf (ae 0)) (bK 0) none (ai dY (aa (ae 0) ak)) 1 [])) ak)))
 ar))
def fx:List PV->M PV:=bo 2 (au 2 jy)
def lj:af->M Out :=
 (ao (bg 2 (h9 (aa (ae 0) (aa (cI 1) (aa (cI 0) ak)))))
 (ao (bg 3 (h9 (aa (ae 1) (aa (cI 0) (aa (cI 1) ak)))))
 (ao (ml (dz (aj nX (aj aJ (ae 3) (cI 0)) (cI 0))) (ao (bg 4 (aj cn (aj aJ (ae 2) (cI 0)) (aj aJ (ae 3) (cI 0))))
 (ao (bg 5 (h9 (aa (aj lW (aj aJ (ae 2) (cI 0)) (aj cj (ae 4) (aj aJ (ae 3) (cI 0)))) (aa (aj lW (aj aJ (ae 2) (cI 1)) (aj cj (ae 4) (aj aJ (ae 3) (cI 1)))) (aa (aj lW (aj aJ (ae 2) (cI 2)) (aj cj (ae 4) (aj aJ (ae 3) (cI 2)))) ak)))))
 (ao (bg 2 (ae 3))
 (ao (bg 3 (ae 5))
 ar)))))
 (ao (kd (dz (aj EO (aj aJ (ae 2) (cI 0)) (cI 0))) (ao (retS (h9 (aa (k4 (aj aJ (ae 2) (cI 0))) (aa (k4 (aj aJ (ae 2) (cI 1))) (aa (k4 (aj aJ (ae 2) (cI 2))) ak)))))
 ar) ar)
 (ao (retS (ae 2))
 ar)))))
def gL:List PV->M PV:=bo 2 (au 6 lj)
def gf:af->M Out :=
 (ao (bg 1 (cI 1))
 (ao (je (itemsOf (ae 0)) (bK 2) (ao (bg 1 (aj cj (aj cn (ae 1) (aj aJ (ai gL (aa (ae 1) (aa (ae 2) ak))) (cI 0))) (ae 2)))
 ar))
 (ao (retS (ae 1))
 ar)))
def gj:List PV->M PV:=bo 1 (au 3 gf)
def jV:af->M Out :=
 (ao (retS (ai dc (aa (bJ (bH (jg rm (aa (ae 0) ak)) (bK 0) none (wB (dz (aj jP (ae 0) (ae 1))) (cI 1) (cI 0)) 1 [1])) ak)))
 ar)
def jU:List PV->M PV:=bo 2 (au 2 jV)
def fX:af->M Out :=
 (ao (retS (aj bW (ai p8 (aa (bJ (bH (jg zip2 (aa (ae 0) (aa (ae 1) ak))) (bB 0 1) none (aj cj (ae 0) (ae 1)) 2 [])) ak)) (ae 2)))
 ar)
def er:List PV->M PV:=bo 3 (au 3 fX)
def dX:af->M Out :=
 (ao (retS (Ey (ai dY (aa (ae 0) ak)) (jY EM EM (ae 1) (ae 0) (ae 2))))
 ar)
def dF:List PV->M PV:=bo 3 (au 3 dX)
def gZ:af->M Out :=
 (ao (kd (dz (aj Fh (ai dJ (aa (ae 0) ak)) (cI 6))) (ao (mC jw (aa (λ_=>M.ok (.str "a vault has at most six dials")) ak))
 ar) ar)
 (ao (kd (dz (aj jP (ai dJ (aa (ae 0) ak)) (cI 0))) (ao (jo gN "dial" (aa (cI 0) ak))
 ar) ar)
 (ao (je (jg Bq (aa (ae 0) ak)) (bB 1 2) (ao (kd (gI (dz (ai dF (aa (ae 2) (aa (cI 2) (aa (cI 360) ak)))))) (ao (jo gN "dial" (aa (ae 1) ak))
 ar) ar)
 ar))
 ar)))
def ir:List PV->M PV:=bo 1 (au 3 gZ)
def gB:af->M Out :=
 (ao (kd (dz (aj Fh (ai dJ (aa (ae 0) ak)) (cI 8))) (ao (mC jw (aa (λ_=>M.ok (.str "a vault has at most eight levers")) ak))
 ar) ar)
 (ao (je (jg Bq (aa (ae 0) ak)) (bB 2 3) (ao (kd (gI (dz (ai fx (aa (ae 3) (aa (ae 1) ak))))) (ao (jo jz "lever" (aa (ae 2) ak))
 ar) ar)
 ar))
 ar))
def gu:List PV->M PV:=bo 2 (au 4 gB)
def hU:af->M Out :=
 (ao (kd (dz (aj CQ (ae 1) (λ_=>M.ok .da))) (ao (retS (aj cj (h9 (aa (cI 1) ak)) (ai dJ (aa (ae 0) ak))))
 ar) ar)
 (ao (je (jg rm (aa (ai (HA λi j=>if j>i then j else i) (aa (ai dJ (aa (ae 0) ak)) (aa (ai dJ (aa (ae 1) ak)) ak))) ak)) (bK 2) (ao (kd (v_ (dz (aj Ku (ae 2) (ai dJ (aa (ae 0) ak)))) (dz (aj Ku (ae 2) (ai dJ (aa (ae 1) ak))))) (ao (jo iy "lever" (aa (ae 2) ak))
 ar) ar)
 (ao (kd (gI (dz (ai dF (aa (aj aJ (ae 1) (ae 2)) (aa (cI 1) (aa (cI 1000) ak)))))) (ao (jo iy "lever" (aa (ae 2) ak))
 ar) ar)
 ar)))
 (ao (retS (ai dc (aa (ae 1) ak)))
 ar)))
def g8:List PV->M PV:=bo 2 (au 3 hU)
def lH:af->M Out :=
 (ao (retS (ai dc (aa (bJ (bH (jg zip2 (aa (ae 0) (aa (ae 1) ak))) (bB 0 1) none (aj bW (ae 0) (ae 1)) 2 [])) ak)))
 ar)
def kf:List PV->M PV:=bo 2 (au 2 lH)
def mL:af->M Out :=
 (ao (retS (ai dc (aa (bJ (bH (jg zip2 (aa (ae 0) (aa (ae 2) ak))) (bB 0 1) none (aj dr (aj cj (ae 2) (ae 0)) (aj cj (ae 3) (ae 1))) 2 [1,3])) ak)))
 ar)
def lT:List PV->M PV:=bo 4 (au 4 mL)
def fq:af->M Out :=
 (ao (bg 5 (ai lT (aa (aj aJ (ae 1) (cI 0)) (aa (ae 2) (aa (aj aJ (ae 3) (cI 0)) (aa (ae 4) ak))))))
 (ao (retS (h9 (aa (ai kf (aa (ae 5) (aa (ae 0) ak))) (aa (ai lT (aa (aj aJ (ae 1) (cI 1)) (aa (ae 2) (aa (aj aJ (ae 3) (cI 1)) (aa (ae 4) ak))))) ak))))
 ar))
def eG:List PV->M PV:=bo 5 (au 6 fq)
def eY:af->M Out :=
 (ao (bg 3 (aj aJ (aj aJ (aj aJ (ae 1) (ae 2)) (cI 0)) (ae 2)))
 (ao (retS (wB (dz (aj jP (ae 3) (cI 0))) (aj aJ (ae 0) (ae 2)) (ae 3)))
 ar))
def eF:List PV->M PV:=bo 3 (au 4 eY)
def j8:af->M Out :=
 (ao (uA 3 (nJ ak))
 (ao (je (jg Bq (aa (ae 1) ak)) (bB 4 5) (ao (bg 6 (ai eF (aa (ae 0) (aa (ae 1) (aa (ae 4) ak)))))
 (ao (bg 7 (aj aJ (aj aJ (ae 2) (cI 0)) (ae 4)))
 (ao (bg 8 (ai gL (aa (ae 6) (aa (ae 7) ak))))
 (ao (pv 3 (ai eG (aa (ae 0) (aa (ae 5) (aa (aj aJ (ae 8) (cI 1)) (aa (ae 2) (aa (aj aJ (ae 8) (cI 2)) ak)))))))
 (ao (bg 2 (ai eG (aa (ae 0) (aa (ae 2) (aa (aj cn (ae 6) (aj aJ (ae 8) (cI 0))) (aa (ae 5) (aa (k4 (aj cn (ae 7) (aj aJ (ae 8) (cI 0)))) ak)))))))
 ar))))))
 (ao (uo [3] (retS (h9 (aa (ae 3) (aa (aj aJ (ae 2) (cI 1)) ak)))))
 ar)))
def ke:List PV->M PV:=bo 3 (au 9 j8)
def jK:af->M Out :=
 (ao (je (jg yW (aa (ae 3) (aa (ai dJ (aa (ae 0) ak)) ak))) (bK 4) (ao (bg 5 (aj cn (aj aJ (aj aJ (ae 2) (cI 0)) (ae 4)) (ai eF (aa (ae 0) (aa (ae 1) (aa (ae 4) ak))))))
 (ao (bg 2 (ai eG (aa (ae 0) (aa (ae 2) (aa (cI 1) (aa (aj aJ (ae 1) (ae 4)) (aa (k4 (ae 5)) ak)))))))
 ar)))
 (ao (retS (ae 2))
 ar))
def f_:List PV->M PV:=bo 4 (au 6 jK)
def iK:af->M Out :=
 (ao (je (jg A_ (aa (aj lW (ai dJ (aa (ae 1) ak)) (cI 1)) (aa (k4 (cI 1)) (aa (k4 (cI 1)) ak)))) (bK 2) (ao (bg 3 (aj aJ (ae 1) (ae 2)))
 (ao (bg 0 (ai lT (aa (ae 0) (aa (cI 1) (aa (ae 3) (aa (k4 (aj cn (aj aJ (ae 0) (ae 2)) (aj aJ (ae 3) (ae 2)))) ak))))))
 ar)))
 (ao (retS (ae 0))
 ar))
def iE:List PV->M PV:=bo 2 (au 4 iK)
def fc:af->M Out :=
 (ao (retS (CJ (bJ (bH (itemsOf (ae 0)) (bK 0) none (aj nX (ae 0) (cI 0)) 1 [])) (λ_=>M.ok (.bl true))))
 ar)
def fE:List PV->M PV:=bo 1 (au 1 fc)
def iJ:af->M Out :=
 (ao (retS (ai dc (aa (bJ (bH (itemsOf (ae 0)) (bK 0) none (ai er (aa (cu (λc=>c==aQ) "factors" (ae 0)) (aa (ae 1) (aa (cu (λc=>c==aQ) "number" (ae 0)) ak)))) 1 [1])) ak)))
 ar)
def fU:List PV->M PV:=bo 2 (au 2 iJ)
def iR:af->M Out :=
 (ao (bg 2 (ai fU (aa (ae 0) (aa (ae 1) ak))))
 (ao (retS (ai dc (aa (bJ (bH (jg zip2 (aa (ae 0) (aa (ae 2) ak))) (bB 0 1) none (aj bW (aj lW (cu (λc=>c==aQ) "rest" (ae 0)) (ae 1)) (cu (λc=>c==aQ) "number" (ae 0))) 2 [])) ak)))
 ar))
def iF:List PV->M PV:=bo 2 (au 3 iR)
def iY:af->M Out :=
 (ao (kd (dz (aj EO (ae 1) (ai dJ (aa (ae 0) ak)))) (ao (retS (aj aJ (ae 0) (ae 1)))
 ar) ar)
 (ao (retS (aj bW (aj cj (aj dr (ae 1) (cI 2)) (cI 104729)) (cI 65537)))
 ar))
def dG:List PV->M PV:=bo 2 (au 2 iY)
def eC:af->M Out :=
 (ao (bg 2 (aj bW (aj dr (aj dr (aj cj (aj bW (ae 0) (cI 2147483647)) (cI 48271)) (aj cj (cI 7919) (ae 1))) (cI 13)) (cI 2147483629)))
 (ao (bg 2 (aj bW (aj dr (aj dr (aj cj (ae 2) (ae 2)) (aj cj (cI 104729) (ae 1))) (cI 7)) (cI 2147483587)))
 (ao (retS (aj bW (aj cj (ae 2) (ae 2)) (cI 2147483579)))
 ar)))
def bI:List PV->M PV:=bo 2 (au 3 eC)
def dQ:af->M Out :=
 (ao (uA 2 (nJ ak))
 (ao (je (itemsOf (ae 1)) (bK 3) (ao (pv 2 (aj bW (ae 0) (ae 3)))
 (ao (bg 0 (aj cn (ae 0) (ae 3)))
 ar)))
 (ao (uo [2] (retS (ai dc (aa (ae 2) ak))))
 ar)))
def c_:List PV->M PV:=bo 2 (au 4 dQ)
def i8:af->M Out :=
 (ao (kd (dz (aj jP (aj bW (ae 0) (cI 3)) (cI 0))) (ao (retS (aj dr (cI 2) (aj bW (aj cn (ae 0) (cI 3)) (cI 359))))
 ar) ar)
 (ao (retS (aj cj (aj aJ (λ_=>M.ok (.lst (([2,3,4,6,8,9,12]:List Int).map PV.int))) (aj bW (aj cn (ae 0) (cI 3)) (cI 7))) (aj aJ (λ_=>M.ok (.lst (([1,2,5,10,30]:List Int).map PV.int))) (aj bW (aj cn (ae 0) (cI 21)) (cI 5)))))
 ar))
def eW:List PV->M PV:=bo 1 (au 1 i8)
def hX:af->M Out :=
 (ao (kd (dz (aj jP (aj bW (ae 0) (cI 2)) (cI 0))) (ao (retS (bJ (bH (itemsOf (ai c_ (aa (aj cn (ae 0) (cI 12)) (aa (aj cj (qw (aa (cI 359) ak)) (aj dr (cI 1) (aj bW (aj cn (ae 0) (cI 2)) (cI 6)))) ak)))) (bK 0) none (aj dr (cI 2) (ae 0)) 1 [])))
 ar) ar)
 (ao (bg 1 (aj aJ (λ_=>M.ok (.lst (([1,2,3,4,2,3,5,6]:List Int).map PV.int))) (aj bW (aj cn (ae 0) (cI 2)) (cI 8))))
 (ao (retS (bJ (bH (jg rm (aa (ae 1) ak)) (bK 0) none (ai eW (aa (ai bI (aa (aj cn (ae 1) (cI 16)) (aa (ae 0) ak))) ak)) 1 [0])))
 ar)))
def iq:List PV->M PV:=bo 1 (au 2 hX)
def hG:af->M Out :=
 (ao (kd (dz (aj jP (aj bW (ae 0) (cI 2)) (cI 0))) (ao (retS (ai c_ (aa (aj cn (ae 0) (cI 2)) (aa (ae 1) ak))))
 ar) ar)
 (ao (bg 2 (aj aJ (λ_=>M.ok (.lst (([1,2,3,6,12,30]:List Int).map PV.int))) (aj bW (aj cn (ae 0) (cI 2)) (cI 6))))
 (ao (uA 3 (nJ ak))
 (ao (je (jg Bq (aa (ae 1) ak)) (bB 4 5) (ao (bg 6 (ai bI (aa (aj cn (ae 0) (cI 12)) (aa (ae 4) ak))))
 (ao (pv 3 (aj cj (aj bW (aj cj (aj cn (ae 6) (cI 4)) (ae 2)) (ae 5)) (ai l8 (aa (aj Fh (aj bW (ae 6) (cI 4)) (cI 0)) ak))))
 ar)))
 (ao (uo [3] (retS (ai dc (aa (ae 3) ak))))
 ar)))))
def eH:List PV->M PV:=bo 2 (au 7 hG)
def eD:af->M Out :=
 (ao (ml (dz (aj Fh (ae 1) (cI 0))) (ao (JU 0 1 (aa (ae 1) (aa (aj bW (ae 0) (ae 1)) ak)))
 ar))
 (ao (retS (ae 0))
 ar))
def dh:List PV->M PV:=bo 2 (au 2 eD)
def iU:af->M Out :=
 (ao (bg 3 (aj aJ (ae 1) (aj bW (ae 0) (ai dJ (aa (ae 1) ak)))))
 (ao (bg 4 (bJ (bH (jg yW (aa (cI 2) (aa (aj dr (ae 3) (cI 1)) ak))) (bK 0) (some (dz (aj jP (aj bW (ae 1) (ae 0)) (cI 0)))) (ae 0) 1 [3])))
 (ao (bg 5 (aj aJ (ae 4) (aj bW (aj cn (ae 0) (cI 6)) (ai dJ (aa (ae 4) ak)))))
 (ao (uA 6 (nJ ak))
 (ao (bg 7 (cI 0))
 (ao (je (jg Bq (aa (ae 1) ak)) (bB 8 9) (ao (bg 10 (aj cj (aj cn (ae 5) (ai dh (aa (ae 9) (aa (ae 5) ak)))) (aj bW (ai bI (aa (ae 0) (aa (ae 8) ak))) (cI 360))))
 (ao (pv 6 (ae 10))
 (ao (bg 7 (aj dr (ae 7) (aj cj (ae 10) (aj aJ (ae 2) (ae 8)))))
 ar))))
 (ao (uo [6] (retS (h9 (aa (ae 6) (aa (ae 5) (aa (aj dr (ae 7) (ai l8 (aa (aj jP (aj bW (aj cn (ae 0) (cI 7)) (cI 4)) (cI 0)) ak))) ak))))))
 ar)))))))
def eB:List PV->M PV:=bo 3 (au 11 iU)
def gK:af->M Out :=
 (ao (retS (bJ (bH (itemsOf (ae 0)) (bK 0) none (aj bW (ai p8 (aa (bJ (bH (jg zip2 (aa (aj aJ (ae 0) (cI 0)) (aa (ae 1) ak))) (bB 0 1) none (aj cj (ae 0) (ae 1)) 2 [])) ak)) (aj aJ (ae 0) (cI 1))) 1 [1])))
 ar)
def eX:List PV->M PV:=bo 2 (au 2 gK)
def iA:af->M Out :=
 (ao (retS (aj jP (ai eX (aa (ae 0) (aa (ae 1) ak))) (bJ (bH (itemsOf (ae 0)) (bK 0) none (aj bW (aj aJ (ae 0) (cI 2)) (aj aJ (ae 0) (cI 1))) 1 []))))
 ar)
def f9:List PV->M PV:=bo 2 (au 2 iA)
def ib:af->M Out :=
 (ao (bg 1 (cI 1))
 (ao (je (itemsOf (ae 0)) (bK 2) (ao (bg 1 (aj cj (aj cn (ae 1) (ai dh (aa (ae 1) (aa (ae 2) ak)))) (ae 2)))
 ar))
 (ao (retS (ae 1))
 ar)))
def ig:List PV->M PV:=bo 1 (au 3 ib)
def gq:af->M Out :=
 (ao (bg 3 (ai ig (aa (bJ (bH (itemsOf (ae 0)) (bK 0) none (aj aJ (ae 0) (cI 1)) 1 [])) ak)))
 (ao (retS (aj bW (ai p8 (aa (bJ (bH (jg yp (aa (ae 1) (aa (ae 0) (aa (ae 2) ak)))) (oZ 0 1 2) none (aj cj (aj cj (ae 0) (aj cn (ae 3) (aj aJ (ae 1) (cI 1)))) (ae 2)) 3 [3])) ak)) (ae 3)))
 ar))
def eR:List PV->M PV:=bo 3 (au 4 gq)
def dD:af->M Out :=
 (ao (kd (v_ (gI (dz (ug (λa=>lY a "tuple") nI nI (ae 1)))) (dz (aj nX (ai dJ (aa (ae 1) ak)) (ai dJ (aa (ae 0) ak))))) (ao (retS (λ_=>M.ok (.bl false)))
 ar) ar)
 (ao (je (jg zip2 (aa (ae 1) (aa (ae 0) ak))) (bB 4 5) (ao (kd (v_ (gI (dz (ug (λa=>lY a "int") nI nI (ae 4)))) (v_ (dz (ug (λa=>lY a "bool") nI nI (ae 4))) (gI (dz (jY EM EO (cI 0) (ae 4) (aj aJ (ae 5) (cI 1))))))) (ao (retS (λ_=>M.ok (.bl false)))
 ar) ar)
 ar))
 (ao (je (itemsOf (ae 2)) (bK 6) (ao (kd (dz (aj nX (ai eR (aa (ae 0) (aa (ae 1) (aa (ai eX (aa (ae 0) (aa (ae 6) ak))) ak)))) (cI 0))) (ao (retS (λ_=>M.ok (.bl false)))
 ar) ar)
 ar))
 (ao (bg 7 (bJ (bH (jg zip2 (aa (ae 0) (aa (ai eX (aa (ae 0) (aa (ae 3) ak))) ak))) (bB 0 1) none (aj lW (aj aJ (ae 0) (cI 2)) (ae 1)) 2 [])))
 (ao (retS (aj nX (ai eR (aa (ae 0) (aa (ae 1) (aa (ae 7) ak)))) (cI 0)))
 ar)))))
def bQ:List PV->M PV:=bo 4 (au 8 dD)
def iC:af->M Out :=
 (ao (bg 4 (ae 2))
 (ao (je (jg zip2 (aa (ae 3) (aa (ae 1) ak))) (bB 5 6) (ao (bg 4 (ai dc (aa (bJ (bH (jg yp (aa (ae 4) (aa (ae 6) (aa (ae 0) ak)))) (oZ 0 1 2) none (aj bW (aj dr (ae 0) (aj cj (ae 3) (ae 1))) (ae 2)) 3 [5])) ak)))
 ar))
 (ao (retS (ae 4))
 ar)))
def iB:List PV->M PV:=bo 4 (au 7 iC)
def j3:af->M Out :=
 (ao (jA (ai ir (aa (ae 1) ak)))
 (ao (jA (ai gu (aa (ae 2) (aa (ai dJ (aa (ae 1) ak)) ak))))
 (ao (fI 0 aw "dial_sizes" (ai dc (aa (ae 1) ak)))
 (ao (fI 0 aw "lever_settings" (ai dc (aa (bJ (bH (itemsOf (ae 2)) (bK 0) none (ai kf (aa (ae 0) (aa (ae 1) ak))) 1 [1])) ak)))
 (ao (fI 0 aw "lever_prices" (ai g8 (aa (ae 2) (aa (ae 3) ak))))
 (ao (fI 0 aw "least_round" (ai gj (aa (ae 1) ak)))
 ar))))))
def gz:Addr->List PV->M (List (Str×PV)):=kE 4 (mq 4 j3 aw)
def bG:af->M Out :=
 (ao (retS (cu (λc=>c==aw) "dial_sizes" (ae 0)))
 ar)
def bp:List PV->M PV:=bo 1 (au 1 bG)
def bZ:af->M Out :=
 (ao (retS (cu (λc=>c==aw) "lever_settings" (ae 0)))
 ar)
def bF:List PV->M PV:=bo 1 (au 1 bZ)
def eE:af->M Out :=
 (ao (retS (cu (λc=>c==aw) "least_round" (ae 0)))
 ar)
def dw:List PV->M PV:=bo 1 (au 1 eE)
def dq:af->M Out :=
 (ao (retS (λ_=>M.ok (.bl false)))
 ar)
def aW:List PV->M PV:=bo 1 (au 1 dq)
def mB:af->M Out :=
 (ao (fI 0 bT "pulls" (ae 1))
 ar)
def ky:Addr->List PV->M (List (Str×PV)):=kE 2 (mq 2 mB bT)
def g9:af->M Out :=
 (ao (retS (λ_=>M.ok (.bl true)))
 ar)
def c6:List PV->M PV:=bo 1 (au 1 g9)
def i9:af->M Out :=
 (ao (retS (h9 (aa (λ_=>M.ok (.str "pulls")) (aa (cu (λc=>c==bT) "pulls" (ae 0)) ak))))
 ar)
def dE:List PV->M PV:=bo 1 (au 1 i9)
def jR:af->M Out :=
 (ao (fI 0 bL "weights" (ae 1))
 ar)
def kx:Addr->List PV->M (List (Str×PV)):=kE 2 (mq 2 jR bL)
def lh:af->M Out :=
 (ao (retS (h9 (aa (λ_=>M.ok (.str "weights")) (aa (cu (λc=>c==bL) "weights" (ae 0)) ak))))
 ar)
def gO:List PV->M PV:=bo 1 (au 1 lh)
def gc:af->M Out :=
 (ao (bg 1 (b_ aw "sizes" bp (cu (λc=>c==az) "vault" (ae 0)) ak))
 (ao (retS (ai dc (aa (bJ (bH (jg rm (aa (ai dJ (aa (ae 1) ak)) ak)) (bK 0) none (ai eF (aa (ae 2) (aa (cu (λc=>c==az) "made_rows" (ae 1)) (aa (ae 0) ak)))) 1 [0,1])) ak)))
 ar))
def gm:List PV->M PV:=bo 1 (au 2 gc)
def kH:af->M Out :=
 (ao (fI 0 aQ "factors" (wB (dz (ug (λa=>lY a "list") nI nI (ae 1))) (ai xw (aa (ae 1) ak)) (ae 1)))
 (ao (fI 0 aQ "number" (ae 2))
 (ao (fI 0 aQ "rest" (ae 3))
 ar)))
def fu:Addr->List PV->M (List (Str×PV)):=kE 4 (mq 4 kH aQ)
def kP:af->M Out :=
 (ao (fI 0 aT "shares" (ae 1))
 ar)
def gS:Addr->List PV->M (List (Str×PV)):=kE 2 (mq 2 kP aT)
def h_:af->M Out :=
 (ao (retS (h9 (aa (λ_=>M.ok (.str "shares")) (aa (cu (λc=>c==aT) "shares" (ae 0)) ak))))
 ar)
def cX:List PV->M PV:=bo 1 (au 1 h_)
def iG:af->M Out :=
 (ao (retS (aj cj (h9 (aa (cI 0) ak)) (ai dJ (aa (b_ aw "sizes" bp (ae 0) ak) ak))))
 ar)
def gJ:List PV->M PV:=bo 1 (au 1 iG)
def cK:af->M Out :=
 (ao (bg 2 (b_ aw "sizes" bp (ae 0) ak))
 (ao (kd (v_ (gI (dz (ug (λa=>lY a "tuple") nI nI (ae 1)))) (gI (dz (ai fx (aa (ae 1) (aa (ai dJ (aa (ae 2) ak)) ak)))))) (ao (retS (λ_=>M.ok (.bl false)))
 ar) ar)
 (ao (retS (ai qu (aa (bJ (bH (jg zip2 (aa (ae 1) (aa (ae 2) ak))) (bB 0 1) none (jY EM EO (cI 0) (ae 0) (ae 1)) 2 [])) ak)))
 ar)))
def bu:List PV->M PV:=bo 2 (au 3 cK)
def cT:af->M Out :=
 (ao (kd (gI (dz (ai bu (aa (ae 0) (aa (ae 1) ak))))) (ao (mC kY (aa (λ_=>M.ok (.str "this is no setting of the vault")) ak))
 ar) ar)
 ar)
def bV:List PV->M PV:=bo 2 (au 2 cT)
def pM:af->M Out :=
 (ao (bg 4 (bJ (bH (jg zip2 (aa (ae 1) (aa (ae 2) ak))) (bB 0 1) none (aj dr (ae 0) (aj cj (ae 2) (ae 1))) 2 [3])))
 (ao (retS (ai kf (aa (ae 4) (aa (b_ aw "sizes" bp (ae 0) ak) ak))))
 ar))
def pZ:List PV->M PV:=bo 4 (au 5 pM)
def ju:af->M Out :=
 (ao (jA (ai bV (aa (ae 0) (aa (ae 1) ak))))
 (ao (jA (ai bV (aa (ae 0) (aa (ae 2) ak))))
 (ao (retS (ai pZ (aa (ae 0) (aa (ae 2) (aa (ae 1) (aa (k4 (cI 1)) ak))))))
 ar)))
def jx:List PV->M PV:=bo 3 (au 3 ju)
def lq:af->M Out :=
 (ao (jA (ai bV (aa (ae 0) (aa (ae 1) ak))))
 (ao (jA (ai bV (aa (ae 0) (aa (ae 2) ak))))
 (ao (bg 3 (b_ aw "around" dw (ae 0) ak))
 (ao (bg 4 (bJ (bH (jg zip2 (aa (ae 1) (aa (b_ aw "sizes" bp (ae 0) ak) ak))) (bB 0 1) none (aj cj (ae 0) (aj cn (ae 2) (ae 1))) 2 [3])))
 (ao (retS (ai er (aa (ae 4) (aa (ae 2) (aa (ae 3) ak)))))
 ar)))))
def jS:List PV->M PV:=bo 3 (au 5 lq)
def dU:af->M Out :=
 (ao (retS (ai qu (aa (bJ (bH (itemsOf (b_ aw "levers" bF (ae 0) ak)) (bK 0) none (aj jP (ai jS (aa (ae 1) (aa (ae 2) (aa (ae 0) ak)))) (cI 0)) 1 [0,1])) ak)))
 ar)
def dR:List PV->M PV:=bo 2 (au 2 dU)
def iP:af->M Out :=
 (ao (retS (h9 (aa (ae 1) (aa (aj cj (h9 (aa (cI 0) ak)) (ai dJ (aa (b_ aw "levers" bF (ae 0) ak) ak))) ak))))
 ar)
def fN:List PV->M PV:=bo 2 (au 2 iP)
def gA:af->M Out :=
 (ao (bg 2 (b_ aw "levers" bF (ae 0) ak))
 (ao (retS (h9 (aa (aj aJ (ae 2) (ae 1)) (aa (ai jU (aa (ai dJ (aa (ae 2) ak)) (aa (ae 1) ak))) ak))))
 ar))
def gv:List PV->M PV:=bo 2 (au 3 gA)
def nK:af->M Out :=
 (ao (bg 2 (b_ aw "sizes" bp (ae 0) ak))
 (ao (kd (v_ (gI (dz (ug (λ_=>false) (m_ ly lJ) (m_ pW pN) (ae 1)))) (gI (dz (ai fx (aa (cu (λc=>c==aQ) "factors" (ae 1)) (aa (ai dJ (aa (ae 2) ak)) ak)))))) (ao (retS (λ_=>M.ok (.bl false)))
 ar) ar)
 (ao (kd (v_ (gI (dz (ai dF (aa (cu (λc=>c==aQ) "number" (ae 1)) (aa (cI 2) (aa (cI 360) ak)))))) (gI (dz (ai dY (aa (cu (λc=>c==aQ) "rest" (ae 1)) ak))))) (ao (retS (λ_=>M.ok (.bl false)))
 ar) ar)
 (ao (retS (ai qu (aa (bJ (bH (jg zip2 (aa (cu (λc=>c==aQ) "factors" (ae 1)) (aa (ae 2) ak))) (bB 0 1) none (aj jP (aj bW (aj cj (ae 0) (ae 1)) (cu (λc=>c==aQ) "number" (ae 2))) (cI 0)) 2 [1])) ak)))
 ar))))
def mV:List PV->M PV:=bo 2 (au 3 nK)
def fj:af->M Out :=
 (ao (jA (ai bV (aa (ae 0) (aa (ae 1) ak))))
 (ao (kd (dz (aj Fh (ai dJ (aa (ae 2) ak)) (cI 6))) (ao (mC jw (aa (λ_=>M.ok (.str "there are at most six locks")) ak))
 ar) ar)
 (ao (je (jg Bq (aa (ae 2) ak)) (bB 3 4) (ao (kd (gI (dz (ai mV (aa (ae 0) (aa (ae 4) ak))))) (ao (jo kR "lock" (aa (ae 3) ak))
 ar) ar)
 ar))
 ar)))
def fk:List PV->M PV:=bo 3 (au 5 fj)
def fG:af->M Out :=
 (ao (retS (ai (cM aw gz [.da]) (aa (bJ (bH (itemsOf (ae 1)) (bK 0) none (cu (λc=>c==aQ) "number" (ae 0)) 1 [])) (aa (bJ (bH (itemsOf (b_ aw "levers" bF (ae 0) ak)) (bK 0) none (ai fU (aa (ae 1) (aa (ae 0) ak))) 1 [1])) ak))))
 ar)
def e_:List PV->M PV:=bo 2 (au 2 fG)
def gH:af->M Out :=
 (ao (bg 4 (ai jx (aa (ae 1) (aa (ae 2) (aa (ae 3) ak)))))
 (ao (kd (v_ (gI (dz (ai bu (aa (ae 1) (aa (cu (λc=>c==bL) "weights" (ae 0)) ak))))) (gI (dz (ai dR (aa (ae 1) (aa (cu (λc=>c==bL) "weights" (ae 0)) ak)))))) (ao (retS (λ_=>M.ok (.bl false)))
 ar) ar)
 (ao (retS (aj nX (ai jS (aa (ae 1) (aa (cu (λc=>c==bL) "weights" (ae 0)) (aa (ae 4) ak)))) (cI 0)))
 ar)))
def eh:List PV->M PV:=bo 4 (au 5 gH)
def jW:af->M Out :=
 (ao (bg 2 (b_ aw "sizes" bp (ae 1) ak))
 (ao (bg 3 (bJ (bH (itemsOf (ae 2)) (bK 0) none (ai fN (aa (ae 1) (aa (ai gJ (aa (ae 1) ak)) ak))) 1 [1])))
 (ao (uA 4 (nJ ak))
 (ao (je (jg rm (aa (ai dJ (aa (b_ aw "levers" bF (ae 1) ak) ak)) ak)) (bK 5) (ao (bg 6 (ai ke (aa (ae 2) (aa (ae 3) (aa (ai gv (aa (ae 1) (aa (ae 5) ak))) ak)))))
 (ao (bg 3 (aj aJ (ae 6) (cI 0)))
 (ao (pv 4 (v7 4 (ai iE (aa (aj aJ (ae 6) (cI 1)) (aa (ae 4) ak)))))
 ar))))
 (ao (fI 0 az "vault" (ae 1))
 (ao (fI 0 az "made_rows" (bJ (bH (jg Bq (aa (ae 3) ak)) (bB 0 1) none (ai f_ (aa (ae 2) (aa (ae 3) (aa (ae 1) (aa (aj dr (ae 0) (cI 1)) ak))))) 2 [2,3])))
 (ao (uo [4] (fI 0 az "idle_rows" (ae 4)))
 ar)))))))
def iW:Addr->List PV->M (List (Str×PV)):=kE 2 (mq 7 jW az)
def cz:af->M Out :=
 (ao (jA (ai bV (aa (cu (λc=>c==az) "vault" (ae 0)) (aa (ae 1) ak))))
 (ao (retS (ai f_ (aa (b_ aw "sizes" bp (cu (λc=>c==az) "vault" (ae 0)) ak) (aa (cu (λc=>c==az) "made_rows" (ae 0)) (aa (ai fN (aa (cu (λc=>c==az) "vault" (ae 0)) (aa (ae 1) ak))) (aa (cI 0) ak))))))
 ar))
def bP:List PV->M PV:=bo 2 (au 2 cz)
def gy:af->M Out :=
 (ao (retS (aj aJ (b_ az "brought_down" bP (ae 0) (aa (ae 1) ak)) (cI 0)))
 ar)
def gD:List PV->M PV:=bo 2 (au 2 gy)
def dm:af->M Out :=
 (ao (bg 2 (b_ az "brought_down" bP (ae 0) (aa (ae 1) ak)))
 (ao (kd (dz (aj nX (aj aJ (ae 2) (cI 0)) (ai gJ (aa (cu (λc=>c==az) "vault" (ae 0)) ak)))) (ao (retS (λ_=>M.ok .da))
 ar) ar)
 (ao (retS (ai iE (aa (ai dc (aa (bJ (bH (itemsOf (aj aJ (ae 2) (cI 1))) (bK 0) none (k4 (ae 0)) 1 [])) ak)) (aa (cu (λc=>c==az) "idle_rows" (ae 0)) ak))))
 ar)))
def cQ:List PV->M PV:=bo 2 (au 3 dm)
def dH:af->M Out :=
 (ao (bg 2 (b_ aw "sizes" bp (cu (λc=>c==az) "vault" (ae 0)) ak))
 (ao (kd (gI (dz (ai dF (aa (ae 1) (aa (cI 0) (aa (aj lW (ai dJ (aa (ae 2) ak)) (cI 1)) ak)))))) (ao (jo gN "dial" (aa (ae 1) ak))
 ar) ar)
 (ao (bg 3 (bJ (bH (jg zip2 (aa (ae 2) (aa (b_ az "steps" gm (ae 0) ak) ak))) (bB 0 1) none (aj cn (ae 0) (ae 1)) 2 [])))
 (ao (uA 4 (Ih (qw (aa (cI 0) ak)) (ai dJ (aa (ae 2) ak))))
 (ao (K3 4 (ae 1) (aj bW (aj aJ (ae 3) (ae 1)) (aj aJ (ae 2) (ae 1))))
 (ao (je (jg A_ (aa (aj lW (ae 1) (cI 1)) (aa (k4 (cI 1)) (aa (k4 (cI 1)) ak)))) (bK 5) (ao (bg 6 (v7 4 (ai jS (aa (cu (λc=>c==az) "vault" (ae 0)) (aa (ai dc (aa (ae 4) ak)) (aa (aj aJ (aj aJ (cu (λc=>c==az) "made_rows" (ae 0)) (ae 5)) (cI 0)) ak))))))
 (ao (bg 7 (aj cn (b_ aw "around" dw (cu (λc=>c==az) "vault" (ae 0)) ak) (aj aJ (ae 3) (ae 5))))
 (ao (K3 4 (ae 5) (aj bW (k4 (aj cn (ae 6) (ae 7))) (aj aJ (ae 3) (ae 5))))
 ar))))
 (ao (uo [4] (retS (ai dc (aa (ae 4) ak))))
 ar)))))))
def dM:List PV->M PV:=bo 2 (au 8 dH)
def gF:af->M Out :=
 (ao (jA (ai fk (aa (ae 1) (aa (ae 2) (aa (ae 3) ak)))))
 (ao (kd (dz (aj jP (ai dJ (aa (ae 3) ak)) (cI 0))) (ao (retS (λ_=>M.ok (.bl false)))
 ar) ar)
 (ao (bg 4 (ai e_ (aa (ae 1) (aa (ae 3) ak))))
 (ao (retS (b_ bL "shows" eh (ai (cM bL kx []) (aa (cu (λc=>c==aT) "shares" (ae 0)) ak)) (aa (ae 4) (aa (ai gJ (aa (ae 4) ak)) (aa (ai iF (aa (ae 3) (aa (ae 2) ak))) ak)))))
 ar))))
def cy:List PV->M PV:=bo 4 (au 5 gF)
def mQ:af->M Out :=
 (ao (bg 3 (ai jx (aa (ae 0) (aa (ae 1) (aa (ae 2) ak)))))
 (ao (bg 4 (ai (cM az iW []) (aa (ae 0) ak)))
 (ao (bg 5 (b_ az "pulls_to" cQ (ae 4) (aa (ae 3) ak)))
 (ao (kd (dz (aj lG (ae 5) (λ_=>M.ok .da))) (ao (retS (ai (cM bT ky []) (aa (ae 5) ak)))
 ar) ar)
 (ao (retS (ai (cM bL kx []) (aa (b_ az "weights_at" dM (ae 4) (aa (ai fE (aa (b_ az "least" gD (ae 4) (aa (ae 3) ak)) ak)) ak)) ak)))
 ar)))))
def lP:List PV->M PV:=bo 3 (au 6 mQ)
def e6:af->M Out :=
 (ao (jA (ai fk (aa (ae 0) (aa (ae 1) (aa (ae 2) ak)))))
 (ao (kd (dz (aj jP (ai dJ (aa (ae 2) ak)) (cI 0))) (ao (retS (ai (cM bT ky []) (aa (aj cj (h9 (aa (cI 0) ak)) (ai dJ (aa (b_ aw "levers" bF (ae 0) ak) ak))) ak)))
 ar) ar)
 (ao (bg 3 (ai e_ (aa (ae 0) (aa (ae 2) ak))))
 (ao (bg 4 (ai lP (aa (ae 3) (aa (ai gJ (aa (ae 3) ak)) (aa (ai iF (aa (ae 2) (aa (ae 1) ak))) ak)))))
 (ao (retS (wB (dz (iQ [(bT,c6),(bL,aW),(aT,aW)] "brings" (ae 4) ak)) (ae 4) (ai (cM aT gS []) (aa (cu (λc=>c==bL) "weights" (ae 4)) ak))))
 ar)))))
def cO:List PV->M PV:=bo 3 (au 5 e6)
def fb:af->M Out :=
 (ao (bg 5 (ai cO (aa (ae 0) (aa (ae 3) (aa (bJ (bH (itemsOf (ae 4)) (bK 0) none (ai (cM aQ fu []) (aa (aj aJ (ae 0) (cI 0)) (aa (aj aJ (ae 0) (cI 1)) (aa (aj aJ (ae 0) (cI 2)) ak)))) 1 [])) ak)))))
 (ao (kd (dz (ug (λ_=>false) (m_ jZ jT) (m_ qa qr) (ae 5))) (ao (bg 6 (aj aJ (iQ [(bT,dE),(bL,gO),(aT,cX)] "words" (ae 5) ak) (cI 1)))
 (ao (kd (v_ (gI (dz (ug (λa=>lY a "tuple") nI nI (ae 6)))) (v_ (dz (aj nX (ai dJ (aa (ae 6) ak)) (ai dJ (aa (ae 2) ak)))) (gI (dz (iQ [(bT,c6),(bL,aW),(aT,aW)] "brings" (ae 5) ak))))) (ao (retS (λ_=>M.ok (.str "none")))
 ar) ar)
 (ao (retS (aj aJ (qw (aa (λ_=>M.ok (.str "none")) (aa (λ_=>M.ok (.str "open")) ak))) (ai l8 (aa (ai f9 (aa (ae 4) (aa (ai iB (aa (ae 1) (aa (ae 2) (aa (ae 3) (aa (ae 6) ak))))) ak))) ak))))
 ar))) ar)
 (ao (kd (v_ (gI (dz (ug (λ_=>false) (m_ lS lK) (m_ pK pL) (ae 5)))) (v_ (dz (iQ [(bT,c6),(bL,aW),(aT,aW)] "brings" (ae 5) ak)) (dz (aj nX (iQ [(bT,dE),(bL,gO),(aT,cX)] "words" (ae 5) ak) (h9 (aa (λ_=>M.ok (.str "shares")) (aa (cu (λc=>c==aT) "shares" (ae 5)) ak))))))) (ao (retS (λ_=>M.ok (.str "none")))
 ar) ar)
 (ao (bg 7 (ai bQ (aa (ae 4) (aa (cu (λc=>c==aT) "shares" (ae 5)) (aa (ae 2) (aa (ae 3) ak))))))
 (ao (retS (aj aJ (qw (aa (λ_=>M.ok (.str "none")) (aa (λ_=>M.ok (.str "shut")) ak))) (ai l8 (aa (Ey (ae 7) (b_ aT "bars" cy (ae 5) (aa (ae 0) (aa (ae 3) (aa (bJ (bH (itemsOf (ae 4)) (bK 0) none (ai (cM aQ fu []) (aa (aj aJ (ae 0) (cI 0)) (aa (aj aJ (ae 0) (cI 1)) (aa (aj aJ (ae 0) (cI 2)) ak)))) 1 [])) ak))))) ak))))
 ar)))))
def cH:List PV->M PV:=bo 5 (au 8 fb)
def gC:af->M Out :=
 (ao (bg 5 (ai dc (aa (bJ (bH (jg Bq (aa (ae 4) ak)) (bB 0 1) none (aj bW (ai bI (aa (ae 2) (aa (aj dr (cI 80) (ae 0)) ak))) (aj aJ (ae 1) (cI 1))) 2 [0])) ak)))
 (ao (bg 6 (aj bW (ae 0) (ai dJ (aa (ae 4) ak))))
 (ao (bg 7 (aj dr (aj dr (kX (ae 5) DY (jq (ae 6))) (h9 (aa (aj aJ (aj aJ (ae 4) (ae 6)) (cI 1)) ak))) (kX (ae 5) (jq (aj dr (ae 6) (cI 1))) DY)))
 (ao (je (itemsOf (qw (aa (ae 5) (aa (aj cj (h9 (aa (cI 0) ak)) (ai dJ (aa (ae 4) ak))) (aa (ae 7) (aa (kX (ae 5) (jq (cI 1)) DY) (aa (ai xw (aa (ae 5) ak)) (aa (aj cj (h9 (aa (λ_=>M.ok (.bl true)) ak)) (ai dJ (aa (ae 4) ak))) (aa (λ_=>M.ok (.str "shares")) (aa (λ_=>M.ok .da) ak)))))))))) (bK 8) (ao (bg 9 (b_ aT "bars" cy (ai (cM aT gS []) (aa (ae 8) ak)) (aa (ae 1) (aa (ae 3) (aa (bJ (bH (itemsOf (ae 4)) (bK 0) none (ai (cM aQ fu []) (aa (aj aJ (ae 0) (cI 0)) (aa (aj aJ (ae 0) (cI 1)) (aa (aj aJ (ae 0) (cI 2)) ak)))) 1 [])) ak)))))
 (ao (kd (v_ (gI (dz (ug (λa=>lY a "bool") nI nI (ae 9)))) (dz (aj nX (ae 9) (ai bQ (aa (ae 4) (aa (ae 8) (aa (ae 2) (aa (ae 3) ak)))))))) (ao (retS (λ_=>M.ok (.bl false)))
 ar) ar)
 ar)))
 (ao (retS (λ_=>M.ok (.bl true)))
 ar)))))
def gi:List PV->M PV:=bo 5 (au 10 gC)
def Ep:af->M Out :=
 (ao (bg 1 (ai dG (aa (ae 0) (aa (cI 0) ak))))
 (ao (bg 2 (ai iq (aa (ae 1) ak)))
 (ao (bg 3 (bJ (bH (itemsOf (kX (ae 0) (jq (cI 8)) (jq (cI 16)))) (bK 0) none (ai eH (aa (ae 0) (aa (ae 1) ak))) 1 [2])))
 (ao (bg 4 (ai (cM aw gz [.da]) (aa (ae 2) (aa (ae 3) ak))))
 (ao (bg 5 (ai dc (aa (bJ (bH (jg Bq (aa (ae 2) ak)) (bB 0 1) none (aj bW (ai bI (aa (ae 2) (aa (aj dr (cI 50) (ae 0)) ak))) (ae 1)) 2 [1])) ak)))
 (ao (bg 6 (bJ (bH (jg rm (aa (aj bW (ai dG (aa (ae 0) (aa (cI 1) ak))) (cI 7)) ak)) (bK 0) none (ai eB (aa (ai dG (aa (ae 1) (aa (aj dr (cI 2) (ae 0)) ak))) (aa (ae 2) (aa (ae 3) ak)))) 1 [0,2,5])))
 (ao (je (itemsOf (aj dr (qw (aa (cI 0) ak)) (kX (ae 0) (jq (cI 1)) (jq (cI 40))))) (bK 7) (ao (bg 8 (ai c_ (aa (aj cn (ae 7) (cI 2)) (aa (ae 2) ak))))
 (ao (kd (dz (aj jP (aj bW (ae 7) (cI 2)) (cI 0))) (ao (bg 9 (bJ (bH (jg rm (aa (ai dJ (aa (ae 3) ak)) ak)) (bK 0) none (aj bW (ai bI (aa (ae 1) (aa (aj dr (cI 60) (ae 0)) ak))) (cI 1000)) 1 [7])))
 (ao (bg 8 (ai iB (aa (ae 2) (aa (ae 3) (aa (ae 5) (aa (ae 9) ak))))))
 ar)) ar)
 (ao (bg 10 (ai cH (aa (ae 4) (aa (ae 2) (aa (ae 3) (aa (ae 8) (aa (ae 6) ak)))))))
 (ao (kd (v_ (dz (aj jP (ae 10) (λ_=>M.ok (.str "none")))) (Ct (dz (aj jP (ae 10) (λ_=>M.ok (.str "shut")))) (Ct (dz (aj jP (aj bW (ae 7) (cI 2)) (cI 0))) (dz (ai f9 (aa (ae 6) (aa (ae 5) ak))))))) (ao (retS (λ_=>M.ok (.bl false)))
 ar) ar)
 (ao (kd (Ct (dz (aj nX (ae 6) (qw ak))) (gI (dz (ai gi (aa (ae 7) (aa (ae 4) (aa (ae 3) (aa (ae 8) (aa (ae 6) ak))))))))) (ao (retS (λ_=>M.ok (.bl false)))
 ar) ar)
 ar))))))
 (ao (retS (λ_=>M.ok (.bl true)))
 ar))))))))
def tU:List PV->M PV:=bo 1 (au 11 Ep)
end xS
namespace xS
open PySem L2 PyProof.Rows
local macro_rules | `(tactic| walk_at "s")=>`(tactic| exact⟨rfl,rfl,rfl,by decide +kernel,rfl,by decide +kernel,by decide +kernel⟩)
local macro_rules | `(tactic| walk_at "l")=>`(tactic| first | exact .inl rfl | exact .inr rfl)
local macro_rules | `(tactic| walk_at "pp")=>`(tactic| all_goals repeat' (first | ((with_reducible show nQ _ _ (tS _ (ao _ _)));refine BK ?_ ?_) | ((with_reducible show nQ _ _ (tS _ ar));exact Ff) | ((with_reducible show PE _ _ (tE _ (ae _)));exact vr _) | ((with_reducible show PA _ _ (tL _ (aa _ _)));refine z7 ?_ ?_ (Hq rfl)) | ((with_reducible show PA _ _ (tL _ ak));exact Cw) | ((with_reducible show PE _ _ (tE _ (λ_=>M.ok (.int _))));first | exact Ek | exact nr (KA (by rfl) (by assumption)) λ_=>.int _) | ((with_reducible show PE _ _ (tE _ (λ_=>M.ok (.bl _))));exact LN) | ((with_reducible show PE _ _ (tE _ (λ_=>M.ok .da)));exact Iu) | ((with_reducible show PE _ _ (tE _ (λ_=>M.ok (.str _))));exact Iw) | ((with_reducible show PE _ _ (tE _ (aj dr _ _)));refine qS Fl Kf ?_ ?_) | ((with_reducible show PE _ _ (tE _ (aj lW _ _)));refine qS IX Kd ?_ ?_) | ((with_reducible show PE _ _ (tE _ (aj cj _ _)));refine qS F3 IK ?_ ?_) | ((with_reducible show PE _ _ (tE _ (aj cn _ _)));refine qS CZ D5 ?_ ?_) | ((with_reducible show PE _ _ (tE _ (aj bW _ _)));refine qS GB FT ?_ ?_) | ((with_reducible show PE _ _ (tE _ (aj aJ _ _)));refine J9 ?_ ?_ ?_) | ((with_reducible show uZ _);exact λ_ _=>rfl) | ((with_reducible show PT _ _ (tT _ (dz (aj jP _ _))));refine kN (En (cV.units (by assumption))) Hz ?_ ?_ (eK _)) | ((with_reducible show PE _ _ (tE _ (aj jP _ _)));refine kI (En (cV.units (by assumption))) Hz ?_ ?_ (eK _)) | ((with_reducible show PT _ _ (tT _ (dz (aj nX _ _))));refine kN (Dc (cV.units (by assumption))) Hi ?_ ?_ (eK _)) | ((with_reducible show PE _ _ (tE _ (aj nX _ _)));refine kI (Dc (cV.units (by assumption))) Hi ?_ ?_ (eK _)) | ((with_reducible show PT _ _ (tT _ (dz (aj EO _ _))));refine kN zH uB ?_ ?_ (eK _)) | ((with_reducible show PE _ _ (tE _ (aj EO _ _)));refine kI zH uB ?_ ?_ (eK _)) | ((with_reducible show PT _ _ (tT _ (dz (aj EM _ _))));refine kN tf og ?_ ?_ (eK _)) | ((with_reducible show PE _ _ (tE _ (aj EM _ _)));refine kI tf og ?_ ?_ (eK _)) | ((with_reducible show PT _ _ (tT _ (dz (aj Fh _ _))));refine kN Hy EH ?_ ?_ (eK _)) | ((with_reducible show PE _ _ (tE _ (aj Fh _ _)));refine kI Hy EH ?_ ?_ (eK _)) | ((with_reducible show PT _ _ (tT _ (dz (aj Ku _ _))));refine kN GX BY ?_ ?_ (eK _)) | ((with_reducible show PE _ _ (tE _ (aj Ku _ _)));refine kI GX BY ?_ ?_ (eK _)) | ((with_reducible show PT _ _ (tT _ (dz (aj CQ _ _))));refine kN CD Cm ?_ ?_ (eK _)) | ((with_reducible show PE _ _ (tE _ (aj CQ _ _)));refine kI CD Cm ?_ ?_ (eK _)) | ((with_reducible show PT _ _ (tT _ (dz (aj lG _ _))));refine kN zG zx ?_ ?_ (eK _)) | ((with_reducible show PE _ _ (tE _ (aj lG _ _)));refine kI zG zx ?_ ?_ (eK _)) | ((with_reducible show PT _ _ (tT _ (gI _)));refine Jb ?_) | ((with_reducible show PT _ _ (tT _ (dz (ai _ _))));refine qh ?_) | ((with_reducible show PT _ _ (tT _ (dz (ug _ _ _ _))));refine qh ?_) | ((with_reducible show PT _ _ (tT _ (dz (b_ _ _ _ _ _))));refine qh ?_) | ((with_reducible show PT _ _ (tT _ (dz (ae _))));refine qh ?_) | ((with_reducible show PS _ _ (tS _ (retS _)));refine JP ?_) | ((with_reducible show PS _ _ (tS _ (bg _ _)));refine Kh (by assumption) rfl (by walk_at "l") ?_) | ((with_reducible show PS _ _ (tS _ (kd _ _ _)));refine Lp ?_ ?_ ?_) | ((with_reducible show PS _ _ (tS _ (pv _ _)));refine Ap rfl (by first | exact .inl rfl | exact .inr (.inl rfl)) ?_) | ((with_reducible show PS _ _ (tS _ (uA _ _)));refine Fw (by assumption) rfl (by walk_at "l") ?_) | ((with_reducible show PE _ _ (tO _ (nJ _)));refine IH ?_) | ((with_reducible show PS _ _ (tS _ (uo _ _)));refine Ir _ ?_) | ((with_reducible show PS _ _ (tS _ (jA _)));refine EU ?_) | ((with_reducible show PS _ _ (tS _ (mC _ _)));refine BF.raise (by assumption) (by assumption) rfl (by rfl) ?_) | ((with_reducible show PS _ _ (tS _ (jo _ _ _)));refine pf.raise (by assumption) (by assumption) (by omega) (by assumption) rfl (by rfl) ?_) | ((with_reducible show PE _ _ (tE _ (h9 _)));refine Jt ?_) | ((with_reducible show PE _ _ (tE _ (qw _)));refine Dt ?_) | ((with_reducible show PE _ _ (tE _ (k4 _)));refine Im ?_) | ((with_reducible show PE _ _ (tE _ (wB _ _ _)));refine Jo ?_ ?_ ?_) | ((with_reducible show PE _ _ (tE _ (cu _ _ _)));refine J3 ?_ (by assumption) rfl) | ((with_reducible show PE _ _ (tE _ (ai dJ _)));refine mX AO Jm (by rfl) (by assumption) PySem.boot_len ?_) | ((with_reducible show PE _ _ (tE _ (ai dc _)));refine oj sO C2 (by rfl) (by assumption) kO ?_) | ((with_reducible show PE _ _ (tE _ (ai xw _)));refine oj ur E3 (by rfl) (by assumption) um ?_) | ((with_reducible show PE _ _ (tE _ (ai p8 _)));refine mX (BC rfl) HU (by rfl) (by assumption) JX ?_) | ((with_reducible show PE _ _ (tE _ (ai qu _)));refine mX (A7 rfl) IE (by rfl) (by assumption) HQ ?_) | ((with_reducible show PE _ _ (tE _ (ai l8 _)));refine oj Bf F8 (by rfl) (by assumption) ym ?_) | ((with_reducible show PE _ _ (tE _ (ai (cM _ _ _) _)));refine tZ.make (by assumption) (by assumption) (by omega) (by rfl) (by first | assumption | exact t5) ?_) | ((with_reducible show PE _ _ (tE _ (ai _ _)));refine cP.call (by assumption) (by assumption) (by omega) (by rfl) (by first | assumption | exact t5) ?_) | ((with_reducible show PE _ _ (tE _ (b_ _ _ _ _ ak)));refine jr.C4 (by assumption) (by assumption) (by omega) (by first | assumption | exact t5) ?_) | ((with_reducible show PE _ _ (tE _ (b_ _ _ _ _ _)));refine jr.call (by assumption) (by assumption) (by omega) (by first | assumption | exact t5) ?_ ?_) | ((with_reducible show PT _ _ (tT _ (dz (iQ _ _ _ _))));refine qh ?_) | ((with_reducible show PE _ _ (tE _ (iQ _ _ _ ak)));refine BD.C4 (by assumption) (by repeat' (first | exact BD.nil | refine BD.cons (by assumption) (by omega) ?_)) (by first | assumption | exact t5) ?_) | ((with_reducible show PE _ _ (tE _ (iQ _ _ _ _)));refine BD.call (by assumption) (by repeat' (first | exact BD.nil | refine BD.cons (by assumption) (by omega) ?_)) (by first | assumption | exact t5) ?_ ?_)))
def top(i:Nat):Stmt:=PySem.Challenge.pw_dialvault_k58_whole_locks_opened_or_shut.main.body.getD i (.Pass ⟨0,0,0,0⟩)
structure Txt (K:PySem.W.Frag) (mg:Str->Option Value):Prop where
 L7:mg "all" = none
 vk:mg "bool" = none
 cN:mg "enumerate" = none
 DI:mg "int" = none
 bx:mg "isinstance" = none
 Kz:mg "len" = none
 yU:mg "list" = none
 GW:mg "max" = none
 eT:mg "range" = none
 KY:mg "sum" = none
 mU:mg "tuple" = none
 gW:mg "zip" = none
 qQ:∃ u,mg "LEAST_NUMBER" = some u/\RelV (.int 2) u
 sF:∃ u,mg "LEAST_PRICE" = some u/\RelV (.int 1) u
 vt:∃ u,mg "LEAST_SIZE" = some u/\RelV (.int 2) u
 vg:∃ u,mg "MOST_DIALS" = some u/\RelV (.int 6) u
 r_:∃ u,mg "MOST_LEVERS" = some u/\RelV (.int 8) u
 uY:∃ u,mg "MOST_LOCKS" = some u/\RelV (.int 6) u
 sD:∃ u,mg "MOST_NUMBER" = some u/\RelV (.int 360) u
 uf:∃ u,mg "MOST_PRICE" = some u/\RelV (.int 1000) u
 wa:∃ u,mg "MOST_SIZE" = some u/\RelV (.int 360) u
 GZ:jl K bL
 vy:jl K aQ
 pY:jl K az
 DJ:jl K aT
 mK:jl K aw
 Hv:jl K bT
 AV:BF K mg sU "NoPulls"
 xI:BF K mg kY "NoSetting"
 Ar:BF K mg jw "TooMany"
 fu:HY K mg "Lock" aQ pW pN ly lJ
 gS:HY K mg "Shut" aT pK pL lS lK
 ky:HY K mg "Way" bT qa qr jZ jT
 l5:bC K bL "weights"
 kS:bC K aQ "factors"
 me:bC K aQ "number"
 oP:bC K aQ "rest"
 ja:bC K az "idle_rows"
 jb:bC K az "made_rows"
 mh:bC K az "vault"
 mf:bC K aT "shares"
 iL:bC K aw "dial_sizes"
 gX:bC K aw "least_round"
 gM:bC K aw "lever_prices"
 fg:bC K aw "lever_settings"
 oR:bC K bT "pulls"
 uz:∀ C,(C==aw)=true->jl K C/\bC K C "dial_sizes"
 Be:∀ C,(C==aQ)=true->jl K C/\bC K C "factors"
 xB:∀ C,(C==az)=true->jl K C/\bC K C "idle_rows"
 sq:∀ C,(C==aw)=true->jl K C/\bC K C "least_round"
 rh:∀ C,(C==aw)=true->jl K C/\bC K C "lever_prices"
 n5:∀ C,(C==aw)=true->jl K C/\bC K C "lever_settings"
 xM:∀ C,(C==az)=true->jl K C/\bC K C "made_rows"
 Cd:∀ C,(C==aQ)=true->jl K C/\bC K C "number"
 F7:∀ C,(C==bT)=true->jl K C/\bC K C "pulls"
 Jw:∀ C,(C==aQ)=true->jl K C/\bC K C "rest"
 Cp:∀ C,(C==aT)=true->jl K C/\bC K C "shares"
 EY:∀ C,(C==az)=true->jl K C/\bC K C "vault"
 Bp:∀ C,(C==bL)=true->jl K C/\bC K C "weights"
local macro_rules | `(tactic| walk_at "t")=>`(tactic| (have z:=‹Txt _ _›;cases z))
variable{P:Program}{w:World}{K:PySem.W.Frag}{mg:Str->Option Value}{base:Heap}{f:Addr}{fd:FuncData}{dv:Value}
theorem w5(F:bb K "is_whole" "is_whole" (top 11) dv f fd)(T:Txt K mg)  : aO P w K mg base (bU P w) 1 f fd ["thing"] (dy 1 dY) :=
 F.eO ["thing"] λnd _ _ _ _ _ _ hr O=>by
 unfold iI;walk_at "t"
 walk_at "pp"
 refine(zh ?_ (x_ ?_))
 walk_at "pp"
 refine(kb (T := "int") (by rfl) T.bx (fe (v:=.ty "int") (by rfl) T.DI ym rfl) (by decide) j0 j0 ?_)
 walk_at "pp"
 refine(JH ?_)
 walk_at "pp"
 refine(kb (T := "bool") (by rfl) T.bx (fe (v:=.ty "bool") (by rfl) T.vk vc rfl) (by decide) j0 j0 ?_)
 walk_at "pp"
theorem wY:((["number"]:List Str)++([]:List Str)).Nodup:=by decide +kernel
theorem Ao(F:bb K "is_row" "is_row" (top 12) dv f fd)(T:Txt K mg)(PF:cP P w K mg base 1 "is_whole" 1 (au 1 iI)):aO P w K mg base (bU P w) 2 f fd ["thing", "length"] (dy 2 fx) :=
 F.eO ["thing", "length"] λnd _ _ _ _ _ _ hr O=>by
 unfold jy;walk_at "t"
 walk_at "pp"
 refine(iH ?_ (gT ?_)).pt
 walk_at "pp"
 refine(ET (Ts:=["list", "tuple"]) (by rfl) T.bx (Co (fF (fe (v:=.ty "list") (by rfl) T.yU um rfl) (fF (fe (v:=.ty "tuple") (by rfl) T.mU kO rfl) mD))) (fun σ H R h=>⟨by show 2<=sizeLine;decide,h⟩) (by decide) j0 ?_)
 walk_at "pp"
 refine(bN (aY (g:=(aE 0)) (ts:=["number"]) (fs:=[]) (js:=[]) (cl:=[]) rfl rfl rfl rfl rfl rfl .nil .nil (cS ?_) bX (λ_ _ _ _ _=>(aL (i:=0) wY)) (λ_=>bf) aX (λ_ _ _ _ _=>?_)))
 walk_at "pp"
theorem Bu(F:bb K "common" "common" (top 13) dv f fd)(T:Txt K mg)  : aO P w K mg base (bU P w) 1 f fd ["one", "other"] (dy 2 gL) :=
 F.eO ["one", "other", "row", "behind", "times", "rest"] λnd _ _ _ _ _ _ hr O=>by
 unfold lj;walk_at "t"
 walk_at "pp"
 refine(wq O ?_ ?_)
 walk_at "pp"
theorem qy(F:bb K "multiple_of" "multiple_of" (top 14) dv f fd)(T:Txt K mg)(QL:cP P w K mg base 1 "common" 2 (au 6 lj)):aO P w K mg base (bU P w) 2 f fd ["numbers"] (dy 1 gj) :=
 F.eO ["numbers", "multiple", "number"] λnd _ _ _ _ _ _ hr O=>by
 unfold gf;walk_at "t"
 walk_at "pp"
 refine(cL (g:=(aE 2)) O rfl (cS ?_) bX (aL (i:=2) nd) bf ?_)
 walk_at "pp"
theorem sM:((["other"]:List Str)++(["place"]:List Str)).Nodup:=by decide +kernel
theorem xa(F:bb K "unit_row" "unit_row" (top 15) dv f fd)(T:Txt K mg)  : aO P w K mg base (bU P w) 1 f fd ["length", "place"] (dy 2 jU) :=
 F.eO ["length", "place"] λnd _ _ _ _ _ _ hr O=>by
 unfold jV;walk_at "t"
 walk_at "pp"
 refine(bN (aY (g:=(aE 0)) (ts:=["other"]) (fs:=["place"]) (js:=[1]) rfl rfl rfl rfl rfl rfl (.cons rfl .nil) (.cons rfl rfl (by walk_at "l") rfl rfl .nil) (fL (by rfl) T.eT ?_) iz (λ_ _ _ _ _=>(aL (i:=0) sM)) (λ_=>bf) aX (λ_ _ _ _ _=>?_)))
 walk_at "pp"
theorem l9:((["number", "other"]:List Str)++([]:List Str)).Nodup:=by decide +kernel
theorem wb(F:bb K "rest_sum" "rest_sum" (top 16) dv f fd)(T:Txt K mg)  : aO P w K mg base (bU P w) 1 f fd ["numbers", "others", "by"] (dy 3 er) :=
 F.eO ["numbers", "others", "by"] λnd _ _ _ _ _ _ hr O=>by
 unfold fX;walk_at "t"
 walk_at "pp"
 refine(bN (aY (g:=(fM K 2 (bh (aE 0) (bh (aE 1) fV)))) (ts:=["number", "other"]) (fs:=[]) (js:=[]) (cl:=[]) rfl rfl rfl rfl rfl rfl .nil .nil (gb (by rfl) T.gW ?_) eI (λ_ _ _ _ _=>(cJ (n:=2) rfl (aB (aL (i:=0) l9) (aB (aL (i:=1) l9) bS)))) (λ_=>ck) bY (λ_ _ _ _ _=>?_)))
 walk_at "pp"
theorem vF(F:bb K "is_within" "is_within" (top 25) dv f fd)(T:Txt K mg)(PF:cP P w K mg base 1 "is_whole" 1 (au 1 iI)):aO P w K mg base (bU P w) 2 f fd ["thing", "least", "most"] (dy 3 dF) :=
 F.eO ["thing", "least", "most"] λnd _ _ _ _ _ _ hr O=>by
 unfold dX;walk_at "t"
 walk_at "pp"
 refine(zh ?_ (x_ ?_))
 walk_at "pp"
 refine(xJ tf og tf og ?_ ?_ ?_)
 walk_at "pp"
theorem sH(F:bb K "need_sizes" "need_sizes" (top 26) dv f fd)(T:Txt K mg)(QO:pf P w K mg base gN "NoDial" "dial")(Pt:cP P w K mg base 2 "is_within" 3 (au 3 dX)):aO P w K mg base (bU P w) 3 f fd ["sizes"] (dy 1 ir) :=
 F.eO ["sizes", "dial", "size"] λnd _ _ _ _ _ _ hr O=>by
 unfold gZ;walk_at "t"
 walk_at "pp"
 refine(cL (g:=(fM K 2 (bh (aE 1) (bh (aE 2) fV)))) O rfl (kh (by rfl) T.cN ?_) ia (cJ (n:=2) rfl (aB (aL (i:=1) nd) (aB (aL (i:=2) nd) bS))) ck ?_)
 walk_at "pp"
theorem qe(F:bb K "need_levers" "need_levers" (top 27) dv f fd)(T:Txt K mg)(Qa:cP P w K mg base 2 "is_row" 2 (au 2 jy))(Rj:pf P w K mg base jz "NoLever" "lever"):aO P w K mg base (bU P w) 3 f fd ["levers", "dials"] (dy 2 gu) :=
 F.eO ["levers", "dials", "place", "lever"] λnd _ _ _ _ _ _ hr O=>by
 unfold gB;walk_at "t"
 walk_at "pp"
 refine(cL (g:=(fM K 2 (bh (aE 2) (bh (aE 3) fV)))) O rfl (kh (by rfl) T.cN ?_) ia (cJ (n:=2) rfl (aB (aL (i:=2) nd) (aB (aL (i:=3) nd) bS))) ck ?_)
 walk_at "pp"
theorem r9(F:bb K "prices_for" "prices_for" (top 28) dv f fd)(T:Txt K mg)(Rk:pf P w K mg base iy "NoPrice" "lever")(Pt:cP P w K mg base 2 "is_within" 3 (au 3 dX)):aO P w K mg base (bU P w) 3 f fd ["levers", "prices"] (dy 2 g8) :=
 F.eO ["levers", "prices", "place"] λnd _ _ _ _ _ _ hr O=>by
 unfold hU;walk_at "t"
 walk_at "pp"
 refine(cL (g:=(aE 2)) O rfl (fL (by rfl) T.eT ?_) iz (aL (i:=2) nd) bf ?_)
 walk_at "pp"
 refine(mX (A6 rfl) Fi (by rfl) T.GW HZ ?_)
 walk_at "pp"
 refine(iH ?_ (gT ?_)).pt
 walk_at "pp"
theorem p_:((["number", "size"]:List Str)++([]:List Str)).Nodup:=by decide +kernel
theorem Cc(F:bb K "rests" "rests" (top 29) dv f fd)(T:Txt K mg)  : aO P w K mg base (bU P w) 1 f fd ["numbers", "sizes"] (dy 2 kf) :=
 F.eO ["numbers", "sizes"] λnd _ _ _ _ _ _ hr O=>by
 unfold lH;walk_at "t"
 walk_at "pp"
 refine(bN (aY (g:=(fM K 2 (bh (aE 0) (bh (aE 1) fV)))) (ts:=["number", "size"]) (fs:=[]) (js:=[]) (cl:=[]) rfl rfl rfl rfl rfl rfl .nil .nil (gb (by rfl) T.gW ?_) eI (λ_ _ _ _ _=>(cJ (n:=2) rfl (aB (aL (i:=0) p_) (aB (aL (i:=1) p_) bS)))) (λ_=>ck) bY (λ_ _ _ _ _=>?_)))
 walk_at "pp"
theorem p9:((["one", "two"]:List Str)++(["times", "others"]:List Str)).Nodup:=by decide +kernel
theorem DB(F:bb K "mixed" "mixed" (top 45) dv f fd)(T:Txt K mg)  : aO P w K mg base (bU P w) 1 f fd ["row", "times", "other", "others"] (dy 4 lT) :=
 F.eO ["row", "times", "other", "others"] λnd _ _ _ _ _ _ hr O=>by
 unfold mL;walk_at "t"
 walk_at "pp"
 refine(bN (aY (g:=(fM K 2 (bh (aE 0) (bh (aE 1) fV)))) (ts:=["one", "two"]) (fs:=["times", "others"]) (js:=[1,3]) rfl rfl rfl rfl rfl rfl (.cons rfl (.cons rfl .nil)) (.cons rfl rfl (by walk_at "l") rfl rfl (.cons rfl rfl (by walk_at "l") rfl rfl .nil)) (gb (by rfl) T.gW ?_) eI (λ_ _ _ _ _=>(cJ (n:=2) rfl (aB (aL (i:=0) p9) (aB (aL (i:=1) p9) bS)))) (λ_=>ck) bY (λ_ _ _ _ _=>?_)))
 walk_at "pp"
theorem sA(F:bb K "mixed_made" "mixed_made" (top 46) dv f fd)(T:Txt K mg)(Q5:cP P w K mg base 1 "mixed" 4 (au 4 mL))(Qs:cP P w K mg base 1 "rests" 2 (au 2 lH)):aO P w K mg base (bU P w) 2 f fd ["sizes", "made", "times", "other", "others"] (dy 5 eG) :=
 F.eO ["sizes", "made", "times", "other", "others", "doing"] λnd _ _ _ _ _ _ hr O=>by
 unfold fq;walk_at "t"
 walk_at "pp"
theorem uQ(F:bb K "step_size" "step_size" (top 49) dv f fd)(T:Txt K mg)  : aO P w K mg base (bU P w) 1 f fd ["sizes", "made_rows", "dial"] (dy 3 eF) :=
 F.eO ["sizes", "made_rows", "dial", "notch"] λnd _ _ _ _ _ _ hr O=>by
 unfold eY;walk_at "t"
 walk_at "pp"
theorem wo(F:bb K "taken_in" "taken_in" (top 50) dv f fd)(T:Txt K mg)(Py:cP P w K mg base 1 "step_size" 3 (au 4 eY))(QL:cP P w K mg base 1 "common" 2 (au 6 lj))(PU:cP P w K mg base 2 "mixed_made" 5 (au 6 fq)):aO P w K mg base (bU P w) 3 f fd ["sizes", "made_rows", "left"] (dy 3 ke) :=
 F.eO ["sizes", "made_rows", "left", "wider", "dial", "made", "step", "notch", "found"] λnd _ _ _ _ _ _ hr O=>by
 unfold j8;walk_at "t"
 walk_at "pp"
 refine(cL (g:=(fM K 2 (bh (aE 4) (bh (aE 5) fV)))) O rfl (kh (by rfl) T.cN ?_) ia (cJ (n:=2) rfl (aB (aL (i:=4) nd) (aB (aL (i:=5) nd) bS))) ck ?_)
 walk_at "pp"
theorem yu(F:bb K "lowered" "lowered" (top 51) dv f fd)(T:Txt K mg)(Py:cP P w K mg base 1 "step_size" 3 (au 4 eY))(PU:cP P w K mg base 2 "mixed_made" 5 (au 6 fq)):aO P w K mg base (bU P w) 3 f fd ["sizes", "made_rows", "made", "first"] (dy 4 f_) :=
 F.eO ["sizes", "made_rows", "made", "first", "dial", "times"] λnd _ _ _ _ _ _ hr O=>by
 unfold jK;walk_at "t"
 walk_at "pp"
 refine(cL (g:=(aE 4)) O rfl (t7 (by rfl) T.eT ?_) xu (aL (i:=4) nd) bf ?_)
 walk_at "pp"
theorem xG(F:bb K "in_spans" "in_spans" (top 52) dv f fd)(T:Txt K mg)(Q5:cP P w K mg base 1 "mixed" 4 (au 4 mL)):aO P w K mg base (bU P w) 2 f fd ["pulls", "idle_rows"] (dy 2 iE) :=
 F.eO ["pulls", "idle_rows", "lever", "row"] λnd _ _ _ _ _ _ hr O=>by
 unfold iK;walk_at "t"
 walk_at "pp"
 refine(cL (g:=(aE 2)) O rfl (tW (by rfl) T.eT ?_) xr (aL (i:=2) nd) bf ?_)
 walk_at "pp"
theorem mP:((["notch"]:List Str)++([]:List Str)).Nodup:=by decide +kernel
theorem pF(F:bb K "first_turned" "first_turned" (top 54) dv f fd)(T:Txt K mg)  : aO P w K mg base (bU P w) 1 f fd ["setting"] (dy 1 fE) :=
 F.eO ["setting"] λnd _ _ _ _ _ _ hr O=>by
 unfold fc;walk_at "t"
 walk_at "pp"
 refine(B_ ?_ ?_)
 walk_at "pp"
 refine(bN (aY (g:=(aE 0)) (ts:=["notch"]) (fs:=[]) (js:=[]) (cl:=[]) rfl rfl rfl rfl rfl rfl .nil .nil (cS ?_) bX (λ_ _ _ _ _=>(aL (i:=0) mP)) (λ_=>bf) aX (λ_ _ _ _ _=>?_)))
 walk_at "pp"
theorem sC:((["lock"]:List Str)++(["setting"]:List Str)).Nodup:=by decide +kernel
theorem v5(F:bb K "turns_of" "turns_of" (top 63) dv f fd)(T:Txt K mg)(Qg:cP P w K mg base 1 "rest_sum" 3 (au 3 fX)):aO P w K mg base (bU P w) 2 f fd ["locks", "setting"] (dy 2 fU) :=
 F.eO ["locks", "setting"] λnd _ _ _ _ _ _ hr O=>by
 unfold iJ;walk_at "t"
 walk_at "pp"
 refine(bN (aY (g:=(aE 0)) (ts:=["lock"]) (fs:=["setting"]) (js:=[1]) rfl rfl rfl rfl rfl rfl (.cons rfl .nil) (.cons rfl rfl (by walk_at "l") rfl rfl .nil) (cS ?_) bX (λ_ _ _ _ _=>(aL (i:=0) sC)) (λ_=>bf) aX (λ_ _ _ _ _=>?_)))
 walk_at "pp"
theorem l_:((["lock", "turn"]:List Str)++([]:List Str)).Nodup:=by decide +kernel
theorem v8(F:bb K "wants_of" "wants_of" (top 64) dv f fd)(T:Txt K mg)(Qh:cP P w K mg base 2 "turns_of" 2 (au 2 iJ)):aO P w K mg base (bU P w) 3 f fd ["locks", "setting"] (dy 2 iF) :=
 F.eO ["locks", "setting", "turns"] λnd _ _ _ _ _ _ hr O=>by
 unfold iR;walk_at "t"
 walk_at "pp"
 refine(bN (aY (g:=(fM K 2 (bh (aE 0) (bh (aE 1) fV)))) (ts:=["lock", "turn"]) (fs:=[]) (js:=[]) (cl:=[]) rfl rfl rfl rfl rfl rfl .nil .nil (gb (by rfl) T.gW ?_) eI (λ_ _ _ _ _=>(cJ (n:=2) rfl (aB (aL (i:=0) l_) (aB (aL (i:=1) l_) bS)))) (λ_=>ck) bY (λ_ _ _ _ _=>?_)))
 walk_at "pp"
theorem uI(F:bb K "_law_cell" "_law_cell" (top 69) dv f fd)(T:Txt K mg)  : aO P w K mg base (bU P w) 1 f fd ["_law_script", "_law_k"] (dy 2 dG) :=
 F.eO ["_law_script", "_law_k"] λnd _ _ _ _ _ _ hr O=>by
 unfold iY;walk_at "t"
 walk_at "pp"
theorem xm(F:bb K "_law_mix" "_law_mix" (top 70) dv f fd)(T:Txt K mg)  : aO P w K mg base (bU P w) 1 f fd ["_law_cell_here", "_law_k"] (dy 2 bI) :=
 F.eO ["_law_cell_here", "_law_k", "_law_number"] λnd _ _ _ _ _ _ hr O=>by
 unfold eC;walk_at "t"
 walk_at "pp"
theorem qi(F:bb K "_law_digits" "_law_digits" (top 71) dv f fd)(T:Txt K mg)  : aO P w K mg base (bU P w) 1 f fd ["_law_cell_here", "_law_sizes_here"] (dy 2 c_) :=
 F.eO ["_law_cell_here", "_law_sizes_here", "_law_row", "_law_size_here"] λnd _ _ _ _ _ _ hr O=>by
 unfold dQ;walk_at "t"
 walk_at "pp"
 refine(cL (g:=(aE 3)) O rfl (cS ?_) bX (aL (i:=3) nd) bf ?_)
 walk_at "pp"
theorem vm(F:bb K "_law_size" "_law_size" (top 72) dv f fd)(T:Txt K mg)  : aO P w K mg base (bU P w) 1 f fd ["_law_number"] (dy 1 eW) :=
 F.eO ["_law_number"] λnd _ _ _ _ _ _ hr O=>by
 unfold i8;walk_at "t"
 walk_at "pp"
 exact(pO [2,3,4,6,8,9,12])
 walk_at "pp"
 exact(pO [1,2,5,10,30])
 walk_at "pp"
theorem pI:((["_law_number"]:List Str)++([]:List Str)).Nodup:=by decide +kernel
theorem pq:((["_law_k"]:List Str)++(["_law_cell_here"]:List Str)).Nodup:=by decide +kernel
theorem sx(F:bb K "_law_sizes" "_law_sizes" (top 73) dv f fd)(T:Txt K mg)(Pu:cP P w K mg base 1 "_law_digits" 2 (au 4 dQ))(Pq:cP P w K mg base 1 "_law_mix" 2 (au 3 eC))(QW:cP P w K mg base 1 "_law_size" 1 (au 1 i8)):aO P w K mg base (bU P w) 2 f fd ["_law_cell_here"] (dy 1 iq) :=
 F.eO ["_law_cell_here", "_law_many"] λnd _ _ _ _ _ _ hr O=>by
 unfold hX;walk_at "t"
 walk_at "pp"
 refine(bN (aY (g:=(aE 0)) (ts:=["_law_number"]) (fs:=[]) (js:=[]) (cl:=[]) rfl rfl rfl rfl rfl rfl .nil .nil (cS ?_) bX (λ_ _ _ _ _=>(aL (i:=0) pI)) (λ_=>bf) aX (λ_ _ _ _ _=>?_)))
 walk_at "pp"
 exact(pO [1,2,3,4,2,3,5,6])
 walk_at "pp"
 refine(bN (aY (g:=(aE 0)) (ts:=["_law_k"]) (fs:=["_law_cell_here"]) (js:=[0]) rfl rfl rfl rfl rfl rfl (.cons rfl .nil) (.cons rfl rfl (by walk_at "l") rfl rfl .nil) (fL (by rfl) T.eT ?_) iz (λ_ _ _ _ _=>(aL (i:=0) pq)) (λ_=>bf) aX (λ_ _ _ _ _=>?_)))
 walk_at "pp"
theorem sJ(F:bb K "_law_lever" "_law_lever" (top 74) dv f fd)(T:Txt K mg)(Pu:cP P w K mg base 1 "_law_digits" 2 (au 4 dQ))(Pq:cP P w K mg base 1 "_law_mix" 2 (au 3 eC)):aO P w K mg base (bU P w) 2 f fd ["_law_cell_here", "_law_sizes_here"] (dy 2 eH) :=
 F.eO ["_law_cell_here", "_law_sizes_here", "_law_factor", "_law_row", "_law_k", "_law_size_here", "_law_number"] λnd _ _ _ _ _ _ hr O=>by
 unfold hG;walk_at "t"
 walk_at "pp"
 exact(pO [1,2,3,6,12,30])
 walk_at "pp"
 refine(cL (g:=(fM K 2 (bh (aE 4) (bh (aE 5) fV)))) O rfl (kh (by rfl) T.cN ?_) ia (cJ (n:=2) rfl (aB (aL (i:=4) nd) (aB (aL (i:=5) nd) bS))) ck ?_)
 walk_at "pp"
theorem ph(F:bb K "_law_divisor" "_law_divisor" (top 75) dv f fd)(T:Txt K mg)  : aO P w K mg base (bU P w) 1 f fd ["_law_one", "_law_other"] (dy 2 dh) :=
 F.eO ["_law_one", "_law_other"] λnd _ _ _ _ _ _ hr O=>by
 unfold eD;walk_at "t"
 walk_at "pp"
 refine(wq O ?_ ?_)
 walk_at "pp"
 refine(JJ (i:=0) (j:=1) rfl nd rfl rfl (by decide) rfl rfl ?_ ?_)
 walk_at "pp"
 exact rfl
 walk_at "pp"
theorem p7:((["_law_number"]:List Str)++(["_law_size_here"]:List Str)).Nodup:=by decide +kernel
theorem uh(F:bb K "_law_lock" "_law_lock" (top 76) dv f fd)(T:Txt K mg)(PC:cP P w K mg base 1 "_law_divisor" 2 (au 2 eD))(Pq:cP P w K mg base 1 "_law_mix" 2 (au 3 eC)):aO P w K mg base (bU P w) 2 f fd ["_law_cell_here", "_law_sizes_here", "_law_setting"] (dy 3 eB) :=
 F.eO ["_law_cell_here", "_law_sizes_here", "_law_setting", "_law_size_here", "_law_some", "_law_number", "_law_factors", "_law_total", "_law_k", "_law_other", "_law_factor"] λnd _ _ _ _ _ _ hr O=>by
 unfold iU;walk_at "t"
 walk_at "pp"
 refine(Ef (i:=4) (g:=(aE 0)) (ts:=["_law_number"]) (fs:=["_law_size_here"]) (js:=[3]) rfl rfl rfl rfl rfl rfl (.cons rfl .nil) (.cons rfl rfl (by walk_at "l") rfl rfl .nil) (t7 (by rfl) T.eT ?_) xu (λ_ _ _ _ _=>(aL (i:=0) p7)) (λ_=>bf) aX (λ_ _ _ _ _=>?_) (λ_ _ _ _ _=>?_) nd rfl (by walk_at "l"))
 walk_at "pp"
 refine(cL (g:=(fM K 2 (bh (aE 8) (bh (aE 9) fV)))) O rfl (kh (by rfl) T.cN ?_) ia (cJ (n:=2) rfl (aB (aL (i:=8) nd) (aB (aL (i:=9) nd) bS))) ck ?_)
 walk_at "pp"
theorem qE:((["_law_row"]:List Str)++(["_law_setting"]:List Str)).Nodup:=by decide +kernel
theorem kM:((["_law_factor", "_law_notch"]:List Str)++([]:List Str)).Nodup:=by decide +kernel
theorem ub(F:bb K "_law_sums" "_law_sums" (top 77) dv f fd)(T:Txt K mg)  : aO P w K mg base (bU P w) 1 f fd ["_law_locks", "_law_setting"] (dy 2 eX) :=
 F.eO ["_law_locks", "_law_setting"] λnd _ _ _ _ _ _ hr O=>by
 unfold gK;walk_at "t"
 walk_at "pp"
 refine(bN (aY (g:=(aE 0)) (ts:=["_law_row"]) (fs:=["_law_setting"]) (js:=[1]) rfl rfl rfl rfl rfl rfl (.cons rfl .nil) (.cons rfl rfl (by walk_at "l") rfl rfl .nil) (cS ?_) bX (λ_ _ _ _ _=>(aL (i:=0) qE)) (λ_=>bf) aX (λ_ _ _ _ _=>?_)))
 walk_at "pp"
 refine(bN (aY (g:=(fM K 2 (bh (aE 0) (bh (aE 1) fV)))) (ts:=["_law_factor", "_law_notch"]) (fs:=[]) (js:=[]) (cl:=[]) rfl rfl rfl rfl rfl rfl .nil .nil (gb (by rfl) T.gW ?_) eI (λ_ _ _ _ _=>(cJ (n:=2) rfl (aB (aL (i:=0) kM) (aB (aL (i:=1) kM) bS)))) (λ_=>ck) bY (λ_ _ _ _ _=>?_)))
 walk_at "pp"
theorem sv:((["_law_row"]:List Str)++([]:List Str)).Nodup:=by decide +kernel
theorem wZ(F:bb K "_law_met" "_law_met" (top 78) dv f fd)(T:Txt K mg)(P7:cP P w K mg base 1 "_law_sums" 2 (au 2 gK)):aO P w K mg base (bU P w) 2 f fd ["_law_locks", "_law_setting"] (dy 2 f9) :=
 F.eO ["_law_locks", "_law_setting"] λnd _ _ _ _ _ _ hr O=>by
 unfold iA;walk_at "t"
 walk_at "pp"
 refine(bN (aY (g:=(aE 0)) (ts:=["_law_row"]) (fs:=[]) (js:=[]) (cl:=[]) rfl rfl rfl rfl rfl rfl .nil .nil (cS ?_) bX (λ_ _ _ _ _=>(aL (i:=0) sv)) (λ_=>bf) aX (λ_ _ _ _ _=>?_)))
 walk_at "pp"
theorem se(F:bb K "_law_round" "_law_round" (top 79) dv f fd)(T:Txt K mg)(PC:cP P w K mg base 1 "_law_divisor" 2 (au 2 eD)):aO P w K mg base (bU P w) 2 f fd ["_law_numbers"] (dy 1 ig) :=
 F.eO ["_law_numbers", "_law_found", "_law_number"] λnd _ _ _ _ _ _ hr O=>by
 unfold ib;walk_at "t"
 walk_at "pp"
 refine(cL (g:=(aE 2)) O rfl (cS ?_) bX (aL (i:=2) nd) bf ?_)
 walk_at "pp"
theorem n8:((["_law_row"]:List Str)++([]:List Str)).Nodup:=by decide +kernel
theorem f6:((["_law_share", "_law_row", "_law_found"]:List Str)++(["_law_around"]:List Str)).Nodup:=by decide +kernel
theorem qO(F:bb K "_law_shared" "_law_shared" (top 80) dv f fd)(T:Txt K mg)(QJ:cP P w K mg base 2 "_law_round" 1 (au 3 ib)):aO P w K mg base (bU P w) 3 f fd ["_law_locks", "_law_shares", "_law_sums_here"] (dy 3 eR) :=
 F.eO ["_law_locks", "_law_shares", "_law_sums_here", "_law_around"] λnd _ _ _ _ _ _ hr O=>by
 unfold gq;walk_at "t"
 walk_at "pp"
 refine(bN (aY (g:=(aE 0)) (ts:=["_law_row"]) (fs:=[]) (js:=[]) (cl:=[]) rfl rfl rfl rfl rfl rfl .nil .nil (cS ?_) bX (λ_ _ _ _ _=>(aL (i:=0) n8)) (λ_=>bf) aX (λ_ _ _ _ _=>?_)))
 walk_at "pp"
 refine(bN (aY (g:=(fM K 3 (bh (aE 0) (bh (aE 1) (bh (aE 2) fV))))) (ts:=["_law_share", "_law_row", "_law_found"]) (fs:=["_law_around"]) (js:=[3]) rfl rfl rfl rfl rfl rfl (.cons rfl .nil) (.cons rfl rfl (by walk_at "l") rfl rfl .nil) (zC (by rfl) T.gW ?_) wM (λ_ _ _ _ _=>(cJ (n:=3) rfl (aB (aL (i:=0) f6) (aB (aL (i:=1) f6) (aB (aL (i:=2) f6) bS))))) (λ_=>zE) qN (λ_ _ _ _ _=>?_)))
 walk_at "pp"
theorem la:((["_law_row", "_law_found"]:List Str)++([]:List Str)).Nodup:=by decide +kernel
theorem ux(F:bb K "_law_bars" "_law_bars" (top 81) dv f fd)(T:Txt K mg)(P7:cP P w K mg base 1 "_law_sums" 2 (au 2 gK))(Qz:cP P w K mg base 3 "_law_shared" 3 (au 4 gq)):aO P w K mg base (bU P w) 4 f fd ["_law_locks", "_law_shares", "_law_levers", "_law_setting"] (dy 4 bQ) :=
 F.eO ["_law_locks", "_law_shares", "_law_levers", "_law_setting", "_law_share", "_law_row", "_law_lever_here", "_law_wanted"] λnd _ _ _ _ _ _ hr O=>by
 unfold dD;walk_at "t"
 walk_at "pp"
 refine(iH ?_ (gT ?_)).pt
 walk_at "pp"
 refine(kb (T := "tuple") (by rfl) T.bx (fe (v:=.ty "tuple") (by rfl) T.mU kO rfl) (by decide) j0 j0 ?_)
 walk_at "pp"
 refine(cL (g:=(fM K 2 (bh (aE 4) (bh (aE 5) fV)))) O rfl (gb (by rfl) T.gW ?_) eI (cJ (n:=2) rfl (aB (aL (i:=4) nd) (aB (aL (i:=5) nd) bS))) ck ?_)
 walk_at "pp"
 refine(iH ?_ (iH ?_ (gT ?_))).pt
 walk_at "pp"
 refine(kb (T := "int") (by rfl) T.bx (fe (v:=.ty "int") (by rfl) T.DI ym rfl) (by decide) j0 j0 ?_)
 walk_at "pp"
 refine(kb (T := "bool") (by rfl) T.bx (fe (v:=.ty "bool") (by rfl) T.vk vc rfl) (by decide) j0 j0 ?_)
 walk_at "pp"
 refine(C7 tf og zH uB ?_ ?_ ?_)
 walk_at "pp"
 refine(cL (g:=(aE 6)) O rfl (cS ?_) bX (aL (i:=6) nd) bf ?_)
 walk_at "pp"
 refine(j7 (i:=7) (g:=(fM K 2 (bh (aE 0) (bh (aE 1) fV)))) (ts:=["_law_row", "_law_found"]) (fs:=[]) (js:=[]) (cl:=[]) rfl rfl rfl rfl rfl rfl .nil .nil (gb (by rfl) T.gW ?_) eI (λ_ _ _ _ _=>(cJ (n:=2) rfl (aB (aL (i:=0) la) (aB (aL (i:=1) la) bS)))) (λ_=>ck) bY (λ_ _ _ _ _=>?_) nd rfl (by walk_at "l"))
 walk_at "pp"
theorem jm:((["_law_here", "_law_more", "_law_size_here"]:List Str)++(["_law_many"]:List Str)).Nodup:=by decide +kernel
theorem xg(F:bb K "_law_led" "_law_led" (top 82) dv f fd)(T:Txt K mg)  : aO P w K mg base (bU P w) 1 f fd ["_law_sizes_here", "_law_levers", "_law_setting", "_law_pulls"] (dy 4 iB) :=
 F.eO ["_law_sizes_here", "_law_levers", "_law_setting", "_law_pulls", "_law_found", "_law_many", "_law_lever_here"] λnd _ _ _ _ _ _ hr O=>by
 unfold iC;walk_at "t"
 walk_at "pp"
 refine(cL (g:=(fM K 2 (bh (aE 5) (bh (aE 6) fV)))) O rfl (gb (by rfl) T.gW ?_) eI (cJ (n:=2) rfl (aB (aL (i:=5) nd) (aB (aL (i:=6) nd) bS))) ck ?_)
 walk_at "pp"
 refine(bN (aY (g:=(fM K 3 (bh (aE 0) (bh (aE 1) (bh (aE 2) fV))))) (ts:=["_law_here", "_law_more", "_law_size_here"]) (fs:=["_law_many"]) (js:=[5]) rfl rfl rfl rfl rfl rfl (.cons rfl .nil) (.cons rfl rfl (by walk_at "l") rfl rfl .nil) (zC (by rfl) T.gW ?_) wM (λ_ _ _ _ _=>(cJ (n:=3) rfl (aB (aL (i:=0) jm) (aB (aL (i:=1) jm) (aB (aL (i:=2) jm) bS))))) (λ_=>zE) qN (λ_ _ _ _ _=>?_)))
 walk_at "pp"
theorem l7:cv ["self", "sizes", "levers", "prices"] ["self", "sizes", "levers", "prices"] (a_ (inClass (top 24) 0)):=.of
theorem pe:((["lever"]:List Str)++(["sizes"]:List Str)).Nodup:=by decide +kernel
theorem sP(F:bb K "__init__" "Vault.__init__" (inClass (top 24) 0) dv f fd)(T:Txt K mg)(QM:cP P w K mg base 3 "need_sizes" 1 (au 3 gZ))(QB:cP P w K mg base 3 "need_levers" 2 (au 4 gB))(Qs:cP P w K mg base 1 "rests" 2 (au 2 lH))(QN:cP P w K mg base 3 "prices_for" 2 (au 3 hU))(QA:cP P w K mg base 2 "multiple_of" 1 (au 3 gf)):aO P w K mg base (bU P w) 4 f fd ["self", "sizes", "levers", "prices"] (BG 4 aw gz) :=
 F.Kx l7 (by decide) λ_ _ _ _ _ _ hr O=>by
 unfold j3;have:=l7.nd;have T2:=T;cases T2
 walk_at "pp"
 refine(fZ (i:=0) rfl (by first | exact .inl rfl | exact .inr (.inl rfl)) T.mK T.iL ?_)
 walk_at "pp"
 refine(fZ (i:=0) rfl (by first | exact .inl rfl | exact .inr (.inl rfl)) T.mK T.fg ?_)
 walk_at "pp"
 refine(bN (aY (g:=(aE 0)) (ts:=["lever"]) (fs:=["sizes"]) (js:=[1]) rfl rfl rfl rfl rfl rfl (.cons rfl .nil) (.cons rfl rfl (by walk_at "l") rfl rfl .nil) (cS ?_) bX (λ_ _ _ _ _=>(aL (i:=0) pe)) (λ_=>bf) aX (λ_ _ _ _ _=>?_)))
 walk_at "pp"
 refine(fZ (i:=0) rfl (by first | exact .inl rfl | exact .inr (.inl rfl)) T.mK T.gM ?_)
 walk_at "pp"
 refine(fZ (i:=0) rfl (by first | exact .inl rfl | exact .inr (.inl rfl)) T.mK T.gX ?_)
 walk_at "pp"
theorem qL(F:bb K "sizes" "Vault.sizes" (inClass (top 24) 1) dv f fd)(T:Txt K mg)  : aO P w K mg base (bU P w) 1 f fd ["self"] (dy 1 bp) :=
 F.eO ["self"] λnd _ _ _ _ _ _ hr O=>by
 unfold bG;walk_at "t"
 walk_at "pp"
theorem pk(F:bb K "levers" "Vault.levers" (inClass (top 24) 2) dv f fd)(T:Txt K mg)  : aO P w K mg base (bU P w) 1 f fd ["self"] (dy 1 bF) :=
 F.eO ["self"] λnd _ _ _ _ _ _ hr O=>by
 unfold bZ;walk_at "t"
 walk_at "pp"
theorem o6(F:bb K "around" "Vault.around" (inClass (top 24) 4) dv f fd)(T:Txt K mg)  : aO P w K mg base (bU P w) 1 f fd ["self"] (dy 1 dw) :=
 F.eO ["self"] λnd _ _ _ _ _ _ hr O=>by
 unfold eE;walk_at "t"
 walk_at "pp"
theorem kq(F:bb K "brings" "Paper.brings" (inClass (top 41) 0) dv f fd)(T:Txt K mg)  : aO P w K mg base (bU P w) 1 f fd ["self"] (dy 1 aW) :=
 F.eO ["self"] λnd _ _ _ _ _ _ hr O=>by
 unfold dq;walk_at "t"
 walk_at "pp"
theorem o5:cv ["self", "pulls"] ["self", "pulls"] (a_ (inClass (top 42) 0)):=.of
theorem wH(F:bb K "__init__" "Way.__init__" (inClass (top 42) 0) dv f fd)(T:Txt K mg)  : aO P w K mg base (bU P w) 1 f fd ["self", "pulls"] (BG 2 bT ky) :=
 F.Kx o5 (by decide) λ_ _ _ _ _ _ hr O=>by
 unfold mB;have:=o5.nd;have T2:=T;cases T2
 walk_at "pp"
 refine(fZ (i:=0) rfl (by first | exact .inl rfl | exact .inr (.inl rfl)) T.Hv T.oR ?_)
 walk_at "pp"
theorem sj(F:bb K "brings" "Way.brings" (inClass (top 42) 1) dv f fd)(T:Txt K mg)  : aO P w K mg base (bU P w) 1 f fd ["self"] (dy 1 c6) :=
 F.eO ["self"] λnd _ _ _ _ _ _ hr O=>by
 unfold g9;walk_at "t"
 walk_at "pp"
theorem u9(F:bb K "words" "Way.words" (inClass (top 42) 3) dv f fd)(T:Txt K mg)  : aO P w K mg base (bU P w) 1 f fd ["self"] (dy 1 dE) :=
 F.eO ["self"] λnd _ _ _ _ _ _ hr O=>by
 unfold i9;walk_at "t"
 walk_at "pp"
theorem oS:cv ["self", "weights"] ["self", "weights"] (a_ (inClass (top 43) 0)):=.of
theorem vT(F:bb K "__init__" "Bar.__init__" (inClass (top 43) 0) dv f fd)(T:Txt K mg)  : aO P w K mg base (bU P w) 1 f fd ["self", "weights"] (BG 2 bL kx) :=
 F.Kx oS (by decide) λ_ _ _ _ _ _ hr O=>by
 unfold jR;have:=oS.nd;have T2:=T;cases T2
 walk_at "pp"
 refine(fZ (i:=0) rfl (by first | exact .inl rfl | exact .inr (.inl rfl)) T.GZ T.l5 ?_)
 walk_at "pp"
theorem vq(F:bb K "words" "Bar.words" (inClass (top 43) 2) dv f fd)(T:Txt K mg)  : aO P w K mg base (bU P w) 1 f fd ["self"] (dy 1 gO) :=
 F.eO ["self"] λnd _ _ _ _ _ _ hr O=>by
 unfold lh;walk_at "t"
 walk_at "pp"
theorem nV:((["dial"]:List Str)++(["self", "sizes"]:List Str)).Nodup:=by decide +kernel
theorem p6(F:bb K "steps" "Rungs.steps" (inClass (top 53) 1) dv f fd)(T:Txt K mg)(Pg:jr P w K mg base aw 1 "sizes" 1 (au 1 bG))(Py:cP P w K mg base 1 "step_size" 3 (au 4 eY)):aO P w K mg base (bU P w) 2 f fd ["self"] (dy 1 gm) :=
 F.eO ["self", "sizes"] λnd _ _ _ _ _ _ hr O=>by
 unfold gc;walk_at "t"
 walk_at "pp"
 refine(bN (aY (g:=(aE 0)) (ts:=["dial"]) (fs:=["self", "sizes"]) (js:=[0,1]) rfl rfl rfl rfl rfl rfl (.cons rfl (.cons rfl .nil)) (.cons rfl rfl (by walk_at "l") rfl rfl (.cons rfl rfl (by walk_at "l") rfl rfl .nil)) (fL (by rfl) T.eT ?_) iz (λ_ _ _ _ _=>(aL (i:=0) nV)) (λ_=>bf) aX (λ_ _ _ _ _=>?_)))
 walk_at "pp"
theorem nv:cv ["self", "factors", "number", "rest"] ["self", "factors", "number", "rest"] (a_ (inClass (top 60) 0)):=.of
theorem uE(F:bb K "__init__" "Lock.__init__" (inClass (top 60) 0) dv f fd)(T:Txt K mg)  : aO P w K mg base (bU P w) 1 f fd ["self", "factors", "number", "rest"] (BG 4 aQ fu) :=
 F.Kx nv (by decide) λ_ _ _ _ _ _ hr O=>by
 unfold kH;have:=nv.nd;have T2:=T;cases T2
 walk_at "pp"
 refine(fZ (i:=0) rfl (by first | exact .inl rfl | exact .inr (.inl rfl)) T.vy T.kS ?_)
 walk_at "pp"
 refine(kb (T := "list") (by rfl) T.bx (fe (v:=.ty "list") (by rfl) T.yU um rfl) (by decide) j0 j0 ?_)
 walk_at "pp"
 refine(fZ (i:=0) rfl (by first | exact .inl rfl | exact .inr (.inl rfl)) T.vy T.me ?_)
 walk_at "pp"
 refine(fZ (i:=0) rfl (by first | exact .inl rfl | exact .inr (.inl rfl)) T.vy T.oP ?_)
 walk_at "pp"
theorem nN:cv ["self", "shares"] ["self", "shares"] (a_ (inClass (top 67) 0)):=.of
theorem uc(F:bb K "__init__" "Shut.__init__" (inClass (top 67) 0) dv f fd)(T:Txt K mg)  : aO P w K mg base (bU P w) 1 f fd ["self", "shares"] (BG 2 aT gS) :=
 F.Kx nN (by decide) λ_ _ _ _ _ _ hr O=>by
 unfold kP;have:=nN.nd;have T2:=T;cases T2
 walk_at "pp"
 refine(fZ (i:=0) rfl (by first | exact .inl rfl | exact .inr (.inl rfl)) T.DJ T.mf ?_)
 walk_at "pp"
theorem rW(F:bb K "words" "Shut.words" (inClass (top 67) 1) dv f fd)(T:Txt K mg)  : aO P w K mg base (bU P w) 1 f fd ["self"] (dy 1 cX) :=
 F.eO ["self"] λnd _ _ _ _ _ _ hr O=>by
 unfold h_;walk_at "t"
 walk_at "pp"
theorem A9(F:bb K "nought" "nought" (top 30) dv f fd)(T:Txt K mg)(Pg:jr P w K mg base aw 1 "sizes" 1 (au 1 bG)):aO P w K mg base (bU P w) 2 f fd ["vault"] (dy 1 gJ) :=
 F.eO ["vault"] λnd _ _ _ _ _ _ hr O=>by
 unfold iG;walk_at "t"
 walk_at "pp"
theorem kr:((["notch", "size"]:List Str)++([]:List Str)).Nodup:=by decide +kernel
theorem sI(F:bb K "is_setting" "is_setting" (top 31) dv f fd)(T:Txt K mg)(Pg:jr P w K mg base aw 1 "sizes" 1 (au 1 bG))(Qa:cP P w K mg base 2 "is_row" 2 (au 2 jy)):aO P w K mg base (bU P w) 3 f fd ["vault", "thing"] (dy 2 bu) :=
 F.eO ["vault", "thing", "sizes"] λnd _ _ _ _ _ _ hr O=>by
 unfold cK;walk_at "t"
 walk_at "pp"
 refine(iH ?_ (gT ?_)).pt
 walk_at "pp"
 refine(kb (T := "tuple") (by rfl) T.bx (fe (v:=.ty "tuple") (by rfl) T.mU kO rfl) (by decide) j0 j0 ?_)
 walk_at "pp"
 refine(bN (aY (g:=(fM K 2 (bh (aE 0) (bh (aE 1) fV)))) (ts:=["notch", "size"]) (fs:=[]) (js:=[]) (cl:=[]) rfl rfl rfl rfl rfl rfl .nil .nil (gb (by rfl) T.gW ?_) eI (λ_ _ _ _ _=>(cJ (n:=2) rfl (aB (aL (i:=0) kr) (aB (aL (i:=1) kr) bS)))) (λ_=>ck) bY (λ_ _ _ _ _=>?_)))
 walk_at "pp"
 refine(xJ tf og zH uB ?_ ?_ ?_)
 walk_at "pp"
theorem pH(F:bb K "need_setting" "need_setting" (top 33) dv f fd)(T:Txt K mg)(PQ:cP P w K mg base 3 "is_setting" 2 (au 3 cK)):aO P w K mg base (bU P w) 4 f fd ["vault", "thing"] (dy 2 bV) :=
 F.eO ["vault", "thing"] λnd _ _ _ _ _ _ hr O=>by
 unfold cT;walk_at "t"
 walk_at "pp"
theorem qC:((["notch", "turn"]:List Str)++(["times"]:List Str)).Nodup:=by decide +kernel
theorem DO(F:bb K "added" "added" (top 35) dv f fd)(T:Txt K mg)(Pg:jr P w K mg base aw 1 "sizes" 1 (au 1 bG))(Qs:cP P w K mg base 1 "rests" 2 (au 2 lH)):aO P w K mg base (bU P w) 2 f fd ["vault", "setting", "other", "times"] (dy 4 pZ) :=
 F.eO ["vault", "setting", "other", "times", "numbers"] λnd _ _ _ _ _ _ hr O=>by
 unfold pM;walk_at "t"
 walk_at "pp"
 refine(j7 (i:=4) (g:=(fM K 2 (bh (aE 0) (bh (aE 1) fV)))) (ts:=["notch", "turn"]) (fs:=["times"]) (js:=[3]) rfl rfl rfl rfl rfl rfl (.cons rfl .nil) (.cons rfl rfl (by walk_at "l") rfl rfl .nil) (gb (by rfl) T.gW ?_) eI (λ_ _ _ _ _=>(cJ (n:=2) rfl (aB (aL (i:=0) qC) (aB (aL (i:=1) qC) bS)))) (λ_=>ck) bY (λ_ _ _ _ _=>?_) nd rfl (by walk_at "l"))
 walk_at "pp"
theorem zj(F:bb K "between" "between" (top 37) dv f fd)(T:Txt K mg)(Pn:cP P w K mg base 4 "need_setting" 2 (au 2 cT))(RG:cP P w K mg base 2 "added" 4 (au 5 pM)):aO P w K mg base (bU P w) 5 f fd ["vault", "one", "other"] (dy 3 jx) :=
 F.eO ["vault", "one", "other"] λnd _ _ _ _ _ _ hr O=>by
 unfold ju;walk_at "t"
 walk_at "pp"
theorem qt:((["weight", "size"]:List Str)++(["around"]:List Str)).Nodup:=by decide +kernel
theorem CS(F:bb K "weigh" "weigh" (top 39) dv f fd)(T:Txt K mg)(Pn:cP P w K mg base 4 "need_setting" 2 (au 2 cT))(PB:jr P w K mg base aw 1 "around" 1 (au 1 eE))(Pg:jr P w K mg base aw 1 "sizes" 1 (au 1 bG))(Qg:cP P w K mg base 1 "rest_sum" 3 (au 3 fX)):aO P w K mg base (bU P w) 5 f fd ["vault", "weights", "setting"] (dy 3 jS) :=
 F.eO ["vault", "weights", "setting", "around", "worths"] λnd _ _ _ _ _ _ hr O=>by
 unfold lq;walk_at "t"
 walk_at "pp"
 refine(j7 (i:=4) (g:=(fM K 2 (bh (aE 0) (bh (aE 1) fV)))) (ts:=["weight", "size"]) (fs:=["around"]) (js:=[3]) rfl rfl rfl rfl rfl rfl (.cons rfl .nil) (.cons rfl rfl (by walk_at "l") rfl rfl .nil) (gb (by rfl) T.gW ?_) eI (λ_ _ _ _ _=>(cJ (n:=2) rfl (aB (aL (i:=0) qt) (aB (aL (i:=1) qt) bS)))) (λ_=>ck) bY (λ_ _ _ _ _=>?_) nd rfl (by walk_at "l"))
 walk_at "pp"
theorem kJ:((["lever"]:List Str)++(["vault", "weights"]:List Str)).Nodup:=by decide +kernel
theorem mE(F:bb K "weighs_no_lever" "weighs_no_lever" (top 40) dv f fd)(T:Txt K mg)(Pm:jr P w K mg base aw 1 "levers" 1 (au 1 bZ))(Qt:cP P w K mg base 5 "weigh" 3 (au 5 lq)):aO P w K mg base (bU P w) 6 f fd ["vault", "weights"] (dy 2 dR) :=
 F.eO ["vault", "weights"] λnd _ _ _ _ _ _ hr O=>by
 unfold dU;walk_at "t"
 walk_at "pp"
 refine(bN (aY (g:=(aE 0)) (ts:=["lever"]) (fs:=["vault", "weights"]) (js:=[0,1]) rfl rfl rfl rfl rfl rfl (.cons rfl (.cons rfl .nil)) (.cons rfl rfl (by walk_at "l") rfl rfl (.cons rfl rfl (by walk_at "l") rfl rfl .nil)) (cS ?_) bX (λ_ _ _ _ _=>(aL (i:=0) kJ)) (λ_=>bf) aX (λ_ _ _ _ _=>?_)))
 walk_at "pp"
theorem xj(F:bb K "unpulled" "unpulled" (top 47) dv f fd)(T:Txt K mg)(Pm:jr P w K mg base aw 1 "levers" 1 (au 1 bZ)):aO P w K mg base (bU P w) 2 f fd ["vault", "setting"] (dy 2 fN) :=
 F.eO ["vault", "setting"] λnd _ _ _ _ _ _ hr O=>by
 unfold iP;walk_at "t"
 walk_at "pp"
theorem ql(F:bb K "pulled_once" "pulled_once" (top 48) dv f fd)(T:Txt K mg)(Pm:jr P w K mg base aw 1 "levers" 1 (au 1 bZ))(Q_:cP P w K mg base 1 "unit_row" 2 (au 2 jV)):aO P w K mg base (bU P w) 2 f fd ["vault", "lever"] (dy 2 gv) :=
 F.eO ["vault", "lever", "levers"] λnd _ _ _ _ _ _ hr O=>by
 unfold gA;walk_at "t"
 walk_at "pp"
theorem o3:((["factor", "size"]:List Str)++(["thing"]:List Str)).Nodup:=by decide +kernel
theorem Av(F:bb K "is_fit" "is_fit" (top 61) dv f fd)(T:Txt K mg)(Pg:jr P w K mg base aw 1 "sizes" 1 (au 1 bG))(Qa:cP P w K mg base 2 "is_row" 2 (au 2 jy))(Pt:cP P w K mg base 2 "is_within" 3 (au 3 dX))(PF:cP P w K mg base 1 "is_whole" 1 (au 1 iI)):aO P w K mg base (bU P w) 3 f fd ["vault", "thing"] (dy 2 mV) :=
 F.eO ["vault", "thing", "sizes"] λnd _ _ _ _ _ _ hr O=>by
 unfold nK;walk_at "t"
 walk_at "pp"
 refine(iH ?_ (gT ?_)).pt
 walk_at "pp"
 refine(T.fu.is (by rfl) T.bx (by rfl) ?_)
 walk_at "pp"
 refine(iH ?_ (gT ?_)).pt
 walk_at "pp"
 refine(bN (aY (g:=(fM K 2 (bh (aE 0) (bh (aE 1) fV)))) (ts:=["factor", "size"]) (fs:=["thing"]) (js:=[1]) rfl rfl rfl rfl rfl rfl (.cons rfl .nil) (.cons rfl rfl (by walk_at "l") rfl rfl .nil) (gb (by rfl) T.gW ?_) eI (λ_ _ _ _ _=>(cJ (n:=2) rfl (aB (aL (i:=0) o3) (aB (aL (i:=1) o3) bS)))) (λ_=>ck) bY (λ_ _ _ _ _=>?_)))
 walk_at "pp"
theorem rX(F:bb K "need_locks" "need_locks" (top 62) dv f fd)(T:Txt K mg)(Pn:cP P w K mg base 4 "need_setting" 2 (au 2 cT))(Rr:cP P w K mg base 3 "is_fit" 2 (au 3 nK))(Rt:pf P w K mg base kR "NoLock" "lock"):aO P w K mg base (bU P w) 5 f fd ["vault", "setting", "locks"] (dy 3 fk) :=
 F.eO ["vault", "setting", "locks", "place", "lock"] λnd _ _ _ _ _ _ hr O=>by
 unfold fj;walk_at "t"
 walk_at "pp"
 refine(cL (g:=(fM K 2 (bh (aE 3) (bh (aE 4) fV)))) O rfl (kh (by rfl) T.cN ?_) ia (cJ (n:=2) rfl (aB (aL (i:=3) nd) (aB (aL (i:=4) nd) bS))) ck ?_)
 walk_at "pp"
theorem pJ:((["lever"]:List Str)++(["locks"]:List Str)).Nodup:=by decide +kernel
theorem pz:((["lock"]:List Str)++([]:List Str)).Nodup:=by decide +kernel
theorem rY(F:bb K "lock_vault" "lock_vault" (top 65) dv f fd)(T:Txt K mg)(Pm:jr P w K mg base aw 1 "levers" 1 (au 1 bZ))(Qh:cP P w K mg base 2 "turns_of" 2 (au 2 iJ))(PM:tZ P w K mg base aw 4 "Vault" 4 [.da] gz):aO P w K mg base (bU P w) 6 f fd ["vault", "locks"] (dy 2 e_) :=
 F.eO ["vault", "locks"] λnd _ _ _ _ _ _ hr O=>by
 unfold fG;walk_at "t"
 walk_at "pp"
 refine(bN (aY (g:=(aE 0)) (ts:=["lock"]) (fs:=[]) (js:=[]) (cl:=[]) rfl rfl rfl rfl rfl rfl .nil .nil (cS ?_) bX (λ_ _ _ _ _=>(aL (i:=0) pz)) (λ_=>bf) aX (λ_ _ _ _ _=>?_)))
 walk_at "pp"
 refine(bN (aY (g:=(aE 0)) (ts:=["lever"]) (fs:=["locks"]) (js:=[1]) rfl rfl rfl rfl rfl rfl (.cons rfl .nil) (.cons rfl rfl (by walk_at "l") rfl rfl .nil) (cS ?_) bX (λ_ _ _ _ _=>(aL (i:=0) pJ)) (λ_=>bf) aX (λ_ _ _ _ _=>?_)))
 walk_at "pp"
theorem uR(F:bb K "shows" "Bar.shows" (inClass (top 43) 1) dv f fd)(T:Txt K mg)(Qq:cP P w K mg base 5 "between" 3 (au 3 ju))(PQ:cP P w K mg base 3 "is_setting" 2 (au 3 cK))(P8:cP P w K mg base 6 "weighs_no_lever" 2 (au 2 dU))(Qt:cP P w K mg base 5 "weigh" 3 (au 5 lq)):aO P w K mg base (bU P w) 7 f fd ["self", "vault", "one", "other"] (dy 4 eh) :=
 F.eO ["self", "vault", "one", "other", "difference"] λnd _ _ _ _ _ _ hr O=>by
 unfold gH;walk_at "t"
 walk_at "pp"
 refine(iH ?_ (gT ?_)).pt
 walk_at "pp"
theorem jj:cv ["self", "vault", "sizes", "made_rows", "idle_rows", "lever", "taken"] ["self", "vault"] (a_ (inClass (top 53) 0)):=.of
theorem pA:((["size"]:List Str)++(["vault"]:List Str)).Nodup:=by decide +kernel
theorem kv:((["dial", "made"]:List Str)++(["sizes", "made_rows"]:List Str)).Nodup:=by decide +kernel
theorem sy(F:bb K "__init__" "Rungs.__init__" (inClass (top 53) 0) dv f fd)(T:Txt K mg)(Pg:jr P w K mg base aw 1 "sizes" 1 (au 1 bG))(PJ:cP P w K mg base 2 "nought" 1 (au 1 iG))(Qi:cP P w K mg base 2 "unpulled" 2 (au 2 iP))(Pm:jr P w K mg base aw 1 "levers" 1 (au 1 bZ))(QC:cP P w K mg base 2 "pulled_once" 2 (au 3 gA))(Q9:cP P w K mg base 3 "taken_in" 3 (au 9 j8))(Qf:cP P w K mg base 2 "in_spans" 2 (au 4 iK))(Qr:cP P w K mg base 3 "lowered" 4 (au 6 jK)):aO P w K mg base (bU P w) 4 f fd ["self", "vault"] (BG 2 az iW) :=
 F.Kx jj (by decide) λ_ _ _ _ _ _ hr O=>by
 unfold jW;have:=jj.nd;have T2:=T;cases T2
 walk_at "pp"
 refine(bN (aY (g:=(aE 0)) (ts:=["size"]) (fs:=["vault"]) (js:=[1]) rfl rfl rfl rfl rfl rfl (.cons rfl .nil) (.cons rfl rfl (by walk_at "l") rfl rfl .nil) (cS ?_) bX (λ_ _ _ _ _=>(aL (i:=0) pA)) (λ_=>bf) aX (λ_ _ _ _ _=>?_)))
 walk_at "pp"
 refine(cL (g:=(aE 5)) O rfl (fL (by rfl) T.eT ?_) iz (aL (i:=5) jj.nd) bf ?_)
 walk_at "pp"
 refine(zv 4 ?_)
 walk_at "pp"
 refine(fZ (i:=0) rfl (by first | exact .inl rfl | exact .inr (.inl rfl)) T.pY T.mh ?_)
 walk_at "pp"
 refine(fZ (i:=0) rfl (by first | exact .inl rfl | exact .inr (.inl rfl)) T.pY T.jb ?_)
 walk_at "pp"
 refine(bN (aY (g:=(fM K 2 (bh (aE 0) (bh (aE 1) fV)))) (ts:=["dial", "made"]) (fs:=["sizes", "made_rows"]) (js:=[2,3]) rfl rfl rfl rfl rfl rfl (.cons rfl (.cons rfl .nil)) (.cons rfl rfl (by walk_at "l") rfl rfl (.cons rfl rfl (by walk_at "l") rfl rfl .nil)) (kh (by rfl) T.cN ?_) ia (λ_ _ _ _ _=>(cJ (n:=2) rfl (aB (aL (i:=0) kv) (aB (aL (i:=1) kv) bS)))) (λ_=>ck) bY (λ_ _ _ _ _=>?_)))
 walk_at "pp"
 refine(fZ (i:=0) rfl (by first | exact .inl rfl | exact .inr (.inl rfl)) T.pY T.ja ?_)
 walk_at "pp"
theorem kC(F:bb K "brought_down" "Rungs.brought_down" (inClass (top 53) 5) dv f fd)(T:Txt K mg)(Pn:cP P w K mg base 4 "need_setting" 2 (au 2 cT))(Qi:cP P w K mg base 2 "unpulled" 2 (au 2 iP))(Pg:jr P w K mg base aw 1 "sizes" 1 (au 1 bG))(Qr:cP P w K mg base 3 "lowered" 4 (au 6 jK)):aO P w K mg base (bU P w) 5 f fd ["self", "setting"] (dy 2 bP) :=
 F.eO ["self", "setting"] λnd _ _ _ _ _ _ hr O=>by
 unfold cz;walk_at "t"
 walk_at "pp"
theorem rf(F:bb K "least" "Rungs.least" (inClass (top 53) 6) dv f fd)(T:Txt K mg)(Pp:jr P w K mg base az 5 "brought_down" 2 (au 2 cz)):aO P w K mg base (bU P w) 6 f fd ["self", "setting"] (dy 2 gD) :=
 F.eO ["self", "setting"] λnd _ _ _ _ _ _ hr O=>by
 unfold gy;walk_at "t"
 walk_at "pp"
theorem lX:((["times"]:List Str)++([]:List Str)).Nodup:=by decide +kernel
theorem mW(F:bb K "pulls_to" "Rungs.pulls_to" (inClass (top 53) 7) dv f fd)(T:Txt K mg)(Pp:jr P w K mg base az 5 "brought_down" 2 (au 2 cz))(PJ:cP P w K mg base 2 "nought" 1 (au 1 iG))(Qf:cP P w K mg base 2 "in_spans" 2 (au 4 iK)):aO P w K mg base (bU P w) 6 f fd ["self", "setting"] (dy 2 cQ) :=
 F.eO ["self", "setting", "made"] λnd _ _ _ _ _ _ hr O=>by
 unfold dm;walk_at "t"
 walk_at "pp"
 refine(bN (aY (g:=(aE 0)) (ts:=["times"]) (fs:=[]) (js:=[]) (cl:=[]) rfl rfl rfl rfl rfl rfl .nil .nil (cS ?_) bX (λ_ _ _ _ _=>(aL (i:=0) lX)) (λ_=>bf) aX (λ_ _ _ _ _=>?_)))
 walk_at "pp"
theorem fK:((["size", "step"]:List Str)++([]:List Str)).Nodup:=by decide +kernel
theorem l4(F:bb K "weights_at" "Rungs.weights_at" (inClass (top 53) 8) dv f fd)(T:Txt K mg)(Pg:jr P w K mg base aw 1 "sizes" 1 (au 1 bG))(Pt:cP P w K mg base 2 "is_within" 3 (au 3 dX))(QO:pf P w K mg base gN "NoDial" "dial")(Qx:jr P w K mg base az 2 "steps" 1 (au 2 gc))(Qt:cP P w K mg base 5 "weigh" 3 (au 5 lq))(PB:jr P w K mg base aw 1 "around" 1 (au 1 eE)):aO P w K mg base (bU P w) 6 f fd ["self", "dial"] (dy 2 dM) :=
 F.eO ["self", "dial", "sizes", "fills", "weights", "ahead", "weighed", "share"] λnd _ _ _ _ _ _ hr O=>by
 unfold dH;walk_at "t"
 walk_at "pp"
 refine(j7 (i:=3) (g:=(fM K 2 (bh (aE 0) (bh (aE 1) fV)))) (ts:=["size", "step"]) (fs:=[]) (js:=[]) (cl:=[]) rfl rfl rfl rfl rfl rfl .nil .nil (gb (by rfl) T.gW ?_) eI (λ_ _ _ _ _=>(cJ (n:=2) rfl (aB (aL (i:=0) fK) (aB (aL (i:=1) fK) bS)))) (λ_=>ck) bY (λ_ _ _ _ _=>?_) nd rfl (by walk_at "l"))
 walk_at "pp"
 refine(J5 ?_ ?_)
 walk_at "pp"
 refine(Ha (i:=4) rfl (by first | exact .inl rfl | exact .inr (.inl rfl)) ?_ ?_)
 walk_at "pp"
 refine(cL (g:=(aE 5)) O rfl (tW (by rfl) T.eT ?_) xr (aL (i:=5) nd) bf ?_)
 walk_at "pp"
 refine(zv 4 ?_)
 walk_at "pp"
 refine(Ha (i:=4) rfl (by first | exact .inl rfl | exact .inr (.inl rfl)) ?_ ?_)
 walk_at "pp"
theorem uw(F:bb K "bars" "Shut.bars" (inClass (top 67) 2) dv f fd)(T:Txt K mg)(PX:cP P w K mg base 5 "need_locks" 3 (au 5 fj))(PR:cP P w K mg base 6 "lock_vault" 2 (au 2 fG))(Qb:tZ P w K mg base bL 1 "Bar" 2 [] kx)(QR:jr P w K mg base bL 7 "shows" 4 (au 5 gH))(Qj:cP P w K mg base 3 "wants_of" 2 (au 3 iR))(PJ:cP P w K mg base 2 "nought" 1 (au 1 iG)):aO P w K mg base (bU P w) 8 f fd ["self", "vault", "setting", "locks"] (dy 4 cy) :=
 F.eO ["self", "vault", "setting", "locks", "dials"] λnd _ _ _ _ _ _ hr O=>by
 unfold gF;walk_at "t"
 walk_at "pp"
theorem Ci(F:bb K "bring" "bring" (top 55) dv f fd)(T:Txt K mg)(Qq:cP P w K mg base 5 "between" 3 (au 3 ju))(QF:tZ P w K mg base az 4 "Rungs" 2 [] iW)(P_:jr P w K mg base az 6 "pulls_to" 2 (au 3 dm))(Qc:tZ P w K mg base bT 1 "Way" 2 [] ky)(P1:jr P w K mg base az 6 "weights_at" 2 (au 8 dH))(Qw:jr P w K mg base az 6 "least" 2 (au 2 gy))(Qo:cP P w K mg base 1 "first_turned" 1 (au 1 fc))(Qb:tZ P w K mg base bL 1 "Bar" 2 [] kx):aO P w K mg base (bU P w) 7 f fd ["vault", "one", "other"] (dy 3 lP) :=
 F.eO ["vault", "one", "other", "difference", "rungs", "pulls"] λnd _ _ _ _ _ _ hr O=>by
 unfold mQ;walk_at "t"
 walk_at "pp"
theorem vG(F:bb K "open_from" "open_from" (top 66) dv f fd)(T:Txt K mg)(PX:cP P w K mg base 5 "need_locks" 3 (au 5 fj))(Pm:jr P w K mg base aw 1 "levers" 1 (au 1 bZ))(Qc:tZ P w K mg base bT 1 "Way" 2 [] ky)(PR:cP P w K mg base 6 "lock_vault" 2 (au 2 fG))(Qj:cP P w K mg base 3 "wants_of" 2 (au 3 iR))(PJ:cP P w K mg base 2 "nought" 1 (au 1 iG))(RH:cP P w K mg base 7 "bring" 3 (au 6 mQ))(PN:jr P w K mg base bT 1 "brings" 1 (au 1 g9))(PL:jr P w K mg base bL 1 "brings" 1 (au 1 dq))(PH:jr P w K mg base aT 1 "brings" 1 (au 1 dq))(P5:tZ P w K mg base aT 1 "Shut" 2 [] gS):aO P w K mg base (bU P w) 8 f fd ["vault", "setting", "locks"] (dy 3 cO) :=
 F.eO ["vault", "setting", "locks", "dials", "paper"] λnd _ _ _ _ _ _ hr O=>by
 unfold e6;walk_at "t"
 walk_at "pp"
theorem pb:((["_law_row"]:List Str)++([]:List Str)).Nodup:=by decide +kernel
theorem pG:((["_law_row"]:List Str)++([]:List Str)).Nodup:=by decide +kernel
theorem sL(F:bb K "_law_paper" "_law_paper" (top 83) dv f fd)(T:Txt K mg)(P2:tZ P w K mg base aQ 1 "Lock" 4 [] fu)(QX:cP P w K mg base 8 "open_from" 3 (au 5 e6))(QT:jr P w K mg base bT 1 "words" 1 (au 1 i9))(QS:jr P w K mg base bL 1 "words" 1 (au 1 lh))(QG:jr P w K mg base aT 1 "words" 1 (au 1 h_))(PN:jr P w K mg base bT 1 "brings" 1 (au 1 g9))(PL:jr P w K mg base bL 1 "brings" 1 (au 1 dq))(PH:jr P w K mg base aT 1 "brings" 1 (au 1 dq))(Qd:cP P w K mg base 1 "_law_led" 4 (au 7 iC))(Qe:cP P w K mg base 2 "_law_met" 2 (au 2 iA))(P6:cP P w K mg base 4 "_law_bars" 4 (au 8 dD))(P4:jr P w K mg base aT 8 "bars" 4 (au 5 gF)):aO P w K mg base (bU P w) 9 f fd ["_law_vault", "_law_sizes_here", "_law_levers", "_law_setting", "_law_locks"] (dy 5 cH) :=
 F.eO ["_law_vault", "_law_sizes_here", "_law_levers", "_law_setting", "_law_locks", "_law_paper_here", "_law_pulls", "_law_good"] λnd _ _ _ _ _ _ hr O=>by
 unfold fb;walk_at "t"
 walk_at "pp"
 refine(bN (aY (g:=(aE 0)) (ts:=["_law_row"]) (fs:=[]) (js:=[]) (cl:=[]) rfl rfl rfl rfl rfl rfl .nil .nil (cS ?_) bX (λ_ _ _ _ _=>(aL (i:=0) pb)) (λ_=>bf) aX (λ_ _ _ _ _=>?_)))
 walk_at "pp"
 refine(T.ky.is (by rfl) T.bx (by rfl) ?_)
 walk_at "pp"
 refine(iH ?_ (iH ?_ (gT ?_))).pt
 walk_at "pp"
 refine(kb (T := "tuple") (by rfl) T.bx (fe (v:=.ty "tuple") (by rfl) T.mU kO rfl) (by decide) j0 j0 ?_)
 walk_at "pp"
 refine(iH ?_ (iH ?_ (gT ?_))).pt
 walk_at "pp"
 refine(T.gS.is (by rfl) T.bx (by rfl) ?_)
 walk_at "pp"
 refine(zh ?_ (x_ ?_))
 walk_at "pp"
 refine(bN (aY (g:=(aE 0)) (ts:=["_law_row"]) (fs:=[]) (js:=[]) (cl:=[]) rfl rfl rfl rfl rfl rfl .nil .nil (cS ?_) bX (λ_ _ _ _ _=>(aL (i:=0) pG)) (λ_=>bf) aX (λ_ _ _ _ _=>?_)))
 walk_at "pp"
theorem jD:((["_law_k", "_law_row"]:List Str)++(["_law_cell_here"]:List Str)).Nodup:=by decide +kernel
theorem nY:((["_law_row"]:List Str)++([]:List Str)).Nodup:=by decide +kernel
theorem rA(F:bb K "_law_others" "_law_others" (top 84) dv f fd)(T:Txt K mg)(Pq:cP P w K mg base 1 "_law_mix" 2 (au 3 eC))(P5:tZ P w K mg base aT 1 "Shut" 2 [] gS)(P4:jr P w K mg base aT 8 "bars" 4 (au 5 gF))(P2:tZ P w K mg base aQ 1 "Lock" 4 [] fu)(P6:cP P w K mg base 4 "_law_bars" 4 (au 8 dD)):aO P w K mg base (bU P w) 9 f fd ["_law_cell_here", "_law_vault", "_law_levers", "_law_setting", "_law_locks"] (dy 5 gi) :=
 F.eO ["_law_cell_here", "_law_vault", "_law_levers", "_law_setting", "_law_locks", "_law_shares", "_law_at", "_law_great", "_law_some", "_law_found"] λnd _ _ _ _ _ _ hr O=>by
 unfold gC;walk_at "t"
 walk_at "pp"
 refine(bN (aY (g:=(fM K 2 (bh (aE 0) (bh (aE 1) fV)))) (ts:=["_law_k", "_law_row"]) (fs:=["_law_cell_here"]) (js:=[0]) rfl rfl rfl rfl rfl rfl (.cons rfl .nil) (.cons rfl rfl (by walk_at "l") rfl rfl .nil) (kh (by rfl) T.cN ?_) ia (λ_ _ _ _ _=>(cJ (n:=2) rfl (aB (aL (i:=0) jD) (aB (aL (i:=1) jD) bS)))) (λ_=>ck) bY (λ_ _ _ _ _=>?_)))
 walk_at "pp"
 refine(jC ?_ u4 (jX ?_))
 walk_at "pp"
 refine(jC ?_ (jX ?_) u4)
 walk_at "pp"
 refine(cL (g:=(aE 8)) O rfl (cS ?_) bX (aL (i:=8) nd) bf ?_)
 walk_at "pp"
 refine(jC ?_ (jX ?_) u4)
 walk_at "pp"
 refine(bN (aY (g:=(aE 0)) (ts:=["_law_row"]) (fs:=[]) (js:=[]) (cl:=[]) rfl rfl rfl rfl rfl rfl .nil .nil (cS ?_) bX (λ_ _ _ _ _=>(aL (i:=0) nY)) (λ_=>bf) aX (λ_ _ _ _ _=>?_)))
 walk_at "pp"
 refine(iH ?_ (gT ?_)).pt
 walk_at "pp"
 refine(kb (T := "bool") (by rfl) T.bx (fe (v:=.ty "bool") (by rfl) T.vk vc rfl) (by decide) j0 j0 ?_)
 walk_at "pp"
theorem CA:((["_law_cell_here"]:List Str)++(["_law_sizes_here"]:List Str)).Nodup:=by decide +kernel
theorem xn:((["_law_k", "_law_size_here"]:List Str)++(["_law_first"]:List Str)).Nodup:=by decide +kernel
theorem BW:((["_law_k"]:List Str)++(["_law_script", "_law_sizes_here", "_law_target"]:List Str)).Nodup:=by decide +kernel
theorem BL:((["_law_k"]:List Str)++(["_law_cell_here"]:List Str)).Nodup:=by decide +kernel
theorem Il(F:bb K "law" "law" (top 85) dv f fd)(T:Txt K mg)(QU:cP P w K mg base 1 "_law_cell" 2 (au 2 iY))(QK:cP P w K mg base 2 "_law_sizes" 1 (au 2 hX))(QH:cP P w K mg base 2 "_law_lever" 2 (au 7 hG))(PM:tZ P w K mg base aw 4 "Vault" 4 [.da] gz)(Pq:cP P w K mg base 1 "_law_mix" 2 (au 3 eC))(QV:cP P w K mg base 2 "_law_lock" 3 (au 11 iU))(Pu:cP P w K mg base 1 "_law_digits" 2 (au 4 dQ))(Qd:cP P w K mg base 1 "_law_led" 4 (au 7 iC))(QI:cP P w K mg base 9 "_law_paper" 5 (au 8 fb))(Qe:cP P w K mg base 2 "_law_met" 2 (au 2 iA))(Qy:cP P w K mg base 9 "_law_others" 5 (au 10 gC)):aO P w K mg base (bU P w) 10 f fd ["_law_script"] (dy 1 tU) :=
 F.eO ["_law_script", "_law_first", "_law_sizes_here", "_law_levers", "_law_vault", "_law_target", "_law_locks", "_law_cell_here", "_law_start", "_law_pulls", "_law_found"] λnd _ _ _ _ _ _ hr O=>by
 unfold Ep;walk_at "t"
 walk_at "pp"
 refine(j7 (i:=3) (g:=(aE 0)) (ts:=["_law_cell_here"]) (fs:=["_law_sizes_here"]) (js:=[2]) rfl rfl rfl rfl rfl rfl (.cons rfl .nil) (.cons rfl rfl (by walk_at "l") rfl rfl .nil) (cS ?_) bX (λ_ _ _ _ _=>(aL (i:=0) CA)) (λ_=>bf) aX (λ_ _ _ _ _=>?_) nd rfl (by walk_at "l"))
 walk_at "pp"
 refine(jC ?_ (jX ?_) (jX ?_))
 walk_at "pp"
 refine(bN (aY (g:=(fM K 2 (bh (aE 0) (bh (aE 1) fV)))) (ts:=["_law_k", "_law_size_here"]) (fs:=["_law_first"]) (js:=[1]) rfl rfl rfl rfl rfl rfl (.cons rfl .nil) (.cons rfl rfl (by walk_at "l") rfl rfl .nil) (kh (by rfl) T.cN ?_) ia (λ_ _ _ _ _=>(cJ (n:=2) rfl (aB (aL (i:=0) xn) (aB (aL (i:=1) xn) bS)))) (λ_=>ck) bY (λ_ _ _ _ _=>?_)))
 walk_at "pp"
 refine(j7 (i:=6) (g:=(aE 0)) (ts:=["_law_k"]) (fs:=["_law_script", "_law_sizes_here", "_law_target"]) (js:=[0,2,5]) rfl rfl rfl rfl rfl rfl (.cons rfl (.cons rfl (.cons rfl .nil))) (.cons rfl rfl (by walk_at "l") rfl rfl (.cons rfl rfl (by walk_at "l") rfl rfl (.cons rfl rfl (by walk_at "l") rfl rfl .nil))) (fL (by rfl) T.eT ?_) iz (λ_ _ _ _ _=>(aL (i:=0) BW)) (λ_=>bf) aX (λ_ _ _ _ _=>?_) nd rfl (by walk_at "l"))
 walk_at "pp"
 refine(cL (g:=(aE 7)) O rfl (cS ?_) bX (aL (i:=7) nd) bf ?_)
 walk_at "pp"
 refine(jC ?_ (jX ?_) (jX ?_))
 walk_at "pp"
 refine(j7 (i:=9) (g:=(aE 0)) (ts:=["_law_k"]) (fs:=["_law_cell_here"]) (js:=[7]) rfl rfl rfl rfl rfl rfl (.cons rfl .nil) (.cons rfl rfl (by walk_at "l") rfl rfl .nil) (fL (by rfl) T.eT ?_) iz (λ_ _ _ _ _=>(aL (i:=0) BL)) (λ_=>bf) aX (λ_ _ _ _ _=>?_) nd rfl (by walk_at "l"))
 walk_at "pp"
 refine(iH ?_ (gT ?_)).pt
 walk_at "pp"
 refine(zm ?_ (zm ?_ (zU ?_))).pt
 walk_at "pp"
 refine(zm ?_ (zU ?_)).pt
 walk_at "pp"
end xS
namespace xS
open PySem L2 PyProof.Rows
open PySem.W (nsIn findIn codeIn keepIn isFn mroIn specialIn takesIn hasDictIn typeIn plainGet plainOver makesIn mg_of mg_none_of fnOf excIn clsIn)
abbrev κ(w:World):PySem.W.Frag:=HD.K w.params
variable(w:World)
abbrev Kt:Value:=HD.st "dialvault.wholes" 418
abbrev Ab:Value:=HD.st "dialvault.vault" 466
abbrev xR:Value:=HD.st "dialvault.rungs" 795
abbrev EK:Value:=HD.st "dialvault.locks" 981
abbrev w8:Value:=HD.st "law_dialvault_k58_whole_locks_opened_or_shut" 1111
abbrev md5:Value:=HD.st "dialvault.papers" 645
abbrev Mz:Value:=HD.st "dialvault.errors" 194
def jh:FuncData:=fnOf "__init__" "Vault.__init__" (i6 (inClass (top 24) 0)) (fD (inClass (top 24) 0)) (a_ (inClass (top 24) 0)) (.ref 246) .none .none Ab none (.ref 250) .none
theorem nB:bb (κ w) "__init__" "Vault.__init__" (inClass (top 24) 0) (.ref 246) 251 jh:=.of (by kernel_rfl) (by kernel_rfl) (by kernel_rfl)
def kQ:FuncData:=vM "__init__" "Way.__init__" (inClass (top 42) 0) md5 429
theorem yN:bb (κ w) "__init__" "Way.__init__" (inClass (top 42) 0) .none 430 kQ:=.of (by kernel_rfl) (by kernel_rfl) (by kernel_rfl)
theorem yR:Binds (κ w) kQ ["self", "pulls"] []:=Binds.all (GQ λ_ _=>rfl)
def k6:FuncData:=vM "__init__" "Bar.__init__" (inClass (top 43) 0) md5 469
theorem yy:bb (κ w) "__init__" "Bar.__init__" (inClass (top 43) 0) .none 470 k6:=.of (by kernel_rfl) (by kernel_rfl) (by kernel_rfl)
theorem ya:Binds (κ w) k6 ["self", "weights"] []:=Binds.all (GQ λ_ _=>rfl)
def j9:FuncData:=vM "__init__" "Lock.__init__" (inClass (top 60) 0) EK 637
theorem xA:bb (κ w) "__init__" "Lock.__init__" (inClass (top 60) 0) .none 638 j9:=.of (by kernel_rfl) (by kernel_rfl) (by kernel_rfl)
theorem wK:Binds (κ w) j9 ["self", "factors", "number", "rest"] []:=Binds.all (OR λ_ _ _ _=>rfl)
def j_:FuncData:=vM "__init__" "Shut.__init__" (inClass (top 67) 0) EK 692
theorem xo:bb (κ w) "__init__" "Shut.__init__" (inClass (top 67) 0) .none 693 j_:=.of (by kernel_rfl) (by kernel_rfl) (by kernel_rfl)
theorem vR:Binds (κ w) j_ ["self", "shares"] []:=Binds.all (GQ λ_ _=>rfl)
def jn:FuncData:=vM "__init__" "Rungs.__init__" (inClass (top 53) 0) xR 554
theorem vd:bb (κ w) "__init__" "Rungs.__init__" (inClass (top 53) 0) .none 555 jn:=.of (by kernel_rfl) (by kernel_rfl) (by kernel_rfl)
theorem u6:Binds (κ w) jn ["self", "vault"] []:=Binds.all (GQ λ_ _=>rfl)
def xY:FuncData:=vM "law" "law" (top 85) w8 810
theorem LP:bb (κ w) "law" "law" (top 85) .none 811 xY:=.of (by kernel_rfl) (by kernel_rfl) (by kernel_rfl)
theorem yK:gU (κ w) sU:=⟨(by kernel_rfl),(by kernel_rfl),(by kernel_rfl),(by kernel_rfl),(by kernel_rfl),(by kernel_rfl),(by kernel_rfl),(by kernel_rfl),(by kernel_rfl)⟩
theorem uF:gU (κ w) kY:=⟨(by kernel_rfl),(by kernel_rfl),(by kernel_rfl),(by kernel_rfl),(by kernel_rfl),(by kernel_rfl),(by kernel_rfl),(by kernel_rfl),(by kernel_rfl)⟩
theorem yE:gU (κ w) jw:=⟨(by kernel_rfl),(by kernel_rfl),(by kernel_rfl),(by kernel_rfl),(by kernel_rfl),(by kernel_rfl),(by kernel_rfl),(by kernel_rfl),(by kernel_rfl)⟩
theorem tM:gU (κ w) gN:=⟨(by kernel_rfl),(by kernel_rfl),(by kernel_rfl),(by kernel_rfl),(by kernel_rfl),(by kernel_rfl),(by kernel_rfl),(by kernel_rfl),(by kernel_rfl)⟩
def iZ:FuncData:=vM "__init__" "NoDial.__init__" (inClass (top 3) 0) Mz 54
theorem N5:(κ w).lookup 55=some ⟨.type "function", none,.func iZ,⟨[]⟩⟩:=by kernel_rfl
theorem NM:codeIn (κ w) (.ref 54) "NoDial.__init__" = true:=by kernel_rfl
theorem xW:Binds (κ w) iZ ["self", "dial"] []:=Binds.all (GQ λ_ _=>rfl)
theorem ye:cv ["self", "dial"] ["self", "dial"] (a_ (inClass (top 3) 0)):=.of
theorem N_:((clsIn (κ w) 65).any λcd=>gk cd.mro)=true:=by kernel_rfl
theorem Oh:findIn (κ w) (.ref 65) "dial" = some none:=by kernel_rfl
theorem x9{P:Program}{w:World}{mg:Str->Option Value}{base:Heap}:aO P w (κ w) mg base (bU P w) 1 55 iZ ["self", "dial"] (yz (κ w) gN "dial") :=
 mT (n0 := "self") (n1 := "dial") (fl := "dial") (N5 w) (NM w) ye (tM w) (N_ w) (Oh w) (by first | exact .inl rfl | exact .inr (.inl rfl)) (by first | exact .inl rfl | exact .inr (.inl rfl)) (by decide) (by decide) (by decide) (by decide) (λ_=>rfl)
theorem qP:gU (κ w) jz:=⟨(by kernel_rfl),(by kernel_rfl),(by kernel_rfl),(by kernel_rfl),(by kernel_rfl),(by kernel_rfl),(by kernel_rfl),(by kernel_rfl),(by kernel_rfl)⟩
def g_:FuncData:=vM "__init__" "NoLever.__init__" (inClass (top 4) 0) Mz 80
theorem Ob:(κ w).lookup 81=some ⟨.type "function", none,.func g_,⟨[]⟩⟩:=by kernel_rfl
theorem MM:codeIn (κ w) (.ref 80) "NoLever.__init__" = true:=by kernel_rfl
theorem wt:Binds (κ w) g_ ["self", "lever"] []:=Binds.all (GQ λ_ _=>rfl)
theorem vV:cv ["self", "lever"] ["self", "lever"] (a_ (inClass (top 4) 0)):=.of
theorem Nu:((clsIn (κ w) 91).any λcd=>gk cd.mro)=true:=by kernel_rfl
theorem Nz:findIn (κ w) (.ref 91) "lever" = some none:=by kernel_rfl
theorem xH{P:Program}{w:World}{mg:Str->Option Value}{base:Heap}:aO P w (κ w) mg base (bU P w) 1 81 g_ ["self", "lever"] (yz (κ w) jz "lever") :=
 mT (n0 := "self") (n1 := "lever") (fl := "lever") (Ob w) (MM w) vV (qP w) (Nu w) (Nz w) (by first | exact .inl rfl | exact .inr (.inl rfl)) (by first | exact .inl rfl | exact .inr (.inl rfl)) (by decide) (by decide) (by decide) (by decide) (λ_=>rfl)
theorem tN:gU (κ w) kR:=⟨(by kernel_rfl),(by kernel_rfl),(by kernel_rfl),(by kernel_rfl),(by kernel_rfl),(by kernel_rfl),(by kernel_rfl),(by kernel_rfl),(by kernel_rfl)⟩
def i7:FuncData:=vM "__init__" "NoLock.__init__" (inClass (top 9) 0) Mz 189
theorem MJ:(κ w).lookup 190=some ⟨.type "function", none,.func i7,⟨[]⟩⟩:=by kernel_rfl
theorem Om:codeIn (κ w) (.ref 189) "NoLock.__init__" = true:=by kernel_rfl
theorem yO:Binds (κ w) i7 ["self", "lock"] []:=Binds.all (GQ λ_ _=>rfl)
theorem yL:cv ["self", "lock"] ["self", "lock"] (a_ (inClass (top 9) 0)):=.of
theorem M3:((clsIn (κ w) 200).any λcd=>gk cd.mro)=true:=by kernel_rfl
theorem Nr:findIn (κ w) (.ref 200) "lock" = some none:=by kernel_rfl
theorem yg{P:Program}{w:World}{mg:Str->Option Value}{base:Heap}:aO P w (κ w) mg base (bU P w) 1 190 i7 ["self", "lock"] (yz (κ w) kR "lock") :=
 mT (n0 := "self") (n1 := "lock") (fl := "lock") (MJ w) (Om w) yL (tN w) (M3 w) (Nr w) (by first | exact .inl rfl | exact .inr (.inl rfl)) (by first | exact .inl rfl | exact .inr (.inl rfl)) (by decide) (by decide) (by decide) (by decide) (λ_=>rfl)
theorem qk:gU (κ w) iy:=⟨(by kernel_rfl),(by kernel_rfl),(by kernel_rfl),(by kernel_rfl),(by kernel_rfl),(by kernel_rfl),(by kernel_rfl),(by kernel_rfl),(by kernel_rfl)⟩
def ic:FuncData:=vM "__init__" "NoPrice.__init__" (inClass (top 5) 0) Mz 106
theorem MQ:(κ w).lookup 107=some ⟨.type "function", none,.func ic,⟨[]⟩⟩:=by kernel_rfl
theorem Nc:codeIn (κ w) (.ref 106) "NoPrice.__init__" = true:=by kernel_rfl
theorem xv:Binds (κ w) ic ["self", "lever"] []:=Binds.all (GQ λ_ _=>rfl)
theorem wm:cv ["self", "lever"] ["self", "lever"] (a_ (inClass (top 5) 0)):=.of
theorem Ol:((clsIn (κ w) 117).any λcd=>gk cd.mro)=true:=by kernel_rfl
theorem Ny:findIn (κ w) (.ref 117) "lever" = some none:=by kernel_rfl
theorem wx{P:Program}{w:World}{mg:Str->Option Value}{base:Heap}:aO P w (κ w) mg base (bU P w) 1 107 ic ["self", "lever"] (yz (κ w) iy "lever") :=
 mT (n0 := "self") (n1 := "lever") (fl := "lever") (MQ w) (Nc w) wm (qk w) (Ol w) (Ny w) (by first | exact .inl rfl | exact .inr (.inl rfl)) (by first | exact .inl rfl | exact .inr (.inl rfl)) (by decide) (by decide) (by decide) (by decide) (λ_=>rfl)
theorem nZ:jl (κ w) bL:=⟨(by kernel_rfl),(by kernel_rfl),(by kernel_rfl),(by kernel_rfl)⟩
theorem mZ:jl (κ w) aQ:=⟨(by kernel_rfl),(by kernel_rfl),(by kernel_rfl),(by kernel_rfl)⟩
theorem eQ:jl (κ w) az:=⟨(by kernel_rfl),(by kernel_rfl),(by kernel_rfl),(by kernel_rfl)⟩
theorem lx:jl (κ w) aT:=⟨(by kernel_rfl),(by kernel_rfl),(by kernel_rfl),(by kernel_rfl)⟩
theorem fy:jl (κ w) aw:=⟨(by kernel_rfl),(by kernel_rfl),(by kernel_rfl),(by kernel_rfl)⟩
theorem rg:jl (κ w) bT:=⟨(by kernel_rfl),(by kernel_rfl),(by kernel_rfl),(by kernel_rfl)⟩
theorem KJ:findIn (κ w) (.ref 487) "weights" = some none:=by kernel_rfl
theorem K4:findIn (κ w) (.ref 641) "factors" = some none:=by kernel_rfl
theorem LV:findIn (κ w) (.ref 641) "number" = some none:=by kernel_rfl
theorem KH:findIn (κ w) (.ref 641) "rest" = some none:=by kernel_rfl
theorem Lm:findIn (κ w) (.ref 608) "idle_rows" = some none:=by kernel_rfl
theorem LW:findIn (κ w) (.ref 608) "made_rows" = some none:=by kernel_rfl
theorem Lz:findIn (κ w) (.ref 608) "vault" = some none:=by kernel_rfl
theorem LC:findIn (κ w) (.ref 710) "shares" = some none:=by kernel_rfl
theorem Lh:findIn (κ w) (.ref 282) "dial_sizes" = some none:=by kernel_rfl
theorem K_:findIn (κ w) (.ref 282) "least_round" = some none:=by kernel_rfl
theorem K9:findIn (κ w) (.ref 282) "lever_prices" = some none:=by kernel_rfl
theorem LH:findIn (κ w) (.ref 282) "lever_settings" = some none:=by kernel_rfl
theorem Lf:findIn (κ w) (.ref 454) "pulls" = some none:=by kernel_rfl
theorem N6:nsIn (κ w) mainGlobals "LEAST_NUMBER" = some (some (.int 2 985)):=by kernel_rfl
theorem NF:nsIn (κ w) mainGlobals "LEAST_PRICE" = some (some (.int 1 476)):=by kernel_rfl
theorem NW:nsIn (κ w) mainGlobals "LEAST_SIZE" = some (some (.int 2 470)):=by kernel_rfl
theorem M5:nsIn (κ w) mainGlobals "MOST_DIALS" = some (some (.int 6 468)):=by kernel_rfl
theorem Og:nsIn (κ w) mainGlobals "MOST_LEVERS" = some (some (.int 8 474)):=by kernel_rfl
theorem ML:nsIn (κ w) mainGlobals "MOST_LOCKS" = some (some (.int 6 983)):=by kernel_rfl
theorem NO:nsIn (κ w) mainGlobals "MOST_NUMBER" = some (some (.int 360 987)):=by kernel_rfl
theorem N0:nsIn (κ w) mainGlobals "MOST_PRICE" = some (some (.int 1000 478)):=by kernel_rfl
theorem NR:nsIn (κ w) mainGlobals "MOST_SIZE" = some (some (.int 360 472)):=by kernel_rfl
theorem yr:oB (κ w) bL:=⟨nZ w,(by kernel_rfl),(by kernel_rfl),(by kernel_rfl),(by kernel_rfl)⟩
theorem uW:oB (κ w) aQ:=⟨mZ w,(by kernel_rfl),(by kernel_rfl),(by kernel_rfl),(by kernel_rfl)⟩
theorem qX:oB (κ w) az:=⟨eQ w,(by kernel_rfl),(by kernel_rfl),(by kernel_rfl),(by kernel_rfl)⟩
theorem uj:oB (κ w) aT:=⟨lx w,(by kernel_rfl),(by kernel_rfl),(by kernel_rfl),(by kernel_rfl)⟩
theorem qA:oB (κ w) aw:=⟨fy w,(by kernel_rfl),(by kernel_rfl),(by kernel_rfl),(by kernel_rfl)⟩
theorem yC:oB (κ w) bT:=⟨rg w,(by kernel_rfl),(by kernel_rfl),(by kernel_rfl),(by kernel_rfl)⟩
theorem Np:nsIn (κ w) mainGlobals "Lock" = some (some (.ref 641)):=by kernel_rfl
theorem Nm:(D6.all λa=>PySem.W.kitOne (κ w) (.type a) (.ref aQ)==some false)=true:=by kernel_rfl
theorem Oa:EJ (λC=>PySem.W.kitOne (κ w) (.ref C) (.ref aQ)) ly lJ=true:=by kernel_rfl
theorem Oj:EJ (λC=>PySem.W.kitOne (κ w) (.ref C) (.ref aQ)) pW pN=true:=by kernel_rfl
theorem NH:nsIn (κ w) mainGlobals "Shut" = some (some (.ref 710)):=by kernel_rfl
theorem Oe:(D6.all λa=>PySem.W.kitOne (κ w) (.type a) (.ref aT)==some false)=true:=by kernel_rfl
theorem Nj:EJ (λC=>PySem.W.kitOne (κ w) (.ref C) (.ref aT)) lS lK=true:=by kernel_rfl
theorem M6:EJ (λC=>PySem.W.kitOne (κ w) (.ref C) (.ref aT)) pK pL=true:=by kernel_rfl
theorem NA:nsIn (κ w) mainGlobals "Way" = some (some (.ref 454)):=by kernel_rfl
theorem NY:(D6.all λa=>PySem.W.kitOne (κ w) (.type a) (.ref bT)==some false)=true:=by kernel_rfl
theorem Nx:EJ (λC=>PySem.W.kitOne (κ w) (.ref C) (.ref bT)) jZ jT=true:=by kernel_rfl
theorem Nn:EJ (λC=>PySem.W.kitOne (κ w) (.ref C) (.ref bT)) qa qr=true:=by kernel_rfl
theorem Nb:(κ w).lookup 246=some (HD.tu [.none]):=by kernel_rfl
theorem uq:Binds (κ w) jh ["self", "sizes", "levers", "prices"] [.none]:=(nB w).binds (Nb w) rfl λ_ _ _ _ _ _ us hl=>by obtain⟨a,b,c,rfl⟩:=OA (show _=3 from (by simpa using hl));exact⟨_,rfl,rfl⟩
variable{h:Heap}
theorem txt{w:World}{mg:Str->Option Value}(X:PySem.W.Frag.In (κ w) h)(G:h.Ns mainGlobals mg):Txt (κ w) mg where
 L7:=mg_none_of X G (by kernel_rfl)
 vk:=mg_none_of X G (by kernel_rfl)
 cN:=mg_none_of X G (by kernel_rfl)
 DI:=mg_none_of X G (by kernel_rfl)
 bx:=mg_none_of X G (by kernel_rfl)
 Kz:=mg_none_of X G (by kernel_rfl)
 yU:=mg_none_of X G (by kernel_rfl)
 GW:=mg_none_of X G (by kernel_rfl)
 eT:=mg_none_of X G (by kernel_rfl)
 KY:=mg_none_of X G (by kernel_rfl)
 mU:=mg_none_of X G (by kernel_rfl)
 gW:=mg_none_of X G (by kernel_rfl)
 qQ:=⟨_,mg_of X G (N6 w),⟨_,rfl⟩⟩
 sF:=⟨_,mg_of X G (NF w),⟨_,rfl⟩⟩
 vt:=⟨_,mg_of X G (NW w),⟨_,rfl⟩⟩
 vg:=⟨_,mg_of X G (M5 w),⟨_,rfl⟩⟩
 r_:=⟨_,mg_of X G (Og w),⟨_,rfl⟩⟩
 uY:=⟨_,mg_of X G (ML w),⟨_,rfl⟩⟩
 sD:=⟨_,mg_of X G (NO w),⟨_,rfl⟩⟩
 uf:=⟨_,mg_of X G (N0 w),⟨_,rfl⟩⟩
 wa:=⟨_,mg_of X G (NR w),⟨_,rfl⟩⟩
 GZ:=nZ w
 vy:=mZ w
 pY:=eQ w
 DJ:=lx w
 mK:=fy w
 Hv:=rg w
 AV:=⟨(by kernel_rfl),yK w,(by kernel_rfl),(by kernel_rfl),mg_of X G (by kernel_rfl)⟩
 xI:=⟨(by kernel_rfl),uF w,(by kernel_rfl),(by kernel_rfl),mg_of X G (by kernel_rfl)⟩
 Ar:=⟨(by kernel_rfl),yE w,(by kernel_rfl),(by kernel_rfl),mg_of X G (by kernel_rfl)⟩
 fu:=.of (mg_of X G (Np w)) (Nm w) (Oa w) (Oj w) (vN (uW w) pd) (vN (yr w) (vN (qX w) (vN (uj w) (vN (qA w) (vN (yC w) pd))))) pd pd
 gS:=.of (mg_of X G (NH w)) (Oe w) (Nj w) (M6 w) (vN (uj w) pd) (vN (yr w) (vN (uW w) (vN (qX w) (vN (qA w) (vN (yC w) pd))))) pd pd
 ky:=.of (mg_of X G (NA w)) (NY w) (Nx w) (Nn w) (vN (yC w) pd) (vN (yr w) (vN (uW w) (vN (qX w) (vN (uj w) (vN (qA w) pd))))) pd pd
 l5:=(KJ w)
 kS:=(K4 w)
 me:=(LV w)
 oP:=(KH w)
 ja:=(Lm w)
 jb:=(LW w)
 mh:=(Lz w)
 mf:=(LC w)
 iL:=(Lh w)
 gX:=(K_ w)
 gM:=(K9 w)
 fg:=(LH w)
 oR:=(Lf w)
 uz:=λC h=>by obtain rfl:=eq_of_beq h;exact⟨fy w,(Lh w)⟩
 Be:=λC h=>by obtain rfl:=eq_of_beq h;exact⟨mZ w,(K4 w)⟩
 xB:=λC h=>by obtain rfl:=eq_of_beq h;exact⟨eQ w,(Lm w)⟩
 sq:=λC h=>by obtain rfl:=eq_of_beq h;exact⟨fy w,(K_ w)⟩
 rh:=λC h=>by obtain rfl:=eq_of_beq h;exact⟨fy w,(K9 w)⟩
 n5:=λC h=>by obtain rfl:=eq_of_beq h;exact⟨fy w,(LH w)⟩
 xM:=λC h=>by obtain rfl:=eq_of_beq h;exact⟨eQ w,(LW w)⟩
 Cd:=λC h=>by obtain rfl:=eq_of_beq h;exact⟨mZ w,(LV w)⟩
 F7:=λC h=>by obtain rfl:=eq_of_beq h;exact⟨rg w,(Lf w)⟩
 Jw:=λC h=>by obtain rfl:=eq_of_beq h;exact⟨mZ w,(KH w)⟩
 Cp:=λC h=>by obtain rfl:=eq_of_beq h;exact⟨lx w,(LC w)⟩
 EY:=λC h=>by obtain rfl:=eq_of_beq h;exact⟨eQ w,(Lz w)⟩
 Bp:=λC h=>by obtain rfl:=eq_of_beq h;exact⟨nZ w,(KJ w)⟩
theorem IB{P:Program}{w:World}{mg:Str->Option Value}(X:PySem.W.Frag.In (κ w) h)(G:h.Ns mainGlobals mg)(base:Heap):aO P w (κ w) mg base (bU P w) 10 811 xY ["_law_script"] (dy 1 tU):=by
 have T:=txt X G
 have QO:pf P w (κ w) mg base gN "NoDial" "dial" := ⟨⟨55,iZ,["self", "dial"],(by kernel_rfl),(by kernel_rfl),x9,xW w⟩,tM w,(by kernel_rfl),(by kernel_rfl),mg_of X G (by kernel_rfl)⟩
 have Rj:pf P w (κ w) mg base jz "NoLever" "lever" := ⟨⟨81,g_,["self", "lever"],(by kernel_rfl),(by kernel_rfl),xH,wt w⟩,qP w,(by kernel_rfl),(by kernel_rfl),mg_of X G (by kernel_rfl)⟩
 have Rt:pf P w (κ w) mg base kR "NoLock" "lock" := ⟨⟨190,i7,["self", "lock"],(by kernel_rfl),(by kernel_rfl),yg,yO w⟩,tN w,(by kernel_rfl),(by kernel_rfl),mg_of X G (by kernel_rfl)⟩
 have Rk:pf P w (κ w) mg base iy "NoPrice" "lever" := ⟨⟨107,ic,["self", "lever"],(by kernel_rfl),(by kernel_rfl),wx,xv w⟩,qk w,(by kernel_rfl),(by kernel_rfl),mg_of X G (by kernel_rfl)⟩
 have PF:=gY P w base X G 209 208 Kt λD=>w5 D T
 have Qa:=gY P w base X G 214 213 Kt λD=>Ao D T PF
 have QL:=gY P w base X G 221 220 Kt λD=>Bu D T
 have QA:=gY P w base X G 228 227 Kt λD=>qy D T QL
 have Q_:=gY P w base X G 233 232 Kt λD=>xa D T
 have Qg:=gY P w base X G 238 237 Kt λD=>wb D T
 have Pt:=gY P w base X G 293 292 Ab λD=>vF D T PF
 have QM:=gY P w base X G 300 299 Ab λD=>sH D T QO Pt
 have QB:=gY P w base X G 307 306 Ab λD=>qe D T Qa Rj
 have QN:=gY P w base X G 314 313 Ab λD=>r9 D T Rk Pt
 have Qs:=gY P w base X G 319 318 Ab λD=>Cc D T
 have Q5:=gY P w base X G 494 493 xR λD=>DB D T
 have PU:=gY P w base X G 501 500 xR λD=>sA D T Q5 Qs
 have Py:=gY P w base X G 522 521 xR λD=>uQ D T
 have Q9:=gY P w base X G 529 528 xR λD=>wo D T Py QL PU
 have Qr:=gY P w base X G 536 535 xR λD=>yu D T Py PU
 have Qf:=gY P w base X G 543 542 xR λD=>xG D T Q5
 have Qo:=gY P w base X G 617 616 xR λD=>pF D T
 have Qh:=gY P w base X G 662 661 EK λD=>v5 D T Qg
 have Qj:=gY P w base X G 667 666 EK λD=>v8 D T Qh
 have QU:=gY P w base X G 719 718 w8 λD=>uI D T
 have Pq:=gY P w base X G 726 725 w8 λD=>xm D T
 have Pu:=gY P w base X G 733 732 w8 λD=>qi D T
 have QW:=gY P w base X G 740 739 w8 λD=>vm D T
 have QK:=gY P w base X G 745 744 w8 λD=>sx D T Pu Pq QW
 have QH:=gY P w base X G 752 751 w8 λD=>sJ D T Pu Pq
 have PC:=gY P w base X G 759 758 w8 λD=>ph D T
 have QV:=gY P w base X G 764 763 w8 λD=>uh D T PC Pq
 have P7:=gY P w base X G 769 768 w8 λD=>ub D T
 have Qe:=gY P w base X G 774 773 w8 λD=>wZ D T P7
 have QJ:=gY P w base X G 781 780 w8 λD=>se D T PC
 have Qz:=gY P w base X G 786 785 w8 λD=>qO D T QJ
 have P6:=gY P w base X G 791 790 w8 λD=>ux D T P7 Qz
 have Qd:=gY P w base X G 796 795 w8 λD=>xg D T
 have PM:tZ P w (κ w) mg base aw 4 "Vault" 4 [.da] gz:=⟨⟨251,jh,["self", "sizes", "levers", "prices"],[.none],[.da],mg_of X G (by kernel_rfl),⟨(by kernel_rfl),(by kernel_rfl),(by kernel_rfl),(by kernel_rfl)⟩,uq w,(.cons rfl .nil),λ_=>(.cons .da .nil),sP (nB w) T QM QB Qs QN QA⟩⟩
 have Pg:=xT P w base (fy w) 258 257 Ab λD=>qL D T
 have Pm:=xT P w base (fy w) 265 264 Ab λD=>pk D T
 have PB:=xT P w base (fy w) 279 278 Ab λD=>o6 D T
 have PL:=xT P w base (nZ w) 395 394 md5 λD=>kq D T
 have PH:=xT P w base (lx w) 395 394 md5 λD=>kq D T
 have Qc:tZ P w (κ w) mg base bT 1 "Way" 2 [] ky:=⟨⟨430,kQ,["self", "pulls"],[],[],mg_of X G (by kernel_rfl),⟨(by kernel_rfl),(by kernel_rfl),(by kernel_rfl),(by kernel_rfl)⟩,yR w,.nil,λ_=>.nil,wH (yN w) T ⟩⟩
 have PN:=xT P w base (rg w) 437 436 md5 λD=>sj D T
 have QT:=xT P w base (rg w) 451 450 md5 λD=>u9 D T
 have Qb:tZ P w (κ w) mg base bL 1 "Bar" 2 [] kx:=⟨⟨470,k6,["self", "weights"],[],[],mg_of X G (by kernel_rfl),⟨(by kernel_rfl),(by kernel_rfl),(by kernel_rfl),(by kernel_rfl)⟩,ya w,.nil,λ_=>.nil,vT (yy w) T ⟩⟩
 have QS:=xT P w base (nZ w) 484 483 md5 λD=>vq D T
 have Qx:=xT P w base (eQ w) 560 559 xR λD=>p6 D T Pg Py
 have P2:tZ P w (κ w) mg base aQ 1 "Lock" 4 [] fu:=⟨⟨638,j9,["self", "factors", "number", "rest"],[],[],mg_of X G (by kernel_rfl),⟨(by kernel_rfl),(by kernel_rfl),(by kernel_rfl),(by kernel_rfl)⟩,wK w,.nil,λ_=>.nil,uE (xA w) T ⟩⟩
 have P5:tZ P w (κ w) mg base aT 1 "Shut" 2 [] gS:=⟨⟨693,j_,["self", "shares"],[],[],mg_of X G (by kernel_rfl),⟨(by kernel_rfl),(by kernel_rfl),(by kernel_rfl),(by kernel_rfl)⟩,vR w,.nil,λ_=>.nil,uc (xo w) T ⟩⟩
 have QG:=xT P w base (lx w) 700 699 EK λD=>rW D T
 have PJ:=gY P w base X G 326 325 Ab λD=>A9 D T Pg
 have PQ:=gY P w base X G 331 330 Ab λD=>sI D T Pg Qa
 have Pn:=gY P w base X G 345 344 Ab λD=>pH D T PQ
 have RG:=gY P w base X G 357 356 Ab λD=>DO D T Pg Qs
 have Qq:=gY P w base X G 371 370 Ab λD=>zj D T Pn RG
 have Qt:=gY P w base X G 376 375 md5 λD=>CS D T Pn PB Pg Qg
 have P8:=gY P w base X G 381 380 md5 λD=>mE D T Pm Qt
 have Qi:=gY P w base X G 508 507 xR λD=>xj D T Pm
 have QC:=gY P w base X G 515 514 xR λD=>ql D T Pm Q_
 have Rr:=gY P w base X G 650 649 EK λD=>Av D T Pg Qa Pt PF
 have PX:=gY P w base X G 657 656 EK λD=>rX D T Pn Rr Rt
 have PR:=gY P w base X G 672 671 EK λD=>rY D T Pm Qh PM
 have QR:=xT P w base (nZ w) 477 476 md5 λD=>uR D T Qq PQ P8 Qt
 have QF:tZ P w (κ w) mg base az 4 "Rungs" 2 [] iW:=⟨⟨555,jn,["self", "vault"],[],[],mg_of X G (by kernel_rfl),⟨(by kernel_rfl),(by kernel_rfl),(by kernel_rfl),(by kernel_rfl)⟩,u6 w,.nil,λ_=>.nil,sy (vd w) T Pg PJ Qi Pm QC Q9 Qf Qr⟩⟩
 have Pp:=xT P w base (eQ w) 588 587 xR λD=>kC D T Pn Qi Pg Qr
 have Qw:=xT P w base (eQ w) 595 594 xR λD=>rf D T Pp
 have P_:=xT P w base (eQ w) 600 599 xR λD=>mW D T Pp PJ Qf
 have P1:=xT P w base (eQ w) 605 604 xR λD=>l4 D T Pg Pt QO Qx Qt PB
 have P4:=xT P w base (lx w) 707 706 EK λD=>uw D T PX PR Qb QR Qj PJ
 have RH:=gY P w base X G 624 623 xR λD=>Ci D T Qq QF P_ Qc P1 Qw Qo Qb
 have QX:=gY P w base X G 679 678 EK λD=>vG D T PX Pm Qc PR Qj PJ RH PN PL PH P5
 have QI:=gY P w base X G 801 800 w8 λD=>sL D T P2 QX QT QS QG PN PL PH Qd Qe P6 P4
 have Qy:=gY P w base X G 806 805 w8 λD=>rA D T Pq P5 P4 P2 P6
 exact Il (LP w) T QU QK QH PM Pq QV Pu Qd QI Qe Qy
theorem NN:Ae (κ w)=true:=by kernel_rfl
theorem MS:nsIn (κ w) mainGlobals "law" = some (some (.ref 811)):=by kernel_rfl
end xS
open PySem PySem.W
theorem xS.hold(said:PySem.Challenge.rw_dialvault_k58_whole_locks_opened_or_shut.wellSaid=true)(SG:∀ ns:List Int,ns.length<=63->(∀ i∈ns,Builtin.Int.intBits i<=1048576)->xS.tU [.kF (ns.map L2.PV.int)]=L2.M.ok (.bl true)):PySem.Challenge.rw_dialvault_k58_whole_locks_opened_or_shut.Holds:=by
 refine holds_law said λsaid=>?_
 refine holds_open (q:=HD.vw) (loose:=HD.loose) (Xt:=HD.Xt) (XP:=XL HD.vw []) (Yf:=Hook.obs HD.hook) (Ya:=Hook.val HD.hook) (YP:=Hook.says HD.hook) HD.Mb (Hook.of HD.hook) (Hook.keeps HD.hook) (λs e=>xl_of s (Bool.and_eq_true_iff.mp e).1) XL.keeps (by rfl) (by rfl) (by rfl) (λs e=>recFacts_of (Bool.and_eq_true_iff.mp e).2) (by rfl) said (by decide +kernel) ⟨rfl,rfl,rfl,rfl,rfl,by decide +kernel⟩ ?hw ?hc
 case hw=>w_witness2
 refine L2.yF (l:=PySem.Challenge.rw_dialvault_k58_whole_locks_opened_or_shut) (n:=63) (k:=10) (x := "_law_script") (K:=HD.K) (sem:=xS.tU) rfl (by decide) rfl ⟨rfl,by decide,by decide⟩ (λw h Y=>PySem.W.kIn_of Y) (λw=>xS.NN w) (λw mg fa h X G hmg=>?_) SG
 have e:=hmg.symm.trans (PySem.W.mg_of X G (xS.MS w))
 cases e
 exact⟨xS.xY,λs v=>.of_eq rfl,λbase X' G'=>xS.IB X' G' base⟩
namespace Eu
theorem t4(a b:Int)(hb:b≠0):(a-a.fdiv b*b).natAbs<b.natAbs/\0<=(a-a.fdiv b*b)*b/\(0<=a*b->a.natAbs=(a.fdiv b).natAbs*b.natAbs+(a-a.fdiv b*b).natAbs):=by
 have pos:∀ (a b:Int),0<b->(a-a/b*b).natAbs<b.natAbs/\0<=(a-a/b*b)*b/\(0<=a*b->a.natAbs=(a/b).natAbs*b.natAbs+(a-a/b*b).natAbs):=by
  intro a b hb
  have e:a-a/b*b=a%b:=by
   have h:=Int.mul_ediv_add_emod a b
   rw[Int.mul_comm] at h
   omega
  have h0:=Int.emod_nonneg a (by omega:b≠0)
  have h1:=Int.emod_lt_of_pos a hb
  rw[e]
  refine⟨by omega,Int.mul_nonneg h0 (by omega),λhab=>?_⟩
  have ha:0<=a:=by
   rcases Int.lt_or_le a 0 with h | h
   ·have:=Int.mul_neg_of_neg_of_pos h hb
    omega
   ·exact h
  have hq:0<=a/b:=Int.ediv_nonneg ha (by omega)
  have h2:=Int.mul_ediv_add_emod a b
  have h3:((a/b).natAbs*b.natAbs:Nat)=(b*(a/b)).natAbs:=by
   rw[Int.natAbs_mul,Nat.mul_comm]
  rw[h3]
  have h4:0<=b*(a/b):=Int.mul_nonneg (by omega) hq
  omega
 rcases Int.lt_or_le 0 b with h | h
 ·rw[Int.fdiv_eq_ediv_of_nonneg a (by omega)]
  exact pos a b h
 ·have h':0 < -b:=by omega
  have e:a.fdiv b=(-a)/(-b):=by
   rw[← Int.fdiv_eq_ediv_of_nonneg (-a) (by omega:0<=-b),Int.neg_fdiv_neg]
  obtain⟨p1,p2,p3⟩:=pos (-a) (-b) h'
  have e2:-a-(-a)/(-b)*(-b)=-(a-a.fdiv b*b):=by
   rw[← e,Int.mul_neg]
   omega
  rw[e2] at p1 p2 p3
  rw[← e] at p3
  simp only[Int.natAbs_neg,Int.neg_mul_neg] at p1 p2 p3
  exact⟨p1,p2,p3⟩
structure St (a b:Int) (r s t r' s' t':Int):Prop where
 c0:r=s*a+t*b
 c1:r'=s'*a+t'*b
 dv:∀ d:Int,d∣r->d∣r'->d∣a/\d∣b
 bd:s'.natAbs*r.natAbs+s.natAbs*r'.natAbs<=b.natAbs
 sg:s'=0\/0<=r*r'
 b0:s.natAbs<=b.natAbs+1
 b1:s'.natAbs<=b.natAbs+1
 d0:t.natAbs<=a.natAbs+(b.natAbs+1)*a.natAbs+b.natAbs+1
 d1:t'.natAbs<=a.natAbs+(b.natAbs+1)*a.natAbs+b.natAbs+1
 m0:r.natAbs<=a.natAbs+b.natAbs
 m1:r'.natAbs<=b.natAbs
theorem start(a b:Int):St a b a 1 0 b 0 1 where
 c0:=by omega
 c1:=by omega
 dv:=λd h1 h2=>⟨h1,h2⟩
 bd:=by simp
 sg:=.inl rfl
 b0:=by omega
 b1:=by omega
 d0:=by simp
 d1:=by omega
 m0:=by omega
 m1:=by omega
theorem turn{a b r s t r' s' t':Int}(h:St a b r s t r' s' t')(h0:r'≠0) :
  St a b r' s' t' (r-r.fdiv r'*r') (s-r.fdiv r'*s') (t-r.fdiv r'*t')/\(r-r.fdiv r'*r').natAbs<r'.natAbs:=by
 obtain⟨f1,f2,f3⟩:=t4 r r' h0
 generalize hq:r.fdiv r'=q at *
 have hb:b≠0:=by
  intro z
  have:=h.m1
  omega
 have hr':1<=r'.natAbs:=by omega
 have SW:r-q*r'=(s-q*s')*a+(t-q*t')*b:=by
  rw[h.c0,h.c1,Int.sub_mul,Int.sub_mul,Int.mul_add,Int.mul_assoc,Int.mul_assoc]
  omega
 have bd':(s-q*s').natAbs*r'.natAbs+s'.natAbs*(r-q*r').natAbs<=b.natAbs:=by
  have xQ:(s-q*s').natAbs<=s.natAbs+q.natAbs*s'.natAbs:=by
   rw[← Int.natAbs_mul]
   omega
  have hbd:=h.bd
  rcases h.sg with z | z
  ·subst z
   simp only[Int.mul_zero,Int.sub_zero,Int.natAbs_zero,Nat.zero_mul,Nat.zero_add,Nat.add_zero] at hbd ⊢
   exact hbd
  ·have e:=f3 z
   have k1:(s-q*s').natAbs*r'.natAbs<=(s.natAbs+q.natAbs*s'.natAbs)*r'.natAbs:=Nat.mul_le_mul_right _ xQ
   have k2:(s.natAbs+q.natAbs*s'.natAbs)*r'.natAbs+s'.natAbs*(r-q*r').natAbs=s'.natAbs*r.natAbs+s.natAbs*r'.natAbs:=by
    rw[e,Nat.add_mul,Nat.mul_add,Nat.mul_comm q.natAbs s'.natAbs,Nat.mul_assoc]
    omega
   omega
 have b1':(s-q*s').natAbs<=b.natAbs:=by
  have:(s-q*s').natAbs*1<=(s-q*s').natAbs*r'.natAbs:=Nat.mul_le_mul_left _ hr'
  omega
 have mm:(r-q*r').natAbs<=b.natAbs:=by
  have:=h.m1
  omega
 have d1':(t-q*t').natAbs<=a.natAbs+(b.natAbs+1)*a.natAbs+b.natAbs+1:=by
  have e:(t-q*t')*b=(r-q*r')-(s-q*s')*a:=by omega
  have e1:((t-q*t')*b).natAbs<=(r-q*r').natAbs+((s-q*s')*a).natAbs:=by omega
  rw[Int.natAbs_mul,Int.natAbs_mul] at e1
  have k1:(t-q*t').natAbs*1<=(t-q*t').natAbs*b.natAbs:=Nat.mul_le_mul_left _ (by omega)
  have k2:(s-q*s').natAbs*a.natAbs<=(b.natAbs+1)*a.natAbs:=Nat.mul_le_mul_right _ (by omega)
  omega
 refine⟨⟨h.c1,SW,λd e1 e2=>?_,bd',?_,h.b1,by omega,h.d1,d1',?_,mm⟩,f1⟩
 ·refine h.dv d ?_ e1
  have e3:d∣q*r':=Int.dvd_trans e1 (Int.dvd_mul_left _ _)
  have e4:=Int.dvd_add e2 e3
  rwa [Int.sub_add_cancel] at e4
 ·exact .inr (by rw[Int.mul_comm];exact f2)
 ·have:=h.m1
  omega
theorem done{a b r s t s' t':Int}(h:St a b r s t 0 s' t'):r∣a/\r∣b:=h.dv r (Int.dvd_refl r) (Int.dvd_zero r)
end Eu
namespace Lc
def nG(ns:List Nat):Nat:=ns.foldl Nat.lcm 1
def JI(ns:List Nat):Nat:=ns.foldl Nat.gcd 0
theorem uJ:∀ (ns:List Nat) (m:Nat),m∣ns.foldl Nat.lcm m/\(∀ n∈ns,n∣ns.foldl Nat.lcm m)/\(∀ k,m∣k->(∀ n∈ns,n∣k)->ns.foldl Nat.lcm m∣k)
 | [],m=>⟨Nat.dvd_refl m,(λ_ h=>nomatch h),λk h _=>h⟩
 | n::ns,m=>by
  obtain⟨h1,h2,h3⟩:=uJ ns (Nat.lcm m n)
  refine⟨Nat.dvd_trans (Nat.dvd_lcm_left m n) h1,λx hx=>?_,λk hm hk=>?_⟩
  ·rcases List.mem_cons.mp hx with e | hx
   ·rw[e];exact Nat.dvd_trans (Nat.dvd_lcm_right m n) h1
   ·exact h2 x hx
  ·exact h3 k (Nat.lcm_dvd hm (hk n List.mem_cons_self)) λx hx=>hk x (List.mem_cons_of_mem _ hx)
variable{ns:List Nat}
theorem lcm_dvd{n:Nat}(h:n∈ns):n∣nG ns:=(uJ ns 1).2.1 n h
theorem BB{k:Nat}(h:∀ n∈ns,n∣k):nG ns∣k:=(uJ ns 1).2.2 k (Nat.one_dvd k) h
theorem oK:∀ (ns:List Nat) (m:Nat),0<m->(∀ n∈ns,0<n)->0<ns.foldl Nat.lcm m
 | [],m,h,_=>h
 | n::ns,m,h,hp=>oK ns (Nat.lcm m n) (Nat.lcm_pos h (hp n List.mem_cons_self)) λx hx=>hp x (List.mem_cons_of_mem _ hx)
theorem lcm_pos(h:∀ n∈ns,0<n):0<nG ns:=oK ns 1 (by decide) h
theorem rG(B:Nat):∀ (ns:List Nat) (m k:Nat),0<m->m<=2^k->(∀ n∈ns,0<n/\n<=2^B)->ns.foldl Nat.lcm m<=2^(k+B*ns.length)
 | [],m,k,_,h,_=>by simpa using h
 | n::ns,m,k,h0,h,hp=>by
  have hn:=hp n List.mem_cons_self
  have h1:Nat.lcm m n<=2^(k+B):=by
   have:Nat.lcm m n<=m*n:=Nat.le_of_dvd (Nat.mul_pos h0 hn.1) (Nat.lcm_dvd (Nat.dvd_mul_right m n) (Nat.dvd_mul_left n m))
   rw[Nat.pow_add]
   exact Nat.le_trans this (Nat.mul_le_mul h hn.2)
  have h2:=rG B ns (Nat.lcm m n) (k+B) (Nat.lcm_pos h0 hn.1) h1 λx hx=>hp x (List.mem_cons_of_mem _ hx)
  have e:k+B*(n::ns).length=k+B+B*ns.length:=by
   rw[List.length_cons,Nat.mul_succ];omega
  rw[e]
  exact h2
theorem zJ:∀ (ns:List Nat) (m:Nat),ns.foldl Nat.gcd m∣m/\(∀ n∈ns,ns.foldl Nat.gcd m∣n)
 | [],m=>⟨Nat.dvd_refl m,(λ_ h=>nomatch h)⟩
 | n::ns,m=>by
  obtain⟨h1,h2⟩:=zJ ns (Nat.gcd m n)
  refine⟨Nat.dvd_trans h1 (Nat.gcd_dvd_left m n),λx hx=>?_⟩
  rcases List.mem_cons.mp hx with e | hx
  ·rw[e];exact Nat.dvd_trans h1 (Nat.gcd_dvd_right m n)
  ·exact h2 x hx
theorem N1(h:∀ n∈ns,0<n)(Rm:ns≠[]):JI (ns.map λn=>nG ns/n)=1:=by
 obtain⟨_,h2⟩:=zJ (ns.map λn=>nG ns/n) 0
 have hd:∀ n∈ns,JI (ns.map λn=>nG ns/n)∣nG ns/n:=λn hn=>h2 _ (List.mem_map.mpr ⟨n,hn,rfl⟩)
 generalize JI (ns.map λn=>nG ns/n)=d at hd
 have hL:=lcm_pos h
 obtain⟨n0,hn0⟩:∃ n,n∈ns:=List.exists_mem_of_ne_nil ns Rm
 have key:∀ n∈ns,n*d∣nG ns:=λn hn=>by
  have:=Nat.mul_dvd_mul_left n (hd n hn)
  rwa [Nat.mul_div_cancel' (lcm_dvd hn)] at this
 have dl:d∣nG ns:=Nat.dvd_trans (Nat.dvd_mul_left d n0) (key n0 hn0)
 have dp:0<d:=Nat.pos_of_dvd_of_pos dl hL
 have all:∀ n∈ns,n∣nG ns/d:=λn hn=>by
  obtain⟨c,hc⟩:=key n hn
  refine⟨c,?_⟩
  rw[hc,Nat.mul_comm n d,Nat.mul_assoc,Nat.mul_div_cancel_left _ dp]
 have le:=Nat.le_of_dvd (Nat.div_pos (Nat.le_of_dvd hL dl) dp) (BB all)
 rcases Nat.lt_or_ge 1 d with h1 | h1
 ·have:=Nat.div_lt_self hL h1
  omega
 ·omega
theorem BP(m n:Nat):m/Nat.gcd m n*n=Nat.lcm m n:=by
 unfold Nat.lcm
 rw[Nat.div_mul_right_comm (Nat.gcd_dvd_left m n)]
end Lc
namespace Rg
abbrev dP:=Nat->Int
def br(s:dP)(D:Nat->dP)(d:Nat):Int:=if D d d=0 then s d else D d d
def G(n:Nat)(s:dP)(D:Nat->dP):Nat->Nat->dP->Prop
 | 0,_,v=>∀ i,i<n->s i∣v i
 | k+1,d,v=>br s D d∣v d/\G n s D k (d+1) λi=>v i-v d/br s D d*D d i
def U(i:Nat)(c:Int):dP:=λj=>if j=i then c else 0
variable{D:Nat->dP}{s:dP}{n:Nat}
theorem G.ext:∀ {k d:Nat} {v w:dP},d+k=n->(∀ i,i<n->v i=w i)->G n s D k d v->G n s D k d w
 | 0,d,v,w,_,e,h=>λi hi=>by rw[← e i hi];exact h i hi
 | k+1,d,v,w,hn,e,h=>by
  have ed:=e d (by omega)
  refine⟨by rw[← ed];exact h.1,G.ext (by omega) (λi hi=>?_) h.2⟩
  rw[e i hi,ed]
theorem G.add:∀ {k d:Nat} {v w:dP},d+k=n->G n s D k d v->G n s D k d w->G n s D k d λi=>v i+w i
 | 0,d,v,w,_,h,h'=>λi hi=>Int.dvd_add (h i hi) (h' i hi)
 | k+1,d,v,w,hn,h,h'=>by
  refine⟨Int.dvd_add h.1 h'.1,G.ext (by omega) (λi hi=>?_) (G.add (by omega) h.2 h'.2)⟩
  show _=v i+w i-(v d+w d)/br s D d*D d i
  rw[Int.add_ediv_of_dvd_left h.1,Int.add_mul]
  omega
theorem G.mul(c:Int):∀ {k d:Nat} {v:dP},d+k=n->G n s D k d v->G n s D k d λi=>c*v i
 | 0,d,v,_,h=>λi hi=>Int.dvd_trans (h i hi) (Int.dvd_mul_left _ _)
 | k+1,d,v,hn,h=>by
  refine⟨Int.dvd_trans h.1 (Int.dvd_mul_left _ _),G.ext (by omega) (λi hi=>?_) (G.mul c (by omega) h.2)⟩
  show _=c*v i-c*v d/br s D d*D d i
  rw[Int.mul_ediv_assoc c h.1,Int.mul_sub,Int.mul_assoc]
theorem G.zero:∀ {k d:Nat},d+k=n->G n s D k d λ_=>0
 | 0,d,_=>λi _=>Int.dvd_zero _
 | k+1,d,hn=>⟨Int.dvd_zero _,G.ext (by omega) (λi hi=>by simp) (G.zero (k:=k) (d:=d+1) (by omega))⟩
theorem G.skip{v:dP}:∀ {j k d:Nat},d+(j+k)=n->(∀ i,d<=i->i<d+j->v i=0)->G n s D k (d+j) v->G n s D (j+k) d v
 | 0,k,d,_,_,h=>by rw[Nat.zero_add];exact h
 | j+1,k,d,hn,hz,h=>by
  rw[show j+1+k=(j+k)+1 by omega]
  have z:=hz d (Nat.le_refl _) (by omega)
  refine⟨by rw[z];exact Int.dvd_zero _,G.ext (v:=v) (by omega) (λi hi=>by rw[z];simp) (G.skip (by omega) (λi h1 h2=>hz i (by omega) (by omega)) (by rw[show d+1+j=d+(j+1) by omega];exact h))⟩
structure Good (n:Nat) (s:dP) (D:Nat->dP):Prop where
 sp:∀ i,i<n->0<s i
 kz:∀ d,d<n->∀ i,i<n->0<=D d i/\D d i<s i
 xQ:∀ d,d<n->∀ i,i<d->D d i=0
 dv:∀ d,d<n->br s D d∣s d
 LU:∀ d k,d+(k+1)=n->G n s D k (d+1) λi=>s d/br s D d*D d i
variable{d:Nat}
variable{k:Nat}
theorem Good.pos(g:Good n s D)(h:d<n):0<br s D d/\br s D d<=s d:=by
 have h1:=g.kz d h d h
 have h2:=g.sp d h
 unfold br
 split <;> omega
theorem Good.diag(g:Good n s D)(h:d<n):s d∣D d d-br s D d:=by
 unfold br
 split
 ·rename_i z;rw[z];exact⟨-1,by omega⟩
 ·rw[Int.sub_self];exact Int.dvd_zero _
theorem Good.turn(g:Good n s D):∀ {k d i:Nat} (c:Int),d+k=n->i<n->G n s D k d (U i (c*s i))
 | 0,d,i,c,_,hi=>λj hj=>by
  unfold U
  split
  ·rename_i z;rw[z];exact Int.dvd_mul_left _ _
  ·exact Int.dvd_zero _
 | k+1,d,i,c,hn,hi=>by
  have hd:d<n:=by omega
  by_cases z:i=d
  ·subst z
   have dv:=g.dv i hi
   refine⟨by show _∣U i _ i;rw[U,if_pos rfl];exact Int.dvd_trans dv (Int.dvd_mul_left _ _),?_⟩
   refine G.ext (by omega) (λj hj=>?_) (G.add (by omega) (g.turn (k:=k) (d:=i+1) (i:=i) c (by omega) hi) (G.mul (-c) (by omega) (g.LU i k hn)))
   show U i (c*s i) j+-c*(s i/br s D i*D i j)=U i (c*s i) j-U i (c*s i) i/br s D i*D i j
   rw[show U i (c*s i) i=c*s i by rw[U,if_pos rfl],Int.mul_ediv_assoc c dv,Int.neg_mul,Int.mul_assoc]
   omega
  ·have u0:U i (c*s i) d=0:=by rw[U,if_neg (Ne.symm z)]
   refine⟨by rw[u0];exact Int.dvd_zero _,G.ext (by omega) (λj hj=>?_) (g.turn (k:=k) (d:=d+1) (i:=i) c (by omega) hi)⟩
   rw[u0];simp
theorem G.uK{v w:dP}(ht:∀ i c,i<n->G n s D k d (U i (c*s i)))(hn:d+k=n)(h:∀ i,i<n->s i∣w i-v i)(hv:G n s D k d v):G n s D k d w:=by
 have key:∀ m,m<=n->G n s D k d λi=>if i<m then w i else v i:=by
  intro m
  induction m with
  | zero=>intro _;exact G.ext hn (λi _=>by simp) hv
  | succ m ih =>
   intro hm
   obtain⟨c,hc⟩:=h m (by omega)
   refine G.ext hn (λi hi=>?_) (G.add hn (ih (by omega)) (ht m c (by omega)))
   show (if i<m then w i else v i)+U m (c*s m) i=if i<m+1 then w i else v i
   unfold U
   by_cases z:i=m
   ·subst z
    rw[if_neg (by omega),if_pos rfl,if_pos (by omega),Int.mul_comm c]
    omega
   ·rw[if_neg z]
    by_cases q:i<m
    ·rw[if_pos q,if_pos (by omega)];omega
    ·rw[if_neg q,if_neg (by omega)];omega
 exact G.ext hn (λi hi=>by simp[hi]) (key n (Nat.le_refl _))
theorem Good.uK(g:Good n s D){k d:Nat}{v w:dP}(hn:d+k=n)(h:∀ i,i<n->s i∣w i-v i)(hv:G n s D k d v):G n s D k d w :=
 G.uK (λi c hi=>g.turn c hn hi) hn h hv
theorem Good.sub(g:Good n s D){v w:dP}(hn:d+k=n)(hv:G n s D k d v)(hw:G n s D k d w):G n s D k d λi=>v i-w i :=
 G.ext hn (λi _=>by omega) (G.add hn hv (G.mul (-1) hn hw))
theorem Good.own(g:Good n s D)(hn:d+(k+1)=n):G n s D (k+1) d (D d):=by
 have hd:d<n:=by omega
 by_cases z:D d d=0
 ·have e:br s D d=s d:=by unfold br;rw[if_pos z]
  have c:=g.LU d k hn
  rw[e] at c
  refine⟨by rw[z];exact Int.dvd_zero _,G.ext (by omega) (λi hi=>?_) c⟩
  rw[z,Int.ediv_self (by have:=g.sp d hd;omega)]
  simp
 ·have e:br s D d=D d d:=by unfold br;rw[if_neg z]
  refine⟨by rw[e];exact Int.dvd_refl _,G.ext (by omega) (λi hi=>?_) (G.zero (k:=k) (d:=d+1) (by omega))⟩
  rw[e,Int.ediv_self z];omega
theorem Good.row(g:Good n s D)(hd:d<n):∀ {k e:Nat},e+k=n->e<=d->G n s D k e (D d):=by
 intro k e hn he
 have h:=g.own (d:=d) (k:=n-d-1) (by omega)
 have:=G.skip (n:=n) (s:=s) (D:=D) (v:=D d) (j:=d-e) (k:=n-d-1+1) (d:=e) (by omega) (λi h1 h2=>g.xQ d hd i (by omega)) (by rw[show e+(d-e)=d by omega];exact h)
 rw[show d-e+(n-d-1+1)=k by omega] at this
 exact this
structure Tk (n:Nat) (s:dP) (D D' L:Nat->dP) (u v g:Nat->Int):Prop where
 gp:∀ d,d<n->0<g d
 bz:∀ d,d<n->u d*br s D d+v d*L d d=g d
 g1:∀ d,d<n->g d∣br s D d
 g2:∀ d,d<n->g d∣L d d
 Lw:∀ d,d<n->∀ i,i<n->D' d i=(u d*D d i+v d*L d i)%s i
 K2:∀ d,d<n->∀ i,i<n->L (d+1) i=(br s D d/g d*L d i+-(L d d/g d)*D d i)%s i
 l0:∀ i,i<n->0<=L 0 i/\L 0 i<s i
variable{a b:Int}
section
variable{D' L:Nat->dP}{u v g:Nat->Int}
theorem cG(a b:Int):b∣a%b-a:=⟨-(a/b),by have:=Int.emod_def a b;rw[Int.mul_neg];omega⟩
theorem Ax(a b:Int):b∣a-a%b:=⟨a/b,by have:=Int.emod_def a b;omega⟩
theorem Tk.kept(t:Tk n s D D' L u v g)(G:Good n s D):∀ d,d<=n->∀ i,i<n->0<=L d i/\L d i<s i:=by
 intro d hd i hi
 cases d with
 | zero=>exact t.l0 i hi
 | succ d =>
  rw[t.K2 d (by omega) i hi]
  have:=G.sp i hi
  exact⟨Int.emod_nonneg _ (by omega),Int.emod_lt_of_pos _ this⟩
theorem jG(h0:0<=a)(h1:a<b)(h:b∣a):a=0:=by
 obtain⟨c,rfl⟩:=h
 rcases Int.lt_or_le 0 c with hc | hc
 ·have:b*1<=b*c:=Int.mul_le_mul_of_nonneg_left hc (by omega)
  omega
 ·have:b*c<=0:=Int.mul_nonpos_of_nonneg_of_nonpos (by omega) hc
  omega
theorem Tk.zero(t:Tk n s D D' L u v g)(G:Good n s D):∀ d,d<=n->∀ i,i<d->L d i=0:=by
 intro d
 induction d with
 | zero=>intro _ i hi;omega
 | succ d ih =>
  intro hd i hi
  have Sq:d<n:=by omega
  have k:=t.kept G (d+1) hd i (by omega)
  refine jG k.1 k.2 ?_
  rw[t.K2 d Sq i (by omega)]
  rcases Nat.lt_or_ge i d with h | h
  ·rw[ih (by omega) i h,G.xQ d Sq i h]
   simp
  ·obtain rfl:i=d:=by omega
   refine Int.dvd_trans ?_ (Int.dvd_refl _)
   obtain⟨c,hc⟩:=G.diag Sq
   obtain⟨a,ha⟩:=t.g1 i Sq
   obtain⟨b,hb⟩:=t.g2 i Sq
   have gp:=t.gp i Sq
   have e1:br s D i/g i=a:=by rw[ha];exact Int.mul_ediv_cancel_left a (by omega)
   have e2:L i i/g i=b:=by rw[hb];exact Int.mul_ediv_cancel_left b (by omega)
   rw[e1,e2]
   have e3:a*L i i+-b*D i i=s i*(-b*c):=by
    have:D i i=br s D i+s i*c:=by omega
    rw[this,ha,hb];grind
   rw[e3,Int.mul_emod_right]
   exact Int.dvd_zero _
theorem Tk.step(t:Tk n s D D' L u v g)(G:Good n s D)(hd:d<n):br s D' d=g d:=by
 obtain⟨c,hc⟩:=G.diag hd
 have gp:=t.gp d hd
 have sp:=G.sp d hd
 have st:=G.pos hd
 have le:g d<=br s D d:=Int.le_of_dvd st.1 (t.g1 d hd)
 have e:D' d d=g d%s d:=by
  rw[t.Lw d hd d hd,← t.bz d hd]
  have:D d d=br s D d+s d*c:=by omega
  rw[this,show u d*(br s D d+s d*c)+v d*L d d=(u d*br s D d+v d*L d d)+s d*(u d*c) by grind,Int.add_mul_emod_self_left]
 unfold br
 rw[e]
 by_cases z:g d=s d
 ·rw[z,Int.emod_self,if_pos rfl]
 ·rw[Int.emod_eq_of_lt (by omega) (by omega),if_neg (by omega)]
theorem Tk.main(t:Tk n s D D' L u v g)(Gd:Good n s D):∀ k d,d+k=n->(∀ w,G n s D k d w->G n s D' k d w)/\G n s D' k d (L d)
 | 0,d,hn=>by
  refine⟨λw h=>h,λi hi=>?_⟩
  rw[t.zero Gd d (by omega) i (by omega)];exact Int.dvd_zero _
 | k+1,d,hn=>by
  obtain⟨i1,i2⟩:=t.main Gd k (d+1) (by omega)
  have hd:d<n:=by omega
  have turn:∀ i c,i<n->G n s D' k (d+1) (U i (c*s i)):=λi c hi=>i1 _ (Gd.turn c (by omega) hi)
  have st:=t.step Gd hd
  have gp:=t.gp d hd
  obtain⟨a,ha⟩:=t.g1 d hd
  obtain⟨b,hb⟩:=t.g2 d hd
  have e1:br s D d/g d=a:=by rw[ha];exact Int.mul_ediv_cancel_left a (by omega)
  have e2:L d d/g d=b:=by rw[hb];exact Int.mul_ediv_cancel_left b (by omega)
  have bz:u d*a+v d*b=1:=by
   have:=t.bz d hd
   rw[ha,hb,show u d*(g d*a)+v d*(g d*b)=g d*(u d*a+v d*b) by grind] at this
   have h2:g d*(u d*a+v d*b)=g d*1:=by omega
   exact Int.eq_of_mul_eq_mul_left (by omega) h2
  have w1:∀ i,i<n->∃ c,D' d i=u d*D d i+v d*L d i+s i*c:=λi hi=>by
   obtain⟨c,hc⟩:=cG (u d*D d i+v d*L d i) (s i)
   exact⟨c,by rw[t.Lw d hd i hi];omega⟩
  have w2:∀ i,i<n->∃ c,L (d+1) i=a*L d i+-b*D d i+s i*c:=λi hi=>by
   obtain⟨c,hc⟩:=cG (a*L d i+-b*D d i) (s i)
   exact⟨c,by rw[t.K2 d hd i hi,e1,e2];omega⟩
  constructor
  ·intro w h
   obtain⟨h1,h2⟩:=h
   refine⟨by rw[st];exact Int.dvd_trans (t.g1 d hd) h1,?_⟩
   obtain⟨q,hq⟩:=h1
   have sp:=(Gd.pos hd).1
   have q1:w d/br s D d=q:=by rw[hq];exact Int.mul_ediv_cancel_left q (by omega)
   have q2:w d/br s D' d=q*a:=by
    rw[st,hq,ha,show g d*a*q=g d*(q*a) by grind];exact Int.mul_ediv_cancel_left _ (by omega)
   rw[q2]
   rw[q1] at h2
   refine G.uK turn (by omega) (λi hi=>?_) (G.add (by omega) (i1 _ h2) (G.mul (q*-(v d)) (by omega) i2))
   obtain⟨c1,hc1⟩:=w1 i hi
   obtain⟨c2,Sh⟩:=w2 i hi
   refine⟨q*(v d*c2-a*c1),?_⟩
   rw[hc1,Sh];grind
  ·refine⟨by rw[st];exact t.g2 d hd,?_⟩
   rw[st,e2]
   refine G.uK turn (by omega) (λi hi=>?_) (G.mul (u d) (by omega) i2)
   obtain⟨c1,hc1⟩:=w1 i hi
   obtain⟨c2,Sh⟩:=w2 i hi
   refine⟨-(b*c1)-u d*c2,?_⟩
   rw[hc1,Sh];grind
theorem Tk.good(t:Tk n s D D' L u v g)(Gd:Good n s D):Good n s D' where
 sp:=Gd.sp
 kz:=λd hd i hi=>by
  rw[t.Lw d hd i hi]
  have:=Gd.sp i hi
  exact⟨Int.emod_nonneg _ (by omega),Int.emod_lt_of_pos _ this⟩
 xQ:=λd hd i hi=>by
  rw[t.Lw d hd i (by omega),Gd.xQ d hd i hi,t.zero Gd d (by omega) i hi];simp
 dv:=λd hd=>by
  rw[t.step Gd hd];exact Int.dvd_trans (t.g1 d hd) (Gd.dv d hd)
 LU:=λd k hn=>by
  have hd:d<n:=by omega
  have h1:=(t.main Gd (k+1) d hn).1 _ (Gd.turn (i:=d) 1 hn hd)
  have h2:=(t.main Gd k (d+1) (by omega)).1 _ (Gd.turn (i:=d) 1 (by omega) hd)
  have h3:=h1.2
  have ud:U d (1*s d) d=s d:=by rw[U,if_pos rfl,Int.one_mul]
  rw[ud] at h3
  refine G.ext (by omega) (λi hi=>?_) (G.add (by omega) h2 (G.mul (-1) (by omega) h3))
  show U d (1*s d) i+-1*(U d (1*s d) i-s d/br s D' d*D' d i)=_
  omega
end
variable{W:Nat->dP}
variable{i:Nat}
section
variable{D':Nat->dP}
theorem Good.F9(Gd:Good n s D)(kz:∀ d,d<n->∀ i,i<n->0<=D' d i/\D' d i<s i)(xQ:∀ d,d<n->∀ i,i<d->D' d i=0)(dv:∀ d,d<n->br s D' d∣s d)
  (h:∀ k d,d+k=n->∀ w,G n s D k d w->G n s D' k d w):Good n s D' where
 sp:=Gd.sp
 kz:=kz
 xQ:=xQ
 dv:=dv
 LU:=λd k hn=>by
  have hd:d<n:=by omega
  have h1:=h (k+1) d hn _ (Gd.turn (i:=d) 1 hn hd)
  have h2:=h k (d+1) (by omega) _ (Gd.turn (i:=d) 1 (by omega) hd)
  have h3:=h1.2
  have ud:U d (1*s d) d=s d:=by rw[U,if_pos rfl,Int.one_mul]
  rw[ud] at h3
  refine G.ext (by omega) (λi hi=>?_) (G.add (by omega) h2 (G.mul (-1) (by omega) h3))
  show U d (1*s d) i+-1*(U d (1*s d) i-s d/br s D' d*D' d i)=_
  omega
structure Dn (n:Nat) (s:dP) (D:Nat->dP) (f:Nat) (W:Nat->dP):Prop where
 w0:∀ i,i<n->0<=W f i/\W f i<s i
 ws:∀ d,f<=d->d<n->∀ i,i<n->W (d+1) i=(1*W d i+-(W d d/br s D d)*D d i)%s i
variable{f:Nat}
theorem Dn.kept(h:Dn n s D f W)(Gd:Good n s D):∀ d,f<=d->d<=n->∀ i,i<n->0<=W d i/\W d i<s i:=by
 intro d hf hd i hi
 rcases Nat.lt_or_ge f d with q | q
 ·obtain⟨e,rfl⟩:∃ e,d=e+1:=⟨d-1,by omega⟩
  rw[h.ws e (by omega) (by omega) i hi]
  have:=Gd.sp i hi
  exact⟨Int.emod_nonneg _ (by omega),Int.emod_lt_of_pos _ this⟩
 ·obtain rfl:d=f:=by omega
  exact h.w0 i hi
theorem Dn.ahead(h:Dn n s D f W)(Gd:Good n s D)(hf:f<=d)(hd:d<n)(hi:i<d):W (d+1) i=W d i:=by
 have k:=h.kept Gd d hf (by omega) i (by omega)
 rw[h.ws d hf hd i (by omega),Gd.xQ d hd i hi,Int.mul_zero,Int.add_zero,Int.one_mul,Int.emod_eq_of_lt k.1 k.2]
theorem Dn.at_(h:Dn n s D f W)(Gd:Good n s D)(hf:f<=d)(hd:d<n):W (d+1) d=W d d%br s D d:=by
 have k:=h.kept Gd d hf (by omega) d hd
 have p:=Gd.pos hd
 rw[h.ws d hf hd d hd]
 have e:=Int.emod_def (W d d) (br s D d)
 have q0:=Int.emod_nonneg (W d d) (show br s D d≠0 by omega)
 have q1:=Int.emod_lt_of_pos (W d d) p.1
 by_cases z:D d d=0
 ·have st:br s D d=s d:=by unfold br;rw[if_pos z]
  rw[z,st,Int.emod_eq_of_lt k.1 k.2,Int.mul_zero,Int.add_zero,Int.one_mul,Int.emod_eq_of_lt k.1 k.2]
 ·have st:br s D d=D d d:=by unfold br;rw[if_neg z]
  rw[← st,show 1*W d d+-(W d d/br s D d)*br s D d=W d d%br s D d by rw[e];grind]
  exact Int.emod_eq_of_lt q0 (by omega)
theorem Dn.low(h:Dn n s D f W)(Gd:Good n s D):∀ d,f<=d->d<=n->∀ e,f<=e->e<d->0<=W d e/\W d e<br s D e:=by
 intro d
 induction d with
 | zero=>intro _ _ e _ he;omega
 | succ d ih =>
  intro hf hd e he hed
  rcases Nat.lt_or_ge e d with q | q
  ·rw[h.ahead Gd (by omega) (by omega) q];exact ih (by omega) (by omega) e he q
  ·obtain rfl:e=d:=by omega
   have p:=Gd.pos (show e<n by omega)
   rw[h.at_ Gd he (by omega)]
   exact⟨Int.emod_nonneg _ (by omega),Int.emod_lt_of_pos _ p.1⟩
theorem Dn.front(h:Dn n s D f W)(Gd:Good n s D):∀ d,f<=d->d<=n->∀ i,i<f->W d i=W f i:=by
 intro d
 induction d with
 | zero=>intro h1 _ i hi;omega
 | succ d ih =>
  intro hf hd i hi
  rcases Nat.lt_or_ge d f with q | q
  ·rw[show d+1=f by omega]
  ·rw[h.ahead Gd q (by omega) (by omega)];exact ih q (by omega) i hi
theorem Dn.run(h:Dn n s D f W)(Gd:Good n s D):∀ k d,f<=d->d+k=n->G n s D k d (W d)->∀ i,i<n->W n i=0
 | 0,d,hf,hn,g,i,hi=>by
  rw[Nat.add_zero] at hn
  subst hn
  have k:=h.kept Gd d hf (Nat.le_refl _) i hi
  exact jG k.1 k.2 (g i hi)
 | k+1,d,hf,hn,g,i,hi=>by
  refine h.run Gd k (d+1) (by omega) (by omega) (Gd.uK (by omega) (λj hj=>?_) g.2) i hi
  rw[h.ws d hf (by omega) j hj]
  have:=cG (1*W d j+-(W d d/br s D d)*D d j) (s j)
  rw[show 1*W d j+-(W d d/br s D d)*D d j=W d j-W d d/br s D d*D d j by grind] at this
  rw[show 1*W d j+-(W d d/br s D d)*D d j=W d j-W d d/br s D d*D d j by grind]
  exact this
theorem Dn.away(h:Dn n s D f W)(Gd:Good n s D):∀ d,f<=d->d<=n->∀ k,f+k=n->G n s D k f λi=>W f i-W d i:=by
 intro d
 induction d with
 | zero =>
  intro hf _ k hn
  obtain rfl:f=0:=by omega
  exact G.ext hn (λi _=>by omega) (G.zero hn)
 | succ d ih =>
  intro hf hd k hn
  rcases Nat.lt_or_ge d f with q | q
  ·rw[show d+1=f by omega]
   exact G.ext hn (λi _=>by omega) (G.zero hn)
  ·refine Gd.uK hn (λi hi=>?_) (G.add hn (ih q (by omega) k hn) (G.mul (W d d/br s D d) hn (Gd.row (show d<n by omega) hn q)))
   rw[h.ws d q (by omega) i hi]
   have:=Ax (1*W d i+-(W d d/br s D d)*D d i) (s i)
   obtain⟨c,hc⟩:=this
   exact⟨c,by rw[← hc];grind⟩
theorem G.small(Gd:Good n s D):∀ k d (v:dP),d+k=n->(∀ i,i<n->0<=v i/\v i<s i)->(∀ i,d<=i->i<n->v i<br s D i)->G n s D k d v->∀ i,i<n->v i=0
 | 0,d,v,hn,h0,_,g,i,hi=>jG (h0 i hi).1 (h0 i hi).2 (g i hi)
 | k+1,d,v,hn,h0,h1,g,i,hi=>by
  have z:v d=0:=jG (h0 d (by omega)).1 (h1 d (Nat.le_refl _) (by omega)) g.1
  refine G.small Gd k (d+1) v (by omega) h0 (λj hj=>h1 j (by omega)) (G.ext (by omega) (λj hj=>?_) g.2) i hi
  rw[z];simp
theorem vZ(Gd:Good n s D)(W:Nat->Nat->dP)(hW:∀ d,d<n->Dn n s D (d+1) (W d))(h0:∀ d,d<n->∀ i,i<n->W d (d+1) i=D d i)(hD:∀ d,d<n->∀ i,i<n->D' d i=W d n i) :
  Good n s D'/\(∀ d,d<n->br s D' d=br s D d)/\(∀ d,d<n->∀ e,d<e->e<n->D' d e<br s D e)/\(∀ d,d<n->D' d d=0->∀ i,i<n->D' d i=0)/\(∀ k d,d+k=n->∀ w,G n s D k d w->G n s D' k d w):=by
 have dg:∀ d,d<n->∀ i,i<=d->D' d i=D d i:=λd hd i hi=>by
  rw[hD d hd i (by omega),(hW d hd).front Gd n (by omega) (Nat.le_refl _) i (by omega),h0 d hd i (by omega)]
 have st:∀ d,d<n->br s D' d=br s D d:=λd hd=>by
  unfold br;rw[dg d hd d (Nat.le_refl _)]
 have Tj:∀ k d,d+k=n->∀ w,G n s D k d w->G n s D' k d w:=by
  intro k
  induction k with
  | zero=>intro d _ w h;exact h
  | succ k ih =>
   intro d hn w h
   have hd:d<n:=by omega
   refine⟨by rw[st d hd];exact h.1,ih (d+1) (by omega) _ ?_⟩
   rw[st d hd]
   refine G.ext (by omega) (λi hi=>?_) (G.add (by omega) h.2 (G.mul (w d/br s D d) (by omega) ((hW d hd).away Gd n (by omega) (Nat.le_refl _) k (by omega))))
   show w i-w d/br s D d*D d i+w d/br s D d*(W d (d+1) i-W d n i)=_
   rw[h0 d hd i hi,hD d hd i hi];grind
 have good:Good n s D':=Gd.F9 (λd hd i hi=>by rw[hD d hd i hi];exact(hW d hd).kept Gd n (by omega) (Nat.le_refl _) i hi) (λd hd i hi=>by rw[dg d hd i (by omega)];exact Gd.xQ d hd i hi) (λd hd=>by rw[st d hd];exact Gd.dv d hd) Tj
 have lt:∀ d,d<n->∀ e,d<e->e<n->D' d e<br s D e:=λd hd e he hen=>by
  rw[hD d hd e hen];exact((hW d hd).low Gd n (by omega) (Nat.le_refl _) e (by omega) hen).2
 refine⟨good,st,lt,λd hd z=>?_,Tj⟩
 have h1:=good.own (d:=d) (k:=n-d-1) (by omega)
 have h2:=h1.2
 refine G.small good (n-d-1) (d+1) (D' d) (by omega) (good.kz d hd) (λi h1 h2=>by rw[st i h2];exact lt d hd i (by omega) h2) (G.ext (by omega) (λi hi=>?_) h2)
 rw[z];simp
end
def bj:Nat->(Nat->Int)->Int
 | 0,_=>0
 | m+1,f=>bj m f+f m
theorem eS(a b:Int)(f g h:Nat->Int):∀ m,(∀ l,l<m->h l=a*f l+b*g l)->bj m h=a*bj m f+b*bj m g
 | 0,_=>by simp[bj]
 | m+1,e=>by
  rw[bj,bj,bj,eS a b f g h m λl hl=>e l (by omega),e m (by omega)];grind
theorem dN{f g:Nat->Int}:∀ {m:Nat},(∀ l,l<m->f l=g l)->bj m f=bj m g
 | 0,_=>rfl
 | m+1,e=>by rw[bj,bj,dN λl hl=>e l (by omega),e m (by omega)]
theorem iw:∀ m,bj m (λ_=>0)=0
 | 0=>rfl
 | m+1=>by rw[bj,iw m];rfl
theorem jH(k:Nat)(a:Int):∀ m,k<m->∀ f:Nat->Int,(∀ l,l<m->f l=if l=k then a else 0)->bj m f=a
 | 0,h,_,_=>by omega
 | m+1,h,f,e=>by
  rw[bj]
  by_cases z:k=m
  ·subst z
   rw[dN (g:=λ_=>0) λl hl=>by rw[e l (by omega),if_neg (by omega)],iw,e k (by omega),if_pos rfl];omega
  ·rw[jH k a m (by omega) f λl hl=>e l (by omega),e m (by omega),if_neg (by omega)];omega
def Led(n:Nat)(s:dP)(m:Nat)(A:Nat->dP)(v P:dP):Prop:=∀ i,i<n->s i∣v i-bj m λl=>P l*A l i
variable{A:Nat->dP}{m:Nat}
theorem Led.mix{v w x P Q R:dP}(h1:Led n s m A v P)(h2:Led n s m A w Q)(hx:∀ i,i<n->s i∣x i-(a*v i+b*w i))(hR:∀ l,l<m->R l=a*P l+b*Q l):Led n s m A x R:=λi hi=>by
 obtain⟨c1,e1⟩:=h1 i hi
 obtain⟨c2,e2⟩:=h2 i hi
 obtain⟨c3,e3⟩:=hx i hi
 rw[eS a b (λl=>P l*A l i) (λl=>Q l*A l i) (λl=>R l*A l i) m λl hl=>by rw[hR l hl];grind]
 exact⟨a*c1+b*c2+c3,by grind⟩
def bO:Nat->(Nat->Int)->Int
 | 0,_=>1
 | m+1,f=>bO m f*f m
theorem tR{f g h:Nat->Int}:∀ {m:Nat},(∀ l,l<m->f l=g l*h l)->bO m f=bO m g*bO m h
 | 0,_=>rfl
 | m+1,e=>by rw[bO,bO,bO,tR λl hl=>e l (by omega),e m (by omega)];grind
theorem jt{f g:Nat->Int}:∀ {m:Nat},(∀ l,l<m->f l=g l)->bO m f=bO m g
 | 0,_=>rfl
 | m+1,e=>by rw[bO,bO,jt λl hl=>e l (by omega),e m (by omega)]
theorem lL{f:Nat->Int}:∀ {m:Nat},(∀ l,l<m->0<f l)->0<bO m f
 | 0,_=>(by decide:(0:Int)<1)
 | m+1,e=>Int.mul_pos (lL λl hl=>e l (by omega)) (e m (by omega))
def vf(xs:List Int):dP:=λi=>xs.getD i 0
variable{xs:List Int}
theorem aP(h:i<xs.length):vf xs i=xs[i]:=by
 unfold vf;rw[List.getD_eq_getElem?_getD,List.getElem?_eq_getElem h];rfl
theorem qH(h:xs.length<=i):vf xs i=0:=by
 unfold vf;rw[List.getD_eq_getElem?_getD,List.getElem?_eq_none h];rfl
def pE(xs:List Int)(a:Int)(ys:List Int)(b:Int):List Int:=(xs.zip ys).map λz=>a*z.1+b*z.2
def AD(xs sizes:List Int):List Int:=(xs.zip sizes).map λz=>z.1%z.2
variable{ys:List Int}
theorem cD:(pE xs a ys b).length=min xs.length ys.length:=by simp[pE]
theorem jv:(AD xs ys).length=min xs.length ys.length:=by simp[AD]
theorem fY(h1:i<xs.length)(h2:i<ys.length):vf (pE xs a ys b) i=a*vf xs i+b*vf ys i:=by
 rw[aP (by rw[cD];omega),aP h1,aP h2]
 simp[pE]
theorem kj(h1:i<xs.length)(h2:i<ys.length):vf (AD xs ys) i=vf xs i%vf ys i:=by
 rw[aP (by rw[jv];omega),aP h1,aP h2]
 simp[AD]
theorem t_(hl:xs.length=ys.length)(h:∀ i,i<xs.length->vf xs i=vf ys i):xs=ys:=by
 refine List.ext_getElem hl λi h1 h2=>?_
 have:=h i h1
 rwa [aP h1,aP h2] at this
theorem iN(n:Nat)(i:Nat):vf (List.replicate n 0) i=0:=by
 rcases Nat.lt_or_ge i n with h | h
 ·rw[aP (by simpa using h)];simp
 ·rw[qH (by simpa using h)]
def Bd(B:Nat)(xs:List Int):Prop:=∀ x∈xs,x.natAbs<2^B
theorem Bd.mono{B C:Nat}(h:Bd B xs)(hc:B<=C):Bd C xs:=λx hx=>Nat.lt_of_lt_of_le (h x hx) (Nat.pow_le_pow_right (by decide) hc)
theorem Bd.vf{B:Nat}{xs:List Int}(h:Bd B xs)(i:Nat):(vf xs i).natAbs<2^B:=by
 rcases Nat.lt_or_ge i xs.length with q | q
 ·rw[aP q];exact h _ (List.getElem_mem q)
 ·rw[qH q];exact Nat.two_pow_pos B
theorem yZ{A B:Nat}(ha:a.natAbs<2^A)(hb:b.natAbs<2^B):(a*b).natAbs<2^(A+B):=by
 rw[Int.natAbs_mul,Nat.pow_add]
 have h0:0<2^A:=Nat.two_pow_pos A
 have h1:0<2^B:=Nat.two_pow_pos B
 exact Nat.mul_lt_mul_of_lt_of_le ha (Nat.le_of_lt hb) h1
theorem JL{A:Nat}(ha:a.natAbs<2^A)(hb:b.natAbs<2^A):(a+b).natAbs<2^(A+1):=by
 rw[Nat.pow_succ];omega
theorem Bd.mix{A B:Nat}(hx:Bd B xs)(hy:Bd B ys)(ha:a.natAbs<2^A)(hb:b.natAbs<2^A):Bd (A+B+1) (pE xs a ys b):=by
 intro z hz
 obtain⟨w,hw,rfl⟩:=List.mem_map.mp hz
 have:=List.of_mem_zip (a:=w.1) (b:=w.2) hw
 exact JL (yZ ha (hx _ this.1)) (yZ hb (hy _ this.2))
abbrev Row:=List Int×List Int
def row(rows:List Row)(d:Nat):Row:=rows.getD d ([],[])
def DD(rows:List Row):Nat->dP:=λd=>vf (row rows d).1
def PP(rows:List Row):Nat->dP:=λd=>vf (row rows d).2
structure Wf (n m:Nat) (rows:List Row):Prop where
 len:rows.length=n
 l1:∀ r∈rows,r.1.length=n
 l2:∀ r∈rows,r.2.length=m
variable{rows:List Row}
theorem j5(h:d<rows.length):row rows d=rows[d]:=by
 unfold row;rw[List.getD_eq_getElem?_getD,List.getElem?_eq_getElem h];rfl
theorem Wf.rV(w:Wf n m rows)(h:d<n):(row rows d).1.length=n:=by
 rw[j5 (by rw[w.len];exact h)];exact w.l1 _ (List.getElem_mem _)
theorem Wf.at2(w:Wf n m rows)(h:d<n):(row rows d).2.length=m:=by
 rw[j5 (by rw[w.len];exact h)];exact w.l2 _ (List.getElem_mem _)
def rS(sizes:List Int)(r:Row)(a:Int)(q:Row)(b:Int):Row:=(AD (pE r.1 a q.1 b) sizes,pE r.2 a q.2 b)
def aA(c:Int->Int->Int×Int)(sizes:List Int)(rows:List Row)(left:Row):Nat->Row
 | 0=>left
 | d+1 =>
  let l:=aA c sizes rows left d
  let st:=br (vf sizes) (DD rows) d
  let nt:=vf l.1 d
  rS sizes l (st/(Int.gcd st nt:Nat)) (row rows d) (-(nt/(Int.gcd st nt:Nat)))
def eU(c:Int->Int->Int×Int)(sizes:List Int)(rows:List Row)(left:Row)(d:Nat):Row :=
 let l:=aA c sizes rows left d
 let st:=br (vf sizes) (DD rows) d
 let nt:=vf l.1 d
 rS sizes (row rows d) (c st nt).1 l (c st nt).2
def c7(c:Int->Int->Int×Int)(sizes:List Int)(rows:List Row)(left:Row)(n:Nat):List Row:=(List.range n).map (eU c sizes rows left)
variable{left:Row}{sizes:List Int}{c:Int->Int->Int×Int}
theorem dO(w:Wf n m rows)(hs:sizes.length=n)(h1:left.1.length=n)(h2:left.2.length=m):∀ d,d<=n->(aA c sizes rows left d).1.length=n/\(aA c sizes rows left d).2.length=m
 | 0,_=>⟨h1,h2⟩
 | d+1,hd=>by
  obtain⟨i1,i2⟩:=dO w hs h1 h2 d (by omega)
  have e1:=w.rV (d:=d) (by omega);have e2:=w.at2 (d:=d) (by omega)
  simp only[aA,rS]
  rw[jv,cD,cD]
  exact⟨by omega,by omega⟩
theorem lA(h:d<n):row (c7 c sizes rows left n) d=eU c sizes rows left d:=by
 rw[j5 (by simp[c7,h])];simp[c7]
theorem CI(w:Wf n m rows)(hs:sizes.length=n)(h1:left.1.length=n)(h2:left.2.length=m):Wf n m (c7 c sizes rows left n):=by
 have key:∀ d,d<n->(eU c sizes rows left d).1.length=n/\(eU c sizes rows left d).2.length=m:=λd hd=>by
  obtain⟨i1,i2⟩:=dO (c:=c) w hs h1 h2 d (by omega)
  have e1:=w.rV (d:=d) hd;have e2:=w.at2 (d:=d) hd
  simp only[eU,rS]
  rw[jv,cD,cD]
  exact⟨by omega,by omega⟩
 refine⟨by simp[c7],λr hr=>?_,λr hr=>?_⟩
 ·obtain⟨d,hd,rfl⟩:=List.mem_map.mp hr
  exact(key d (List.mem_range.mp hd)).1
 ·obtain⟨d,hd,rfl⟩:=List.mem_map.mp hr
  exact(key d (List.mem_range.mp hd)).2
theorem ip(h:0<a):0<(Int.gcd a b:Int):=by
 have:=Int.gcd_pos_of_ne_zero_left b (show a≠0 by omega);omega
theorem KZ(w:Wf n m rows)(hs:sizes.length=n)(h1:left.1.length=n)(h2:left.2.length=m)(Gd:Good n (vf sizes) (DD rows))(h0:∀ i,i<n->0<=vf left.1 i/\vf left.1 i<vf sizes i)
  (hc:∀ d,d<n->(c (br (vf sizes) (DD rows) d) (vf (aA c sizes rows left d).1 d)).1*br (vf sizes) (DD rows) d+(c (br (vf sizes) (DD rows) d) (vf (aA c sizes rows left d).1 d)).2*vf (aA c sizes rows left d).1 d=(Int.gcd (br (vf sizes) (DD rows) d) (vf (aA c sizes rows left d).1 d):Nat)) :
  Tk n (vf sizes) (DD rows) (DD (c7 c sizes rows left n)) (λd=>vf (aA c sizes rows left d).1) (λd=>(c (br (vf sizes) (DD rows) d) (vf (aA c sizes rows left d).1 d)).1) (λd=>(c (br (vf sizes) (DD rows) d) (vf (aA c sizes rows left d).1 d)).2) (λd=>(Int.gcd (br (vf sizes) (DD rows) d) (vf (aA c sizes rows left d).1 d):Nat)) where
 gp:=λd hd=>ip (Gd.pos hd).1
 bz:=hc
 g1:=λd hd=>Int.gcd_dvd_left ..
 g2:=λd hd=>Int.gcd_dvd_right ..
 Lw:=λd hd i hi=>by
  obtain⟨i1,i2⟩:=dO (c:=c) w hs h1 h2 d (by omega)
  have e1:=w.rV (d:=d) hd
  show vf (row (c7 c sizes rows left n) d).1 i=_
  rw[lA hd]
  simp only[eU,rS]
  rw[kj (by rw[cD];omega) (by omega),fY (by omega) (by omega)]
  rfl
 K2:=λd hd i hi=>by
  obtain⟨i1,i2⟩:=dO (c:=c) w hs h1 h2 d (by omega)
  have e1:=w.rV (d:=d) hd
  simp only[aA,rS]
  rw[kj (by rw[cD];omega) (by omega),fY (by omega) (by omega)]
  rfl
 l0:=h0
def CB(c:Int->Int->Int×Int):Prop:=∀ a b:Int,0<a->a<=360->0<=b->b<=360->(c a b).1*a+(c a b).2*b=(Int.gcd a b:Nat)/\(c a b).1.natAbs<2^20/\(c a b).2.natAbs<2^20
theorem kZ(h:0<a)(h2:a<=360):0<a/(Int.gcd a b:Nat)/\a/(Int.gcd a b:Nat)<=360:=by
 have g:=ip (b:=b) h
 obtain⟨q,hq⟩:((Int.gcd a b:Nat):Int)∣a:=Int.gcd_dvd_left ..
 have e:a/(Int.gcd a b:Nat)=q:=by
  have:((Int.gcd a b:Nat):Int)≠0:=by omega
  exact Int.ediv_eq_of_eq_mul_right this hq
 rw[e]
 have q0:0<q:=by
  rcases Int.lt_or_le 0 q with z | z
  ·exact z
  ·have:=Int.mul_nonpos_of_nonneg_of_nonpos (Int.le_of_lt g) z;omega
 refine⟨q0,?_⟩
 have:1*q<=(Int.gcd a b:Nat)*q:=Int.mul_le_mul_of_nonneg_right (by omega) (by omega)
 omega
theorem nh(h:0<a)(h1:0<=b)(h2:b<=360):0<=b/(Int.gcd a b:Nat)/\b/(Int.gcd a b:Nat)<=360:=by
 have g:=ip (b:=b) h
 exact⟨Int.ediv_nonneg h1 (by omega),Int.le_trans (Int.ediv_le_self _ h1) h2⟩
def Zf(k m:Nat)(P:dP):Prop:=∀ l,k<=l->l<m->P l=0
structure St (n m:Nat) (sizes:List Int) (A:Nat->dP) (k:Nat) (rows:List Row):Prop where
 wf:Wf n m rows
 hs:sizes.length=n
 sm:∀ i,i<n->vf sizes i<=360
 gd:Good n (vf sizes) (DD rows)
 led:∀ d,d<n->Led n (vf sizes) m A (DD rows d) (PP rows d)
 zf:∀ d,d<n->Zf k m (PP rows d)
 bd:∀ d,d<n->Bd (150*k+1) (row rows d).2
 cl:∀ l,l<k->G n (vf sizes) (DD rows) n 0 (A l)
structure Lv (n m:Nat) (sizes:List Int) (A:Nat->dP) (k:Nat) (left:Row):Prop where
 l1:left.1.length=n
 l2:left.2.length=m
 km:k<m
 at_:∀ i,i<n->vf left.1 i=A k i
 kz:∀ i,i<n->0<=A k i/\A k i<vf sizes i
 un:∀ l,l<m->vf left.2 l=if l=k then 1 else 0
theorem lD(h:St n m sizes A k rows)(L:Lv n m sizes A k left):∀ d,d<=n->∀ i,i<n->0<=vf (aA c sizes rows left d).1 i/\vf (aA c sizes rows left d).1 i<vf sizes i
 | 0,_,i,hi=>by show 0<=vf left.1 i/\vf left.1 i<vf sizes i;rw[L.at_ i hi];exact L.kz i hi
 | d+1,hd,i,hi=>by
  obtain⟨i1,i2⟩:=dO (c:=c) h.wf h.hs L.l1 L.l2 d (by omega)
  have e1:=h.wf.rV (d:=d) (by omega)
  have hs:=h.hs
  simp only[aA,rS]
  rw[kj (by rw[cD];omega) (by omega)]
  have:=h.gd.sp i hi
  exact⟨Int.emod_nonneg _ (by omega),Int.emod_lt_of_pos _ this⟩
theorem St.tk(h:St n m sizes A k rows)(L:Lv n m sizes A k left)(cb:CB c):Tk n (vf sizes) (DD rows) (DD (c7 c sizes rows left n)) (λd=>vf (aA c sizes rows left d).1) (λd=>(c (br (vf sizes) (DD rows) d) (vf (aA c sizes rows left d).1 d)).1) (λd=>(c (br (vf sizes) (DD rows) d) (vf (aA c sizes rows left d).1 d)).2) (λd=>(Int.gcd (br (vf sizes) (DD rows) d) (vf (aA c sizes rows left d).1 d):Nat)) :=
 KZ h.wf h.hs L.l1 L.l2 h.gd (λi hi=>by rw[L.at_ i hi];exact L.kz i hi) λd hd=>by
  have p:=h.gd.pos hd
  have q:=lD (c:=c) h L d (by omega) d hd
  have s:=h.sm d hd
  exact(cb _ _ p.1 (by omega) q.1 (by omega)).1
theorem qD(h:St n m sizes A k rows)(L:Lv n m sizes A k left):∀ d,d<=n->Led n (vf sizes) m A (vf (aA c sizes rows left d).1) (vf (aA c sizes rows left d).2)
 | 0,_=>λi hi=>by
  show vf sizes i∣vf left.1 i-bj m λl=>vf left.2 l*A l i
  rw[L.at_ i hi,jH k (A k i) m L.km (λl=>vf left.2 l*A l i) λl hl=>by
   rw[L.un l hl]
   by_cases z:l=k
   ·subst z;rw[if_pos rfl,if_pos rfl,Int.one_mul]
   ·rw[if_neg z,if_neg z,Int.zero_mul]]
  rw[Int.sub_self];exact Int.dvd_zero _
 | d+1,hd=>by
  obtain⟨i1,i2⟩:=dO (c:=c) h.wf h.hs L.l1 L.l2 d (by omega)
  have e1:=h.wf.rV (d:=d) (by omega);have e2:=h.wf.at2 (d:=d) (by omega)
  have hs:=h.hs
  refine Led.mix (a:=br (vf sizes) (DD rows) d/(Int.gcd (br (vf sizes) (DD rows) d) (vf (aA c sizes rows left d).1 d):Nat)) (b:=-(vf (aA c sizes rows left d).1 d/(Int.gcd (br (vf sizes) (DD rows) d) (vf (aA c sizes rows left d).1 d):Nat))) (qD h L d (by omega)) (h.led d (by omega)) (λi hi=>?_) λl hl=>?_
  ·simp only[aA,rS]
   rw[kj (by rw[cD];omega) (by omega),fY (by omega) (by omega)]
   exact cG _ _
  ·simp only[aA,rS]
   rw[fY (by omega) (by omega)];rfl
theorem vI(h:St n m sizes A k rows)(L:Lv n m sizes A k left):∀ d,d<=n->Zf (k+1) m (vf (aA c sizes rows left d).2)/\vf (aA c sizes rows left d).2 k=bO d λe=>br (vf sizes) (DD rows) e/(Int.gcd (br (vf sizes) (DD rows) e) (vf (aA c sizes rows left e).1 e):Nat)
 | 0,_=>⟨λl h1 h2=>by show vf left.2 l=0;rw[L.un l h2,if_neg (by omega)],by show vf left.2 k=1;rw[L.un k L.km,if_pos rfl]⟩
 | d+1,hd=>by
  obtain⟨i1,i2⟩:=dO (c:=c) h.wf h.hs L.l1 L.l2 d (by omega)
  have e2:=h.wf.at2 (d:=d) (by omega)
  obtain⟨j1,j2⟩:=vI h L d (by omega)
  have z:=h.zf d (by omega)
  have km:=L.km
  constructor
  ·intro l h1 h2
   simp only[aA,rS]
   rw[fY (by omega) (by omega),j1 l h1 h2,show vf (row rows d).2 l=0 from z l (by omega) h2];simp
  ·rw[bO,← j2]
   simp only[aA,rS]
   rw[fY (by omega) (by omega),show vf (row rows d).2 k=0 from z k (Nat.le_refl _) km]
   grind
theorem pR(h:St n m sizes A k rows)(L:Lv n m sizes A k left)(hn:n<=6):∀ d,d<=n->Bd (150*k+1+11*d) (aA c sizes rows left d).2
 | 0,_=>λx hx=>by
  have hx:x∈left.2:=hx
  obtain⟨i,hi,rfl⟩:=List.mem_iff_getElem.mp hx
  have hm:i<m:=by rw[← L.l2];exact hi
  have e:=L.un i hm
  rw[aP hi] at e
  show (left.2[i]).natAbs<_
  rw[e]
  have:2^1<=2^(150*k+1+11*0):=Nat.pow_le_pow_right (by decide) (by omega)
  refine Nat.lt_of_lt_of_le ?_ this
  split
  ·decide
  ·decide
 | d+1,hd=>by
  have p:=h.gd.pos (show d<n by omega)
  have s:=h.sm d (by omega)
  have q:=lD (c:=c) h L d (by omega) d (by omega)
  have a1:=kZ (b:=vf (aA c sizes rows left d).1 d) p.1 (by omega)
  have a2:=nh (b:=vf (aA c sizes rows left d).1 d) p.1 q.1 (by omega)
  have:=Bd.mix (A:=9+1) (pR h L hn d (by omega)) ((h.bd d (by omega)).mono (show 150*k+1<=150*k+1+11*d by omega)) (a:=br (vf sizes) (DD rows) d/(Int.gcd (br (vf sizes) (DD rows) d) (vf (aA c sizes rows left d).1 d):Nat)) (b:=-(vf (aA c sizes rows left d).1 d/(Int.gcd (br (vf sizes) (DD rows) d) (vf (aA c sizes rows left d).1 d):Nat))) (by omega) (by omega)
  exact this.mono (by omega)
theorem St.next(h:St n m sizes A k rows)(L:Lv n m sizes A k left)(cb:CB c)(hn:n<=6):St n m sizes A (k+1) (c7 c sizes rows left n):=by
 have T:=h.tk L cb
 have hs:=h.hs
 refine⟨CI h.wf h.hs L.l1 L.l2,h.hs,h.sm,T.good h.gd,λd hd=>?_,λd hd=>?_,λd hd=>?_,λl hl=>?_⟩
 ·obtain⟨i1,i2⟩:=dO (c:=c) h.wf h.hs L.l1 L.l2 d (by omega)
  have e1:=h.wf.rV (d:=d) hd;have e2:=h.wf.at2 (d:=d) hd
  unfold DD PP
  rw[lA hd]
  refine Led.mix (a:=(c (br (vf sizes) (DD rows) d) (vf (aA c sizes rows left d).1 d)).1) (b:=(c (br (vf sizes) (DD rows) d) (vf (aA c sizes rows left d).1 d)).2) (h.led d hd) (qD (c:=c) h L d (by omega)) (λi hi=>?_) λl hl=>?_
  ·simp only[eU,rS]
   rw[kj (by rw[cD];omega) (by omega),fY (by omega) (by omega)]
   exact cG _ _
  ·simp only[eU,rS]
   rw[fY (by omega) (by omega)];rfl
 ·obtain⟨i1,i2⟩:=dO (c:=c) h.wf h.hs L.l1 L.l2 d (by omega)
  have e2:=h.wf.at2 (d:=d) hd
  intro l h1 h2
  unfold PP
  rw[lA hd]
  simp only[eU,rS]
  rw[fY (by omega) (by omega),(vI (c:=c) h L d (by omega)).1 l h1 h2,show vf (row rows d).2 l=0 from h.zf d hd l (by omega) h2];simp
 ·rw[lA hd]
  have p:=h.gd.pos hd
  have s:=h.sm d hd
  have q:=lD (c:=c) h L d (by omega) d hd
  have b:=cb (br (vf sizes) (DD rows) d) (vf (aA c sizes rows left d).1 d) p.1 (by omega) q.1 (by omega)
  have:=Bd.mix (A:=20) ((h.bd d hd).mono (show 150*k+1<=150*k+1+11*d by omega)) (pR (c:=c) h L hn d (by omega)) b.2.1 b.2.2
  exact this.mono (by omega)
 ·rcases Nat.lt_or_ge l k with q | q
  ·exact(T.main h.gd n 0 (by omega)).1 _ (h.cl l q)
  ·obtain rfl:l=k:=by omega
   exact G.ext (by omega) (λi hi=>L.at_ i hi) (T.main h.gd n 0 (by omega)).2
def bc(idle:List (List Int))(k:Nat)(P:List Int):Nat->List Int
 | 0=>P
 | c+1 =>
  let z:=bc idle k P c
  let r:=idle.getD (k-1-c) []
  pE z 1 r (-(vf z (k-1-c)/vf r (k-1-c)))
def II(idle:List (List Int)):Nat->dP:=λj=>vf (idle.getD j [])
structure Br (n m:Nat) (s:dP) (A:Nat->dP) (k:Nat) (idle:List (List Int)):Prop where
 len:idle.length=k
 l2:∀ j,j<k->(idle.getD j []).length=m
 pos:∀ j,j<k->0<II idle j j
 le:∀ j,j<k->II idle j j<2^60
 zero:∀ j,j<k->∀ l,j<l->l<m->II idle j l=0
 nf:∀ j,j<k->∀ l,l<j->0<=II idle j l/\II idle j l<II idle l l
 vP:∀ j,j<k->Led n s m A (λ_=>0) (II idle j)
variable{idle:List (List Int)}
variable{j:Nat}
section
variable{P:List Int}
theorem Br.bd(h:Br n m s A k idle)(hj:j<k)(hm:k<=m):Bd 60 (idle.getD j []):=λx hx=>by
 obtain⟨l,hl,rfl⟩:=List.mem_iff_getElem.mp hx
 rw[h.l2 j hj] at hl
 have e:II idle j l=(idle.getD j [])[l]'(by rw[h.l2 j hj];exact hl):=aP _
 rw[← e]
 rcases Nat.lt_or_ge l j with q | q
 ·have h1:=h.nf j hj l q
  have h2:=h.le l (by omega)
  omega
 ·rcases Nat.lt_or_ge j l with q2 | q2
  ·rw[h.zero j hj l q2 hl];exact Nat.two_pow_pos _
  ·obtain rfl:l=j:=by omega
   have h1:=h.pos l hj;have h2:=h.le l hj
   omega
theorem span_len(h:Br n m s A k idle)(hP:P.length=m):∀ c,c<=k->(bc idle k P c).length=m
 | 0,_=>hP
 | c+1,hc=>by
  simp only[bc]
  rw[cD,span_len h hP c (by omega),h.l2 _ (by omega)];omega
theorem pX(h:Br n m s A k idle)(hP:P.length=m){c l:Nat}(hc:c<k)(hl:l<m):vf (bc idle k P (c+1)) l=vf (bc idle k P c) l-vf (bc idle k P c) (k-1-c)/II idle (k-1-c) (k-1-c)*II idle (k-1-c) l:=by
 simp only[bc]
 rw[fY (by rw[span_len h hP c (by omega)];exact hl) (by rw[h.l2 _ (by omega)];exact hl)]
 unfold II
 grind
theorem vX(h:Br n m s A k idle)(hP:P.length=m):∀ c,c<=k->∀ l,k<=l->l<m->vf (bc idle k P c) l=vf P l
 | 0,_,_,_,_=>rfl
 | c+1,hc,l,h1,h2=>by
  rw[pX h hP (by omega) h2,h.zero _ (by omega) l (by omega) h2,vX h hP c (by omega) l h1 h2];simp
theorem uu(h:Br n m s A k idle)(hP:P.length=m)(hm:k<=m):∀ c,c<=k->∀ l,k-c<=l->l<k->0<=vf (bc idle k P c) l/\vf (bc idle k P c) l<II idle l l
 | 0,_,l,h1,h2=>by omega
 | c+1,hc,l,h1,h2=>by
  rw[pX h hP (by omega) (by omega)]
  rcases Nat.lt_or_ge (k-1-c) l with q | q
  ·rw[h.zero _ (by omega) l q (by omega),Int.mul_zero,Int.sub_zero]
   exact uu h hP hm c (by omega) l (by omega) h2
  ·obtain rfl:l=k-1-c:=by omega
   have p:=h.pos (k-1-c) (by omega)
   have e:=Int.emod_def (vf (bc idle k P c) (k-1-c)) (II idle (k-1-c) (k-1-c))
   rw[Int.mul_comm (vf (bc idle k P c) (k-1-c)/_),← e]
   exact⟨Int.emod_nonneg _ (by omega),Int.emod_lt_of_pos _ p⟩
theorem qW(h:Br n m s A k idle)(hP:P.length=m){v:dP}(hv:Led n s m A v (vf P)):∀ c,c<=k->Led n s m A v (vf (bc idle k P c))
 | 0,_=>hv
 | c+1,hc=>by
  refine Led.mix (a:=1) (b:=-(vf (bc idle k P c) (k-1-c)/II idle (k-1-c) (k-1-c))) (qW h hP hv c (by omega)) (h.vP (k-1-c) (by omega)) (λi hi=>?_) λl hl=>?_
  ·rw[Int.mul_zero,Int.add_zero,Int.one_mul,Int.sub_self];exact Int.dvd_zero _
  ·rw[pX h hP (by omega) hl];grind
theorem zX(h:Br n m s A k idle)(hP:P.length=m)(hm:k<=m){B:Nat}(hB:60<=B)(hb:Bd B P):∀ c,c<=k->Bd (B+62*c) (bc idle k P c)
 | 0,_=>hb
 | c+1,hc=>by
  have ih:=zX h hP hm hB hb c (by omega)
  intro x hx
  obtain⟨l,hl,rfl⟩:=List.mem_iff_getElem.mp hx
  rw[span_len h hP (c+1) hc] at hl
  rw[← aP,pX h hP (by omega) hl]
  have p:=h.pos (k-1-c) (by omega)
  have q1:(vf (bc idle k P c) (k-1-c)/II idle (k-1-c) (k-1-c)).natAbs<2^(B+62*c+1):=by
   have h1:=ih.vf (k-1-c)
   have h2:=Int.natAbs_ediv_le_natAbs (vf (bc idle k P c) (k-1-c)) (II idle (k-1-c) (k-1-c))
   rw[Nat.pow_succ];omega
  have q2:(II idle (k-1-c) l).natAbs<2^60:=(h.bd (j:=k-1-c) (by omega) hm).vf l
  have q3:=yZ q1 q2
  have q4:=ih.vf l
  have q5:2^(B+62*c)<=2^(B+62*c+1+60):=Nat.pow_le_pow_right (by decide) (by omega)
  have q6:(2:Nat)^(B+62*(c+1))=2^(B+62*c+1+60)*2:=by rw[← Nat.pow_succ];congr 1
  rw[q6];omega
end
theorem Tk.order{s:dP}{D D' L:Nat->dP}{u v g:Nat->Int}(t:Tk n s D D' L u v g)(Gd:Good n s D):∀ (k d:Nat) (x:Int),d+k=n->G n s D k d (λi=>x*L d i)->bO n (λe=>br s D e/g e)∣x*bO d (λe=>br s D e/g e)
 | 0,d,x,hn,h=>by
  obtain rfl:d=n:=by omega
  exact Int.dvd_mul_left _ _
 | k+1,d,x,hn,h=>by
  have hd:d<n:=by omega
  obtain⟨a,ha⟩:=t.g1 d hd
  obtain⟨b,hb⟩:=t.g2 d hd
  have gp:=t.gp d hd
  have sp:=(Gd.pos hd).1
  have e1:br s D d/g d=a:=by rw[ha];exact Int.mul_ediv_cancel_left a (by omega)
  have e2:L d d/g d=b:=by rw[hb];exact Int.mul_ediv_cancel_left b (by omega)
  have bz:u d*a+v d*b=1:=by
   have:=t.bz d hd
   rw[ha,hb,show u d*(g d*a)+v d*(g d*b)=g d*(u d*a+v d*b) by grind] at this
   have h2:g d*(u d*a+v d*b)=g d*1:=by omega
   exact Int.eq_of_mul_eq_mul_left (by omega) h2
  obtain⟨q,hq⟩:=h.1
  have hax:a∣x:=by
   have h3:g d*(x*b)=g d*(a*q):=by
    have:x*L d d=br s D d*q:=hq
    rw[hb,ha] at this;grind
   have h4:x*b=a*q:=Int.eq_of_mul_eq_mul_left (by omega) h3
   exact⟨u d*x+v d*q,by
    have:x=x*(u d*a+v d*b):=by rw[bz,Int.mul_one]
    rw[this]
    have:x*(u d*a+v d*b)=a*(u d*x)+v d*(x*b):=by grind
    rw[this,h4];grind⟩
  obtain⟨y,hy⟩:=hax
  have P9:q=b*y:=by
   have h3:g d*(a*q)=g d*(a*(b*y)):=by
    have:x*L d d=br s D d*q:=hq
    rw[hb,ha,hy] at this;grind
   have ap:a≠0:=by intro z;rw[z,Int.mul_zero] at ha;omega
   exact Int.eq_of_mul_eq_mul_left ap (Int.eq_of_mul_eq_mul_left (by omega) h3)
  have h2:=h.2
  have q1:x*L d d/br s D d=q:=by
   show x*L d d/br s D d=q
   rw[show x*L d d=br s D d*q from hq];exact Int.mul_ediv_cancel_left q (by omega)
  have:=t.order Gd k (d+1) y (by omega) (Gd.uK (by omega) (λi hi=>?_) h2)
  ·rw[bO,e1] at this
   rw[hy,show a*y*bO d (λe=>br s D e/g e)=y*(bO d (λe=>br s D e/g e)*a) by grind]
   exact this
  ·show s i∣y*L (d+1) i-(x*L d i-x*L d d/br s D d*D d i)
   rw[q1,t.K2 d hd i hi,e1,e2]
   obtain⟨z,hz⟩:=cG (a*L d i+-b*D d i) (s i)
   refine⟨y*z,?_⟩
   have:(a*L d i+-b*D d i)%s i=a*L d i+-b*D d i+s i*z:=by omega
   rw[this,hy,P9];grind
theorem G.sum(Gd:Good n (vf sizes) (DD rows)){P:dP}:∀ k',(∀ l,l<k'->G n (vf sizes) (DD rows) n 0 (A l))->G n (vf sizes) (DD rows) n 0 (λi=>bj k' λl=>P l*A l i)
 | 0,_=>G.zero (by omega)
 | k'+1,h=>G.ext (by omega) (λi _=>rfl) (G.add (by omega) (G.sum Gd k' λl hl=>h l (by omega)) (G.mul (P k') (by omega) (h k' (by omega))))
def oN(m k:Nat):List Int:=(List.range m).map λl=>if l=k then 1 else 0
theorem wc{l:Nat}(h:l<m):vf (oN m k) l=if l=k then 1 else 0:=by
 rw[aP (by simp[oN,h])];simp[oN]
def AA(Ls:List (List Int)):Nat->dP:=λl=>vf (Ls.getD l [])
def cA(Ls:List (List Int))(m k:Nat):Row:=(Ls.getD k [],oN m k)
def RK(c:Int->Int->Int×Int)(sizes:List Int)(Ls:List (List Int))(n m:Nat):Nat->List Row×List (List Int)
 | 0=>(List.replicate n (List.replicate n 0,List.replicate m 0),[])
 | k+1 =>
  (c7 c sizes (RK c sizes Ls n m k).1 (cA Ls m k) n,(RK c sizes Ls n m k).2++[bc (RK c sizes Ls n m k).2 k (aA c sizes (RK c sizes Ls n m k).1 (cA Ls m k) n).2 k])
structure Lq (n m:Nat) (sizes:List Int) (Ls:List (List Int)):Prop where
 len:Ls.length=m
 at_:∀ l,l<m->(Ls.getD l []).length=n
 kz:∀ l,l<m->∀ i,i<n->0<=AA Ls l i/\AA Ls l i<vf sizes i
structure B9 (n m:Nat) (sizes:List Int) (Ls:List (List Int)) (k:Nat) (r:List Row×List (List Int)):Prop where
 st:St n m sizes (AA Ls) k r.1
 vP:Br n m (vf sizes) (AA Ls) k r.2
 pr:bO k (λj=>II r.2 j j)*bO n (br (vf sizes) (DD r.1))=bO n (vf sizes)
 ord:∀ j,j<k->∀ P:dP,Zf (j+1) m P->Led n (vf sizes) m (AA Ls) (λ_=>0) P->II r.2 j j∣P j
variable{x:List Int}
section
variable{Ls:List (List Int)}
theorem jf(h:j<idle.length):II (idle++[x]) j=II idle j:=by
 unfold II
 rw[List.getD_eq_getElem?_getD,List.getElem?_append_left h,← List.getD_eq_getElem?_getD]
theorem kK:II (idle++[x]) idle.length=vf x:=by
 unfold II
 rw[List.getD_eq_getElem?_getD,List.getElem?_append_right (Nat.le_refl _)];simp
theorem Ea(h:j<idle.length):(idle++[x]).getD j []=idle.getD j []:=by
 rw[List.getD_eq_getElem?_getD,List.getElem?_append_left h,← List.getD_eq_getElem?_getD]
theorem D_:(idle++[x]).getD idle.length []=x:=by
 rw[List.getD_eq_getElem?_getD,List.getElem?_append_right (Nat.le_refl _)];simp
theorem qF{f:Nat->Int}{k:Nat}:∀ {m:Nat},k<m->(∀ l,k<l->l<m->f l=0)->bj m f=bj k f+f k
 | 0,h,_=>by omega
 | m+1,h,e=>by
  rw[bj]
  by_cases z:k=m
  ·subst z;rfl
  ·rw[qF (m:=m) (by omega) λl h1 h2=>e l h1 (by omega),e m (by omega) (by omega)];omega
theorem wO:∀ {n:Nat} {f:Nat->Int},(∀ i,i<n->0<f i/\f i<=360)->bO n f<=360^n
 | 0,f,_=>by simp[bO]
 | n+1,f,h=>by
  rw[bO,Int.pow_succ]
  exact Int.mul_le_mul (wO λi hi=>h i (by omega)) (h n (by omega)).2 (by have:=(h n (by omega)).1;omega) (Int.pow_nonneg (by decide))
theorem NB(h:n<=6):(360:Int)^n<=360^6:=by
 have:n=0\/n=1\/n=2\/n=3\/n=4\/n=5\/n=6:=by omega
 rcases this with rfl | rfl | rfl | rfl | rfl | rfl | rfl <;> decide
theorem B9.next{r:List Row×List (List Int)}(h:B9 n m sizes Ls k r)(LL:Lq n m sizes Ls)(cb:CB c)(hn:n<=6)(hk:k<m) :
  B9 n m sizes Ls (k+1) (c7 c sizes r.1 (cA Ls m k) n,r.2++[bc r.2 k (aA c sizes r.1 (cA Ls m k) n).2 k]):=by
 have L:Lv n m sizes (AA Ls) k (cA Ls m k):=⟨LL.at_ k hk,by simp[cA,oN],hk,λi hi=>rfl,LL.kz k hk,λl hl=>wc hl⟩
 have T:=h.st.tk L cb
 have ll:=dO (c:=c) h.st.wf h.st.hs L.l1 L.l2 n (Nat.le_refl _)
 have zf:=vI (c:=c) h.st L n (Nat.le_refl _)
 have led:=qD (c:=c) h.st L n (Nat.le_refl _)
 have l0:=T.zero h.st.gd n (Nat.le_refl _)
 have il:r.2.length=k:=h.vP.len
 have out:=vX h.vP ll.2 k (Nat.le_refl _)
 have jk:vf (bc r.2 k (aA c sizes r.1 (cA Ls m k) n).2 k) k=bO n λe=>br (vf sizes) (DD r.1) e/(Int.gcd (br (vf sizes) (DD r.1) e) (vf (aA c sizes r.1 (cA Ls m k) e).1 e):Nat):=by
  rw[out k (Nat.le_refl _) hk];exact zf.2
 have pos:∀ e,e<n->0<br (vf sizes) (DD r.1) e/(Int.gcd (br (vf sizes) (DD r.1) e) (vf (aA c sizes r.1 (cA Ls m k) e).1 e):Nat):=λe he=>by
  have p:=h.st.gd.pos he
  have s:=h.st.sm e he
  exact(kZ p.1 (by omega)).1
 have pr:bO (k+1) (λj=>II (r.2++[bc r.2 k (aA c sizes r.1 (cA Ls m k) n).2 k]) j j)*bO n (br (vf sizes) (DD (c7 c sizes r.1 (cA Ls m k) n)))=bO n (vf sizes):=by
  rw[bO,show II (r.2++[bc r.2 k (aA c sizes r.1 (cA Ls m k) n).2 k]) k=vf (bc r.2 k (aA c sizes r.1 (cA Ls m k) n).2 k) by rw[← il];exact kK]
  rw[jt (g:=λj=>II r.2 j j) λj hj=>by rw[jf (by omega)],← h.pr,jk]
  rw[jt (g:=λd=>((Int.gcd (br (vf sizes) (DD r.1) d) (vf (aA c sizes r.1 (cA Ls m k) d).1 d):Nat):Int)) λd hd=>T.step h.st.gd hd]
  rw[tR (f:=br (vf sizes) (DD r.1)) (g:=λd=>((Int.gcd (br (vf sizes) (DD r.1) d) (vf (aA c sizes r.1 (cA Ls m k) d).1 d):Nat):Int)) (h:=λe=>br (vf sizes) (DD r.1) e/(Int.gcd (br (vf sizes) (DD r.1) e) (vf (aA c sizes r.1 (cA Ls m k) e).1 e):Nat)) λd hd=>(Int.mul_ediv_cancel' (Int.gcd_dvd_left ..)).symm]
  grind
 have jpos:0<vf (bc r.2 k (aA c sizes r.1 (cA Ls m k) n).2 k) k:=by rw[jk];exact lL pos
 have St':=h.st.next L cb hn
 have jle:vf (bc r.2 k (aA c sizes r.1 (cA Ls m k) n).2 k) k<2^60:=by
  have b:bO n (vf sizes)<=360^n:=wO λi hi=>⟨h.st.gd.sp i hi,h.st.sm i hi⟩
  have b2:(360:Int)^n<=360^6:=NB hn
  have b3:(360:Int)^6<2^60:=by decide
  rw[bO,show II (r.2++[bc r.2 k (aA c sizes r.1 (cA Ls m k) n).2 k]) k=vf (bc r.2 k (aA c sizes r.1 (cA Ls m k) n).2 k) by rw[← il];exact kK] at pr
  have p1:0<bO k (λj=>II (r.2++[bc r.2 k (aA c sizes r.1 (cA Ls m k) n).2 k]) j j):=lL λj hj=>by rw[jf (by omega)];exact h.vP.pos j hj
  have p2:0<bO n (br (vf sizes) (DD (c7 c sizes r.1 (cA Ls m k) n))):=lL λd hd=>(St'.gd.pos hd).1
  generalize bO k (λj=>II (r.2++[bc r.2 k (aA c sizes r.1 (cA Ls m k) n).2 k]) j j)=a at *
  generalize bO n (br (vf sizes) (DD (c7 c sizes r.1 (cA Ls m k) n)))=b' at *
  generalize vf (bc r.2 k (aA c sizes r.1 (cA Ls m k) n).2 k) k=x at *
  have e1:1*x<=a*x:=Int.mul_le_mul_of_nonneg_right (by omega) (by omega)
  have e2:a*x*1<=a*x*b':=Int.mul_le_mul_of_nonneg_left (by omega) (by omega)
  omega
 refine⟨St',⟨by simp[il],λj hj=>?_,λj hj=>?_,λj hj=>?_,λj hj l h1 h2=>?_,λj hj l hl=>?_,λj hj=>?_⟩,pr,λj hj P hz hP=>?_⟩
 all_goals
  rcases Nat.lt_or_ge j k with q | q
 ·rw[Ea (by omega)];exact h.vP.l2 j q
 ·obtain rfl:j=r.2.length:=by omega
  rw[D_];exact span_len h.vP ll.2 k (Nat.le_refl _)
 ·rw[jf (by omega)];exact h.vP.pos j q
 ·obtain rfl:j=r.2.length:=by omega
  rw[kK,il];exact jpos
 ·rw[jf (by omega)];exact h.vP.le j q
 ·obtain rfl:j=r.2.length:=by omega
  rw[kK,il];exact jle
 ·rw[jf (by omega)];exact h.vP.zero j q l h1 h2
 ·obtain rfl:j=r.2.length:=by omega
  rw[kK,out l (by omega) h2];exact zf.1 l (by omega) h2
 ·rw[jf (by omega),jf (by omega)];exact h.vP.nf j q l hl
 ·obtain rfl:j=r.2.length:=by omega
  rw[kK,jf (by omega)];exact uu h.vP ll.2 (by omega) k (Nat.le_refl _) l (by omega) (by omega)
 ·rw[jf (by omega)];exact h.vP.vP j q
 ·obtain rfl:j=r.2.length:=by omega
  rw[kK]
  refine qW h.vP ll.2 (λi hi=>?_) k (Nat.le_refl _)
  have:=led i hi
  rw[show vf (aA c sizes r.1 (cA Ls m k) n).1 i=0 from l0 i hi] at this
  exact this
 ·rw[jf (by omega)];exact h.ord j q P hz hP
 ·obtain rfl:j=k:=by omega
  rw[show II (r.2++[bc r.2 j (aA c sizes r.1 (cA Ls m j) n).2 j]) j=vf (bc r.2 j (aA c sizes r.1 (cA Ls m j) n).2 j) by rw[← il];exact kK,jk]
  have:=T.order h.st.gd n 0 (P j) (by omega) ?_
  ·rwa [bO,Int.mul_one] at this
  ·refine h.st.gd.uK (by omega) (λi hi=>?_) (G.mul (-1) (by omega) (G.sum (A:=AA Ls) (P:=P) h.st.gd j h.st.cl))
   have e:=hP i hi
   rw[qF hk λl h1 h2=>by rw[hz l (by omega) h2,Int.zero_mul]] at e
   obtain⟨x,hx⟩:=e
   have hx:(0:Int)-(bj j (λl=>P l*AA Ls l i)+P j*AA Ls j i)=vf sizes i*x:=hx
   show vf sizes i∣P j*AA Ls j i - -1*bj j λl=>P l*AA Ls l i
   exact⟨-x,by rw[Int.mul_neg];omega⟩
theorem B9.start(hs:sizes.length=n)(hp:∀ i,i<n->0<vf sizes i/\vf sizes i<=360):B9 n m sizes Ls 0 (List.replicate n (List.replicate n 0,List.replicate m 0),[]):=by
 have rw0:∀ d,d<n->row (List.replicate n (List.replicate n 0,List.replicate m 0)) d=(List.replicate n 0,List.replicate m 0):=λd hd=>by
  rw[j5 (by simpa using hd)];simp
 have D0:∀ d,d<n->∀ i,DD (List.replicate n (List.replicate n 0,List.replicate m 0)) d i=0:=λd hd i=>by
  unfold DD;rw[rw0 d hd];exact iN n i
 have P0:∀ d,d<n->∀ i,PP (List.replicate n (List.replicate n 0,List.replicate m 0)) d i=0:=λd hd i=>by
  unfold PP;rw[rw0 d hd];exact iN m i
 have st:∀ d,d<n->br (vf sizes) (DD (List.replicate n (List.replicate n 0,List.replicate m 0))) d=vf sizes d:=λd hd=>by
  unfold br;rw[if_pos (D0 d hd d)]
 refine⟨⟨⟨by simp,λr hr=>by rw[List.eq_of_mem_replicate hr];simp,λr hr=>by rw[List.eq_of_mem_replicate hr];simp⟩,hs,λi hi=>(hp i hi).2,⟨λi hi=>(hp i hi).1,λd hd i hi=>?_,λd hd i hi=>D0 d hd i,λd hd=>by rw[st d hd];exact Int.dvd_refl _,λd k hn=>?_⟩,λd hd i hi=>?_,λd hd l _ _=>P0 d hd l,λd hd=>?_,λl hl=>by omega⟩,⟨rfl,λj hj=>by omega,λj hj=>by omega,λj hj=>by omega,λj hj=>by omega,λj hj=>by omega,λj hj=>by omega⟩,?_,λj hj=>by omega⟩
 ·rw[D0 d hd i];have:=(hp i hi).1;omega
 ·exact G.ext (by omega) (λi hi=>by rw[D0 d (by omega) i,Int.mul_zero]) (G.zero (by omega))
 ·rw[D0 d hd i,dN (g:=λ_=>0) λl hl=>by rw[P0 d hd l,Int.zero_mul],iw];exact Int.dvd_zero _
 ·rw[rw0 d hd]
  intro x hx
  rw[List.eq_of_mem_replicate hx];exact Nat.two_pow_pos _
 ·rw[bO,Int.one_mul];exact jt λd hd=>st d hd
theorem B9.all(hs:sizes.length=n)(hp:∀ i,i<n->0<vf sizes i/\vf sizes i<=360)(LL:Lq n m sizes Ls)(cb:CB c)(hn:n<=6):∀ k,k<=m->B9 n m sizes Ls k (RK c sizes Ls n m k)
 | 0,_=>B9.start hs hp
 | k+1,hk=>(B9.all hs hp LL cb hn k (by omega)).next LL cb hn (by omega)
end
theorem t6(h:b∣a)(h1:-b<a)(h2:a<b):a=0:=by
 obtain⟨c,rfl⟩:=h
 rcases Int.lt_trichotomy c 0 with q | q | q
 ·have:b*c<=b*(-1):=Int.mul_le_mul_of_nonneg_left (by omega) (by omega)
  omega
 ·rw[q,Int.mul_zero]
 ·have:b*1<=b*c:=Int.mul_le_mul_of_nonneg_left (by omega) (by omega)
  omega
theorem G.diff(Gd:Good n s D):∀ k d (v:dP),d+k=n->(∀ i,i<n->-(s i)<v i/\v i<s i)->(∀ i,d<=i->i<n->-(br s D i)<v i/\v i<br s D i)->G n s D k d v->∀ i,i<n->v i=0
 | 0,d,v,hn,h0,_,g,i,hi=>t6 (g i hi) (h0 i hi).1 (h0 i hi).2
 | k+1,d,v,hn,h0,h1,g,i,hi=>by
  have z:=t6 g.1 (h1 d (Nat.le_refl _) (by omega)).1 (h1 d (Nat.le_refl _) (by omega)).2
  refine G.diff Gd k (d+1) v (by omega) h0 (λi hi=>h1 i (by omega)) (G.ext (by omega) (λi _=>?_) g.2) i hi
  show v i-v d/br s D d*D d i=v i
  rw[z];simp
def fS(n:Nat)(s:dP)(Q:Int)(w v:dP):Int:=bj n λi=>w i*v i*(Q/s i)
variable{Q:Int}
variable{Po:Nat}
section
variable{D:Nat->dP}{w v u:dP}
theorem pT(a b:Int){x:dP}(h:∀ i,i<n->x i=a*v i+b*u i):fS n s Q w x=a*fS n s Q w v+b*fS n s Q w u :=
 eS a b _ _ _ n λi hi=>by rw[h i hi];grind
theorem m9{f:Nat->Int}{q:Int}:∀ {m:Nat},(∀ l,l<m->q∣f l)->q∣bj m f
 | 0,_=>Int.dvd_zero _
 | m+1,h=>Int.dvd_add (m9 λl hl=>h l (by omega)) (h m (by omega))
theorem zB(hq:∀ i,i<n->s i∣Q)(h:∀ i,i<n->s i∣v i):Q∣fS n s Q w v:=m9 λi hi=>by
 obtain⟨c,hc⟩:=h i hi
 obtain⟨e,he⟩:=hq i hi
 by_cases z:s i=0
 ·rw[hc,z];simp
 ·rw[hc,he,Int.mul_ediv_cancel_left _ z]
  exact⟨w i*c,by grind⟩
theorem Cr(hq:∀ i,i<n->s i∣Q)(h:∀ i,i<n->s i∣v i-u i):Q∣fS n s Q w v-fS n s Q w u:=by
 have:=pT (s:=s) (Q:=Q) (w:=w) (n:=n) 1 (-1) (v:=v) (u:=u) (x:=λi=>v i-u i) λi _=>by omega
 have h2:=zB (w:=w) hq h
 rw[this] at h2
 rw[show fS n s Q w v-fS n s Q w u=1*fS n s Q w v+-1*fS n s Q w u by omega]
 exact h2
theorem C1(hq:∀ i,i<n->s i∣Q):∀ (k d:Nat) (v:dP),d+k=n->(∀ b,d<=b->b<n->Q∣fS n s Q w (D b))->G n s D k d v->Q∣fS n s Q w v
 | 0,d,v,_,_,g=>zB hq g
 | k+1,d,v,hn,hD,g=>by
  have h1:=C1 hq k (d+1) _ (by omega) (λb h1 h2=>hD b (by omega) h2) g.2
  have h2:=hD d (Nat.le_refl _) (by omega)
  have e:=pT (s:=s) (Q:=Q) (w:=w) (n:=n) 1 (v d/br s D d) (v:=λi=>v i-v d/br s D d*D d i) (u:=D d) (x:=v) λi _=>by omega
  rw[e]
  exact Int.dvd_add (Int.dvd_trans h1 (Int.dvd_mul_left _ _)) (Int.dvd_trans h2 (Int.dvd_mul_left _ _))
theorem EW{c:Nat}(hc:c<n){x:Int}{w':dP}(h0:w c=0)(h1:w' c=x)(h2:∀ i,i<n->i≠c->w' i=w i):fS n s Q w' v=fS n s Q w v+x*v c*(Q/s c):=by
 have e1:fS n s Q w' v=1*fS n s Q w v+1*bj n λi=>if i=c then x*v c*(Q/s c) else 0:=eS 1 1 _ _ _ n λi hi=>by
  by_cases z:i=c
  ·rw[z,h1,h0];simp
  ·rw[h2 i hi z];simp[z]
 have e2:=jH c (x*v c*(Q/s c)) n hc (λi=>if i=c then x*v c*(Q/s c) else 0) λ_ _=>rfl
 rw[e1,e2];omega
theorem DA(h:∀ i,i<n->w i*v i=0):fS n s Q w v=0:=by
 unfold fS
 rw[dN (g:=λ_=>0) λi hi=>by rw[h i hi];simp,iw]
def iS(s:dP)(D:Nat->dP)(d:Nat):Int:=s d/br s D d
theorem lE(g:Good n s D)(h:d<n):iS s D d*br s D d=s d/\0<iS s D d/\iS s D d<=s d:=by
 have p:=g.pos h
 obtain⟨c,hc⟩:=g.dv d h
 have e:iS s D d=c:=by unfold iS;rw[hc,Int.mul_ediv_cancel_left _ (by omega)]
 have sp:=g.sp d h
 have c0:0<c:=by
  rcases Int.lt_trichotomy c 0 with q | q | q
  ·have:=Int.mul_neg_of_pos_of_neg p.1 q;omega
  ·rw[q] at hc;omega
  ·exact q
 refine⟨by rw[e,hc,Int.mul_comm],by omega,?_⟩
 rw[e]
 have:1*c<=br s D d*c:=Int.mul_le_mul_of_nonneg_right (by omega) (by omega)
 omega
structure Wk (n:Nat) (s:dP) (D:Nat->dP) (Q:Int) (Po a:Nat) (w:dP):Prop where
 beh:∀ i,Po<i->i<n->w i=0
 at_:w Po=iS s D Po%s Po
 ah:∀ i,a<=i->i<Po->0<=w i/\w i<iS s D i
 no:∀ i,i<a->w i=0
 kill:∀ b,a<=b->b<n->Q∣fS n s Q w (D b)
theorem Wk.start(g:Good n s D)(hq:∀ i,i<n->s i∣Q)(hd:Po<n){w:dP}(h:∀ i,i<n->w i=if i=Po then iS s D Po%s Po else 0):Wk n s D Q Po Po w where
 beh:=λi h1 h2=>by rw[h i h2,if_neg (by omega)]
 at_:=by rw[h Po hd,if_pos rfl]
 ah:=λi h1 h2=>by omega
 no:=λi hi=>by rw[h i (by omega),if_neg (by omega)]
 kill:=λb h1 h2=>by
  by_cases z:b=Po
  ·subst z
   obtain⟨f1,f2,f3⟩:=lE g h2
   obtain⟨e,he⟩:=hq b h2
   obtain⟨x,hx⟩:=g.diag h2
   obtain⟨y,hy⟩:=cG (iS s D b) (s b)
   have sp:=g.sp b h2
   have e1:fS n s Q w (D b)=1*bj n (λi=>if i=b then (iS s D b%s b)*D b b*(Q/s b) else 0)+0*0:=by
    have:=eS 1 0 (λi=>if i=b then (iS s D b%s b)*D b b*(Q/s b) else 0) (λ_=>0) (λi=>w i*D b i*(Q/s i)) n λi hi=>by
     rw[h i hi]
     by_cases z:i=b
     ·subst z;simp
     ·simp[z]
    rw[show fS n s Q w (D b)=bj n λi=>w i*D b i*(Q/s i) from rfl,this];omega
   rw[e1,jH b _ n h2 _ λ_ _=>rfl,he,Int.mul_ediv_cancel_left _ (by omega)]
   have hy':iS s D b%s b=iS s D b+s b*y:=by omega
   have Te:D b b=br s D b+s b*x:=by omega
   refine⟨1+iS s D b*x+y*D b b,?_⟩
   rw[hy',Te]
   generalize iS s D b=F at *
   generalize br s D b=T at *
   generalize s b=S at *
   subst f1
   grind
  ·rw[DA λi hi=>?_]
   ·exact Int.dvd_zero _
   ·rcases Nat.lt_or_ge i b with q | q
    ·rw[g.xQ b h2 i q];simp
    ·rw[h i hi,if_neg (by omega)];simp
theorem Wk.next(g:Good n s D)(hQ:0<Q)(hq:∀ i,i<n->s i∣Q){c:Nat}(hd:Po<n){w w':dP}(W:Wk n s D Q Po (c+1) w)(hc:c<Po)(h1:w' c=-(fS n s Q w (D c)%Q/(Q/iS s D c))%iS s D c)(h2:∀ i,i<n->i≠c->w' i=w i):Wk n s D Q Po c w':=by
 obtain⟨f1,f2,f3⟩:=lE g (show c<n by omega)
 obtain⟨e,he⟩:=hq c (by omega)
 have sp:=g.sp c (by omega)
 have sh:Q/iS s D c=br s D c*e:=by
  rw[he,← f1,Int.mul_assoc,Int.mul_ediv_cancel_left _ (by omega)]
 have hs:Q/s c=e:=by rw[he,Int.mul_ediv_cancel_left _ (by omega)]
 have fQ:iS s D c*(br s D c*e)=Q:=by rw[← Int.mul_assoc,f1,he]
 have sh0:0<br s D c*e:=by
  rcases Int.lt_trichotomy (br s D c*e) 0 with q | q | q
  ·have:=Int.mul_neg_of_pos_of_neg f2 q;omega
  ·rw[q] at fQ;omega
  ·exact q
 have cl:=g.LU c (n-(c+1)) (by omega)
 have k1:=C1 (w:=w) hq (n-(c+1)) (c+1) _ (by omega) (λb h1 h2=>W.kill b h1 h2) cl
 rw[pT (s:=s) (Q:=Q) (w:=w) (n:=n) (iS s D c) 0 (v:=D c) (u:=D c) (x:=λi=>s c/br s D c*D c i) λi _=>by unfold iS;omega] at k1
 obtain⟨x,hx⟩:=k1
 have dv:(br s D c*e)∣fS n s Q w (D c):=⟨x,by
  have:iS s D c*fS n s Q w (D c)=iS s D c*(br s D c*e*x):=by
   rw[← Int.mul_assoc,fQ];omega
  exact Int.eq_of_mul_eq_mul_left (by omega) this⟩
 have ed:=Int.emod_def (fS n s Q w (D c)) Q
 have dv2:(br s D c*e)∣fS n s Q w (D c)%Q:=by
  rw[ed]
  exact Int.dvd_sub dv (Int.dvd_trans ⟨iS s D c,by rw[Int.mul_comm];exact fQ.symm⟩ (Int.dvd_mul_right _ _))
 obtain⟨q,RM⟩:=dv2
 rw[sh] at h1
 have eq1:fS n s Q w (D c)%Q/(br s D c*e)=q:=by rw[RM,Int.mul_ediv_cancel_left _ (by omega)]
 rw[eq1] at h1
 obtain⟨y,hy⟩:=cG (-q) (iS s D c)
 obtain⟨z,hz⟩:=g.diag (show c<n by omega)
 refine⟨λi a b=>?_,?_,λi a b=>?_,λi a=>?_,λb a1 a2=>?_⟩
 ·rw[h2 i b (by omega)];exact W.beh i a b
 ·rw[h2 Po hd (by omega)];exact W.at_
 ·by_cases q2:i=c
  ·rw[q2,h1]
   exact⟨Int.emod_nonneg _ (by omega),Int.emod_lt_of_pos _ f2⟩
  ·rw[h2 i (by omega) q2];exact W.ah i (by omega) b
 ·rw[h2 i (by omega) (by omega)];exact W.no i (by omega)
 ·rw[EW (w:=w) (show c<n by omega) (W.no c (by omega)) rfl h2]
  by_cases q2:b=c
  ·subst q2
   rw[hs]
   have e1:w' b=-q+iS s D b*y:=by omega
   have e2:D b b=br s D b+s b*z:=by omega
   have e3:fS n s Q w (D b)=Q*(fS n s Q w (D b)/Q)+br s D b*e*q:=by omega
   refine⟨fS n s Q w (D b)/Q+y+w' b*z,?_⟩
   rw[e2]
   generalize fS n s Q w (D b)/Q=p at *
   rw[e3,e1]
   generalize iS s D b=F at *
   generalize br s D b=T at *
   generalize s b=S at *
   subst f1
   rw[he]
   grind
  ·rw[g.xQ b a2 c (by omega)]
   simp only[Int.mul_zero,Int.zero_mul,Int.add_zero]
   exact W.kill b (by omega) a2
theorem Wk.first(g:Good n s D)(hQ:0<Q)(hq:∀ i,i<n->s i∣Q)(hd:Po<n){w l:dP}(W:Wk n s D Q Po 0 w)(l0:∀ i,i<Po->l i=0)(l1:0<l Po)(l2:l Po<br s D Po):¬ Q∣fS n s Q w l:=by
 obtain⟨f1,f2,f3⟩:=lE g hd
 obtain⟨e,he⟩:=hq Po hd
 have sp:=g.sp Po hd
 have lt:iS s D Po<s Po:=by
  rcases Int.lt_or_eq_of_le f3 with q | q
  ·exact q
  ·rw[q] at f1
   have:br s D Po=1:=by
    have:s Po*br s D Po=s Po*1:=by rw[Int.mul_one];exact f1
    exact Int.eq_of_mul_eq_mul_left (by omega) this
   omega
 have wd:w Po=iS s D Po:=by rw[W.at_,Int.emod_eq_of_lt (by omega) lt]
 have e1:fS n s Q w l=bj n (λi=>if i=Po then iS s D Po*l Po*e else 0):=dN λi hi=>by
  by_cases z:i=Po
  ·rw[z,wd,he,Int.mul_ediv_cancel_left _ (by omega)];simp
  ·rcases Nat.lt_or_ge i Po with q | q
   ·rw[l0 i q];simp[z]
   ·rw[W.beh i (by omega) hi];simp[z]
 rw[e1,jH Po _ n hd _ λ_ _=>rfl]
 rintro⟨c,hc⟩
 have e0:0<e:=by
  rcases Int.lt_trichotomy e 0 with q | q | q
  ·have:=Int.mul_neg_of_pos_of_neg sp q;omega
  ·rw[q] at he;omega
  ·exact q
 have e2:iS s D Po*e*l Po=iS s D Po*e*(br s D Po*c):=by
  rw[he,← f1] at hc
  grind
 have e3:l Po=br s D Po*c:=Int.eq_of_mul_eq_mul_left (by
  have:=Int.mul_pos f2 e0;omega) e2
 have:=jG (a:=l Po) (b:=br s D Po) (by omega) l2 ⟨c,e3⟩
 omega
end
end Rg
namespace xS
open PySem L2 PyProof.Rows Rg
local macro_rules | `(tactic| dsimp? [$ts,*])=>`(tactic| simp only[cI,bo,au,mF,ao,vU,vQ,retS,bg,uA,jA,kd,ar,M.aV,M.bind_some,M.bind_none,M.Ec,M.bind_assoc,ae,aj,ai,aa,ak,Gj,GL,JA,Js,JN,HF,IA,Jg,Ju,Jk,Ie,Ko,JF,J7,Kg,Ig,dz,gI,Ct,v_,HL,Ey,Pe,wB,k4,L9,jY,GC,itemsOf,jg,FI,E6,Bl,Fs,F5,DU,Dx,EE,zV,Af,xp,rj,Ee,dJ,dc,xw,Kj,List.length_cons,List.length_nil,List.map_cons,List.map_nil,List.cons_append,List.nil_append,List.replicate,List.getElem?_cons_zero,List.getElem?_cons_succ,List.getElem?_nil,List.set_cons_zero,List.set_cons_succ,List.set_nil,Nat.reduceAdd,Nat.reduceSub,if_true,if_false,Bool.not_true,Bool.not_false,Bool.false_eq_true,ite_true,ite_false,reduceIte,reduceCtorEq,Nat.sub_self,mv,bJ,bH,Option.map_some,Option.map_none,ug,HE,Jf,GA,F_,FW,Kn,Gp,Gz,GH,lY,List.any_cons,List.any_nil,String.reduceBEq,Bool.or_false,Bool.or_true,Bool.true_or,Bool.false_or,Bool.and_true,Bool.and_false,Bool.true_and,Bool.false_and,Gs,Fg,IW,Iq,FU,Fe,FE,FF,DF,Eg,je,uo,List.foldl_cons,List.foldl_nil,vH,aq trivial,$(⟨ts.elemsAndSeps⟩),*])
theorem lu(i:Int):dY [.int i]=M.ok (.bl true):=by rfl
theorem Ew(b:Bool):dY [.bl b]=M.ok (.bl false):=by rfl
variable{p:PV}{α:Type}
theorem vj{inj:α->PV}{h:α->Bool}(xs:List α)(n:Int)(hp:p=.tup (xs.map inj)\/p=.lst (xs.map inj))(H:∀ a∈xs,dY [inj a]=M.ok (.bl (h a)))(hz:xs.length<=sizeLine):fx [p,.int n]=M.ok (.bl (decide ((xs.length:Int)=n)&&xs.all h)):=by
 have key:bA (bK 0) none (ai dY (aa (ae 0) ak)) (xs.map inj) [none]=M.ok (xs.map λa=>.bl (h a)):=du xs λa ha=>by dsimp? [H a ha]
 have key2:qu [.lst (xs.map λa=>.bl (h a))]=M.ok (.bl (xs.all h)):=by
  have:=qR (xs.map h)
  rw[List.map_map] at this
  rw[show (λa=>PV.bl (h a))=PV.bl∘h from rfl,this]
  simp[List.all_map]
 unfold fx jy
 rcases hp with rfl | rfl
 all_goals
  dsimp? [List.length_map]
  by_cases e:(xs.length:Int)=n
  ·simp only[e,decide_true,Bool.not_true,M.aV,Bool.false_eq_true,if_false,vU,Bool.true_and]
   dsimp? [List.length_map,aq hz,key,key2]
  ·simp only[e,decide_false,Bool.not_false,M.aV,if_true,vQ,Bool.false_and]
   dsimp? []
theorem CU(xs:List Int)(n:Int)(hz:xs.length<=sizeLine):fx [tI xs,.int n]=M.ok (.bl (decide ((xs.length:Int)=n))):=by
 exact(vj (p:=tI xs) (h:=λ_=>true) xs n (.inl rfl) (λa _=>lu a) hz).trans (by rw[List.all_eq_true.mpr λ_ _=>rfl,Bool.and_true])
theorem DE(xs:List Int)(n:Int)(hz:xs.length<=sizeLine):fx [lI xs,.int n]=M.ok (.bl (decide ((xs.length:Int)=n))):=by
 exact(vj (p:=lI xs) (h:=λ_=>true) xs n (.inr rfl) (λa _=>lu a) hz).trans (by rw[List.all_eq_true.mpr λ_ _=>rfl,Bool.and_true])
theorem Lr{f:List Int->PV}(hf:f=tI\/f=lI)(xs:List Int)(n:Int)(hz:xs.length<=sizeLine):fx [f xs,.int n]=M.ok (.bl (decide ((xs.length:Int)=n))):=by
 rcases hf with rfl | rfl
 ·exact CU xs n hz
 ·exact DE xs n hz
theorem Ll{f:List Int->PV}(hf:f=tI\/f=lI)(xs:List Int):cF (f xs)=some (xs.map PV.int):=by rcases hf with rfl | rfl <;> rfl
theorem within_int(x a b:Int):dF [.int x,.int a,.int b]=M.ok (.bl (decide (a<=x/\x<=b))):=by
 unfold dF dX
 dsimp? [lu]
 by_cases h:a<=x
 ·simp only[h,decide_true,if_true,true_and];dsimp? []
 ·simp only[h,decide_false,false_and];dsimp? []
theorem jO{xs:List PV}(h:cF p=some xs):ui p=M.ok (.int xs.length):=by
 cases p <;> first | (cases h;rfl) | cases h
theorem sE(xs:List Int)(hp:cF p=some (xs.map PV.int))(h1:1<=xs.length)(h6:xs.length<=6)(hx:∀ x∈xs,2<=x/\x<=360):ir [p]=M.ok .da:=by
 unfold ir gZ
 have a1:¬ (6:Int)<xs.length:=by omega
 have a2:¬ (xs.length:Int)=0:=by omega
 dsimp? [a1,a2,decide_false,jO hp,List.length_map,vD xs hp]
 refine f7 xs.zipIdx (λzs env=>(∃ b c,env=[some (.sh p),b,c])/\∀ z∈zs,2<=z.1/\z.1<=360) ⟨⟨_,_,rfl⟩,λz hz=>hx z.1 (List.fst_mem_of_mem_zipIdx hz)⟩ ?_ ?_
 ·rintro⟨a,i⟩ r env ⟨⟨b,c,rfl⟩,hz⟩
  have ha:=hz (a,i) List.mem_cons_self
  refine⟨_,[some (.sh p),some (.sh (.int i)),some (.sh (.int a))],rfl,?_,⟨_,_,rfl⟩,λz Ri=>hz z (List.mem_cons_of_mem _ Ri)⟩
  dsimp? [within_int,ha,and_self,decide_true]
 ·rintro Pj ⟨⟨b,c,rfl⟩,_⟩;rfl
theorem qq{f:List Int->PV}(hf:f=tI\/f=lI)(n:Nat)(xs:List (List Int))(h8:xs.length<=8)(hx:∀ x∈xs,x.length=n)(hn:n<=100):gu [.lst (xs.map f),.int n]=M.ok .da:=by
 unfold gu gB
 have a1:¬ (8:Int)<xs.length:=by omega
 dsimp? [a1,decide_false,List.length_map,nO]
 refine f7 xs.zipIdx (λzs env=>(∃ b c,env=[some (.sh (.lst (xs.map f))),some (.sh (.int n)),b,c])/\∀ z∈zs,z.1.length=n) ⟨⟨_,_,rfl⟩,λz hz=>hx z.1 (List.fst_mem_of_mem_zipIdx hz)⟩ ?_ ?_
 ·rintro⟨a,i⟩ r env ⟨⟨b,c,rfl⟩,hz⟩
  have ha:a.length=n:=hz (a,i) List.mem_cons_self
  refine⟨_,[some (.sh (.lst (xs.map f))),some (.sh (.int n)),some (.sh (.int i)),some (.sh (f a))],rfl,?_,⟨_,_,rfl⟩,λz Ri=>hz z (List.mem_cons_of_mem _ Ri)⟩
  dsimp? [Lr hf a n (aH (by omega)),ha,decide_true]
 ·rintro Pj ⟨⟨b,c,rfl⟩,_⟩;rfl
theorem rn(n:Nat)(p:PV):(List.replicate n [p]).flatten=List.replicate n p:=by
 induction n with
 | zero=>rfl
 | succ n ih=>rw[List.replicate_succ,List.flatten_cons,ih];rfl
theorem mul_one(p:PV)(n:Nat)(h8:n<=1000):cj (.tup [p]) (.int (n:Int))=M.ok (.tup (List.replicate n p)):=by
 have h2:[p].length*(n:Int).toNat<=sizeLine:=by
  rw[Int.toNat_natCast]
  exact aH (by show 1*n<=1000;omega)
 have h3:(n:Int)<2^63:=Int.lt_of_le_of_lt (Int.ofNat_le.mpr h8) (by decide)
 have h4:-(2^63)<=(n:Int):=Int.le_trans (by decide) (Int.natCast_nonneg n)
 rw[cj,aq ⟨rfl,h4,h3,h2⟩,Int.toNat_natCast,rn]
theorem lF(xs:List PV)(h8:xs.length<=8):g8 [.lst xs,.da]=M.ok (tI (List.replicate xs.length 1)):=by
 unfold g8 hU
 dsimp? [CQ,sX,mul_one (.int 1) xs.length (by omega)]
 rw[tI,List.map_replicate]
def xZ(xs sizes:List Int):List Int:=(xs.zip sizes).map λz=>z.1%z.2
theorem rK(p q:PV)(xs sizes:List Int)(hp:cF p=some (xs.map PV.int))(hq:cF q=some (sizes.map PV.int))(hs:∀ s∈sizes,0<s)(hz:xs.length<=1000):kf [p,q]=M.ok (tI (xZ xs sizes)):=by
 have key:bA (bB 0 1) none (aj bW (ae 0) (ae 1)) ((xs.zip sizes).map λz=>.tup [.int z.1,.int z.2]) [none,none]=M.ok ((xs.zip sizes).map λz=>.int (z.1%z.2)):=by
  refine fv (p:=λz:Int×Int=>PV.int z.1) (q:=λz:Int×Int=>PV.int z.2) (xs.zip sizes) λz hz=>?_
  have:=hs z.2 (List.of_mem_zip (a:=z.1) (b:=z.2) hz).2
  dsimp? [aM this]
 unfold kf lH
 have hl:(xs.zip sizes).length<=sizeLine:=by rw[List.length_zip];exact aH (Nat.le_trans (Nat.min_le_left _ _) hz)
 dsimp? [cR xs sizes hp hq,List.length_map,aq hl,key]
 rw[tI,xZ,List.map_map];rfl
variable{n:Nat}
theorem Pc{i:Int}(h:i.natAbs<=n)(hn:n<2^200):i.natAbs<2^200:=by omega
theorem y0(a b c:PV):aJ (.tup [a,b,c]) (.int 0)=M.ok a:=bD (j:=0) rfl rfl
theorem Ij(a b c:PV):aJ (.tup [a,b,c]) (.int 1)=M.ok b:=bD (j:=1) rfl rfl
theorem Kq(a b c:PV):aJ (.tup [a,b,c]) (.int 2)=M.ok c:=bD (j:=2) rfl rfl
theorem tH(a b:Int)(ha:a.natAbs<2^60)(hb:b.natAbs<2^60):∃ s t,gL [.int a,.int b]=M.ok (.tup [.int (Int.gcd a b),.int s,.int t])/\s*a+t*b=Int.gcd a b/\s.natAbs<=b.natAbs+1/\t.natAbs<=a.natAbs+(b.natAbs+1)*a.natAbs+b.natAbs+1:=by
 let J:af->Prop:=λenv=>∃ r s t r' s' t' x y,env=[some (.sh (.int a)),some (.sh (.int b)),some (.sh ((PV.tup [PV.int r,PV.int s,PV.int t]))),some (.sh ((PV.tup [PV.int r',PV.int s',PV.int t']))),x,y]/\Eu.St a b r s t r' s' t'
 let m:af->Nat:=λenv=>match env with
  | [_,_,_,some (.sh (.tup [.int r,_,_])),_,_]=>r.natAbs
  | _=>0
 have hk:(b.natAbs+1)*a.natAbs<=2^60*2^60:=Nat.mul_le_mul (by omega) (by omega)
 have hk2:(2:Nat)^60*2^60=2^120:=by decide
 have start:J [some (.sh (.int a)),some (.sh (.int b)),some (.sh ((PV.tup [PV.int a,PV.int 1,PV.int 0]))),some (.sh ((PV.tup [PV.int b,PV.int 0,PV.int 1]))),none,none]:=⟨_,_,_,_,_,_,_,_,rfl,Eu.start a b⟩
 have loop:=tQ (u:=dz (aj nX (aj aJ (ae 3) (λ_=>M.ok (.int 0))) (λ_=>M.ok (.int 0)))) (b:=(ao (bg 4 (aj cn (aj aJ (ae 2) (λ_=>M.ok (.int 0))) (aj aJ (ae 3) (λ_=>M.ok (.int 0)))))
  (ao (bg 5 (h9 (aa (aj lW (aj aJ (ae 2) (λ_=>M.ok (.int 0))) (aj cj (ae 4) (aj aJ (ae 3) (λ_=>M.ok (.int 0))))) (aa (aj lW (aj aJ (ae 2) (λ_=>M.ok (.int 1))) (aj cj (ae 4) (aj aJ (ae 3) (λ_=>M.ok (.int 1))))) (aa (aj lW (aj aJ (ae 2) (λ_=>M.ok (.int 2))) (aj cj (ae 4) (aj aJ (ae 3) (λ_=>M.ok (.int 2))))) ak)))))
  (ao (bg 2 (ae 3))
  (ao (bg 3 (ae 5))
  ar))))) J m ?_ _ start
 ·obtain⟨Pj,e1,⟨r,s,t,r',s',t',x,y,rfl,st⟩,e2⟩:=loop
  have hr':r'=0:=by
   revert e2
   dsimp? [y0]
   intro e2
   have:(!decide (r'=0))=false:=by injection e2 with e2;injection e2
   simpa using this
  subst hr'
  obtain⟨d1,d2⟩:=Eu.done st
  have hg:(r.natAbs:Int)=Int.gcd a b:=by
   have h1:r.natAbs∣Int.gcd a b:=Int.dvd_gcd (Int.natAbs_dvd.mpr d1) (Int.natAbs_dvd.mpr d2)
   have h2:((Int.gcd a b:Nat):Int)∣r:=by
    rw[st.c0]
    exact Int.dvd_add (Int.dvd_trans (Int.gcd_dvd_left ..) (Int.dvd_mul_left _ _)) (Int.dvd_trans (Int.gcd_dvd_right ..) (Int.dvd_mul_left _ _))
   have h3:Int.gcd a b∣r.natAbs:=Int.ofNat_dvd_left.mp h2
   rw[Nat.dvd_antisymm h1 h3]
  unfold gL lj
  dsimp? []
  rw[e1]
  dsimp? [y0,Ij,Kq]
  by_cases hneg:r<0
  ·refine⟨-s,-t,?_,?_,by rw[Int.natAbs_neg];exact st.b0,by rw[Int.natAbs_neg];exact st.d0⟩
   ·simp only[hneg,decide_true,if_true];dsimp? []
    rw[show -r=(Int.gcd a b:Int) by omega]
   ·have:=st.c0
    rw[Int.neg_mul,Int.neg_mul];omega
  ·refine⟨s,t,?_,?_,st.b0,st.d0⟩
   ·simp only[hneg,decide_false,Bool.false_eq_true,if_false];dsimp? []
    rw[show r=(Int.gcd a b:Int) by omega]
   ·have:=st.c0;omega
 ·rintro env ⟨r,s,t,r',s',t',x,y,rfl,st⟩
  by_cases h0:r'=0
  ·refine .inl ?_
   dsimp? [y0]
   simp[h0]
  ·refine .inr ⟨?_,?_⟩
   ·dsimp? [y0]
    simp[h0]
   ·obtain⟨Sw,lt⟩:=Eu.turn st h0
    have b1:=st.m1;have b0:=st.m0;have c1:=st.b1;have c2:=st.d1;have c3:=Sw.m1
    have q1:(r.fdiv r').natAbs<=r.natAbs+1:=by
     obtain⟨f1,f2,f3⟩:=Eu.t4 r r' h0
     generalize r.fdiv r'=q at *
     have e:q*r'=r-(r-q*r'):=by omega
     have e2:(q*r').natAbs<=r.natAbs+(r-q*r').natAbs:=by omega
     rw[Int.natAbs_mul] at e2
     have:q.natAbs*1<=q.natAbs*r'.natAbs:=Nat.mul_le_mul_left _ (by omega)
     rcases Nat.lt_or_ge (r.natAbs+1) q.natAbs with h | h
     ·have h5:(r.natAbs+2)*r'.natAbs<=q.natAbs*r'.natAbs:=Nat.mul_le_mul_right _ (by omega)
      have h6:r.natAbs*1<=r.natAbs*r'.natAbs:=Nat.mul_le_mul_left _ (by omega)
      rw[Nat.add_mul] at h5
      omega
     ·exact h
    have q2:(r.fdiv r').natAbs<2^200:=by omega
    refine⟨[some (.sh (.int a)),some (.sh (.int b)),some (.sh ((PV.tup [PV.int r',PV.int s',PV.int t']))),some (.sh ((PV.tup [PV.int (r-r.fdiv r'*r'),PV.int (s-r.fdiv r'*s'),PV.int (t-r.fdiv r'*t')]))),some (.sh (.int (r.fdiv r'))),some (.sh ((PV.tup [PV.int (r-r.fdiv r'*r'),PV.int (s-r.fdiv r'*s'),PV.int (t-r.fdiv r'*t')])))],?_,⟨_,_,_,_,_,_,_,_,rfl,Sw⟩,lt⟩
    dsimp? [y0,Ij,Kq,sZ h0 (Nat.lt_of_lt_of_le (show r'.natAbs<2^200 by omega) (Nat.pow_le_pow_right (by decide) (by decide))),bq (k:=200) (l:=200) q2 (show r'.natAbs<2^200 by omega),bq (k:=200) (l:=200) q2 (show s'.natAbs<2^200 by omega),bq (k:=200) (l:=200) q2 (show t'.natAbs<2^200 by omega)]
def R(sizes:List Int):Int:=(Lc.nG (sizes.map Int.toNat):Nat)
structure Sz (sizes:List Int):Prop where
 h1:1<=sizes.length
 h6:sizes.length<=6
 hx:∀ x∈sizes,2<=x/\x<=360
variable{sizes:List Int}
theorem xy(h:Sz sizes):0<R sizes:=by
 refine Int.ofNat_lt.mpr (Lc.lcm_pos λn hn=>?_)
 obtain⟨x,hx,rfl⟩:=List.mem_map.mp hn
 have:=h.hx x hx;omega
theorem Mq(h:Sz sizes):R sizes<2^60:=by
 have h1:=Lc.rG 9 (sizes.map Int.toNat) 1 0 (by decide) (by decide) λn hn=>by
  obtain⟨x,hx,rfl⟩:=List.mem_map.mp hn
  have:=h.hx x hx;omega
 have h2:(2:Nat)^(0+9*(sizes.map Int.toNat).length)<=2^54:=Nat.pow_le_pow_right (by decide) (by rw[List.length_map];have:=h.h6;omega)
 have h3:Lc.nG (sizes.map Int.toNat)<=2^54:=Nat.le_trans h1 h2
 unfold R;omega
theorem Mh(h:Sz sizes){x:Int}(hx:x∈sizes):x∣R sizes:=by
 have h1:=Lc.lcm_dvd (ns:=sizes.map Int.toNat) (List.mem_map.mpr ⟨x,hx,rfl⟩)
 have h2:=Int.ofNat_dvd.mpr h1
 rw[Int.toNat_of_nonneg (by have:=h.hx x hx;omega)] at h2
 exact h2
structure Acc (sizes r:List Int) (acc:Nat):Prop where
 pos:0<acc
 le:acc<=2^(9*(6-r.length))
 len:r.length<=6
 val:(r.map Int.toNat).foldl Nat.lcm acc=Lc.nG (sizes.map Int.toNat)
 kz:∀ x∈r,2<=x/\x<=360
theorem Acc.start(h:Sz sizes):Acc sizes sizes 1:=⟨by decide,Nat.one_le_two_pow,h.h6,rfl,h.hx⟩
variable{acc:Nat}
theorem Acc.lt{r:List Int}(h:Acc sizes r acc):acc<2^60:=by
 have h2:(2:Nat)^(9*(6-r.length))<=2^54:=Nat.pow_le_pow_right (by decide) (by omega)
 have:=h.le;omega
theorem Acc.turn{r:List Int}{x:Int}(h:Acc sizes (x::r) acc):Acc sizes r (Nat.lcm acc x.toNat)/\(acc:Int)/(Int.gcd acc x:Nat)*x=(Nat.lcm acc x.toNat:Nat)/\(acc:Int)/(Int.gcd acc x:Nat)<=acc/\0<Int.gcd acc x:=by
 have hx:=h.kz x List.mem_cons_self
 have hp:=h.pos
 obtain⟨n,rfl⟩:=Int.eq_ofNat_of_zero_le (show 0<=x by omega)
 have hg:Int.gcd (acc:Int) (n:Int)=Nat.gcd acc n:=rfl
 refine⟨⟨Nat.lcm_pos hp (by omega),?_,?_,h.val,λy hy=>h.kz y (List.mem_cons_of_mem _ hy)⟩,?_,?_,?_⟩
 ·have h1:Nat.lcm acc n<=acc*n:=Nat.le_of_dvd (Nat.mul_pos hp (by omega)) (Nat.lcm_dvd (Nat.dvd_mul_right ..) (Nat.dvd_mul_left ..))
  have h2:acc*n<=2^(9*(6-(r.length+1)))*2^9:=Nat.mul_le_mul h.le (by omega)
  have hl:r.length+1<=6:=h.len
  rw[← Nat.pow_add,show 9*(6-(r.length+1))+9=9*(6-r.length) by omega] at h2
  exact Nat.le_trans h1 h2
 ·have hl:r.length+1<=6:=h.len
  omega
 ·rw[hg,Int.toNat_natCast,← Lc.BP];norm_cast
 ·rw[hg]
  exact Int.ofNat_le.mpr (Nat.div_le_self acc (Nat.gcd acc n))
 ·rw[hg];exact Nat.gcd_pos_of_pos_left _ hp
theorem jc(sizes:List Int)(hp:cF p=some (sizes.map PV.int))(h:Sz sizes):gj [p]=M.ok (.int (R sizes)):=by
 unfold gj gf
 dsimp? [hp]
 refine f7 sizes (λr env=>∃ acc x,env=[some (.sh p),some (.sh (.int (acc:Nat))),x]/\Acc sizes r acc) ⟨1,_,rfl,.start h⟩ ?_ ?_
 ·rintro a r env ⟨acc,x,rfl,A⟩
  obtain⟨A2,e1,e2,e3⟩:=A.turn
  have l1:=A.lt
  have ha:=A.kz a List.mem_cons_self
  obtain⟨s,t,ec,_,_,_⟩:=tH (acc:Int) a (by omega) (by omega)
  have g1:Int.gcd acc a<=acc:=Nat.le_of_dvd A.pos (Int.ofNat_dvd.mp (Int.gcd_dvd_left ..))
  have d0:0<=(acc:Int)/(Int.gcd acc a:Nat):=Int.ediv_nonneg (by omega) (by omega)
  refine⟨_,[some (.sh p),some (.sh (.int (Nat.lcm acc a.toNat:Nat))),some (.sh (.int a))],rfl,?_,_,_,rfl,A2⟩
  dsimp? [ec,y0,aS (i:=(acc:Int)) (show (0:Int)<(Int.gcd acc a:Nat) by omega) (show ((Int.gcd acc a:Nat):Int)<2^64 by omega),bq (k:=64) (l:=64) (show ((acc:Int)/(Int.gcd acc a:Nat)).natAbs<2^64 by omega) (show a.natAbs<2^64 by omega),e1]
 ·rintro Pj ⟨acc,x,rfl,A⟩
  dsimp? []
  have:=A.val
  rw[R,← this];rfl
def qG(sizes:List Int)(levers:List (List Int)):List (Str×PV):=[("dial_sizes", tI sizes),("lever_settings", .tup (levers.map tI)),("lever_prices", tI (List.replicate levers.length 1)),("least_round", .int (R sizes))]
def dI(sizes:List Int)(levers:List (List Int)):PV:=.obj aw (qG sizes levers)
structure Ck (sizes xs:List Int):Prop where
 len:xs.length=sizes.length
 kz:∀ z∈xs.zip sizes,0<=z.1/\z.1<z.2
variable{xs:List Int}
theorem xt(h:Ck sizes xs):xZ xs sizes=xs:=by
 obtain⟨hl,hr⟩:=h
 unfold xZ
 induction xs generalizing sizes with
 | nil=>rfl
 | cons x r ih =>
  cases sizes with
  | nil=>cases hl
  | cons s t =>
   have h1:=hr (x,s) (by simp)
   rw[List.zip_cons_cons,List.map_cons,ih (Nat.succ.inj hl) λz hz=>hr z (by rw[List.zip_cons_cons];exact List.mem_cons_of_mem _ hz)]
   rw[show ((x,s):Int×Int).1%((x,s):Int×Int).2=x from Int.emod_eq_of_lt h1.1 h1.2]
theorem xF(f:Str)(p:PV):∀ fs:List (Str×PV),(uP f p fs).length<=fs.length+1
 | []=>by simp[uP]
 | (g,q)::r=>by
  have:=xF f p r
  unfold uP
  split
  ·simp
  ·simp;omega
theorem gQ{f:Str}{fs:List (Str×PV)}(h:fs.length<=n):(uP f p fs).length<=n+1:=Nat.le_trans (xF f p fs) (by omega)
theorem dS(a C:Addr)(f:Str)(p:PV)(fs:List (Str×PV))(r:af)(h:fs.length<1000):Dy 0 C f p (some (.bd a C fs)::r)=M.ok (.nx (some (.bd a C (uP f p fs))::r)):=by
 show cZ _ _=_
 rw[aq ⟨rfl,h⟩];rfl
theorem Gq{f:List Int->PV}(hf:f=tI\/f=lI)(sizes:List Int)(levers:List (List Int))(hp:cF p=some (sizes.map PV.int))(h:Sz sizes)(h8:levers.length<=8)(hl:∀ l∈levers,l.length=sizes.length):cM aw gz [.da] [p,.lst (levers.map f)]=M.ok (dI sizes (levers.map λl=>xZ l sizes)):=by
 have key:∀ a,gz a ([p,.lst (levers.map f)]++[.da])=M.ok (qG sizes (levers.map λl=>xZ l sizes)):=by
  intro a
  have e1:bA (bK 0) none (ai kf (aa (ae 0) (aa (ae 1) ak))) (levers.map f) [none,some (.sh p)]=M.ok (levers.map λl=>tI (xZ l sizes)):=by
   refine du levers λl hm=>?_
   have hs:=hl l hm
   have:=rK (f l) p l sizes (Ll hf l) hp (λs hs=>by have:=h.hx s hs;omega) (by rw[hs];have:=h.h6;omega)
   dsimp? [this]
  unfold gz j3
  simp only[kE]
  rw[aq (show ([p,PV.lst (levers.map f)]++[PV.da]).length+1=4 from rfl)]
  simp only[mq,rE]
  dsimp? [hp,jO hp,sE sizes hp h.h1 h.h6 h.hx,qq hf sizes.length levers h8 hl (by have:=h.h6;omega),fI,hp,jO hp,List.length_map,aq (aH (show levers.length<=1000 by omega)),e1,lF _ (show (levers.map f).length<=8 by rw[List.length_map];exact h8),jc sizes hp h]
  rw[dS _ _ _ _ _ _ (by simp)]
  dsimp? [fI,hp,jO hp,List.length_map,aq (aH (show levers.length<=1000 by omega)),e1,lF _ (show (levers.map f).length<=8 by rw[List.length_map];exact h8),jc sizes hp h]
  rw[dS _ _ _ _ _ _ (Nat.lt_of_le_of_lt (gQ (Nat.zero_le 0)) (by decide))]
  dsimp? [fI,hp,jO hp,List.length_map,aq (aH (show levers.length<=1000 by omega)),e1,lF _ (show (levers.map f).length<=8 by rw[List.length_map];exact h8),jc sizes hp h]
  rw[dS _ _ _ _ _ _ (Nat.lt_of_le_of_lt (gQ (gQ (Nat.zero_le 0))) (by decide))]
  dsimp? [fI,hp,jO hp,List.length_map,aq (aH (show levers.length<=1000 by omega)),e1,lF _ (show (levers.map f).length<=8 by rw[List.length_map];exact h8),jc sizes hp h]
  rw[dS _ _ _ _ _ _ (Nat.lt_of_le_of_lt (gQ (gQ (gQ (Nat.zero_le 0)))) (by decide))]
  dsimp? []
  show cZ _ _=_
  rw[aq ⟨rfl,rfl⟩]
  rw[qG,List.map_map,List.length_map]
  rfl
 unfold cM
 rw[mx key];rfl
theorem C9(sizes:List Int)(levers:List (List Int)):(qG sizes levers).lookup (Str.ofString "dial_sizes")=some (tI sizes):=rfl
theorem AS(sizes:List Int)(levers:List (List Int)):(qG sizes levers).lookup (Str.ofString "lever_settings")=some (.tup (levers.map tI)):=rfl
theorem Ex(sizes:List Int)(levers:List (List Int)):(qG sizes levers).lookup (Str.ofString "least_round")=some (.int (R sizes)):=rfl
theorem Me(sizes:List Int)(levers:List (List Int)):(qG sizes levers).lookup (Str.ofString "sizes")=none:=rfl
theorem KN(sizes:List Int)(levers:List (List Int)):(qG sizes levers).lookup (Str.ofString "levers")=none:=rfl
theorem w9(sizes:List Int)(levers:List (List Int)):bp [dI sizes levers]=M.ok (tI sizes):=by
 unfold bp bG
 dsimp? [cu,dI,beq_self_eq_true,C9]
theorem sV(sizes:List Int)(levers:List (List Int)):bF [dI sizes levers]=M.ok (.tup (levers.map tI)):=by
 unfold bF bZ
 dsimp? [cu,dI,beq_self_eq_true,AS]
variable{levers:List (List Int)}
theorem pS{g:af->M PV}{env:af}(h:g env=M.ok (dI sizes levers)):b_ aw "sizes" bp g ak env=M.ok (tI sizes):=by
 have:=w9 sizes levers
 rw[b_,h,M.aV]
 show cZ _ (M.bind (ak env) _)=_
 rw[aq ⟨rfl,Me sizes levers⟩]
 exact this
theorem qj{g:af->M PV}{env:af}(h:g env=M.ok (dI sizes levers)):b_ aw "levers" bF g ak env=M.ok (.tup (levers.map tI)):=by
 have:=sV sizes levers
 rw[b_,h,M.aV]
 show cZ _ (M.bind (ak env) _)=_
 rw[aq ⟨rfl,KN sizes levers⟩]
 exact this
def yH(sizes xs:List Int):Bool:=decide ((xs.length:Int)=sizes.length)&&(xs.zip sizes).all λz=>decide (0<=z.1/\z.1<z.2)
theorem pP:yH sizes xs=true ↔ Ck sizes xs:=by
 unfold yH
 constructor
 ·intro h
  simp only[Bool.and_eq_true,decide_eq_true_eq,List.all_eq_true] at h
  exact⟨by omega,h.2⟩
 ·intro h
  simp only[Bool.and_eq_true,decide_eq_true_eq,List.all_eq_true]
  exact⟨by rw[h.len],h.kz⟩
theorem DZ(x s:Int):∀ env:af,env=[some (.sh (.int x)),some (.sh (.int s))]->jY EM EO (λ_=>M.ok (.int 0)) (ae 0) (ae 1) env=M.ok (.bl (decide (0<=x/\x<s))):=by
 rintro env rfl
 dsimp? []
 by_cases h:0<=x
 ·simp only[h,decide_true,if_true,true_and]
  try dsimp? []
 ·simp only[h,decide_false,false_and]
  try dsimp? []
theorem CT(h:α->Bool)(xs:List α):qu [.lst (xs.map λa=>.bl (h a))]=M.ok (.bl (xs.all h)):=by
 have:=qR (xs.map h)
 rw[List.map_map] at this
 rw[show (λa=>PV.bl (h a))=PV.bl∘h from rfl,this]
 simp[List.all_map]
theorem mw(h:Sz sizes)(xs:List Int)(hz:xs.length<=1000):bu [dI sizes levers,tI xs]=M.ok (.bl (yH sizes xs)):=by
 have key:bA (bB 0 1) none (jY EM EO (λ_=>M.ok (.int 0)) (ae 0) (ae 1)) ((xs.zip sizes).map λz=>.tup [.int z.1,.int z.2]) [none,none]=M.ok ((xs.zip sizes).map λz=>.bl (decide (0<=z.1/\z.1<z.2))) :=
  fv (p:=λz:Int×Int=>PV.int z.1) (q:=λz:Int×Int=>PV.int z.2) (xs.zip sizes) λz hz=>DZ z.1 z.2 _ rfl
 have hl:(xs.zip sizes).length<=sizeLine:=by rw[List.length_zip];exact aH (Nat.le_trans (Nat.min_le_left _ _) hz)
 unfold bu cK
 dsimp? [pS (sizes:=sizes) (levers:=levers) (g:=ae 0) (env:=[some (.sh (dI sizes levers)),some (.sh (tI xs)),none]) rfl,CU xs sizes.length (aH hz)]
 unfold yH
 by_cases e:(xs.length:Int)=sizes.length
 ·simp only[e,decide_true,Bool.not_true,Bool.false_eq_true,if_false,Bool.true_and]
  dsimp? [cR (p:=tI xs) (q:=tI sizes) xs sizes rfl rfl,List.length_map,aq hl,key,CT]
 ·simp only[e,decide_false,Bool.not_false,if_true,Bool.false_and]
  dsimp? []
theorem lQ(h:Sz sizes)(hs:Ck sizes xs):bV [dI sizes levers,tI xs]=M.ok .da:=by
 unfold bV cT
 dsimp? [mw (levers:=levers) h xs (by rw[hs.len];have:=h.h6;omega),pP.mpr hs]
variable{ys:List Int}
theorem j6{z:Int×Int}(h:z∈xs.zip ys):z.1∈xs/\z.2∈ys:=List.of_mem_zip (a:=z.1) (b:=z.2) h
theorem uN(h:Sz sizes)(hs:Ck sizes xs){x:Int}(hx:x∈xs):0<=x/\x<360:=by
 obtain⟨i,hi,rfl⟩:=List.mem_iff_getElem.mp hx
 have hj:i<sizes.length:=by rw[← hs.len];exact hi
 have:=hs.kz (xs[i],sizes[i]) (by
  rw[List.mem_iff_getElem]
  exact⟨i,by rw[List.length_zip];omega,by rw[List.getElem_zip]⟩)
 have h2:=h.hx sizes[i] (List.getElem_mem hj)
 exact⟨this.1,by have:=this.2;simp only at this;omega⟩
theorem ve(xs sizes:List Int):xZ xs sizes=AD xs sizes:=rfl
def cf(a b:Int):Int×Int:=open Classical in if h:∃ p:Int×Int,gL [.int a,.int b]=M.ok (.tup [.int (Int.gcd a b),.int p.1,.int p.2])/\p.1*a+p.2*b=Int.gcd a b/\p.1.natAbs<=b.natAbs+1/\p.2.natAbs<=a.natAbs+(b.natAbs+1)*a.natAbs+b.natAbs+1 then h.choose else (0,0)
theorem G5(a b:Int)(ha:a.natAbs<2^60)(hb:b.natAbs<2^60):gL [.int a,.int b]=M.ok (.tup [.int (Int.gcd a b),.int (cf a b).1,.int (cf a b).2])/\(cf a b).1*a+(cf a b).2*b=Int.gcd a b/\(cf a b).1.natAbs<=b.natAbs+1/\(cf a b).2.natAbs<=a.natAbs+(b.natAbs+1)*a.natAbs+b.natAbs+1:=by
 have h:∃ p:Int×Int,gL [.int a,.int b]=M.ok (.tup [.int (Int.gcd a b),.int p.1,.int p.2])/\p.1*a+p.2*b=Int.gcd a b/\p.1.natAbs<=b.natAbs+1/\p.2.natAbs<=a.natAbs+(b.natAbs+1)*a.natAbs+b.natAbs+1:=by
  obtain⟨s,t,h⟩:=tH a b ha hb
  exact⟨(s,t),h⟩
 unfold cf
 rw[dif_pos h]
 exact h.choose_spec
theorem Dm:CB cf:=λa b h1 h2 h3 h4=>by
 obtain⟨_,e,b1,b2⟩:=G5 a b (by omega) (by omega)
 refine⟨e,by omega,?_⟩
 have:(b.natAbs+1)*a.natAbs<=361*360:=Nat.mul_le_mul (by omega) (by omega)
 omega
def mk(r:Row):PV:=.tup [tI r.1,tI r.2]
theorem oX(r:Row):aJ (mk r) (.int 0)=M.ok (tI r.1):=bD (p:=mk r) (j:=0) rfl rfl
theorem DH(r:Row):aJ (mk r) (.int 1)=M.ok (tI r.2):=bD (p:=mk r) (j:=1) rfl rfl
variable{i:Nat}
theorem k8(h:i<xs.length):aJ (tI xs) (.int (i:Int))=M.ok (.int (vf xs i)) :=
 bD (p:=tI xs) rfl (by rw[List.getElem?_map,List.getElem?_eq_getElem h,aP h];rfl)
variable{d:Nat}{rows:List Row}
theorem rJ(h:d<rows.length):aJ (.lst (rows.map mk)) (.int (d:Int))=M.ok (mk (row rows d)) :=
 bD (p:=.lst (rows.map mk)) rfl (by rw[List.getElem?_map,List.getElem?_eq_getElem h,j5 h];rfl)
theorem qK{A B:Nat}(p q:PV)(xs ys:List Int)(a b:Int)(hp:cF p=some (xs.map PV.int))(hq:cF q=some (ys.map PV.int))(hx:Bd B xs)(hy:Bd B ys)(ha:a.natAbs<2^A)(hb:b.natAbs<2^A)(hB:B<=9000)(hA:A<=9000)(hz:xs.length<=1000):lT [p,.int a,q,.int b]=M.ok (tI (pE xs a ys b)):=by
 have key:bA (bB 0 1) none (aj dr (aj cj (ae 2) (ae 0)) (aj cj (ae 3) (ae 1))) ((xs.zip ys).map λz=>.tup [.int z.1,.int z.2]) [none,none,some (.sh (.int a)),some (.sh (.int b))]=M.ok ((xs.zip ys).map λz=>.int (a*z.1+b*z.2)):=by
  refine fv (p:=λz:Int×Int=>PV.int z.1) (q:=λz:Int×Int=>PV.int z.2) (xs.zip ys) λz hz=>?_
  have m:=List.of_mem_zip (a:=z.1) (b:=z.2) hz
  dsimp? [bq (k:=A) (l:=B) ha (hx _ m.1) hA hB,bq (k:=A) (l:=B) hb (hy _ m.2) hA hB]
 have hl:(xs.zip ys).length<=sizeLine:=by rw[List.length_zip];exact aH (Nat.le_trans (Nat.min_le_left _ _) hz)
 unfold lT mL
 dsimp? [cR xs ys hp hq,List.length_map,aq hl,key]
 rw[tI,pE,List.map_map];rfl
variable{r:Row}
theorem yJ{A B:Nat}{q:Row}{a b:Int}(hs:∀ s∈sizes,0<s)(h1:Bd B r.1)(h2:Bd B r.2)(h3:Bd B q.1)(h4:Bd B q.2)(ha:a.natAbs<2^A)(hb:b.natAbs<2^A)(hB:B<=9000)(hA:A<=9000)(z1:r.1.length<=100)(z2:r.2.length<=100):eG [tI sizes,mk r,.int a,mk q,.int b]=M.ok (mk (rS sizes r a q b)):=by
 unfold eG fq
 dsimp? [oX,DH,qK (tI r.1) (tI q.1) r.1 q.1 a b rfl rfl h1 h3 ha hb hB hA (by omega),qK (tI r.2) (tI q.2) r.2 q.2 a b rfl rfl h2 h4 ha hb hB hA (by omega),rK (tI (pE r.1 a q.1 b)) (tI sizes) (pE r.1 a q.1 b) sizes rfl rfl hs (by rw[cD];omega)]
 rfl
variable{m:Nat}
theorem vi(w:Wf n m rows)(hs:sizes.length=n)(hd:d<n):eF [tI sizes,.lst (rows.map mk),.int (d:Int)]=M.ok (.int (br (vf sizes) (DD rows) d)):=by
 unfold eF eY
 have e1:=w.rV hd
 dsimp? [rJ (rows:=rows) (d:=d) (by rw[w.len];exact hd),oX,k8 (xs:=(row rows d).1) (i:=d) (by omega)]
 unfold br
 by_cases z:DD rows d d=0
 ·have z':vf (row rows d).1 d=0:=z
  simp only[z',z,decide_true,if_true]
  dsimp? [k8 (xs:=sizes) (i:=d) (by omega)]
 ·have z':¬ vf (row rows d).1 d=0:=z
  simp only[z',z,decide_false,Bool.false_eq_true,if_false]
  dsimp? []
  rfl
theorem drop_cons{xs:List α}{a:α}{r:List α}(h:xs.drop d=a::r):d<xs.length/\xs[d]?=some a/\xs.drop (d+1)=r:=by
 have hd:d<xs.length:=by
  rcases Nat.lt_or_ge d xs.length with q | q
  ·exact q
  ·rw[List.drop_eq_nil_of_le q] at h;cases h
 rw[List.drop_eq_getElem_cons hd] at h
 injection h with h1 h2
 exact⟨hd,by rw[List.getElem?_eq_getElem hd,h1],h2⟩
theorem jB(env:af):nJ ak env=M.ok []:=by
 simp only[nJ,ak,M.aV]
 exact if_pos (Nat.zero_le _)
theorem zZ{f:af->M PV}{env:af}{xs:List PV}(h:env[i]?=some (some (.ow xs)))(hf:f env=M.ok p)(hz:xs.length<1000):pv i f env=M.ok (.nx (env.set i (some (.ow (xs++[p]))))):=by
 unfold pv
 rw[h]
 show M.bind (f env) _=_
 rw[hf,M.aV,if_pos (oA (Nat.le_of_lt hz))]
theorem vx(hl:xs.length=n)(h:∀ i,i<n->0<=vf xs i/\vf xs i<vf sizes i)(hs:∀ i,i<n->vf sizes i<=360):Bd 9 xs:=λx hx=>by
 obtain⟨i,hi,rfl⟩:=List.mem_iff_getElem.mp hx
 have h1:=h i (by omega);have h2:=hs i (by omega)
 rw[aP hi] at h1
 omega
theorem wN{a b:Int}(h1:-1000<=a)(h2:a<=1000)(h3:-1000<=b)(h4:b<=1000):yW [.int a,.int b]=M.ok ((List.range (b-a).toNat).map λ(i:Nat)=>.int (a+(i:Int))):=by
 have h:-(2^62)<=a/\a<2^62/\-(2^62)<=b/\b<2^62:=by omega
 show cZ (-(2^62)<=a/\a<2^62/\-(2^62)<=b/\b<2^62) _=_
 rw[aq h]
variable{A:Nat->dP}{k:Nat}
section
variable{left:Row}
theorem St.Dp(h:St n m sizes A k rows)(hd:d<n):Bd 9 (row rows d).1:=vx (h.wf.rV hd) (λi hi=>h.gd.kz d hd i hi) h.sm
theorem CW(h:St n m sizes A k rows):∀ s∈sizes,0<s:=λs hs=>by
 obtain⟨i,hi,rfl⟩:=List.mem_iff_getElem.mp hs
 have:=h.gd.sp i (by rw[← h.hs];exact hi)
 rwa [aP hi] at this
theorem CY(h:St n m sizes A k rows)(L:Lv n m sizes A k left)(hn:n<=6)(hm:m<=8):ke [tI sizes,.lst (rows.map mk),mk left]=M.ok (.tup [.lst ((c7 cf sizes rows left n).map mk),tI (aA cf sizes rows left n).2]):=by
 have rl:=h.wf.len
 have hkm:=L.km
 unfold ke j8
 dsimp? [jB,nO]
 refine f7 rows.zipIdx (λzs env=>∃ d x4 x5 x6 x7 x8,d<=n/\rows.zipIdx.drop d=zs/\env=[some (.sh (tI sizes)),some (.sh (.lst (rows.map mk))),some (.sh (mk (aA cf sizes rows left d))),some (.ow ((c7 cf sizes rows left d).map mk)),x4,x5,x6,x7,x8]) ⟨0,none,none,none,none,none,Nat.zero_le _,rfl,rfl⟩ ?_ ?_
 ·rintro⟨a,i⟩ zs env ⟨d,x4,x5,x6,x7,x8,hd,Rv,rfl⟩
  obtain⟨h1,h2,h3⟩:=drop_cons Rv
  rw[List.length_zipIdx,rl] at h1
  have h4:a=row rows d/\i=d:=by
   rw[List.getElem?_zipIdx] at h2
   rw[j5 (by rw[rl];exact h1)]
   rw[List.getElem?_eq_getElem (by rw[rl];exact h1)] at h2
   simp at h2
   exact⟨h2.1.symm,h2.2.symm⟩
  obtain⟨rfl,rfl⟩:=h4
  have ll:=dO (c:=cf) h.wf h.hs L.l1 L.l2 i (by omega)
  have lk:=lD (c:=cf) h L i (by omega)
  have lb:=pR (c:=cf) h L hn i (by omega)
  have st:=h.gd.pos h1
  have sm:=h.sm i h1
  have nt:=lk i h1
  have e1:=h.wf.rV h1;have e2:=h.wf.at2 h1
  generalize PY:br (vf sizes) (DD rows) i=QE at *
  generalize hnt:vf (aA cf sizes rows left i).1 i=nt' at *
  obtain⟨c1,c2,c3,c4⟩:=G5 QE nt' (by omega) (by omega)
  have cb:=Dm QE nt' st.1 (by omega) nt.1 (by omega)
  have gp:=ip (b:=nt') st.1
  have gl:(Int.gcd QE nt':Int)<=QE:=Int.le_of_dvd st.1 (Int.gcd_dvd_left ..)
  have a1:=kZ (b:=nt') st.1 (by omega)
  have a2:=nh (b:=nt') st.1 nt.1 (by omega)
  have B1:Bd 1300 (row rows i).1:=(St.Dp h h1).mono (by omega)
  have B2:Bd 1300 (row rows i).2:=(h.bd i h1).mono (by omega)
  have B3:Bd 1300 (aA cf sizes rows left i).1:=(vx ll.1 lk h.sm).mono (by omega)
  have B4:Bd 1300 (aA cf sizes rows left i).2:=lb.mono (by omega)
  have w1:=yJ (A:=20) (sizes:=sizes) (CW h) B1 B2 B3 B4 cb.2.1 cb.2.2 (by decide) (by decide) (by omega) (by omega)
  have w2:=yJ (A:=20) (sizes:=sizes) (a:=QE/(Int.gcd QE nt':Nat)) (b:=-(nt'/(Int.gcd QE nt':Nat))) (CW h) B3 B4 B1 B2 (by omega) (by omega) (by decide) (by decide) (by omega) (by omega)
  have ew:eU cf sizes rows left i=rS sizes (row rows i) (cf QE nt').1 (aA cf sizes rows left i) (cf QE nt').2:=by
   simp only[eU,PY,hnt]
  have el:aA cf sizes rows left (i+1)=rS sizes (aA cf sizes rows left i) (QE/(Int.gcd QE nt':Nat)) (row rows i) (-(nt'/(Int.gcd QE nt':Nat))):=by
   simp only[aA,PY,hnt]
  refine⟨_,[some (.sh (tI sizes)),some (.sh (.lst (rows.map mk))),some (.sh (mk (aA cf sizes rows left (i+1)))),some (.ow ((c7 cf sizes rows left (i+1)).map mk)),some (.sh (.int i)),some (.sh (mk (row rows i))),some (.sh (.int QE)),some (.sh (.int nt')),some (.sh (.tup [.int (Int.gcd QE nt'),.int (cf QE nt').1,.int (cf QE nt').2]))],rfl,?_,i+1,_,_,_,_,_,by omega,h3,rfl⟩
  have sok:=vi h.wf h.hs h1
  rw[PY] at sok
  have nok:=k8 (xs:=(aA cf sizes rows left i).1) (i:=i) (by omega)
  rw[hnt] at nok
  dsimp? [sok,oX,nok,c1]
  rw[zZ (i:=3) rfl (p:=mk (eU cf sizes rows left i)) (by dsimp? [Ij,Kq,w1,ew]) (by simp[c7];omega)]
  dsimp? [y0,aS (i:=QE) gp (by omega),aS (i:=nt') gp (by omega),w2,el]
  rw[c7,c7,List.range_succ,List.map_append,List.map_append]
  rfl
 ·rintro env ⟨d,x4,x5,x6,x7,x8,hd,Rv,rfl⟩
  have Sq:d=n:=by
   have:=congrArg List.length Rv
   rw[List.length_drop,List.length_zipIdx,rl] at this
   simp at this
   omega
  subst Sq
  dsimp? [DH]
def bw(sizes:List Int)(rows:List Row)(r:Row)(f:Nat):Nat->Row
 | 0=>r
 | c+1 =>
  let l:=bw sizes rows r f c
  rS sizes l 1 (row rows (f+c)) (-(vf l.1 (f+c)/br (vf sizes) (DD rows) (f+c)))
theorem iX(h:St n m sizes A k rows){r:Row}{f:Nat}(h1:r.1.length=n)(h2:r.2.length=m):∀ c,f+c<=n->(bw sizes rows r f c).1.length=n/\(bw sizes rows r f c).2.length=m
 | 0,_=>⟨h1,h2⟩
 | c+1,hc=>by
  obtain⟨i1,i2⟩:=iX h (f:=f) h1 h2 c (by omega)
  have e1:=h.wf.rV (d:=f+c) (by omega);have e2:=h.wf.at2 (d:=f+c) (by omega)
  have hs:=h.hs
  simp only[bw,rS]
  rw[jv,cD,cD]
  exact⟨by omega,by omega⟩
theorem oo(h:St n m sizes A k rows){f:Nat}(h1:r.1.length=n)(h2:r.2.length=m)(h0:∀ i,i<n->0<=vf r.1 i/\vf r.1 i<vf sizes i):Dn n (vf sizes) (DD rows) f (λd=>vf (bw sizes rows r f (d-f)).1) where
 w0:=λi hi=>by rw[Nat.sub_self];exact h0 i hi
 ws:=λd hf hd i hi=>by
  obtain⟨c,rfl⟩:∃ c,d=f+c:=⟨d-f,by omega⟩
  obtain⟨i1,i2⟩:=iX h (f:=f) h1 h2 c (by omega)
  have e1:=h.wf.rV (d:=f+c) (by omega)
  have hs:=h.hs
  show vf (bw sizes rows r f (f+c+1-f)).1 i=_
  rw[show f+c+1-f=c+1 by omega,show f+c-f=c by omega]
  simp only[bw,rS]
  rw[kj (by rw[cD];omega) (by omega),fY (by omega) (by omega)]
  rfl
theorem uM(h:St n m sizes A k rows){r:Row}{f:Nat}(h1:r.1.length=n)(h2:r.2.length=m){P₀:dP}{B:dP}(hl:Led n (vf sizes) m A (λi=>vf r.1 i-B i) (λl=>vf r.2 l-P₀ l)):∀ c,f+c<=n->Led n (vf sizes) m A (λi=>vf (bw sizes rows r f c).1 i-B i) (λl=>vf (bw sizes rows r f c).2 l-P₀ l)
 | 0,_=>hl
 | c+1,hc=>by
  obtain⟨i1,i2⟩:=iX h (f:=f) h1 h2 c (by omega)
  have e1:=h.wf.rV (d:=f+c) (by omega);have e2:=h.wf.at2 (d:=f+c) (by omega)
  have hs:=h.hs
  refine Led.mix (a:=1) (b:=-(vf (bw sizes rows r f c).1 (f+c)/br (vf sizes) (DD rows) (f+c))) (uM h (f:=f) h1 h2 hl c (by omega)) (h.led (f+c) (by omega)) (λi hi=>?_) λl hl=>?_
  ·simp only[bw,rS]
   rw[kj (by rw[cD];omega) (by omega),fY (by omega) (by omega)]
   obtain⟨z,hz⟩:=cG (1*vf (bw sizes rows r f c).1 i+-(vf (bw sizes rows r f c).1 (f+c)/br (vf sizes) (DD rows) (f+c))*vf (row rows (f+c)).1 i) (vf sizes i)
   refine⟨z,?_⟩
   rw[← hz]
   unfold DD
   grind
  ·simp only[bw,rS]
   rw[fY (by omega) (by omega)]
   unfold PP
   grind
theorem uD(h:St n m sizes A k rows){r:Row}{f B:Nat}(h1:r.1.length=n)(h2:r.2.length=m)(h0:∀ i,i<n->0<=vf r.1 i/\vf r.1 i<vf sizes i)(hB:150*k+1<=B)(hb:Bd B r.2):∀ c,f+c<=n->Bd (B+11*c) (bw sizes rows r f c).2
 | 0,_=>hb
 | c+1,hc=>by
  have k0:=(oo h (f:=f) h1 h2 h0).kept h.gd (f+c) (by omega) (by omega) (f+c) (by omega)
  rw[show f+c-f=c by omega] at k0
  have sm:=h.sm (f+c) (by omega)
  have p:=h.gd.pos (d:=f+c) (by omega)
  have q:=Int.ediv_le_self (br (vf sizes) (DD rows) (f+c)) k0.1
  have q0:=Int.ediv_nonneg k0.1 (Int.le_of_lt p.1)
  have:=Bd.mix (A:=10) (uD h (f:=f) h1 h2 h0 hB hb c (by omega)) ((h.bd (f+c) (by omega)).mono (show 150*k+1<=B+11*c by omega)) (a:=1) (b:=-(vf (bw sizes rows r f c).1 (f+c)/br (vf sizes) (DD rows) (f+c))) (by decide) (by omega)
  exact this.mono (by omega)
theorem rM(h:St n m sizes A k rows){f B:Nat}(hn:n<=6)(hm:m<=8)(h1:r.1.length=n)(h2:r.2.length=m)(h0:∀ i,i<n->0<=vf r.1 i/\vf r.1 i<vf sizes i)(hB:150*k+1<=B)(hB2:B<=8000)(hb:Bd B r.2)(hf:f<=n):f_ [tI sizes,.lst (rows.map mk),mk r,.int (f:Int)]=M.ok (mk (bw sizes rows r f (n-f))):=by
 have hs:=h.hs
 have rl:=h.wf.len
 unfold f_ jK
 have kz:yW [.int (f:Int),.int (sizes.length:Int)]=M.ok ((List.range (n-f)).map λ(i:Nat)=>.int ((f+i:Nat):Int)):=by
  rw[wN (by omega) (by omega) (by omega) (by omega),hs,show ((n:Int)-(f:Int)).toNat=n-f by omega]
  simp
 dsimp? [kz]
 refine f7 (List.range (n-f)) (λzs env=>∃ c x4 x5,c<=n-f/\(List.range (n-f)).drop c=zs/\env=[some (.sh (tI sizes)),some (.sh (.lst (rows.map mk))),some (.sh (mk (bw sizes rows r f c))),some (.sh (.int (f:Int))),x4,x5]) ⟨0,none,none,Nat.zero_le _,rfl,rfl⟩ ?_ ?_
 ·rintro i zs env ⟨c,x4,x5,hc,Rv,rfl⟩
  obtain⟨c1,c2,c3⟩:=drop_cons Rv
  rw[List.length_range] at c1
  obtain rfl:i=c:=by
   rw[List.getElem?_range c1] at c2;exact(Option.some.inj c2).symm
  have Sr:f+i<n:=by omega
  have ll:=iX h (f:=f) h1 h2 i (by omega)
  have lk:=(oo h (f:=f) h1 h2 h0).kept h.gd (f+i) (by omega) (by omega)
  rw[show f+i-f=i by omega] at lk
  have k0:=lk (f+i) Sr
  have sm:=h.sm (f+i) Sr
  have p:=h.gd.pos Sr
  have e1:=h.wf.rV Sr;have e2:=h.wf.at2 Sr
  have B1:Bd 8200 (row rows (f+i)).1:=(St.Dp h Sr).mono (by omega)
  have B2:Bd 8200 (row rows (f+i)).2:=(h.bd _ Sr).mono (by omega)
  have B3:Bd 8200 (bw sizes rows r f i).1:=(vx ll.1 lk h.sm).mono (by omega)
  have B4:Bd 8200 (bw sizes rows r f i).2:=(uD h (f:=f) h1 h2 h0 hB hb i (by omega)).mono (by omega)
  have q:=Int.ediv_le_self (br (vf sizes) (DD rows) (f+i)) k0.1
  have q0:=Int.ediv_nonneg k0.1 (Int.le_of_lt p.1)
  have w:=yJ (A:=20) (sizes:=sizes) (a:=1) (b:=-(vf (bw sizes rows r f i).1 (f+i)/br (vf sizes) (DD rows) (f+i))) (CW h) B3 B4 B1 B2 (by decide) (by omega) (by decide) (by decide) (by omega) (by omega)
  refine⟨_,[some (.sh (tI sizes)),some (.sh (.lst (rows.map mk))),some (.sh (mk (bw sizes rows r f (i+1)))),some (.sh (.int (f:Int))),some (.sh (.int ((f+i:Nat):Int))),some (.sh (.int (vf (bw sizes rows r f i).1 (f+i)/br (vf sizes) (DD rows) (f+i))))],rfl,?_,i+1,_,_,by omega,c3,rfl⟩
  dsimp? [oX,k8 (xs:=(bw sizes rows r f i).1) (i:=f+i) (by omega),vi h.wf h.hs Sr,aS (i:=vf (bw sizes rows r f i).1 (f+i)) p.1 (by omega),rJ (rows:=rows) (d:=f+i) (by omega),w]
  rfl
 ·rintro env ⟨c,x4,x5,hc,Rv,rfl⟩
  have:c=n-f:=by
   have:=congrArg List.length Rv
   rw[List.length_drop,List.length_range] at this
   simp at this
   omega
  subst this
  dsimp? []
end
theorem E4(m k:Nat)(hm:m<=1000):jU [.int (m:Int),.int (k:Int)]=M.ok (tI (oN m k)):=by
 have key:bA (bK 0) none (wB (dz (aj jP (ae 0) (ae 1))) (λ_=>M.ok (.int 1)) (λ_=>M.ok (.int 0))) ((List.range m).map λ(i:Nat)=>.int (i:Int)) [none,some (.sh (.int (k:Int)))]=M.ok ((List.range m).map λ(i:Nat)=>.int (if i=k then 1 else 0)):=by
  refine du (inj:=λ(i:Nat)=>PV.int (i:Int)) (List.range m) λi hi=>?_
  dsimp? []
  by_cases z:i=k
  ·subst z;simp only[decide_true,if_true]
  ·have z':¬ (i:Int)=(k:Int):=by omega
   simp only[z,z',decide_false,Bool.false_eq_true,if_false]
 unfold jU jV
 dsimp? [jF (n:=(m:Int)) (by omega) (by omega),Int.toNat_natCast,List.length_map,List.length_range,aq (aH hm),key]
 rw[tI,oN,List.map_map];rfl
theorem s_{n:Int}(h:0<=n):Builtin.Range.rangeSize (n-1) (-1) (-1)=n:=by
 unfold Builtin.Range.rangeSize
 rw[if_neg (by decide)]
 split
 ·rw[show -(-1:Int)=1 from rfl,Int.ediv_one];omega
 ·omega
theorem GN{n:Int}(h:0<=n)(h2:n<=1000):C3 (n-1) (-1) (-1)=true:=by
 unfold C3 Builtin.Range.small
 have f:∀ x:Int,-(2^40)<x->x<2^40->Builtin.Range.rangeFitsLong x=true:=λx h1 h2=>by
  unfold Builtin.Range.rangeFitsLong
  simp only[Bool.and_eq_true,decide_eq_true_eq]
  omega
 simp only[s_ h,f (n-1) (by omega) (by omega),f (-1) (by decide) (by decide),f n (by omega) (by omega),f (n-1+n*-1) (by omega) (by omega),Bool.and_true,Bool.true_and,Bool.and_self,Bool.and_eq_true,decide_eq_true_eq]
 refine⟨by decide,?_⟩
 rw[if_neg (by decide),f (-1+(-1+1)) (by decide) (by decide),Bool.or_true]
theorem wX(k:Nat)(hk:k<=1000):A_ [.int ((k:Int)-1),.int (-1),.int (-1)]=M.ok ((List.range k).map λ(i:Nat)=>.int ((k:Int)-1+(i:Int)*-1)):=by
 show cZ (C3 ((k:Int)-1) (-1) (-1)=true) _=_
 rw[aq (GN (by omega) (by omega)),s_ (by omega),Int.toNat_natCast]
variable{j:Nat}{idle:List (List Int)}
theorem FG(h:j<idle.length):aJ (.lst (idle.map tI)) (.int (j:Int))=M.ok (tI (idle.getD j [])) :=
 bD (p:=.lst (idle.map tI)) rfl (by rw[List.getElem?_map,List.getElem?_eq_getElem h,List.getD_eq_getElem?_getD,List.getElem?_eq_getElem h];rfl)
theorem wR{B:Nat}{s:dP}{P:List Int}(h:Br n m s A k idle)(hP:P.length=m)(hm:m<=8)(hk:k<=m)(hB:60<=B)(hB2:B<=8000)(hb:Bd B P):iE [tI P,.lst (idle.map tI)]=M.ok (tI (bc idle k P k)):=by
 have il:=h.len
 unfold iE iK
 dsimp? [List.length_map,il,wX k (by omega)]
 refine f7 (List.range k) (λzs env=>∃ c x2 x3,c<=k/\(List.range k).drop c=zs/\env=[some (.sh (tI (bc idle k P c))),some (.sh (.lst (idle.map tI))),x2,x3]) ⟨0,none,none,Nat.zero_le _,rfl,rfl⟩ ?_ ?_
 ·rintro i zs env ⟨c,x2,x3,hc,Rv,rfl⟩
  obtain⟨c1,c2,c3⟩:=drop_cons Rv
  rw[List.length_range] at c1
  obtain rfl:i=c:=by
   rw[List.getElem?_range c1] at c2;exact(Option.some.inj c2).symm
  have hj:k-1-i<k:=by omega
  have ej:(k:Int)-1+(i:Int)*-1=((k-1-i:Nat):Int):=by omega
  have sl:=span_len h hP i (by omega)
  have rl:=h.l2 (k-1-i) hj
  have p:=h.pos (k-1-i) hj
  have pl60:=h.le (k-1-i) hj
  have zb:=zX h hP hk hB hb i (by omega)
  have B1:Bd 8600 (bc idle k P i):=zb.mono (by omega)
  have B2:Bd 8600 (idle.getD (k-1-i) []):=(h.bd hj hk).mono (by omega)
  have q:(-(vf (bc idle k P i) (k-1-i)/vf (idle.getD (k-1-i) []) (k-1-i))).natAbs<2^8600:=by
   rw[Int.natAbs_neg]
   exact Nat.lt_of_le_of_lt (Int.natAbs_ediv_le_natAbs ..) (B1.vf _)
  have w:=qK (A:=8600) (tI (bc idle k P i)) (tI (idle.getD (k-1-i) [])) (bc idle k P i) (idle.getD (k-1-i) []) 1 (-(vf (bc idle k P i) (k-1-i)/vf (idle.getD (k-1-i) []) (k-1-i))) rfl rfl B1 B2 (Nat.one_lt_two_pow (by decide)) q (by decide) (by decide) (by omega)
  refine⟨_,[some (.sh (tI (bc idle k P (i+1)))),some (.sh (.lst (idle.map tI))),some (.sh (.int ((k-1-i:Nat):Int))),some (.sh (tI (idle.getD (k-1-i) [])))],rfl,?_,i+1,_,_,by omega,c3,rfl⟩
  rw[ej]
  dsimp? [FG (idle:=idle) (j:=k-1-i) (by omega),k8 (xs:=bc idle k P i) (i:=k-1-i) (by omega),k8 (xs:=idle.getD (k-1-i) []) (i:=k-1-i) (by omega),aS (i:=vf (bc idle k P i) (k-1-i)) (j:=vf (idle.getD (k-1-i) []) (k-1-i)) p (by show II idle (k-1-i) (k-1-i)<2^64;omega),w]
  rfl
 ·rintro env ⟨c,x2,x3,hc,Rv,rfl⟩
  have:c=k:=by
   have:=congrArg List.length Rv
   rw[List.length_drop,List.length_range] at this
   simp at this
   omega
  subst this
  dsimp? []
variable{Ls:List (List Int)}
theorem jN(h:sizes.length<=6):gJ [dI sizes Ls]=M.ok (tI (List.replicate sizes.length 0)):=by
 unfold gJ iG
 dsimp? [pS (sizes:=sizes) (levers:=Ls) (g:=ae 0) (env:=[some (.sh (dI sizes Ls))]) rfl,mul_one (.int 0) sizes.length (by omega)]
 rw[tI,List.map_replicate]
theorem oQ(hm:Ls.length<=8)(xs:List Int):fN [dI sizes Ls,tI xs]=M.ok (mk (xs,List.replicate Ls.length 0)):=by
 unfold fN iP
 dsimp? [qj (sizes:=sizes) (levers:=Ls) (g:=ae 0) (env:=[some (.sh (dI sizes Ls)),some (.sh (tI xs))]) rfl,List.length_map,mul_one (.int 0) Ls.length (by omega)]
 rw[mk,tI,tI,List.map_replicate]
theorem Gn(hm:Ls.length<=8)(hk:k<Ls.length):gv [dI sizes Ls,.int (k:Int)]=M.ok (mk (cA Ls Ls.length k)):=by
 have e:aJ (.tup (Ls.map tI)) (.int (k:Int))=M.ok (tI (Ls.getD k [])):=bD (p:=.tup (Ls.map tI)) rfl (by rw[List.getElem?_map,List.getElem?_eq_getElem hk,List.getD_eq_getElem?_getD,List.getElem?_eq_getElem hk];rfl)
 unfold gv gA
 dsimp? [qj (sizes:=sizes) (levers:=Ls) (g:=ae 0) (env:=[some (.sh (dI sizes Ls)),some (.sh (.int (k:Int))),none]) rfl,List.length_map,e,E4 Ls.length k (by omega)]
 rfl
theorem DG:∀ xs:List Int,qU (tI xs)=true:=by
 intro xs
 have:∀ ys:List Int,oF (ys.map PV.int)=true:=by
  intro ys
  induction ys with
  | nil=>rfl
  | cons a r ih=>simp[oF,qU,ih]
 exact this xs
theorem L8(x y:PV):aJ (.tup [x,y]) (.int 0)=M.ok x:=bD (j:=0) rfl rfl
theorem L5(x y:PV):aJ (.tup [x,y]) (.int 1)=M.ok y:=bD (j:=1) rfl rfl
def ou(sizes:List Int)(rows:List Row)(n:Nat):List Row:=(List.range n).map λd=>bw sizes rows (row rows d) (d+1) (n-(d+1))
def xi(V:PV)(rows:List Row)(idle:List (List Int)):List (Str×PV):=[("vault", V),("made_rows", .lst (rows.map mk)),("idle_rows", .lst (idle.map tI))]
theorem DW(hn1:1<=sizes.length)(hn:sizes.length<=6)(hm:Ls.length<=8)(hp:∀ i,i<sizes.length->0<vf sizes i/\vf sizes i<=360)(LL:Lq sizes.length Ls.length sizes Ls) :
  cM az iW [] [dI sizes Ls]=M.ok (.obj az (xi (dI sizes Ls) (ou sizes (RK cf sizes Ls sizes.length Ls.length Ls.length).1 sizes.length) (RK cf sizes Ls sizes.length Ls.length Ls.length).2)):=by
 have all:=λk hk=>B9.all (c:=cf) rfl hp LL Dm hn k hk
 have key:∀ a,iW a ([dI sizes Ls]++[])=M.ok (xi (dI sizes Ls) (ou sizes (RK cf sizes Ls sizes.length Ls.length Ls.length).1 sizes.length) (RK cf sizes Ls sizes.length Ls.length Ls.length).2):=by
  intro a
  have e1:bA (bK 0) none (ai fN (aa (ae 1) (aa (ai gJ (aa (ae 1) ak)) ak))) (sizes.map PV.int) [none,some (.sh (dI sizes Ls))]=M.ok ((List.replicate sizes.length ((List.replicate sizes.length (0:Int)),(List.replicate Ls.length (0:Int)))).map mk):=by
   rw[du (h:=λ_=>mk (List.replicate sizes.length 0,List.replicate Ls.length 0)) sizes λx _=>by dsimp? [jN (Ls:=Ls) hn,oQ (sizes:=sizes) hm (List.replicate sizes.length 0)]]
   congr 1
   rw[List.map_const',List.map_replicate]
  have e2:bA (bB 0 1) none (ai f_ (aa (ae 2) (aa (ae 3) (aa (ae 1) (aa (aj dr (ae 0) (λ_=>M.ok (.int 1))) ak))))) ((RK cf sizes Ls sizes.length Ls.length Ls.length).1.zipIdx.map λz=>.tup [.int (z.2:Int),mk z.1]) [none,none,some (.sh (tI sizes)),some (.sh (.lst ((RK cf sizes Ls sizes.length Ls.length Ls.length).1.map mk)))]=M.ok ((ou sizes (RK cf sizes Ls sizes.length Ls.length Ls.length).1 sizes.length).map mk):=by
   have I:=all Ls.length (Nat.le_refl _)
   generalize RK cf sizes Ls sizes.length Ls.length Ls.length=rk at *
   have rl:=I.st.wf.len
   rw[fv (p:=λz:Row×Nat=>PV.int (z.2:Int)) (q:=λz:Row×Nat=>mk z.1) (h:=λz:Row×Nat=>mk (bw sizes rk.1 z.1 (z.2+1) (sizes.length-(z.2+1)))) rk.1.zipIdx λz hz=>?_]
   ·congr 1
    rw[ou,List.map_map]
    refine List.ext_getElem (by simp[rl]) λi h1 h2=>?_
    have hi:i<rk.1.length:=by simpa using h1
    simp[j5 hi]
   ·obtain⟨i,hi,e⟩:=List.mem_iff_getElem.mp hz
    rw[List.length_zipIdx] at hi
    rw[List.getElem_zipIdx] at e
    have ez:z=(row rk.1 i,i):=by rw[← e,j5 hi];simp
    subst ez
    have hin:i<sizes.length:=by omega
    have:=rM (f:=i+1) (B:=150*Ls.length+1) I.st hn hm (I.st.wf.rV hin) (I.st.wf.at2 hin) (λj hj=>I.st.gd.kz i hin j hj) (Nat.le_refl _) (by omega) (I.st.bd i hin) (by omega)
    rw[show ((i+1:Nat):Int)=(i:Int)+1 by omega] at this
    dsimp? [this]
  have zl:sizes.length<=sizeLine:=aH (by omega)
  have I:=all Ls.length (Nat.le_refl _)
  have rl:=I.st.wf.len
  unfold iW jW
  simp only[kE]
  rw[aq (show ([dI sizes Ls]++([]:List PV)).length+1=2 from rfl)]
  simp only[mq,rE]
  dsimp? [pS (sizes:=sizes) (levers:=Ls) (g:=ae 1) (env:=[some (.bd a az []),some (.sh (dI sizes Ls)),none,none,none,none,none]) rfl,List.length_map,aq zl,e1,jB,qj (sizes:=sizes) (levers:=Ls) (g:=ae 1) (env:=[some (.bd a az []),some (.sh (dI sizes Ls)),some (.sh (tI sizes)),some (.sh (.lst ((List.replicate sizes.length ((List.replicate sizes.length (0:Int)),(List.replicate Ls.length (0:Int)))).map mk))),some (.ow []),none,none]) rfl,jF (n:=(Ls.length:Int)) (by omega) (by omega),Int.toNat_natCast]
  refine f7 (List.range Ls.length) (λzs env=>∃ k x5 x6,k<=Ls.length/\(List.range Ls.length).drop k=zs/\env=[some (.bd a az []),some (.sh (dI sizes Ls)),some (.sh (tI sizes)),some (.sh (.lst ((RK cf sizes Ls sizes.length Ls.length k).1.map mk))),some (.ow ((RK cf sizes Ls sizes.length Ls.length k).2.map tI)),x5,x6]) ⟨0,none,none,Nat.zero_le _,rfl,rfl⟩ ?_ ?_
  ·rintro i zs env ⟨k,x5,x6,hk,Rv,rfl⟩
   obtain⟨c1,c2,c3⟩:=drop_cons Rv
   rw[List.length_range] at c1
   obtain rfl:i=k:=by
    rw[List.getElem?_range c1] at c2;exact(Option.some.inj c2).symm
   have J:=all i hk
   have L:Lv sizes.length Ls.length sizes (AA Ls) i (cA Ls Ls.length i):=⟨LL.at_ i c1,by simp[cA,oN],c1,λj hj=>rfl,LL.kz i c1,λl hl=>wc hl⟩
   have tk:=CY J.st L hn hm
   have ll:=dO (c:=cf) J.st.wf J.st.hs L.l1 L.l2 sizes.length (Nat.le_refl _)
   have lb:=pR (c:=cf) J.st L hn sizes.length (Nat.le_refl _)
   have sp:=wR (B:=1400) J.vP ll.2 hm (by omega) (by decide) (by decide) (lb.mono (by omega))
   have il:=J.vP.len
   refine⟨_,[some (.bd a az []),some (.sh (dI sizes Ls)),some (.sh (tI sizes)),some (.sh (.lst ((RK cf sizes Ls sizes.length Ls.length (i+1)).1.map mk))),some (.ow ((RK cf sizes Ls sizes.length Ls.length (i+1)).2.map tI)),some (.sh (.int (i:Int))),some (.sh (.tup [.lst ((c7 cf sizes (RK cf sizes Ls sizes.length Ls.length i).1 (cA Ls Ls.length i) sizes.length).map mk),tI (aA cf sizes (RK cf sizes Ls sizes.length Ls.length i).1 (cA Ls Ls.length i) sizes.length).2]))],rfl,?_,i+1,_,_,by omega,c3,rfl⟩
   dsimp? [Gn (sizes:=sizes) hm c1,tk,L8]
   rw[zZ (i:=4) rfl (p:=tI (bc (RK cf sizes Ls sizes.length Ls.length i).2 i (aA cf sizes (RK cf sizes Ls sizes.length Ls.length i).1 (cA Ls Ls.length i) sizes.length).2 i)) (by
    dsimp? [v7,ownAt,L5,sp]
    exact aq (DG _)) (by simp[il];omega)]
   dsimp? [RK,List.map_append]
  ·rintro env ⟨k,x5,x6,hk,Rv,rfl⟩
   have:k=Ls.length:=by
    have:=congrArg List.length Rv
    rw[List.length_drop,List.length_range] at this
    simp at this
    omega
   subst this
   dsimp? [fI]
   rw[dS _ _ _ _ _ _ (by simp)]
   dsimp? [fI,nO,List.length_map,List.length_zipIdx,rl,aq zl,e2]
   rw[dS _ _ _ _ _ _ (Nat.lt_of_le_of_lt (gQ (Nat.zero_le 0)) (by decide))]
   dsimp? [fI]
   rw[dS _ _ _ _ _ _ (Nat.lt_of_le_of_lt (gQ (gQ (Nat.zero_le 0))) (by decide))]
   dsimp? []
   show cZ _ _=_
   rw[aq ⟨rfl,rfl⟩]
   rfl
 unfold cM
 rw[mx key];rfl
theorem nq(h:d<n):row (ou sizes rows n) d=bw sizes rows (row rows d) (d+1) (n-(d+1)):=by
 rw[j5 (by simp[ou,h])];simp[ou]
theorem IZ(h:St n m sizes A m rows)(hn:n<=6)(hA:∀ i,A m i=0):St n m sizes A (m+1) (ou sizes rows n):=by
 have hl:∀ d,d<n->(bw sizes rows (row rows d) (d+1) (n-(d+1))).1.length=n/\(bw sizes rows (row rows d) (d+1) (n-(d+1))).2.length=m:=λd hd=>iX h (h.wf.rV hd) (h.wf.at2 hd) _ (by omega)
 have lg:=vZ (D':=DD (ou sizes rows n)) h.gd (λd e=>vf (bw sizes rows (row rows d) (d+1) (e-(d+1))).1) (λd hd=>oo h (h.wf.rV hd) (h.wf.at2 hd) λi hi=>h.gd.kz d hd i hi) (λd hd i hi=>by
  show vf (bw sizes rows (row rows d) (d+1) (d+1-(d+1))).1 i=_
  rw[Nat.sub_self];rfl) λd hd i hi=>by
  unfold DD;rw[nq hd]
 refine⟨⟨by simp[ou],λr hr=>?_,λr hr=>?_⟩,h.hs,h.sm,lg.1,λd hd=>?_,λd hd l h1 h2=>by omega,λd hd=>?_,λl hl=>?_⟩
 ·obtain⟨d,hd,rfl⟩:=List.mem_map.mp hr
  exact(hl d (List.mem_range.mp hd)).1
 ·obtain⟨d,hd,rfl⟩:=List.mem_map.mp hr
  exact(hl d (List.mem_range.mp hd)).2
 ·unfold DD PP
  rw[nq hd]
  have:=uM h (f:=d+1) (h.wf.rV hd) (h.wf.at2 hd) (P₀:=λ_=>0) (B:=λ_=>0) (by
   have q:=h.led d hd
   intro i hi
   have:=q i hi
   simp only[Int.sub_zero];exact this) (n-(d+1)) (by omega)
  intro i hi
  have:=this i hi
  simp only[Int.sub_zero] at this
  exact this
 ·rw[nq hd]
  exact(uD h (f:=d+1) (h.wf.rV hd) (h.wf.at2 hd) (λi hi=>h.gd.kz d hd i hi) (Nat.le_refl _) (h.bd d hd) (n-(d+1)) (by omega)).mono (by omega)
 ·rcases Nat.lt_or_ge l m with q | q
  ·exact lg.2.2.2.2 n 0 (by omega) _ (h.cl l q)
  ·obtain rfl:l=m:=by omega
   exact G.ext (by omega) (λi _=>(hA i).symm) (G.zero (by omega))
def qM(sizes:List Int)(Ls:List (List Int))(R:List Row)(idle:List (List Int)):PV:=.obj az (xi (dI sizes Ls) R idle)
section
variable{R:List Row}
theorem LJ:(xi (dI sizes Ls) R idle).lookup (Str.ofString "vault")=some (dI sizes Ls):=rfl
theorem LQ:(xi (dI sizes Ls) R idle).lookup (Str.ofString "made_rows")=some (.lst (R.map mk)):=rfl
theorem Ng:(xi (dI sizes Ls) R idle).lookup (Str.ofString "idle_rows")=some (.lst (idle.map tI)):=rfl
theorem Nk:(xi (dI sizes Ls) R idle).lookup (Str.ofString "brought_down")=none:=rfl
theorem NT{g:af->M PV}{env:af}(h:g env=M.ok (qM sizes Ls R idle)):cu (λc=>c==az) "vault" g env=M.ok (dI sizes Ls):=by
 rw[cu,h,M.aV]
 show cZ _ (eM (List.lookup _ _))=_
 rw[aq (beq_self_eq_true _),LJ];rfl
theorem OY{g:af->M PV}{env:af}(h:g env=M.ok (qM sizes Ls R idle)):cu (λc=>c==az) "made_rows" g env=M.ok (.lst (R.map mk)):=by
 rw[cu,h,M.aV]
 show cZ _ (eM (List.lookup _ _))=_
 rw[aq (beq_self_eq_true _),LQ];rfl
theorem OH{g:af->M PV}{env:af}(h:g env=M.ok (qM sizes Ls R idle)):cu (λc=>c==az) "idle_rows" g env=M.ok (.lst (idle.map tI)):=by
 rw[cu,h,M.aV]
 show cZ _ (eM (List.lookup _ _))=_
 rw[aq (beq_self_eq_true _),Ng];rfl
theorem u5(S:Sz sizes)(hm:Ls.length<=8)(h:St sizes.length Ls.length sizes A k R)(hk:k<=9)(hx:Ck sizes xs)(h0:∀ i,i<sizes.length->0<=vf xs i/\vf xs i<vf sizes i) :
  bP [qM sizes Ls R idle,tI xs]=M.ok (mk (bw sizes R (xs,List.replicate Ls.length 0) 0 sizes.length)):=by
 have lo:=rM (f:=0) (B:=150*k+1) (r:=(xs,List.replicate Ls.length 0)) h S.h6 hm hx.len (by simp) h0 (Nat.le_refl _) (by omega) (λx hx=>by rw[List.eq_of_mem_replicate hx];exact Nat.two_pow_pos _) (Nat.zero_le _)
 rw[Nat.sub_zero] at lo
 unfold bP cz
 dsimp? [NT (sizes:=sizes) (Ls:=Ls) (R:=R) (idle:=idle) (g:=ae 0) (env:=[some (.sh (qM sizes Ls R idle)),some (.sh (tI xs))]) rfl,OY (sizes:=sizes) (Ls:=Ls) (R:=R) (idle:=idle) (g:=ae 0) (env:=[some (.sh (qM sizes Ls R idle)),some (.sh (tI xs))]) rfl,lQ (levers:=Ls) S hx,oQ (sizes:=sizes) hm xs,pS (sizes:=sizes) (levers:=Ls) (g:=cu (λc=>c==az) "vault" (ae 0)) (env:=[some (.sh (qM sizes Ls R idle)),some (.sh (tI xs))]) (NT (R:=R) (idle:=idle) rfl),show f_ [tI sizes,.lst (R.map mk),mk (xs,List.replicate Ls.length 0),.int 0]=_ from lo]
end
def rC(xs:List Int):List Int:=xs.map λx=>-x
theorem H_(xs:List Int)(i:Nat):vf (rC xs) i=-vf xs i:=by
 rcases Nat.lt_or_ge i xs.length with h | h
 ·rw[aP (by simpa [rC] using h),aP h];simp[rC]
 ·rw[qH (by simpa [rC] using h),qH h];rfl
theorem Ip{B:Nat}(h:Bd B xs):Bd B (rC xs):=λx hx=>by
 obtain⟨y,hy,rfl⟩:=List.mem_map.mp hx
 rw[Int.natAbs_neg];exact h y hy
section
variable{R:List Row}
def told(sizes:List Int)(Ls:List (List Int))(R:List Row)(idle:List (List Int))(xs:List Int):List Int:=bc idle Ls.length (rC (bw sizes R (xs,List.replicate Ls.length 0) 0 sizes.length).2) Ls.length
theorem xN(S:Sz sizes)(hm:Ls.length<=8)(h:St sizes.length Ls.length sizes A k R)(hk:k<=9)(I:Br sizes.length Ls.length (vf sizes) A Ls.length idle)(hx:Ck sizes xs)(h0:∀ i,i<sizes.length->0<=vf xs i/\vf xs i<vf sizes i)(hg:G sizes.length (vf sizes) (DD R) sizes.length 0 (vf xs)) :
  cQ [qM sizes Ls R idle,tI xs]=M.ok (tI (told sizes Ls R idle xs))/\(told sizes Ls R idle xs).length=Ls.length/\Led sizes.length (vf sizes) Ls.length A (vf xs) (vf (told sizes Ls R idle xs))/\∀ l,l<Ls.length->0<=vf (told sizes Ls R idle xs) l/\vf (told sizes Ls R idle xs) l<II idle l l:=by
 have l6:=S.h6
 have r2:(List.replicate Ls.length (0:Int)).length=Ls.length:=by simp
 have ll:=iX h (f:=0) (r:=(xs,List.replicate Ls.length 0)) hx.len r2 sizes.length (by omega)
 have dn:=oo h (f:=0) (r:=(xs,List.replicate Ls.length 0)) hx.len r2 h0
 have z:=dn.run h.gd sizes.length 0 (Nat.le_refl _) (by omega) (by rw[Nat.sub_self];exact hg)
 rw[Nat.sub_zero] at z
 have nz:(bw sizes R (xs,List.replicate Ls.length 0) 0 sizes.length).1=List.replicate sizes.length 0:=t_ (by rw[ll.1];simp) λi hi=>by rw[z i (by omega),iN]
 have b:=uD h (f:=0) (B:=150*k+1) (r:=(xs,List.replicate Ls.length 0)) hx.len r2 h0 (Nat.le_refl _) (λx hx=>by rw[List.eq_of_mem_replicate hx];exact Nat.two_pow_pos _) sizes.length (by omega)
 have nl:(rC (bw sizes R (xs,List.replicate Ls.length 0) 0 sizes.length).2).length=Ls.length:=by rw[rC,List.length_map];exact ll.2
 have sp:=wR (B:=1500) I nl hm (Nat.le_refl _) (by decide) (by decide) (Ip (b.mono (by omega)))
 have led:=uM h (f:=0) (r:=(xs,List.replicate Ls.length 0)) hx.len r2 (P₀:=λ_=>0) (B:=vf xs) (by
  intro i hi
  rw[dN (g:=λ_=>0) λl hl=>by
   show (vf (List.replicate Ls.length 0) l-0)*A l i=0
   rw[iN];simp,iw]
  show vf sizes i∣vf xs i-vf xs i-0
  rw[Int.sub_self];exact Int.dvd_zero _) sizes.length (by omega)
 have led2:Led sizes.length (vf sizes) Ls.length A (vf xs) (vf (rC (bw sizes R (xs,List.replicate Ls.length 0) 0 sizes.length).2)):=by
  refine Led.mix (a:=-1) (b:=0) led led (λi hi=>?_) λl hl=>?_
  ·rw[z i hi]
   exact⟨0,by omega⟩
  ·rw[H_];omega
 refine⟨?_,span_len I nl _ (Nat.le_refl _),qW I nl led2 _ (Nat.le_refl _),λl hl=>uu I nl (Nat.le_refl _) _ (Nat.le_refl _) l (by omega) hl⟩
 have dk:=u5 (idle:=idle) S hm h hk hx h0
 have md:∀ y,b_ az "brought_down" bP (ae 0) (aa (ae 1) ak) [some (.sh (qM sizes Ls R idle)),some (.sh (tI xs)),y]=M.ok (mk (bw sizes R (xs,List.replicate Ls.length 0) 0 sizes.length)):=λy=>by
  show M.bind (M.ok (qM sizes Ls R idle)) _=_
  rw[M.aV]
  show cZ _ (M.bind (M.ok [tI xs]) _)=_
  rw[aq ⟨rfl,Nk⟩,M.aV]
  exact dk
 have cm:bA (bK 0) none (k4 (ae 0)) ((bw sizes R (xs,List.replicate Ls.length 0) 0 sizes.length).2.map PV.int) [none]=M.ok ((bw sizes R (xs,List.replicate Ls.length 0) 0 sizes.length).2.map λx=>.int (-x)):=du _ λx _=>by dsimp? []
 have lz:(bw sizes R (xs,List.replicate Ls.length 0) 0 sizes.length).2.length<=sizeLine:=by rw[ll.2];exact aH (by omega)
 have en:PV.tup ((bw sizes R (xs,List.replicate Ls.length 0) 0 sizes.length).2.map λx=>PV.int (-x))=tI (rC (bw sizes R (xs,List.replicate Ls.length 0) 0 sizes.length).2):=by rw[tI,rC,List.map_map];rfl
 unfold cQ dm
 dsimp? [md,oX,DH,NT (sizes:=sizes) (Ls:=Ls) (R:=R) (idle:=idle) (g:=ae 0) (env:=[some (.sh (qM sizes Ls R idle)),some (.sh (tI xs)),some (.sh (mk (bw sizes R (xs,List.replicate Ls.length 0) 0 sizes.length)))]) rfl,jN (Ls:=Ls) l6,nz,B8,decide_true,OH (sizes:=sizes) (Ls:=Ls) (R:=R) (idle:=idle) (g:=ae 0) (env:=[some (.sh (qM sizes Ls R idle)),some (.sh (tI xs)),some (.sh (mk (bw sizes R (xs,List.replicate Ls.length 0) 0 sizes.length)))]) rfl,List.length_map,aq lz,cm,en,sp]
 rfl
end
def si(sizes xs ys:List Int)(t:Int):List Int:=(xs.zip (ys.zip sizes)).map λz=>(z.1+t*z.2.1)%z.2.2
variable{t:Int}
theorem xx(h1:xs.length=sizes.length)(h2:ys.length=sizes.length):(si sizes xs ys t).length=sizes.length:=by
 simp[si];omega
theorem C6(h1:xs.length=sizes.length)(h2:ys.length=sizes.length)(hi:i<sizes.length):vf (si sizes xs ys t) i=(vf xs i+t*vf ys i)%vf sizes i:=by
 rw[aP (by rw[xx h1 h2];exact hi),aP (by omega),aP (by omega),aP hi]
 simp[si]
theorem D7(p:PV)(n:Nat)(h8:n<=1000):cj (.lst [p]) (.int (n:Int))=M.ok (.lst (List.replicate n p)):=by
 have h2:[p].length*(n:Int).toNat<=sizeLine:=by
  rw[Int.toNat_natCast]
  exact aH (by show 1*n<=1000;omega)
 have h3:(n:Int)<2^63:=Int.lt_of_le_of_lt (Int.ofNat_le.mpr h8) (by decide)
 have h4:-(2^63)<=(n:Int):=Int.le_trans (by decide) (Int.natCast_nonneg n)
 rw[cj,aq ⟨h4,h3,h2⟩,Int.toNat_natCast,rn]
theorem FC{a b:Int}(h:b∈List.replicate n a):b=a:=List.eq_of_mem_replicate h
theorem pick(l:List Int)(c:Int)(n:Nat)(hn:l.length=n)(h0:0<n):∃ x,x∈l/\aJ (.lst (l.map PV.int)) (.int (c%(n:Int)))=M.ok (.int x):=by
 have h1:0<=c%(n:Int):=Int.emod_nonneg _ (by omega)
 have h2:c%(n:Int)<n:=Int.emod_lt_of_pos _ (by omega)
 obtain⟨j,hj⟩:=Int.eq_ofNat_of_zero_le h1
 have hj':j<l.length:=by omega
 refine⟨l[j],List.getElem_mem _,?_⟩
 rw[hj]
 exact bD (p:=.lst (l.map PV.int)) (j:=j) rfl (by rw[List.getElem?_map,List.getElem?_eq_getElem hj'];rfl)
theorem two{c:Int}:c%2=0\/c%2=1:=by omega
theorem DK(h:i<xs.length):aJ (lI xs) (.int (i:Int))=M.ok (.int (vf xs i)) :=
 bD (p:=lI xs) rfl (by rw[List.getElem?_map,List.getElem?_eq_getElem h,aP h];rfl)
theorem getD_at{β:Type}(f:α->β){xs:List α}{a:α}{b:β}{l:Nat}(h:l<xs.length):(xs.map f).getD l b=f (xs.getD l a):=by
 rw[List.getD_eq_getElem?_getD,List.getD_eq_getElem?_getD,List.getElem?_map,List.getElem?_eq_getElem h];rfl
theorem getD_mem{xs:List α}{a:α}{l:Nat}(h:l<xs.length):xs.getD l a∈xs:=by
 rw[List.getD_eq_getElem?_getD,List.getElem?_eq_getElem h];exact List.getElem_mem h
variable{raw:List (List Int)}
theorem Di(S:Sz sizes)(hr:∀ l∈raw,l.length=sizes.length/\Bd 200 l):Lq sizes.length raw.length sizes (raw.map λl=>xZ l sizes)/\∀ l,l<raw.length->∀ i,i<sizes.length->AA (raw.map λl=>xZ l sizes) l i=vf (raw.getD l []) i%vf sizes i:=by
 have e:∀ l,l<raw.length->∀ i,i<sizes.length->AA (raw.map λl=>xZ l sizes) l i=vf (raw.getD l []) i%vf sizes i:=λl hl i hi=>by
  unfold AA
  rw[getD_at (a:=[]) _ hl,ve,kj (by rw[(hr _ (getD_mem hl)).1];exact hi) hi]
 refine⟨⟨by simp,λl hl=>?_,λl hl i hi=>?_⟩,e⟩
 ·rw[getD_at (a:=[]) _ hl,ve,jv,(hr _ (getD_mem hl)).1];omega
 ·rw[e l hl i hi]
  have:=S.hx _ (List.getElem_mem hi)
  rw[← aP hi] at this
  exact⟨Int.emod_nonneg _ (by omega),Int.emod_lt_of_pos _ (by omega)⟩
theorem qV(S:Sz sizes):∀ i,i<sizes.length->0<vf sizes i/\vf sizes i<=360:=λi hi=>by
 have:=S.hx _ (List.getElem_mem hi)
 rw[← aP hi] at this
 omega
theorem k_(h:xs.length=sizes.length)(h0:∀ i,i<sizes.length->0<=vf xs i/\vf xs i<vf sizes i):Ck sizes xs:=⟨h,λz hz=>by
 obtain⟨i,hi,rfl⟩:=List.mem_iff_getElem.mp hz
 rw[List.length_zip] at hi
 have:=h0 i (by omega)
 rw[aP (by omega),aP (by omega)] at this
 simpa using this⟩
def gG(ns:List Int)(a b:Nat):List Int:=(ns.drop (HT.d_ ns.length 0 (some (a:Int)))).take (HT.d_ ns.length ns.length (some (b:Int))-HT.d_ ns.length 0 (some (a:Int)))
theorem zM(ns:List Int)(a b:Nat):Jn (.kF (ns.map PV.int)) (some (a:Int)) (some (b:Int))=M.ok (.lst ((gG ns a b).map PV.int)):=by
 show M.ok (PV.lst (ni (ns.map PV.int) _ _))=_
 rw[ni,gG,List.map_take,List.map_drop,List.length_map]
theorem tK(ns:List Int)(a b:Nat):(gG ns a b).length<=b-a:=by
 unfold gG
 rw[List.length_take,List.length_drop,HT.pV,HT.pV]
 omega
theorem yY{z:Int×Nat}(h:z∈xs.zipIdx):z.2<xs.length:=by
 obtain⟨i,hi,rfl⟩:=List.mem_iff_getElem.mp h
 simp at hi ⊢;exact hi
theorem HC(Ls:List (List Int))(i:Nat):AA Ls Ls.length i=0:=by
 unfold AA
 rw[List.getD_eq_getElem?_getD,List.getElem?_eq_none (Nat.le_refl _)]
 exact qH (Nat.zero_le _)
variable{x:M (List PV)}
section
variable{R:List Row}
theorem zg{m:Str}{sem:List PV->M PV}(h:(xi (dI sizes Ls) R idle).lookup m=none):oU az m sem (qM sizes Ls R idle) x=x.bind λps=>sem (qM sizes Ls R idle::ps):=ix h
theorem MB:rP (λc=>c==az) "vault" (qM sizes Ls R idle)=M.ok (dI sizes Ls):=fm (beq_self_eq_true _) LJ
theorem Oz:rP (λc=>c==az) "made_rows" (qM sizes Ls R idle)=M.ok (.lst (R.map mk)):=fm (beq_self_eq_true _) LQ
theorem Fy:oU aw "sizes" bp (dI sizes Ls) (M.ok [])=M.ok (tI sizes):=(ix (fl:=qG sizes Ls) rfl).trans (w9 sizes Ls)
def lst(sizes:List Int)(Ls:List (List Int))(R:List Row)(xs:List Int):List Int:=(bw sizes R (xs,List.replicate Ls.length 0) 0 sizes.length).1
theorem AQ(h:St sizes.length Ls.length sizes A k R)(hl:xs.length=sizes.length)(h0:∀ i,i<sizes.length->0<=vf xs i/\vf xs i<vf sizes i) :
  (lst sizes Ls R xs).length=sizes.length/\(∀ i,i<sizes.length->0<=vf (lst sizes Ls R xs) i/\vf (lst sizes Ls R xs) i<br (vf sizes) (DD R) i)/\(∀ i,i<sizes.length->0<=vf (lst sizes Ls R xs) i/\vf (lst sizes Ls R xs) i<vf sizes i)/\G sizes.length (vf sizes) (DD R) sizes.length 0 (λi=>vf xs i-vf (lst sizes Ls R xs) i):=by
 have r2:(List.replicate Ls.length (0:Int)).length=Ls.length:=by simp
 have ll:=iX h (f:=0) (r:=(xs,List.replicate Ls.length 0)) hl r2 sizes.length (by omega)
 have dn:=oo h (f:=0) (r:=(xs,List.replicate Ls.length 0)) hl r2 h0
 exact⟨ll.1,λi hi=>dn.low h.gd sizes.length (Nat.zero_le _) (Nat.le_refl _) i (Nat.zero_le _) hi,λi hi=>dn.kept h.gd sizes.length (Nat.zero_le _) (Nat.le_refl _) i hi,dn.away h.gd sizes.length (Nat.zero_le _) (Nat.le_refl _) sizes.length (by omega)⟩
theorem Cy(S:Sz sizes)(hm:Ls.length<=8)(h:St sizes.length Ls.length sizes A k R)(hk:k<=9)(hl:xs.length=sizes.length)(h0:∀ i,i<sizes.length->0<=vf xs i/\vf xs i<vf sizes i) :
  gD [qM sizes Ls R idle,tI xs]=M.ok (tI (lst sizes Ls R xs)):=by
 have dk:=u5 (idle:=idle) S hm h hk (k_ hl h0) h0
 unfold gD gy
 dsimp? [bR,zg (m := "brought_down") rfl,dk,oX]
 rfl
def mO(sizes:List Int)(R:List Row):List Int:=(List.range sizes.length).map λd=>br (vf sizes) (DD R) d
theorem k9:(mO sizes R).length=sizes.length:=by simp[mO]
theorem Ai(h:i<sizes.length):vf (mO sizes R) i=br (vf sizes) (DD R) i:=by
 rw[aP (by rw[k9];exact h)];simp[mO]
theorem D4(S:Sz sizes)(h:St sizes.length Ls.length sizes A k R):gm [qM sizes Ls R idle]=M.ok (tI (mO sizes R)):=by
 have l6:=S.h6
 have key:bA (bK 0) none (ai eF (aa (ae 2) (aa (cu (λc=>c==az) "made_rows" (ae 1)) (aa (ae 0) ak)))) ((List.range sizes.length).map λ(i:Nat)=>.int (i:Int)) [none,some (.sh (qM sizes Ls R idle)),some (.sh (tI sizes))]=M.ok ((List.range sizes.length).map λd=>.int (br (vf sizes) (DD R) d)):=by
  refine du (inj:=λ(i:Nat)=>PV.int (i:Int)) (List.range sizes.length) λi hi=>?_
  dsimp? [cW,Oz,vi h.wf h.hs (List.mem_range.mp hi)]
 unfold gm gc
 dsimp? [cW,MB,bR,Fy,jF (n:=(sizes.length:Int)) (by omega) (by omega),Int.toNat_natCast,List.length_map,List.length_range,aq (aH (show sizes.length<=1000 by omega)),key]
 rw[tI,mO,List.map_map];rfl
theorem ES(xs:List PV):bu [dI sizes Ls,.lst xs]=M.ok (.bl false):=by
 unfold bu cK
 dsimp? [bR,Fy]
theorem F4:bu [dI sizes Ls,.da]=M.ok (.bl false):=by
 unfold bu cK
 dsimp? [bR,Fy]
theorem IL(S:Sz sizes)(hz:xs.length<=1000)(h:yH sizes xs=false):bu [dI sizes Ls,tI xs]=M.ok (.bl false):=by
 rw[mw S xs hz,h]
theorem Gk(S:Sz sizes)(n:Nat)(hn:n<=1000)(b:Bool)(h:1<=n):bu [dI sizes Ls,.tup (List.replicate n (.bl b))]=M.ok (.bl false):=by
 have r:=vj (p:=.tup (List.replicate n (.bl b))) (inj:=PV.bl) (h:=λ_=>false) (List.replicate n b) sizes.length (.inl (by rw[List.map_replicate])) (λa _=>Ew a) (by rw[List.length_replicate];exact aH hn)
 have e:((List.replicate n b).all λ_=>false)=false:=by
  cases n with
  | zero=>omega
  | succ n=>rfl
 rw[e,Bool.and_false] at r
 unfold bu cK
 dsimp? [bR,Fy,r]
theorem BU(S:Sz sizes)(hm:Ls.length<=8)(h:St sizes.length Ls.length sizes A k R)(hk:k<=9)(hl:xs.length=sizes.length)(h0:∀ i,i<sizes.length->0<=vf xs i/\vf xs i<vf sizes i)(hn:lst sizes Ls R xs≠List.replicate sizes.length 0) :
  cQ [qM sizes Ls R idle,tI xs]=M.ok .da:=by
 have dk:=u5 (idle:=idle) S hm h hk (k_ hl h0) h0
 unfold cQ dm
 dsimp? [bR,zg (m := "brought_down") rfl,dk,oX,cW,MB,jN (Ls:=Ls) S.h6,B8]
 simp only[show ¬ (bw sizes R (xs,List.replicate Ls.length 0) 0 sizes.length).1=List.replicate sizes.length 0 from hn,decide_false]
 dsimp? []
end
section
variable{R:List Row}
theorem IF(S:Sz sizes):∀ s∈sizes,0<s:=λs hs=>by have:=S.hx s hs;omega
theorem vp(n:Nat):(List.replicate n (0:Int)).length=n:=by simp
theorem wW(S:Sz sizes):∀ i,i<sizes.length->0<=vf (List.replicate sizes.length 0) i/\vf (List.replicate sizes.length 0) i<vf sizes i:=λi hi=>by rw[iN];have:=qV S i hi;omega
theorem LB{P v:dP}(h:St sizes.length Ls.length sizes (AA Ls) k R)(hk:Ls.length<=k)(led:Led sizes.length (vf sizes) Ls.length (AA Ls) v P):G sizes.length (vf sizes) (DD R) sizes.length 0 v:=by
 have g:=G.sum (A:=AA Ls) (P:=P) h.gd Ls.length λl hl=>h.cl l (by omega)
 exact h.gd.uK (by omega) (λi hi=>led i hi) g
theorem Lk(I:Br sizes.length Ls.length (vf sizes) A Ls.length idle){T:List Int}(hT:T.length=Ls.length)(nf:∀ l,l<Ls.length->0<=vf T l/\vf T l<II idle l l):Bd 200 T:=λx hx=>by
 obtain⟨i,hi,rfl⟩:=List.mem_iff_getElem.mp hx
 have h2:=nf i (by omega)
 rw[aP hi] at h2
 have h3:=I.le i (by omega)
 omega
theorem yP(S:Sz sizes){F:List Int}(h:F.length=sizes.length)(k:∀ i,i<sizes.length->0<=vf F i/\vf F i<vf sizes i):Bd 200 F:=λx hx=>by
 obtain⟨i,hi,rfl⟩:=List.mem_iff_getElem.mp hx
 have h2:=k i (by omega)
 rw[aP hi] at h2
 have:=qV S i (by omega)
 omega
theorem yw(S:Sz sizes)(h1:xs.length=sizes.length)(h2:ys.length=sizes.length):(si sizes xs ys t).length=sizes.length/\(∀ i,i<sizes.length->0<=vf (si sizes xs ys t) i/\vf (si sizes xs ys t) i<vf sizes i)/\∀ i,i<sizes.length->vf sizes i∣vf (si sizes xs ys t) i-(vf xs i+t*vf ys i) :=
 ⟨xx h1 h2,λi hi=>by
  rw[C6 h1 h2 hi]
  have:=qV S i hi
  exact⟨Int.emod_nonneg _ (by omega),Int.emod_lt_of_pos _ (by omega)⟩,λi hi=>by rw[C6 h1 h2 hi];exact cG _ _⟩
structure yT (ns:List Int) (sizes:List Int) (raw Ls:List (List Int)) (R:List Row) (idle:List (List Int)):Prop where
 S:Sz sizes
 hr:∀ l∈raw,l.length=sizes.length/\Bd 200 l
 eL:Ls=raw.map λl=>xZ l sizes
 hm:raw.length=Ls.length
 m8:Ls.length<=8
 eA:∀ l,l<raw.length->∀ i,i<sizes.length->AA Ls l i=vf (raw.getD l []) i%vf sizes i
 LL:Lq sizes.length Ls.length sizes Ls
 st:St sizes.length Ls.length sizes (AA Ls) (Ls.length+1) R
 I:Br sizes.length Ls.length (vf sizes) (AA Ls) Ls.length idle
 pr:bO Ls.length (λj=>II idle j j)*bO sizes.length (br (vf sizes) (DD R))=bO sizes.length (vf sizes)
 ord:∀ j,j<Ls.length->∀ P:dP,Zf (j+1) Ls.length P->Led sizes.length (vf sizes) Ls.length (AA Ls) (λ_=>0) P->II idle j j∣P j
 low:∀ d,d<sizes.length->∀ e,d<e->e<sizes.length->DD R d e<br (vf sizes) (DD R) e
 nul:∀ d,d<sizes.length->DD R d d=0->∀ i,i<sizes.length->DD R d i=0
 Mu:∀ {p:PV} {f:List Int->PV},(f=tI\/f=lI)->cF p=some (sizes.map PV.int)->cM aw gz [.da] [p,.lst (raw.map f)]=M.ok (dI sizes Ls)
 Mx:cM az iW [] [dI sizes Ls]=M.ok (qM sizes Ls R idle)
theorem yT.get(ns:List Int)(S:Sz sizes)(r8:raw.length<=8)(hr:∀ l∈raw,l.length=sizes.length/\Bd 200 l):∃ Ls R idle,yT ns sizes raw Ls R idle:=by
 have l6:=S.h6
 have sp:=qV S
 obtain⟨LL,eA⟩:=Di S hr
 have Mu:=λ{p:PV} {f:List Int->PV} (hf:f=tI\/f=lI) hp=>Gq (p:=p) hf sizes raw hp S r8 λl h=>(hr l h).1
 have hm:raw.length=(raw.map λl=>xZ l sizes).length:=by simp
 generalize hLs:(raw.map λl=>xZ l sizes)=Ls at *
 rw[hm] at LL r8
 have K:=B9.all (c:=cf) rfl sp LL Dm l6 Ls.length (Nat.le_refl _)
 have Mx:=DW S.h1 l6 r8 sp LL
 generalize RK cf sizes Ls sizes.length Ls.length Ls.length=rk at *
 have h:=K.st
 have hl:∀ d,d<sizes.length->(bw sizes rk.1 (row rk.1 d) (d+1) (sizes.length-(d+1))).1.length=sizes.length:=λd hd=>(iX h (h.wf.rV hd) (h.wf.at2 hd) _ (by omega)).1
 have lg:=vZ (D':=DD (ou sizes rk.1 sizes.length)) h.gd (λd e=>vf (bw sizes rk.1 (row rk.1 d) (d+1) (e-(d+1))).1) (λd hd=>oo h (h.wf.rV hd) (h.wf.at2 hd) λi hi=>h.gd.kz d hd i hi) (λd hd i hi=>by
  show vf (bw sizes rk.1 (row rk.1 d) (d+1) (d+1-(d+1))).1 i=_
  rw[Nat.sub_self];rfl) (λd hd i hi=>by unfold DD;rw[nq hd])
 refine⟨Ls,ou sizes rk.1 sizes.length,rk.2,S,hr,hLs.symm,hm,r8,eA,LL,IZ K.st l6 (HC Ls),K.vP,?_,K.ord,?_,?_,Mu,Mx⟩
 ·rw[jt (f:=br (vf sizes) (DD (ou sizes rk.1 sizes.length))) (g:=br (vf sizes) (DD rk.1)) lg.2.1]
  exact K.pr
 ·intro d hd e h1 h2
  rw[lg.2.1 e h2]
  exact lg.2.2.1 d hd e h1 h2
 ·exact lg.2.2.2.1
end
theorem A3(sizes:List Int)(levers:List (List Int)):dw [dI sizes levers]=M.ok (.int (R sizes)):=by
 unfold dw eE
 dsimp? [cu,dI,beq_self_eq_true,Ex]
theorem OC:oU aw "around" dw (dI sizes Ls) (M.ok [])=M.ok (.int (R sizes)):=(ix (fl:=qG sizes Ls) rfl).trans (A3 sizes Ls)
def Cf(sizes ws xs:List Int):Int:=((((ws.zip sizes).map λz=>z.1*(R sizes/z.2)).zip xs).map λz=>z.1*z.2).sum%R sizes
theorem q_(h:Sz sizes){s:Int}(hs:s∈sizes):0<=R sizes/s/\R sizes/s<2^60:=by
 have h1:=xy h;have h2:=Mq h;have h3:=h.hx s hs
 refine⟨Int.ediv_nonneg (by omega) (by omega),Int.lt_of_le_of_lt (Int.ediv_le_self s (by omega)) h2⟩
theorem wA(h:Sz sizes){w s:Int}(hw:0<=w/\w<360)(hs:s∈sizes):(w*(R sizes/s)).natAbs<2^80:=by
 have h1:=q_ h hs
 rw[Int.natAbs_mul]
 have:w.natAbs*(R sizes/s).natAbs<=2^9*2^60:=Nat.mul_le_mul (by omega) (by omega)
 exact Nat.lt_of_le_of_lt this (by decide)
theorem rL(h:Sz sizes){ws:List Int}(hw:Ck sizes ws)(hs:Ck sizes xs):jS [dI sizes levers,tI ws,tI xs]=M.ok (.int (Cf sizes ws xs)):=by
 have l6:=h.h6
 have k1:bA (bB 0 1) none (aj cj (ae 0) (aj cn (ae 2) (ae 1))) ((ws.zip sizes).map λz=>.tup [.int z.1,.int z.2]) [none,none,some (.sh (.int (R sizes)))]=M.ok ((ws.zip sizes).map λz=>.int (z.1*(R sizes/z.2))):=by
  refine fv (p:=λz:Int×Int=>PV.int z.1) (q:=λz:Int×Int=>PV.int z.2) (ws.zip sizes) λz hz=>?_
  obtain⟨m1,m2⟩:=j6 hz
  have a1:=h.hx z.2 m2;have a2:=uN h hw m1;have a3:=q_ h m2
  dsimp? [aS (i:=R sizes) (show 0<z.2 by omega) (show z.2<2^64 by omega),bq (k:=64) (l:=64) (show z.1.natAbs<2^64 by omega) (show (R sizes/z.2).natAbs<2^64 by omega)]
 have z1:(ws.zip sizes).length<=sizeLine:=by rw[List.length_zip];exact aH (Nat.le_trans (Nat.min_le_right _ _) (by omega))
 let us:=(ws.zip sizes).map λz=>z.1*(R sizes/z.2)
 have k2:bA (bB 0 1) none (aj cj (ae 0) (ae 1)) ((us.zip xs).map λz=>.tup [.int z.1,.int z.2]) [none,none]=M.ok ((us.zip xs).map λz=>.int (z.1*z.2)):=by
  refine fv (p:=λz:Int×Int=>PV.int z.1) (q:=λz:Int×Int=>PV.int z.2) (us.zip xs) λz hz=>?_
  obtain⟨m1,m2⟩:=j6 hz
  obtain⟨y,hy,e⟩:=List.mem_map.mp m1
  obtain⟨n1,n2⟩:=j6 hy
  have a1:=wA h (uN h hw n1) n2
  rw[e] at a1
  have a2:=uN h hs m2
  dsimp? [bq (k:=80) (l:=64) a1 (show z.2.natAbs<2^64 by omega)]
 have z2:(us.zip xs).length<=sizeLine:=by rw[List.length_zip];exact aH (Nat.le_trans (Nat.min_le_right _ _) (by rw[hs.len];omega))
 have k3:er [.lst ((ws.zip sizes).map λz=>.int (z.1*(R sizes/z.2))),tI xs,.int (R sizes)]=M.ok (.int (Cf sizes ws xs)):=by
  have e0:cF (.lst ((ws.zip sizes).map λz=>PV.int (z.1*(R sizes/z.2))))=some (us.map PV.int):=by
   rw[rj,List.map_map];rfl
  have e1:p8 [.lst ((us.zip xs).map λz=>PV.int (z.1*z.2))]=M.ok (.int ((us.zip xs).map λz=>z.1*z.2).sum):=by
   have:=qz ((us.zip xs).map λz=>z.1*z.2)
   rw[List.map_map] at this
   exact this
  unfold er fX
  dsimp? [cR (q:=tI xs) us xs e0 rfl,List.length_map,aq z2,k2,e1,aM (xy h)]
  rfl
 unfold jS lq
 dsimp? [lQ (levers:=levers) h hw,lQ (levers:=levers) h hs,bR,OC,Fy,cR (p:=tI ws) (q:=tI sizes) ws sizes rfl rfl,List.length_map,aq z1,k1,k3]
theorem wV(xs:List Int):∀ m,m<=xs.length->(xs.take m).sum=bj m (vf xs)
 | 0,_=>by simp[bj]
 | m+1,h=>by
  rw[bj,← wV xs m (by omega),List.take_succ_eq_append_getElem (by omega),List.sum_append,aP (by omega)];simp
theorem qv(xs:List Int):xs.sum=bj xs.length (vf xs):=by
 rw[← wV xs _ (Nat.le_refl _),List.take_length]
theorem uk{ws:List Int}(h1:ws.length=sizes.length)(h2:xs.length=sizes.length):Cf sizes ws xs=fS sizes.length (vf sizes) (R sizes) (vf ws) (vf xs)%R sizes:=by
 unfold Cf fS
 rw[qv]
 have hl:((((ws.zip sizes).map λz=>z.1*(R sizes/z.2)).zip xs).map λz=>z.1*z.2).length=sizes.length:=by simp;omega
 rw[hl]
 congr 1
 refine dN λi hi=>?_
 rw[aP (by rw[hl];exact hi),aP (by omega),aP (by omega),aP (by omega)]
 simp only[List.getElem_map,List.getElem_zip]
 rw[Int.mul_assoc,Int.mul_comm (R sizes/_),← Int.mul_assoc]
variable{T:List Row}{ns:List Int}
variable{v:Int}
theorem E9(S:Sz sizes):∀ i,i<sizes.length->vf sizes i∣R sizes:=λi hi=>by rw[aP hi];exact Mh S (List.getElem_mem hi)
def vC(sizes:List Int)(T:List Row):List Int:=(sizes.zip (mO sizes T)).map λz=>z.1/z.2
theorem qJ:(vC sizes T).length=sizes.length:=by simp[vC,k9]
theorem zt(h:i<sizes.length):vf (vC sizes T) i=iS (vf sizes) (DD T) i:=by
 have e:=Ai (R:=T) h
 rw[aP (by rw[k9];exact h)] at e
 rw[aP (by rw[qJ];exact h)]
 simp only[vC,List.getElem_map,List.getElem_zip]
 rw[e,← aP h];rfl
theorem JQ(h:j<n):BH n (j:Int)=some j:=by
 unfold BH;rw[if_pos (by omega),if_pos (by omega)];simp
theorem wG{env:af}(h:j<xs.length):G6 i (xs.map PV.int) (.int v) env (.int (j:Int))=M.ok (.nx (env.set i (some (.ow ((xs.set j v).map PV.int))))):=by
 show (match BH (xs.map PV.int).length (j:Int) with | some j=>_ | none=>_)=_
 rw[List.length_map,JQ h,List.map_set]
theorem qZ(h:i<xs.length):vf (xs.set j v) i=if i=j then v else vf xs i:=by
 rw[aP (by rw[List.length_set];exact h),List.getElem_set,aP h]
 by_cases z:i=j
 ·rw[if_pos z,if_pos z.symm]
 ·rw[if_neg z,if_neg (Ne.symm z)]
theorem Dz(x:Int):Er (M.ok (.int x))=M.ok (.int x):=Eq.trans rfl rfl
theorem yA(Q:yT ns sizes raw Ls T idle)(hd:d<sizes.length):i_ (dM [qM sizes Ls T idle,.int (d:Int)]) λp=>∃ W:List Int,p=tI W/\W.length=sizes.length/\(∀ i,i<sizes.length->0<=vf W i/\vf W i<vf sizes i)/\Wk sizes.length (vf sizes) (DD T) (R sizes) d 0 (vf W):=by
 have l6:=Q.S.h6
 have l1:=Q.S.h1
 have g:=Q.st.gd
 have rl:=Q.st.wf.len
 have qd:=E9 Q.S
 have q0:=xy Q.S
 have q1:=Mq Q.S
 have so:=D4 (idle:=idle) Q.S Q.st
 have fl:∀ i,i<sizes.length->0<iS (vf sizes) (DD T) i/\iS (vf sizes) (DD T) i<=vf sizes i/\vf sizes i<=360:=λi hi=>⟨(lE g hi).2.1,(lE g hi).2.2,(qV Q.S i hi).2⟩
 have key:bA (bB 0 1) none (aj cn (ae 0) (ae 1)) ((sizes.zip (mO sizes T)).map λz=>.tup [.int z.1,.int z.2]) [none,none]=M.ok ((sizes.zip (mO sizes T)).map λz=>.int (z.1/z.2)):=by
  refine fv (p:=λz:Int×Int=>PV.int z.1) (q:=λz:Int×Int=>PV.int z.2) (sizes.zip (mO sizes T)) λz hz=>?_
  obtain⟨i,hi,e⟩:=List.mem_iff_getElem.mp (j6 hz).2
  rw[k9] at hi
  have e2:=Ai (R:=T) hi
  rw[aP (by rw[k9];exact hi),e] at e2
  have p:=g.pos hi
  have:=qV Q.S i hi
  dsimp? [aS (i:=z.1) (j:=z.2) (by omega) (by omega)]
 have zl:(sizes.zip (mO sizes T)).length<=sizeLine:=by rw[List.length_zip];exact aH (Nat.le_trans (Nat.min_le_left _ _) (by omega))
 have ef:PV.lst ((sizes.zip (mO sizes T)).map λz=>PV.int (z.1/z.2))=lI (vC sizes T):=by rw[lI,vC,List.map_map];rfl
 have wi:dF [.int (d:Int),.int 0,.int ((sizes.length:Int)-1)]=M.ok (.bl true):=by
  rw[within_int,decide_eq_true (by omega)]
 have e0:Dl (.lst [.int 0]) (.int (sizes.length:Int))=M.ok ((List.replicate sizes.length 0).map PV.int):=by
  rw[Dl,aq ⟨by omega,by omega,by rw[Int.toNat_natCast];exact aH (by show 1*sizes.length<=1000;omega)⟩,Int.toNat_natCast,rn,List.map_replicate]
 unfold dM dH
 dsimp? [cW,MB,bR,Fy,wi,zg (m := "steps") rfl,so,cR (p:=tI sizes) (q:=tI (mO sizes T)) sizes (mO sizes T) rfl rfl,List.length_map,aq zl,key,ef,Ih,e0,K3,ownAt,DK (xs:=vC sizes T) (i:=d) (by rw[qJ];exact hd),zt hd,k8 (xs:=sizes) (i:=d) hd,aM (i:=iS (vf sizes) (DD T) d) (j:=vf sizes d) (by have:=fl d hd;omega),wG (i:=4) (xs:=List.replicate sizes.length 0) (j:=d) (by simp;exact hd),wX d (by omega)]
 refine i_.loop (xs:=List.range d) (inj:=λ(i:Nat)=>.int ((d:Int)-1+(i:Int)*-1)) (λzs env=>∃ (c:Nat) (W:List Int) (y5 y6 y7:Option SV),env=[some (.sh (qM sizes Ls T idle)),some (.sh (.int (d:Int))),some (.sh (tI sizes)),some (.sh (lI (vC sizes T))),some (.ow (W.map PV.int)),y5,y6,y7]/\c<=d/\zs=(List.range d).drop c/\W.length=sizes.length/\(∀ i,i<sizes.length->0<=vf W i/\vf W i<vf sizes i)/\Wk sizes.length (vf sizes) (DD T) (R sizes) d (d-c) (vf W)) ⟨0,_,_,_,_,rfl,by omega,rfl,by simp,λi hi=>?_,Wk.start g qd hd λi hi=>?_⟩ ?_ ?_
 ·rw[qZ (by simp;exact hi),iN]
  have:=fl i hi
  split
  ·rename_i z;subst z;exact⟨Int.emod_nonneg _ (by omega),Int.emod_lt_of_pos _ (by omega)⟩
  ·omega
 ·rw[qZ (by simp;exact hi),iN]
 ·rintro k r env ⟨c,W,y5,y6,y7,rfl,hc,hz,Wl,W0,Wt⟩
  obtain⟨c1,c2,c3⟩:=drop_cons hz.symm
  rw[List.length_range] at c1
  have ek:k=c:=by rw[List.getElem?_range c1] at c2;exact(Option.some.inj c2).symm
  subst ek
  obtain⟨a,ha⟩:∃ a,a=d-1-k:=⟨_,rfl⟩
  have ea:((d:Int)-1+(k:Int)*-1)=(a:Int):=by omega
  have an:a<sizes.length:=by omega
  have fa:=fl a an
  have r1:=Q.st.wf.rV an
  have rk:∀ i,i<sizes.length->0<=vf (row T a).1 i/\vf (row T a).1 i<vf sizes i:=λi hi=>g.kz a an i hi
  have we:=rL (levers:=Ls) Q.S (k_ Wl W0) (k_ r1 rk)
  rw[uk Wl r1] at we
  have eq:vf (row T a).1=DD T a:=rfl
  rw[eq] at we
  have p0:0<=fS sizes.length (vf sizes) (R sizes) (vf W) (DD T a)%R sizes:=Int.emod_nonneg _ (by omega)
  have p1:fS sizes.length (vf sizes) (R sizes) (vf W) (DD T a)%R sizes<R sizes:=Int.emod_lt_of_pos _ q0
  have fR:iS (vf sizes) (DD T) a∣R sizes:=Int.dvd_trans ⟨_,(lE g an).1.symm⟩ (qd a an)
  have s0:0<R sizes/iS (vf sizes) (DD T) a:=by
   obtain⟨x,hx⟩:=fR
   rw[hx,Int.mul_ediv_cancel_left _ (by omega)]
   rcases Int.lt_trichotomy x 0 with q | q | q
   ·have:=Int.mul_neg_of_pos_of_neg fa.1 q;omega
   ·rw[q] at hx;omega
   ·exact q
  have s1:R sizes/iS (vf sizes) (DD T) a<=R sizes:=Int.ediv_le_self _ (by omega)
  have tw:PV.tup (W.map PV.int)=tI W:=rfl
  dsimp? [bK,ea,v7,ownAt,vH,cW,MB,tw,Oz,rJ (rows:=T) (d:=a) (by omega),oX,we,Dz,bR,OC,DK (xs:=vC sizes T) (i:=a) (by rw[qJ];exact an),zt an,aS (i:=R sizes) (j:=iS (vf sizes) (DD T) a) (by omega) (by omega),aS (i:=fS sizes.length (vf sizes) (R sizes) (vf W) (DD T a)%R sizes) (j:=R sizes/iS (vf sizes) (DD T) a) (by omega) (by omega),aM (i:=-(fS sizes.length (vf sizes) (R sizes) (vf W) (DD T a)%R sizes/(R sizes/iS (vf sizes) (DD T) a))) (j:=iS (vf sizes) (DD T) a) (by omega),K3,wG (i:=4) (xs:=W) (j:=a) (by omega)]
  refine⟨_,rfl,k+1,_,_,_,_,rfl,by omega,c3.symm,by simpa using Wl,λi hi=>?_,?_⟩
  ·rw[qZ (by omega)]
   split
   ·rename_i z;subst z
    have h1:=Int.emod_nonneg (-(fS sizes.length (vf sizes) (R sizes) (vf W) (DD T i)%R sizes/(R sizes/iS (vf sizes) (DD T) i))) (show iS (vf sizes) (DD T) i≠0 by omega)
    have h2:=Int.emod_lt_of_pos (-(fS sizes.length (vf sizes) (R sizes) (vf W) (DD T i)%R sizes/(R sizes/iS (vf sizes) (DD T) i))) fa.1
    omega
   ·exact W0 i hi
  ·rw[show d-(k+1)=a by omega]
   refine Wk.next g q0 qd hd (w:=vf W) (by rw[show a+1=d-k by omega];exact Wt) (by omega) ?_ λi hi Rm=>?_
   ·rw[qZ (by omega),if_pos rfl]
   ·rw[qZ (by omega),if_neg Rm]
 ·rintro env ⟨c,W,y5,y6,y7,rfl,hc,hz,Wl,W0,Wt⟩
  have:c=d:=by
   have:=congrArg List.length hz
   rw[List.length_drop,List.length_range] at this
   simp at this;omega
  subst this
  rw[Nat.sub_self] at Wt
  exact⟨_,rfl,W,rfl,Wl,W0,Wt⟩
theorem M9:oU aw "levers" bF (dI sizes Ls) (M.ok [])=M.ok (.tup (Ls.map tI)):=(ix (fl:=qG sizes Ls) rfl).trans (sV sizes Ls)
def ad(sizes xs ys:List Int)(t:Int):List Int:=xZ ((xs.zip ys).map λz=>z.1+t*z.2) sizes
theorem wj(S:Sz sizes)(h1:xs.length=sizes.length)(h2:ys.length=sizes.length):(ad sizes xs ys t).length=sizes.length/\∀ i,i<sizes.length->vf (ad sizes xs ys t) i=(vf xs i+t*vf ys i)%vf sizes i:=by
 have hl:((xs.zip ys).map λz=>z.1+t*z.2).length=sizes.length:=by simp;omega
 refine⟨by rw[ad,ve,jv,hl];simp,λi hi=>?_⟩
 rw[ad,ve,kj (by rw[hl];exact hi) hi,aP (by rw[hl];exact hi),aP (xs:=xs) (by omega),aP (xs:=ys) (by omega)]
 simp
theorem AH(S:Sz sizes)(h1:xs.length=sizes.length)(hy:Bd 200 ys)(ht:t.natAbs<2^200):pZ [dI sizes Ls,tI xs,tI ys,.int t]=M.ok (tI (ad sizes xs ys t)):=by
 have l6:=S.h6
 have k1:bA (bB 0 1) none (aj dr (ae 0) (aj cj (ae 2) (ae 1))) ((xs.zip ys).map λz=>.tup [.int z.1,.int z.2]) [none,none,some (.sh (.int t))]=M.ok ((xs.zip ys).map λz=>.int (z.1+t*z.2)):=by
  refine fv (p:=λz:Int×Int=>PV.int z.1) (q:=λz:Int×Int=>PV.int z.2) (xs.zip ys) λz hz=>?_
  dsimp? [bq (k:=200) (l:=200) ht (hy _ (j6 hz).2)]
 have z1:(xs.zip ys).length<=sizeLine:=by rw[List.length_zip];exact aH (Nat.le_trans (Nat.min_le_left _ _) (by omega))
 have e0:cF (.lst ((xs.zip ys).map λz=>PV.int (z.1+t*z.2)))=some (((xs.zip ys).map λz=>z.1+t*z.2).map PV.int):=by
  rw[rj,List.map_map];rfl
 have r:=rK (.lst ((xs.zip ys).map λz=>PV.int (z.1+t*z.2))) (tI sizes) _ sizes e0 rfl (IF S) (by rw[List.length_map,List.length_zip];omega)
 unfold pZ pM
 dsimp? [cR (p:=tI xs) (q:=tI ys) xs ys rfl rfl,List.length_map,aq z1,k1,bR,Fy,r]
 rfl
structure Ws (sizes:List Int) (T:List Row) (d:Nat) (W:List Int):Prop where
 len:W.length=sizes.length
 kz:∀ i,i<sizes.length->0<=vf W i/\vf W i<vf sizes i
 wk:Wk sizes.length (vf sizes) (DD T) (R sizes) d 0 (vf W)
theorem Ws.kill(Q:yT ns sizes raw Ls T idle){d:Nat}{W:List Int}(h:Ws sizes T d W){v:dP}(g:G sizes.length (vf sizes) (DD T) sizes.length 0 v):R sizes∣fS sizes.length (vf sizes) (R sizes) (vf W) v :=
 C1 (E9 Q.S) sizes.length 0 v (by omega) (λb _ hb=>h.wk.kill b (Nat.zero_le _) hb) g
def Sl(sizes:List Int)(Ls:List (List Int))(u:List Int):Prop:=∀ l,l<Ls.length->R sizes∣fS sizes.length (vf sizes) (R sizes) (vf u) (AA Ls l)
theorem Bm(Q:yT ns sizes raw Ls T idle){u:List Int}(hl:u.length=sizes.length)(h0:∀ i,i<sizes.length->0<=vf u i/\vf u i<vf sizes i):∃ b:Bool,dR [dI sizes Ls,tI u]=M.ok (.bl b)/\(b=true ↔ Sl sizes Ls u):=by
 have m8:=Q.m8
 have key:bA (bK 0) none (aj jP (ai jS (aa (ae 1) (aa (ae 2) (aa (ae 0) ak)))) (λ_=>M.ok (.int 0))) (Ls.map tI) [none,some (.sh (dI sizes Ls)),some (.sh (tI u))]=M.ok (Ls.map λl=>.bl (decide (Cf sizes u l=0))):=by
  refine du (inj:=tI) Ls λl hm=>?_
  obtain⟨k,hk,ek⟩:=List.mem_iff_getElem.mp hm
  have eg:Ls.getD k []=l:=by rw[List.getD_eq_getElem?_getD,List.getElem?_eq_getElem hk,Option.getD_some,ek]
  have a1:=Q.LL.at_ k hk
  have a2:=Q.LL.kz k hk
  unfold AA at a2
  rw[eg] at a1 a2
  dsimp? [rL (levers:=Ls) Q.S (k_ hl h0) (k_ a1 a2)]
 have e1:qu [.lst (Ls.map λl=>PV.bl (decide (Cf sizes u l=0)))]=M.ok (.bl ((Ls.map λl=>decide (Cf sizes u l=0)).all id)):=by
  have:=qR (Ls.map λl=>decide (Cf sizes u l=0))
  rw[List.map_map] at this
  exact this
 refine⟨(Ls.map λl=>decide (Cf sizes u l=0)).all id,?_,?_⟩
 ·unfold dR dU
  dsimp? [bR,M9,List.length_map,aq (aH (show Ls.length<=1000 by omega)),key,e1]
 ·rw[List.all_eq_true]
  have at_:∀ k (hk:k<Ls.length),Cf sizes u Ls[k]=fS sizes.length (vf sizes) (R sizes) (vf u) (AA Ls k)%R sizes:=λk hk=>by
   have eg:Ls.getD k []=Ls[k]:=by rw[List.getD_eq_getElem?_getD,List.getElem?_eq_getElem hk,Option.getD_some]
   have a1:=Q.LL.at_ k hk
   rw[eg] at a1
   rw[uk hl a1]
   unfold AA
   rw[eg]
  constructor
  ·intro h k hk
   have:=h (decide (Cf sizes u Ls[k]=0)) (List.mem_map.mpr ⟨_,List.getElem_mem hk,rfl⟩)
   rw[at_ k hk] at this
   exact Int.dvd_of_emod_eq_zero (by simpa using this)
  ·intro h b hb
   obtain⟨l,hm,rfl⟩:=List.mem_map.mp hb
   obtain⟨k,hk,rfl⟩:=List.mem_iff_getElem.mp hm
   rw[at_ k hk]
   simpa using Int.emod_eq_zero_of_dvd (h k hk)
variable{c:Nat}
def Kp(sizes xs:List Int):Prop:=xs.length=sizes.length/\∀ i,i<sizes.length->0<=vf xs i/\vf xs i<vf sizes i
theorem Kp.GJ(h:Kp sizes xs):Ck sizes xs:=k_ h.1 h.2
theorem Kp.bd(S:Sz sizes)(h:Kp sizes xs):Bd 200 xs:=yP S h.1 h.2
theorem Mj(S:Sz sizes)(h1:xs.length=sizes.length)(h2:ys.length=sizes.length):Kp sizes (ad sizes xs ys t)/\∀ i,i<sizes.length->vf sizes i∣vf (ad sizes xs ys t) i-(vf xs i+t*vf ys i):=by
 obtain⟨a,b⟩:=wj (t:=t) S h1 h2
 refine⟨⟨a,λi hi=>?_⟩,λi hi=>?_⟩
 ·have:=qV S i hi
  rw[b i hi]
  exact⟨Int.emod_nonneg _ (by omega),Int.emod_lt_of_pos _ this.1⟩
 ·rw[b i hi]
  have:=Int.emod_def (vf xs i+t*vf ys i) (vf sizes i)
  exact⟨-((vf xs i+t*vf ys i)/vf sizes i),by rw[this];grind⟩
theorem mr(S:Sz sizes){one other:List Int}(h1:Kp sizes one)(h2:Kp sizes other):jx [dI sizes Ls,tI one,tI other]=M.ok (tI (ad sizes other one (-1))):=by
 unfold jx ju
 dsimp? [lQ (levers:=Ls) S h1.GJ,lQ (levers:=Ls) S h2.GJ,AH (Ls:=Ls) S h2.1 (h1.bd S) (show (-1:Int).natAbs<2^200 by decide)]
def GF(P:List Int):List (Str×PV):=[("pulls", tI P)]
def JZ(W:List Int):List (Str×PV):=[("weights", tI W)]
def way(P:List Int):PV:=.obj bT (GF P)
def bar(W:List Int):PV:=.obj bL (JZ W)
theorem Ei(P:List Int):cM bT ky [] [tI P]=M.ok (way P):=by
 have key:∀ a,ky a ([tI P]++[])=M.ok (GF P):=by
  intro a
  unfold ky mB
  simp only[kE]
  rw[aq (show ([tI P]++([]:List PV)).length+1=2 from rfl)]
  simp only[mq,rE]
  dsimp? [fI]
  rw[dS _ _ _ _ _ _ (by simp)]
  dsimp? []
  show cZ _ _=_
  rw[aq ⟨rfl,rfl⟩]
  rfl
 unfold cM
 rw[mx key];rfl
theorem IY(W:List Int):cM bL kx [] [tI W]=M.ok (bar W):=by
 have key:∀ a,kx a ([tI W]++[])=M.ok (JZ W):=by
  intro a
  unfold kx jR
  simp only[kE]
  rw[aq (show ([tI W]++([]:List PV)).length+1=2 from rfl)]
  simp only[mq,rE]
  dsimp? [fI]
  rw[dS _ _ _ _ _ _ (by simp)]
  dsimp? []
  show cZ _ _=_
  rw[aq ⟨rfl,rfl⟩]
  rfl
 unfold cM
 rw[mx key];rfl
theorem Dr{L:List Int}(hl:L.length<=1000)(hc:c<L.length)(h0:∀ i,i<c->vf L i=0)(h1:vf L c≠0):fE [tI L]=M.ok (.int (c:Int)):=by
 have key:bA (bK 0) none (aj nX (ae 0) (λ_=>M.ok (.int 0))) (L.map PV.int) [none]=M.ok ((L.map λx=>!decide (x=0)).map PV.bl):=by
  rw[List.map_map]
  refine du (inj:=PV.int) L λx _=>?_
  dsimp? []
  rfl
 have ef:(L.map λx=>!decide (x=0)).findIdx? (·==true)=some c:=by
  rw[List.findIdx?_eq_some_iff_getElem]
  refine⟨by simpa using hc,?_,λj hj=>?_⟩
  ·rw[aP hc] at h1
   simpa using h1
  ·have:=h0 j hj
   rw[aP (by omega)] at this
   simpa using this
 have e1:Hr (.lst ((L.map λx=>!decide (x=0)).map PV.bl)) (.bl true)=M.ok (.int (c:Int)):=by
  show eM ((xV ((L.map λx=>!decide (x=0)).map PV.bl)).bind λbs=>(bs.findIdx? (·==true)).map λ(j:Nat)=>PV.int (j:Int))=_
  rw[rN,Option.bind_some,ef];rfl
 unfold fE fc
 dsimp? [CJ,List.length_map,aq (aH hl),key,Mp,e1]
theorem EA(Q:yT ns sizes raw Ls T idle){one other:List Int}(h1:Kp sizes one)(h2:Kp sizes other) :
  (G sizes.length (vf sizes) (DD T) sizes.length 0 (vf (ad sizes other one (-1)))/\lP [dI sizes Ls,tI one,tI other]=M.ok (way (told sizes Ls T idle (ad sizes other one (-1)))))
  \/ (¬ G sizes.length (vf sizes) (DD T) sizes.length 0 (vf (ad sizes other one (-1)))/\∃ (c:Nat) (W:List Int),c<sizes.length/\Ws sizes T c W/\lP [dI sizes Ls,tI one,tI other]=M.ok (bar W)/\¬ R sizes∣fS sizes.length (vf sizes) (R sizes) (vf W) (vf (ad sizes other one (-1)))):=by
 have S:=Q.S
 have m8:=Q.m8
 have l6:=S.h6
 have bt:=mr (Ls:=Ls) S h1 h2
 obtain⟨⟨dl,d0⟩,_⟩:=Mj (t:=-1) S h2.1 h1.1
 generalize ad sizes other one (-1)=d at *
 obtain⟨b1,b2,b3,b4⟩:=AQ Q.st dl d0
 by_cases z:lst sizes Ls T d=List.replicate sizes.length 0
 ·have gx:G sizes.length (vf sizes) (DD T) sizes.length 0 (vf d):=G.ext (by omega) (λi hi=>by rw[z,iN];omega) b4
  obtain⟨et,_⟩:=xN (k:=Ls.length+1) S m8 Q.st (by omega) Q.I (k_ dl d0) d0 gx
  refine .inl ⟨gx,?_⟩
  unfold lP mQ
  dsimp? [bt,Q.Mx,bR,zg (m := "pulls_to") rfl,et,show ∀ xs:List Int,lG (tI xs) .da=M.ok (.bl true) from λ_=>rfl,Ei]
 ·have ng:¬ G sizes.length (vf sizes) (DD T) sizes.length 0 (vf d):=λgx=>z (by
   refine t_ (by simpa using b1) λi hi=>?_
   have g:=Q.st.gd.sub (by omega) gx b4
   have:=G.diff Q.st.gd sizes.length 0 (λi=>vf (lst sizes Ls T d) i) (by omega) (λi hi=>by have:=b3 i hi;omega) (λi _ hi=>by have:=b2 i hi;omega) (G.ext (by omega) (λi _=>by omega) g) i (by omega)
   rw[iN];exact this)
  have ex:∃ c,c<sizes.length/\(∀ i,i<c->vf (lst sizes Ls T d) i=0)/\vf (lst sizes Ls T d) c≠0:=by
   have:¬ ∀ c,c<=sizes.length->∀ i,i<c->vf (lst sizes Ls T d) i=0:=λh=>z (t_ (by simpa using b1) λi hi=>by rw[iN];exact h sizes.length (Nat.le_refl _) i (by omega))
   apply Classical.byContradiction
   intro no
   refine this λc=>?_
   induction c with
   | zero=>intro _ i hi;omega
   | succ c ih =>
    intro hc i hi
    have ih:=ih (by omega)
    rcases Nat.lt_succ_iff_lt_or_eq.mp hi with q | q
    ·exact ih i q
    ·subst q
     apply Classical.byContradiction
     intro Rm
     exact no ⟨i,by omega,ih,Rm⟩
  obtain⟨c,hc,c0,c1⟩:=ex
  obtain⟨_,e,W,rfl,w1,w2,w3⟩:=yA Q hc
  have w:Ws sizes T c W:=⟨w1,w2,w3⟩
  refine .inr ⟨ng,c,W,hc,w,?_,λhd=>?_⟩
  ·unfold lP mQ
   dsimp? [bt,Q.Mx,bR,zg (m := "pulls_to") rfl,BU S m8 Q.st (show Ls.length+1<=9 by omega) dl d0 z,show lG .da .da=M.ok (.bl false) from rfl,zg (m := "least") rfl,Cy (idle:=idle) S m8 Q.st (show Ls.length+1<=9 by omega) dl d0,Dr (L:=lst sizes Ls T d) (by omega) (c:=c) (by omega) c0 c1,zg (m := "weights_at") rfl,e,IY]
  ·have a:=b2 c hc
   have sp:=pT (n:=sizes.length) (s:=vf sizes) (Q:=R sizes) (w:=vf W) 1 1 (x:=vf d) (v:=λi=>vf d i-vf (lst sizes Ls T d) i) (u:=vf (lst sizes Ls T d)) λi _=>by omega
   rw[sp,Int.one_mul,Int.one_mul] at hd
   exact Wk.first Q.st.gd (xy S) (E9 S) hc w3 c0 (by omega) a.2 ((Int.dvd_add_right (w.kill Q b4)).mp hd)
theorem uU(c:Int)(k:Nat)(hk:k<=100):∃ x,bI [.int c,.int (k:Int)]=M.ok (.int x)/\0<=x/\x<2147483579:=by
 obtain⟨a,ea,a0⟩:∃ a,bW (.int (c%2147483647*48271+7919*(k:Int)+13)) (.int 2147483629)=M.ok (.int a)/\0<=a/\a<2147483629:=⟨_,aM (by decide),Int.emod_nonneg _ (by decide),Int.emod_lt_of_pos _ (by decide)⟩
 obtain⟨b,eb,b0⟩:∃ b,bW (.int (a*a+104729*(k:Int)+7)) (.int 2147483587)=M.ok (.int b)/\0<=b/\b<2147483587:=⟨_,aM (by decide),Int.emod_nonneg _ (by decide),Int.emod_lt_of_pos _ (by decide)⟩
 refine⟨b*b%2147483579,?_,Int.emod_nonneg _ (by decide),Int.emod_lt_of_pos _ (by decide)⟩
 unfold bI eC
 dsimp? [aM (i:=c) (j:=2147483647) (by decide),bq (i:=c%2147483647) (j:=48271) (k:=32) (l:=31) (by omega) (by decide),bq (i:=7919) (j:=(k:Int)) (k:=31) (l:=31) (by decide) (by omega),ea,bq (i:=a) (j:=a) (k:=32) (l:=32) (by omega) (by omega),bq (i:=104729) (j:=(k:Int)) (k:=31) (l:=31) (by decide) (by omega),eb,bq (i:=b) (j:=b) (k:=32) (l:=32) (by omega) (by omega),aM (i:=b*b) (j:=2147483579) (by decide)]
theorem oq(c:Int)(p:PV)(bases:List Int)(hp:cF p=some (bases.map PV.int))(hb:∀ b∈bases,0<b/\b<2^60)(hl:bases.length<=100):∃ xs:List Int,c_ [.int c,p]=M.ok (tI xs)/\xs.length=bases.length/\∀ z∈xs.zip bases,0<=z.1/\z.1<z.2:=by
 suffices h:i_ (c_ [.int c,p]) λq=>∃ xs:List Int,q=tI xs/\xs.length=bases.length/\∀ z∈xs.zip bases,0<=z.1/\z.1<z.2 by
  obtain⟨_,e,xs,rfl,q⟩:=h
  exact⟨xs,e,q⟩
 unfold c_ dQ
 dsimp? [jB,hp]
 refine i_.loop (xs:=bases) (inj:=PV.int) (λr env=>∃ (d xs:List Int) (left:Int) (y:Option SV),env=[some (.sh (.int left)),some (.sh p),some (.ow (xs.map PV.int)),y]/\bases=d++r/\xs.length=d.length/\∀ z∈xs.zip d,0<=z.1/\z.1<z.2) ⟨[],[],c,none,rfl,rfl,rfl,λ_ h=>nomatch h⟩ ?_ ?_
 ·rintro b r env ⟨d,xs,left,y,rfl,hd,hx,hz⟩
  have S3:=hb b (by rw[hd];simp)
  have dl:d.length<=100:=by
   have:=congrArg List.length hd
   rw[List.length_append] at this;omega
  dsimp? [bK,vE,ownAt,aM (i:=left) S3.1,vB (xs:=xs.map PV.int) (show (xs.map PV.int).length<1000 by simp;omega),n_,aS (i:=left) S3.1 (show b<2^64 by omega)]
  refine⟨_,rfl,d++[b],xs++[left%b],left/b,_,rfl,by rw[hd];simp,by simp[hx],λz Ri=>?_⟩
  rw[List.zip_append hx] at Ri
  rcases List.mem_append.mp Ri with q | q
  ·exact hz z q
  ·rw[List.zip_cons_cons,List.zip_nil_left] at q
   rw[List.mem_singleton.mp q]
   exact⟨Int.emod_nonneg _ (by omega),Int.emod_lt_of_pos _ S3.1⟩
 ·rintro env ⟨d,xs,left,y,rfl,hd,hx,hz⟩
  rw[List.append_nil] at hd
  subst hd
  dsimp? []
  exact⟨_,rfl,xs,rfl,hx,hz⟩
theorem FQ(c:Int):∃ x,eW [.int c]=M.ok (.int x)/\2<=x/\x<=360:=by
 obtain⟨v,hv,ev⟩:=pick [2,3,4,6,8,9,12] (c/3) 7 rfl (by decide)
 obtain⟨w,hw,ew⟩:=pick [1,2,5,10,30] (c/21) 5 rfl (by decide)
 rw[show ((7:Nat):Int)=7 from rfl] at ev
 rw[show ((5:Nat):Int)=5 from rfl] at ew
 have v1:2<=v/\v<=12:=by simp at hv;omega
 have w1:1<=w/\w<=30:=by simp at hw;omega
 unfold eW i8
 by_cases h:c%3=0
 ·refine⟨2+c/3%359,?_,by omega,by omega⟩
  dsimp? [aM (i:=c) (j:=3) (by decide),h,decide_true,aS (i:=c) (j:=3) (by decide) (by decide),aM (i:=c/3) (j:=359) (by decide)]
 ·refine⟨v*w,?_,?_,?_⟩
  ·simp only[List.map_cons,List.map_nil] at ev ew
   dsimp? [aM (i:=c) (j:=3) (by decide),h,decide_false,aS (i:=c) (j:=3) (by decide) (by decide),aM (i:=c/3) (j:=7) (by decide),ev,aS (i:=c) (j:=21) (by decide) (by decide),aM (i:=c/21) (j:=5) (by decide),ew,bq (i:=v) (j:=w) (k:=31) (l:=31) (by omega) (by omega)]
  ·have:2*1<=v*w:=Int.mul_le_mul v1.1 w1.1 (by decide) (by omega)
   omega
  ·have:v*w<=12*30:=Int.mul_le_mul v1.2 w1.2 (by omega) (by decide)
   omega
theorem Bj(c:Int):i_ (iq [.int c]) λp=>∃ xs:List Int,p=lI xs/\Sz xs:=by
 unfold iq hX
 dsimp? [aM (i:=c) (j:=2) (by decide)]
 rcases two (c:=c) with h | h
 ·obtain⟨m,em,m1,m6⟩:∃ m:Nat,1+c/2%6=(m:Int)/\1<=m/\m<=6:=⟨(1+c/2%6).toNat,by omega,by omega,by omega⟩
  simp only[h,decide_true]
  obtain⟨xs,ex,xl,xb⟩:=oq (c/12) (.lst (List.replicate m (.int 359))) (List.replicate m 359) (by rw[List.map_replicate];rfl) (λb hb=>by rw[FC hb];decide) (by simp;omega)
  rw[List.length_replicate] at xl
  dsimp? [aS (i:=c) (j:=2) (by decide) (by decide),aM (i:=c/2) (j:=6) (by decide),em,aS (i:=c) (j:=12) (by decide) (by decide),D7 (.int 359) m (by omega),ex,List.length_map,aq (aH (show xs.length<=1000 by omega)),du (f:=aj dr (λ_=>M.ok (.int 2)) (ae 0)) (inj:=PV.int) (h:=λx=>.int (2+x)) (rest:=[]) (x0:=none) xs λa _=>by dsimp? []]
  refine⟨_,rfl,xs.map (2+·),by rw[lI,List.map_map];rfl,by simp;omega,by simp;omega,λx hx=>?_⟩
  obtain⟨y,hy,rfl⟩:=List.mem_map.mp hx
  obtain⟨i,hi,rfl⟩:=List.mem_iff_getElem.mp hy
  have:=xb (xs[i],359) (List.mem_iff_getElem.mpr ⟨i,by simp;omega,by simp⟩)
  simp at this;omega
 ·simp only[h,show ¬ (1:Int)=0 by decide,decide_false]
  obtain⟨v,hv,ev⟩:=pick [1,2,3,4,2,3,5,6] (c/2) 8 rfl (by decide)
  rw[show ((8:Nat):Int)=8 from rfl] at ev
  simp only[List.map_cons,List.map_nil] at ev
  obtain⟨m,rfl,m1,m6⟩:∃ m:Nat,v=(m:Int)/\1<=m/\m<=6:=⟨v.toNat,by simp at hv;omega,by simp at hv;omega,by simp at hv;omega⟩
  have ex:∀ k:Nat,∃ x:Int,k<=100->(∃ y,bI [.int (c/16),.int (k:Int)]=M.ok (.int y)/\eW [.int y]=M.ok (.int x))/\2<=x/\x<=360:=λk=>by
   by_cases hk:k<=100
   ·obtain⟨y,ey,_⟩:=uU (c/16) k hk
    obtain⟨x,e,q⟩:=FQ y
    exact⟨x,λ_=>⟨⟨y,ey,e⟩,q⟩⟩
   ·exact⟨0,λh=>(hk h).elim⟩
  obtain⟨f,hf⟩:=Classical.skolem.mp ex
  have key:bA (bK 0) none (ai eW (aa (ai bI (aa (aj cn (ae 1) (λ_=>M.ok (.int 16))) (aa (ae 0) ak))) ak)) ((List.range m).map λ(i:Nat)=>.int (i:Int)) [none,some (.sh (.int c))]=M.ok ((List.range m).map λk=>.int (f k)):=by
   refine du (inj:=λ(i:Nat)=>PV.int (i:Int)) (List.range m) λi hi=>?_
   have:=List.mem_range.mp hi
   obtain⟨⟨y,e1,e2⟩,_⟩:=hf i (by omega)
   dsimp? [aS (i:=c) (j:=16) (by decide) (by decide),e1,e2]
  dsimp? [aS (i:=c) (j:=2) (by decide) (by decide),aM (i:=c/2) (j:=8) (by decide),ev,jF (n:=(m:Int)) (by omega) (by omega),Int.toNat_natCast,List.length_map,List.length_range,aq (aH (show m<=1000 by omega)),key]
  refine⟨_,rfl,(List.range m).map f,by rw[lI,List.map_map];rfl,by simp;omega,by simp;omega,λx hx=>?_⟩
  obtain⟨k,hk,rfl⟩:=List.mem_map.mp hx
  have:=List.mem_range.mp hk
  exact(hf k (by omega)).2
theorem Ba(S:Sz sizes)(c:Int):i_ (eH [.int c,lI sizes]) λp=>∃ xs:List Int,p=tI xs/\xs.length=sizes.length/\∀ z∈xs.zip sizes,0<=z.1/\z.1<z.2:=by
 have l6:=S.h6
 unfold eH hG
 dsimp? [aM (i:=c) (j:=2) (by decide)]
 rcases two (c:=c) with h | h
 ·simp only[h,decide_true]
  obtain⟨xs,ex,xl,xb⟩:=oq (c/2) (lI sizes) sizes rfl (λb hb=>by have:=S.hx b hb;omega) (by omega)
  dsimp? [aS (i:=c) (j:=2) (by decide) (by decide),ex]
  exact⟨_,rfl,xs,rfl,xl,xb⟩
 ·simp only[h,show ¬ (1:Int)=0 by decide,decide_false]
  obtain⟨v,hv,ev⟩:=pick [1,2,3,6,12,30] (c/2) 6 rfl (by decide)
  rw[show ((6:Nat):Int)=6 from rfl] at ev
  simp only[List.map_cons,List.map_nil] at ev
  have v1:1<=v/\v<=30:=by simp at hv;omega
  dsimp? [aS (i:=c) (j:=2) (by decide) (by decide),aM (i:=c/2) (j:=6) (by decide),ev,jB,yQ]
  refine i_.loop (xs:=sizes.zipIdx) (inj:=λz=>.tup [.int (z.2:Int),.int z.1]) (λr env=>∃ (d ss:List Int) (y4 y5 y6:Option SV),env=[some (.sh (.int c)),some (.sh (lI sizes)),some (.sh (.int v)),some (.ow (ss.map PV.int)),y4,y5,y6]/\sizes=d++r.map (·.1)/\ss.length=d.length/\(∀ z∈ss.zip d,0<=z.1/\z.1<z.2)/\∀ z∈r,z∈sizes.zipIdx) ⟨[],[],_,_,_,rfl,by simp,rfl,(λ_ h=>nomatch h),λz h=>h⟩ ?_ ?_
  ·rintro⟨s,i⟩ r env ⟨d,ss,y4,y5,y6,rfl,hd,hl,hz,hm⟩
   have hi:=yY (hm (s,i) List.mem_cons_self)
   have hs:=S.hx s (by rw[hd];simp)
   obtain⟨x,ex,x0,x1⟩:=uU (c/12) i (by omega)
   have dl:d.length<=6:=by
    have:=congrArg List.length hd
    simp at this;omega
   have b1:(x/4*v).natAbs<2^62:=by
    rw[Int.natAbs_mul]
    have:(x/4).natAbs*v.natAbs<=2^30*2^5:=Nat.mul_le_mul (by omega) (by omega)
    exact Nat.lt_of_le_of_lt this (by decide)
   have m0:0<=x/4*v%s/\x/4*v%s<s:=⟨Int.emod_nonneg _ (by omega),Int.emod_lt_of_pos _ (by omega)⟩
   obtain⟨o,eo,ho⟩:∃ o:Int,l8 [.bl (decide (0<x%4))]=M.ok (.int o)/\(o=0\/o=1):=by
    by_cases q:0<x%4
    ·exact⟨1,by rw[decide_eq_true q];rfl,.inr rfl⟩
    ·exact⟨0,by rw[decide_eq_false q];rfl,.inl rfl⟩
   dsimp? [bB,aS (i:=c) (j:=12) (by decide) (by decide),ex,vE,ownAt,aS (i:=x) (j:=4) (by decide) (by decide),bq (i:=x/4) (j:=v) (k:=31) (l:=31) (by omega) (by omega),aM (i:=x/4*v) (j:=s) (by omega),aM (i:=x) (j:=4) (by decide),eo,bq (i:=x/4*v%s) (j:=o) (k:=31) (l:=31) (by omega) (by omega),vB (xs:=ss.map PV.int) (show (ss.map PV.int).length<1000 by simp;omega),n_]
   refine⟨_,rfl,d++[s],ss++[x/4*v%s*o],_,_,_,rfl,by rw[hd];simp,by simp[hl],λz Ri=>?_,λz h=>hm z (List.mem_cons_of_mem _ h)⟩
   rw[List.zip_append hl] at Ri
   rcases List.mem_append.mp Ri with q | q
   ·exact hz z q
   ·rw[List.zip_cons_cons,List.zip_nil_left] at q
    rw[List.mem_singleton.mp q]
    rcases ho with rfl | rfl <;> simp <;> omega
  ·rintro env ⟨d,ss,y4,y5,y6,rfl,hd,hl,hz,_⟩
   rw[List.map_nil,List.append_nil] at hd
   subst hd
   dsimp? []
   exact⟨_,rfl,ss,rfl,hl,hz⟩
theorem FP(i j:Nat)(env:af)(p q:PV):Mc i j env [p,q]=M.ok (.nx ((env.set i (some (.sh p))).set j (some (.sh q)))):=rfl
theorem rQ(a b:Nat):dh [.int (a:Int),.int (b:Int)]=M.ok (.int (Nat.gcd a b:Nat)):=by
 unfold dh eD
 dsimp? []
 refine zo (λenv=>∃ p q:Nat,env=[some (.sh (.int p)),some (.sh (.int q))]/\Nat.gcd p q=Nat.gcd a b) (λenv=>match env with
  | [_,some (.sh (.int q))]=>q.toNat
  | _=>0) ⟨a,b,rfl,rfl⟩ ?_ ?_
 ·rintro env ⟨p,q,rfl,hg⟩
  by_cases h0:(0:Int)<q
  ·refine .inr ⟨by dsimp? [h0,decide_true],[some (.sh (.int q)),some (.sh (.int ((p%q:Nat):Int)))],?_,⟨q,p%q,rfl,?_⟩,?_⟩
   ·dsimp? [JU,FP,aM (i:=(p:Int)) h0]
    rfl
   ·rw[← hg,Nat.gcd_comm p q,Nat.gcd_rec q p,Nat.gcd_comm]
   ·show ((p%q:Nat):Int).toNat<(q:Int).toNat
    have:=Nat.mod_lt p (show 0<q by omega)
    omega
  ·exact .inl (by dsimp? [h0,decide_false])
 ·rintro Pj ⟨p,q,rfl,hg⟩ hu
  have hq:q=0:=by
   revert hu
   dsimp? []
   intro hu
   have:(decide ((0:Int)<q))=false:=by injection hu with hu;injection hu
   simp at this
   omega
  subst hq
  rw[Nat.gcd_zero_right] at hg
  subst hg
  dsimp? []
theorem BM(sizes:List Int)(h:Sz sizes):ig [lI sizes]=M.ok (.int (R sizes)):=by
 refine i_.eq ?_
 unfold ig ib
 dsimp? []
 refine i_.loop (xs:=sizes) (inj:=PV.int) (λzs env=>∃ (acc:Nat) (y:Option SV),env=[some (.sh (lI sizes)),some (.sh (.int (acc:Nat))),y]/\Acc sizes zs acc) ⟨1,_,rfl,Acc.start h⟩ ?_ ?_
 ·rintro a r env ⟨acc,y,rfl,A⟩
  obtain⟨A2,e1,e2,e3⟩:=A.turn
  have hl:=A.lt
  have ha:=A.kz a List.mem_cons_self
  have d0:0<=(acc:Int)/(Int.gcd acc a:Nat):=Int.ediv_nonneg (by omega) (by omega)
  have g1:Int.gcd acc a<=acc:=Nat.le_of_dvd A.pos (Int.ofNat_dvd.mp (Int.gcd_dvd_left ..))
  have ed:dh [.int (acc:Int),.int a]=M.ok (.int (Int.gcd acc a:Nat)):=by
   obtain⟨n,rfl⟩:=Int.eq_ofNat_of_zero_le (show 0<=a by omega)
   exact rQ acc n
  dsimp? [bK,ed,aS (i:=(acc:Int)) (show (0:Int)<(Int.gcd acc a:Nat) by omega) (show ((Int.gcd acc a:Nat):Int)<2^64 by omega),bq (k:=64) (l:=64) (show ((acc:Int)/(Int.gcd acc a:Nat)).natAbs<2^64 by omega) (show a.natAbs<2^64 by omega),e1]
  exact⟨_,rfl,_,_,rfl,A2⟩
 ·rintro env ⟨acc,y,rfl,A⟩
  dsimp? []
  have:=A.val
  exact⟨_,rfl,by rw[R,← this];rfl⟩
theorem u_(ns:List Int)(k:Nat)(hk:k<=100):∃ c,dG [.kF (ns.map PV.int),.int (k:Int)]=M.ok (.int c):=by
 unfold dG iY
 by_cases h:(k:Int)<(ns.length:Int)
 ·have h':k<ns.length:=by omega
  exact⟨ns[k],by dsimp? [List.length_map,h,decide_true,bD (p:=.kF (ns.map PV.int)) (j:=k) (x:=.int ns[k]) rfl (by rw[List.getElem?_map,List.getElem?_eq_getElem h'];rfl)]⟩
 ·exact⟨((k:Int)+2)*104729%65537,by dsimp? [List.length_map,h,decide_false,bq (i:=(k:Int)+2) (j:=104729) (k:=31) (l:=31) (by omega) (by decide),aM (i:=((k:Int)+2)*104729) (j:=65537) (by decide)]⟩
abbrev LK:=List Int×Int×Int
def eN(z:LK):PV:=.tup [lI z.1,.int z.2.1,.int z.2.2]
def Ov(z:LK):List (Str×PV):=[("factors", lI z.1),("number", .int z.2.1),("rest", .int z.2.2)]
def lO(z:LK):PV:=.obj aQ (Ov z)
theorem t0(z:LK):aJ (eN z) (.int 0)=M.ok (lI z.1):=bD (p:=eN z) (j:=0) rfl rfl
theorem t1(z:LK):aJ (eN z) (.int 1)=M.ok (.int z.2.1):=bD (p:=eN z) (j:=1) rfl rfl
theorem t2(z:LK):aJ (eN z) (.int 2)=M.ok (.int z.2.2):=bD (p:=eN z) (j:=2) rfl rfl
theorem LD(f:List Int)(n r:Int):cM aQ fu [] [lI f,.int n,.int r]=M.ok (lO (f,n,r)):=by
 have key:∀ a,fu a ([lI f,.int n,.int r]++[])=M.ok (Ov (f,n,r)):=by
  intro a
  unfold fu kH
  simp only[kE]
  rw[aq (show ([lI f,.int n,.int r]++([]:List PV)).length+1=4 from rfl)]
  simp only[mq,rE]
  dsimp? [fI]
  rw[dS _ _ _ _ _ _ (by simp)]
  dsimp? [fI]
  rw[dS _ _ _ _ _ _ (Nat.lt_of_le_of_lt (gQ (show ([]:List (Str×PV)).length<=0 from Nat.le_refl 0)) (by decide))]
  dsimp? [fI]
  rw[dS _ _ _ _ _ _ (Nat.lt_of_le_of_lt (gQ (gQ (show ([]:List (Str×PV)).length<=0 from Nat.le_refl 0))) (by decide))]
  dsimp? []
  show cZ _ _=_
  rw[aq ⟨rfl,rfl⟩]
  rfl
 unfold cM
 rw[mx key];rfl
theorem ff(z:LK):rP (λc=>c==aQ) "factors" (lO z)=M.ok (lI z.1):=fm (beq_self_eq_true _) rfl
theorem fn(z:LK):rP (λc=>c==aQ) "number" (lO z)=M.ok (.int z.2.1):=fm (beq_self_eq_true _) rfl
theorem fr(z:LK):rP (λc=>c==aQ) "rest" (lO z)=M.ok (.int z.2.2):=fm (beq_self_eq_true _) rfl
theorem Ft(z:LK):xU (λ_=>false) (m_ ly lJ) (m_ pW pN) (lO z)=M.ok (.bl true):=by
 show eM ((m_ ly lJ aQ).map .bl)=_
 rw[show m_ ly lJ aQ=some true by decide];rfl
theorem p5(Z:List LK){x:Option SV}:bA (bK 0) none (ai (cM aQ fu []) (aa (aj aJ (ae 0) (λ_=>M.ok (.int 0))) (aa (aj aJ (ae 0) (λ_=>M.ok (.int 1))) (aa (aj aJ (ae 0) (λ_=>M.ok (.int 2))) ak)))) (Z.map eN) [x]=M.ok (Z.map lO) :=
 du (inj:=eN) Z λz hz=>by dsimp? [t0,t1,t2,LD]
structure nu (sizes:List Int) (z:LK):Prop where
 len:z.1.length=sizes.length
 bd:∀ x∈z.1,x.natAbs<2^100
 n2:2<=z.2.1
 n3:z.2.1<=360
 rb:z.2.2.natAbs<2^190
 dv:∀ i,i<sizes.length->z.2.1∣vf z.1 i*vf sizes i
def dot(F xs:List Int):Int:=((F.zip xs).map λz=>z.1*z.2).sum
def fJ(Z:List LK)(xs:List Int):List Int:=Z.map λz=>dot z.1 xs%z.2.1
def qY(Z:List LK)(xs:List Int):List Int:=Z.map λz=>(z.2.2-dot z.1 xs%z.2.1)%z.2.1
def cx(Z:List LK):List Int:=Z.map λz=>z.2.1
theorem vb{β:Type}(f:α->α->β)(xs:List α):((xs.zip xs).map λz=>f z.1 z.2)=xs.map λz=>f z z:=by
 induction xs with
 | nil=>rfl
 | cons a r ih=>simp only[List.zip_cons_cons,List.map_cons,ih]
theorem uO{F:List Int}(h1:F.length=n)(h2:xs.length=n):dot F xs=bj n λi=>vf F i*vf xs i:=by
 unfold dot
 have hl:((F.zip xs).map λz=>z.1*z.2).length=n:=by simp[h1,h2]
 rw[qv,hl]
 refine dN λi hi=>?_
 rw[aP (by rw[hl];exact hi),aP (by omega),aP (by omega)]
 simp
variable{z:LK}{Z:List LK}
variable{l:List Int}
theorem G4{F:List Int}(hF:∀ x∈F,x.natAbs<2^100)(hx:Bd 200 xs):bA (bB 0 1) none (aj cj (ae 0) (ae 1)) ((F.zip xs).map λz=>.tup [.int z.1,.int z.2]) [none,none]=M.ok ((F.zip xs).map λz=>.int (z.1*z.2)):=by
 refine fv (p:=λz:Int×Int=>PV.int z.1) (q:=λz:Int×Int=>PV.int z.2) (F.zip xs) λz hz=>?_
 obtain⟨m1,m2⟩:=j6 hz
 dsimp? [bq (k:=100) (l:=200) (hF _ m1) (hx _ m2)]
theorem Hm(F xs:List Int):p8 [.lst ((F.zip xs).map λz=>PV.int (z.1*z.2))]=M.ok (.int (dot F xs)):=by
 have:=qz ((F.zip xs).map λz=>z.1*z.2)
 rw[List.map_map] at this
 exact this
theorem Gi{F:List Int}{n:Int}(hF:∀ x∈F,x.natAbs<2^100)(hx:Bd 200 xs)(hl:xs.length<=100)(hn:0<n):er [lI F,tI xs,.int n]=M.ok (.int (dot F xs%n)):=by
 have z1:(F.zip xs).length<=sizeLine:=by rw[List.length_zip];exact aH (Nat.le_trans (Nat.min_le_right _ _) (by omega))
 unfold er fX
 dsimp? [cR (p:=lI F) (q:=tI xs) F xs rfl rfl,List.length_map,aq z1,G4 hF hx,Hm,aM (i:=dot F xs) hn]
theorem wu(hz:∀ z∈Z,nu sizes z)(hZ:Z.length<=100)(hx:Bd 200 xs)(hl:xs.length<=100):fU [.lst (Z.map lO),tI xs]=M.ok (tI (fJ Z xs)):=by
 have key:bA (bK 0) none (ai er (aa (cu (λc=>c==aQ) "factors" (ae 0)) (aa (ae 1) (aa (cu (λc=>c==aQ) "number" (ae 0)) ak)))) (Z.map lO) [none,some (.sh (tI xs))]=M.ok ((fJ Z xs).map PV.int):=by
  rw[fJ,List.map_map]
  refine du (inj:=lO) Z λz h=>?_
  have f:=hz z h
  have:=f.n2
  dsimp? [cW,ff,fn,Gi f.bd hx hl (show 0<z.2.1 by omega)]
  rfl
 have zl:Z.length<=sizeLine:=aH (by omega)
 unfold fU iJ
 dsimp? [List.length_map,aq zl,key]
 rfl
theorem xc(hz:∀ z∈Z,nu sizes z)(hZ:Z.length<=100)(hx:Bd 200 xs)(hl:xs.length<=100):iF [.lst (Z.map lO),tI xs]=M.ok (tI (qY Z xs)):=by
 have e0:zip2 [.lst (Z.map lO),tI (fJ Z xs)]=M.ok (Z.map λz=>.tup [lO z,.int (dot z.1 xs%z.2.1)]):=by
  rw[cR (f:=lO) (g:=λz:LK=>PV.int (dot z.1 xs%z.2.1)) Z Z rfl (by rw[zV,fJ,List.map_map];rfl)]
  congr 1
  exact vb (λa b:LK=>PV.tup [lO a,.int (dot b.1 xs%b.2.1)]) Z
 have key:bA (bB 0 1) none (aj bW (aj lW (cu (λc=>c==aQ) "rest" (ae 0)) (ae 1)) (cu (λc=>c==aQ) "number" (ae 0))) (Z.map λz=>.tup [lO z,.int (dot z.1 xs%z.2.1)]) [none,none]=M.ok ((qY Z xs).map PV.int):=by
  rw[qY,List.map_map]
  refine fv (p:=lO) (q:=λz:LK=>PV.int (dot z.1 xs%z.2.1)) Z λz h=>?_
  have f:=hz z h
  have:=f.n2
  dsimp? [cW,fr,fn,aM (i:=z.2.2-dot z.1 xs%z.2.1) (j:=z.2.1) (by omega)]
  rfl
 have zl:Z.length<=sizeLine:=aH (by omega)
 unfold iF iR
 dsimp? [wu hz hZ hx hl,e0,List.length_map,aq zl,key]
 rfl
theorem JO(S:Sz sizes)(f:nu sizes z):mV [dI sizes Ls,lO z]=M.ok (.bl true):=by
 have l6:=S.h6
 have h1:=f.n2
 have h2:=f.n3
 have key:bA (bB 0 1) none (aj jP (aj bW (aj cj (ae 0) (ae 1)) (cu (λc=>c==aQ) "number" (ae 2))) (λ_=>M.ok (.int 0))) ((z.1.zip sizes).map λa=>.tup [.int a.1,.int a.2]) [none,none,some (.sh (lO z))]=M.ok ((z.1.zip sizes).map λa=>.bl true):=by
  refine fv (p:=λa:Int×Int=>PV.int a.1) (q:=λa:Int×Int=>PV.int a.2) (z.1.zip sizes) λa ha=>?_
  obtain⟨m1,m2⟩:=j6 ha
  have a2:=S.hx _ m2
  have d:z.2.1∣a.1*a.2:=by
   obtain⟨i,hi,e⟩:=List.mem_iff_getElem.mp ha
   rw[List.getElem_zip] at e
   have Sa:i<sizes.length:=by rw[List.length_zip] at hi;omega
   have:=f.dv i Sa
   rw[aP (by rw[f.len];exact Sa),aP Sa] at this
   rw[← e]
   exact this
  dsimp? [bq (k:=100) (l:=64) (f.bd _ m1) (show a.2.natAbs<2^64 by omega),cW,fn,aM (i:=a.1*a.2) (j:=z.2.1) (by omega),Int.emod_eq_zero_of_dvd d,decide_true]
 have z1:(z.1.zip sizes).length<=sizeLine:=by rw[List.length_zip];exact aH (Nat.le_trans (Nat.min_le_right _ _) (by omega))
 have ea:((z.1.zip sizes).all λ_=>true)=true:=by simp
 unfold mV nK
 dsimp? [bR,Fy,Ft,cW,ff,fn,fr,DE z.1 (sizes.length:Int) (aH (by rw[f.len];omega)),f.len,decide_true,within_int,decide_eq_true (show 2<=z.2.1/\z.2.1<=360 from ⟨h1,h2⟩),lu,cR (p:=lI z.1) (q:=tI sizes) z.1 sizes rfl rfl,List.length_map,aq z1,key,CT (λ_:Int×Int=>true),ea]
theorem jd(S:Sz sizes)(hz:∀ z∈Z,nu sizes z)(hZ:Z.length<=6)(hx:Kp sizes xs):fk [dI sizes Ls,tI xs,.lst (Z.map lO)]=M.ok .da:=by
 have g6:¬ (6:Int)<(Z.length:Int):=by omega
 refine i_.eq ?_
 unfold fk fj
 dsimp? [lQ (levers:=Ls) S hx.GJ,List.length_map,g6,decide_false,nO]
 refine i_.loop (xs:=Z.zipIdx) (inj:=λa=>.tup [.int (a.2:Int),lO a.1]) (λzs env=>(∀ a∈zs,a∈Z.zipIdx)/\∃ y3 y4,env=[some (.sh (dI sizes Ls)),some (.sh (tI xs)),some (.sh (.lst (Z.map lO))),y3,y4]) ⟨λz h=>h,_,_,rfl⟩ ?_ ?_
 ·rintro a r env ⟨ha,y3,y4,rfl⟩
  have f:=hz a.1 (List.fst_mem_of_mem_zipIdx (ha a List.mem_cons_self))
  dsimp? [bB,JO (Ls:=Ls) S f]
  exact⟨_,rfl,λz h=>ha z (List.mem_cons_of_mem _ h),_,_,rfl⟩
 ·rintro env ⟨_,y3,y4,rfl⟩
  exact⟨_,rfl,rfl⟩
structure Lv (ns sizes:List Int) (Ls:List (List Int)) (Z:List LK) (T:List Row) (idle:List (List Int)):Prop where
 Q:yT ns (cx Z) (Ls.map (fJ Z)) (Ls.map (fJ Z)) T idle
 ok:e_ [dI sizes Ls,.lst (Z.map lO)]=M.ok (dI (cx Z) (Ls.map (fJ Z)))
theorem zD(hz:∀ z∈Z,nu sizes z)(h1:1<=Z.length)(h6:Z.length<=6):Sz (cx Z):=⟨by simp[cx];omega,by simp[cx];omega,λx hx=>by
 obtain⟨z,h,rfl⟩:=List.mem_map.mp hx
 exact⟨(hz z h).n2,(hz z h).n3⟩⟩
theorem eJ(f:α->Int)(xs:List α)(h:i<xs.length):vf (xs.map f) i=f xs[i]:=by
 rw[aP (by rw[List.length_map];exact h),List.getElem_map]
theorem zA(hz:∀ z∈Z,nu sizes z)(xs:List Int):Kp (cx Z) (fJ Z xs):=⟨by simp[fJ,cx],λi hi=>by
 have hi:i<Z.length:=by simpa [cx] using hi
 have f:=hz _ (List.getElem_mem hi)
 have:=f.n2
 rw[fJ,cx,eJ _ _ hi,eJ _ _ hi]
 exact⟨Int.emod_nonneg _ (by omega),Int.emod_lt_of_pos _ (by omega)⟩⟩
theorem CK(hz:∀ z∈Z,nu sizes z)(xs:List Int):Kp (cx Z) (qY Z xs):=⟨by simp[qY,cx],λi hi=>by
 have hi:i<Z.length:=by simpa [cx] using hi
 have f:=hz _ (List.getElem_mem hi)
 have:=f.n2
 rw[qY,cx,eJ _ _ hi,eJ _ _ hi]
 exact⟨Int.emod_nonneg _ (by omega),Int.emod_lt_of_pos _ (by omega)⟩⟩
theorem uS(Q:yT ns sizes raw Ls T idle)(h:l∈Ls):Kp sizes l:=by
 obtain⟨i,hi,rfl⟩:=List.mem_iff_getElem.mp h
 have a:=Q.LL.at_ i hi
 have b:=Q.LL.kz i hi
 unfold AA at b
 rw[List.getD_eq_getElem?_getD,List.getElem?_eq_getElem hi,Option.getD_some] at a b
 exact⟨a,b⟩
theorem Lv.get(Q:yT ns sizes raw Ls T idle)(hz:∀ z∈Z,nu sizes z)(h1:1<=Z.length)(h6:Z.length<=6):∃ T' Rq,Lv ns sizes Ls Z T' Rq:=by
 have S:=Q.S
 have m8:=Q.m8
 have l6:=S.h6
 have S':=zD hz h1 h6
 obtain⟨Ls',T',Rq,Q'⟩:=yT.get ns S' (raw:=Ls.map (fJ Z)) (by simpa using m8) (λl hl=>by
  obtain⟨x,hx,rfl⟩:=List.mem_map.mp hl
  exact⟨(zA hz x).1,(zA hz x).bd S'⟩)
 have e:Ls'=Ls.map (fJ Z):=by
  rw[Q'.eL,List.map_map]
  exact List.map_congr_left λl hl=>xt (zA hz l).GJ
 subst e
 refine⟨T',Rq,Q',?_⟩
 have k1:bA (bK 0) none (cu (λc=>c==aQ) "number" (ae 0)) (Z.map lO) [none]=M.ok ((cx Z).map PV.int):=by
  rw[cx,List.map_map]
  exact du (inj:=lO) Z λz h=>by dsimp? [cW,fn];rfl
 have k2:bA (bK 0) none (ai fU (aa (ae 1) (aa (ae 0) ak))) (Ls.map tI) [none,some (.sh (.lst (Z.map lO)))]=M.ok ((Ls.map (fJ Z)).map tI):=by
  rw[List.map_map]
  refine du (inj:=tI) Ls λl h=>?_
  have k:=uS Q h
  dsimp? [wu hz (by omega) (k.bd S) (by rw[k.1];omega)]
  rfl
 have zl:Z.length<=sizeLine:=aH (by omega)
 have zL:Ls.length<=sizeLine:=aH (by omega)
 unfold e_ fG
 dsimp? [List.length_map,aq zl,k1,bR,M9,aq zL,k2,Q'.Mu (p:=.lst ((cx Z).map PV.int)) (f:=tI) (.inl rfl) rfl]
def C0(p:PV):PV:=.obj bL [("weights", p)]
def lZ(p:PV):PV:=.obj aT [("shares", p)]
theorem J2(p:PV):cM bL kx [] [p]=M.ok (C0 p):=by
 have key:∀ a,kx a ([p]++[])=M.ok ([("weights", p)]:List (Str×PV)):=by
  intro a
  unfold kx jR
  simp only[kE]
  rw[aq (show ([p]++([]:List PV)).length+1=2 from rfl)]
  simp only[mq,rE]
  dsimp? [fI]
  rw[dS _ _ _ _ _ _ (by simp)]
  dsimp? []
  show cZ _ _=_
  rw[aq ⟨rfl,rfl⟩]
  rfl
 unfold cM
 rw[mx key];rfl
theorem Aa(p:PV):cM aT gS [] [p]=M.ok (lZ p):=by
 have key:∀ a,gS a ([p]++[])=M.ok ([("shares", p)]:List (Str×PV)):=by
  intro a
  unfold gS kP
  simp only[kE]
  rw[aq (show ([p]++([]:List PV)).length+1=2 from rfl)]
  simp only[mq,rE]
  dsimp? [fI]
  rw[dS _ _ _ _ _ _ (by simp)]
  dsimp? []
  show cZ _ _=_
  rw[aq ⟨rfl,rfl⟩]
  rfl
 unfold cM
 rw[mx key];rfl
theorem lN(L:List (Addr×(List PV->M PV)))(m:Str)(g:af->M PV)(fs:af->M (List PV))(env:af):iQ L m g fs env=(g env).bind λp=>kT L m p (fs env):=rfl
theorem jI{L:List (Addr×(List PV->M PV))}{C:Addr}{fl:List (Str×PV)}{s1:List PV->M PV}{m:Str}(e:L.lookup C=some s1)(h:fl.lookup m=none):kT L m (.obj C fl) x=x.bind λps=>s1 (.obj C fl::ps):=by
 show cZ _ _=_
 rw[aq ⟨by rw[e];rfl,h⟩]
 unfold NI
 rw[e]
variable{W:List Int}
section
variable{P:List Int}
theorem OI:rP (λc=>c==bT) "pulls" (way P)=M.ok (tI P):=fm (beq_self_eq_true _) rfl
theorem OD:rP (λc=>c==bL) "weights" (C0 p)=M.ok p:=fm (beq_self_eq_true _) rfl
theorem MZ:rP (λc=>c==bL) "weights" (bar W)=M.ok (tI W):=fm (beq_self_eq_true _) rfl
theorem MP:rP (λc=>c==aT) "shares" (lZ p)=M.ok p:=fm (beq_self_eq_true _) rfl
theorem Ou:kT [(bT,c6),(bL,aW),(aT,aW)] "brings" (way P) (M.ok [])=M.ok (.bl true):=(jI (fl:=GF P) (s1:=c6) rfl rfl).trans rfl
theorem O0:kT [(bT,c6),(bL,aW),(aT,aW)] "brings" (bar W) (M.ok [])=M.ok (.bl false):=(jI (fl:=JZ W) (s1:=aW) rfl rfl).trans rfl
theorem O8:kT [(bT,c6),(bL,aW),(aT,aW)] "brings" (lZ p) (M.ok [])=M.ok (.bl false):=(jI (fl:=[("shares", p)]) (s1:=aW) rfl rfl).trans rfl
theorem O4:oU bL "shows" eh (C0 p) x=x.bind λps=>eh (C0 p::ps):=ix (fl:=[("weights", p)]) rfl
theorem z9(S:Sz sizes)(h:Kp sizes l):ad sizes l (List.replicate sizes.length 0) (-1)=l:=by
 obtain⟨a,b⟩:=wj (t:=-1) S h.1 (vp sizes.length)
 refine t_ (by rw[a,h.1]) λi hi=>?_
 rw[b i (by omega),iN]
 have:=h.2 i (by omega)
 rw[show vf l i+-1*0=vf l i by omega,Int.emod_eq_of_lt this.1 this.2]
theorem xE(n:Nat)(h8:n<=1000):cj (.tup [.int 0]) (.int (n:Int))=M.ok (tI (List.replicate n 0)):=by
 rw[mul_one (.int 0) n h8,tI,List.map_replicate]
theorem AB(S:Sz sizes)(m8:Ls.length<=8)(hx:Kp sizes xs):cO [dI sizes Ls,tI xs,.lst []]=M.ok (way (List.replicate Ls.length 0)):=by
 have nl:=jd (Ls:=Ls) (Z:=[]) S (λ_ h=>nomatch h) (by decide) hx
 rw[List.map_nil] at nl
 unfold cO e6
 dsimp? [nl,show ((0:Nat):Int)=0 from rfl,decide_true,bR,M9,List.length_map,xE Ls.length (by omega),Ei]
theorem Ga(S:Sz sizes)(l6:Z.length<=6)(l1:1<=Z.length)(hz:∀ z∈Z,nu sizes z)(hx:Kp sizes xs)(K:Lv ns sizes Ls Z T idle) :
  (∃ P:List Int,cO [dI sizes Ls,tI xs,.lst (Z.map lO)]=M.ok (way P)/\P.length=Ls.length/\Bd 200 P/\Led Z.length (vf (cx Z)) Ls.length (AA (Ls.map (fJ Z))) (vf (qY Z xs)) (vf P))
  \/ (¬ G Z.length (vf (cx Z)) (DD T) Z.length 0 (vf (qY Z xs))/\∃ (c:Nat) (W:List Int),Ws (cx Z) T c W/\cO [dI sizes Ls,tI xs,.lst (Z.map lO)]=M.ok (lZ (tI W))/\¬ R (cx Z)∣fS Z.length (vf (cx Z)) (R (cx Z)) (vf W) (vf (qY Z xs))):=by
 have s6:=S.h6
 have Q:=K.Q
 have S':=Q.S
 have eZ:(cx Z).length=Z.length:=by simp[cx]
 have eL:(Ls.map (fJ Z)).length=Ls.length:=by simp
 have m8:=Q.m8
 have kw:=CK hz xs
 have h0:Kp (cx Z) (List.replicate (cx Z).length 0):=⟨vp _,wW S'⟩
 have nl:=jd (Ls:=Ls) S hz l6 hx
 have n0:¬ (Z.length:Int)=0:=by omega
 have wk:=xc hz (by omega) (hx.bd S) (by rw[hx.1];omega)
 have no:=jN (Ls:=Ls.map (fJ Z)) (sizes:=cx Z) (by omega)
 have b:=EA Q h0 kw
 rw[z9 S' kw] at b
 rw[eZ] at b
 rcases b with ⟨g,eb⟩ | ⟨ng,c,W,hc,w,eb,nd⟩
 ·rw[← eZ] at g
  obtain⟨et,tl,led,tn⟩:=xN (k:=(Ls.map (fJ Z)).length+1) S' m8 Q.st (by omega) Q.I kw.GJ kw.2 g
  rw[eZ] at led
  refine .inl ⟨_,?_,by rw[tl,eL],Lk Q.I tl tn,by rw[eL] at led;exact led⟩
  unfold cO e6
  dsimp? [nl,List.length_map,n0,decide_false,K.ok,no,wk,eZ,eb,lN,Ou]
 ·refine .inr ⟨ng,c,W,w,?_,nd⟩
  unfold cO e6
  dsimp? [nl,List.length_map,n0,decide_false,K.ok,no,wk,eZ,eb,lN,O0,cW,MZ,Aa]
def Good(Ls:List (List Int))(Z:List LK)(xs W:List Int):Prop:=Kp (cx Z) W/\Sl (cx Z) (Ls.map (fJ Z)) W/\¬ R (cx Z)∣fS Z.length (vf (cx Z)) (R (cx Z)) (vf W) (vf (qY Z xs))
theorem Ds(h:Ck sizes xs):Kp sizes xs:=⟨h.len,λi hi=>by
 have:=h.kz (vf xs i,vf sizes i) (by
  rw[aP (by rw[h.len];exact hi),aP hi]
  exact List.mem_iff_getElem.mpr ⟨i,by rw[List.length_zip,h.len];omega,by rw[List.getElem_zip]⟩)
 exact this⟩
theorem G3(S:Sz sizes)(l6:Z.length<=6)(l1:1<=Z.length)(hz:∀ z∈Z,nu sizes z)(hx:Kp sizes xs)(K:Lv ns sizes Ls Z T idle):Kp (cx Z) (List.replicate (cx Z).length 0)/\∀ b,eh [C0 p,dI (cx Z) (Ls.map (fJ Z)),tI (List.replicate (cx Z).length 0),tI (qY Z xs)]=M.ok (.bl b)->cy [lZ p,dI sizes Ls,tI xs,.lst (Z.map lO)]=M.ok (.bl b):=by
 have s6:=S.h6
 have n0:¬ (Z.length:Int)=0:=by omega
 refine⟨⟨vp _,wW K.Q.S⟩,λb bs=>?_⟩
 unfold cy gF
 dsimp? [jd (Ls:=Ls) S hz l6 hx,List.length_map,n0,decide_false,K.ok,jN (Ls:=Ls.map (fJ Z)) (sizes:=cx Z) (by simp[cx];omega),xc hz (by omega) (hx.bd S) (by rw[hx.1];omega),cW,MP,J2,bR,O4,bs]
theorem lr(S:Sz sizes)(l6:Z.length<=6)(l1:1<=Z.length)(hz:∀ z∈Z,nu sizes z)(hx:Kp sizes xs)(K:Lv ns sizes Ls Z T idle)(h:bu [dI (cx Z) (Ls.map (fJ Z)),p]=M.ok (.bl false)):cy [lZ p,dI sizes Ls,tI xs,.lst (Z.map lO)]=M.ok (.bl false):=by
 obtain⟨h0,sb⟩:=G3 (p:=p) S l6 l1 hz hx K
 refine sb _ ?_
 unfold eh gH
 dsimp? [mr (Ls:=Ls.map (fJ Z)) K.Q.S h0 (CK hz xs),cW,OD,h]
theorem zF(S:Sz sizes)(l6:Z.length<=6)(l1:1<=Z.length)(hz:∀ z∈Z,nu sizes z)(hx:Kp sizes xs)(K:Lv ns sizes Ls Z T idle)(hW:W.length<=100):∃ b:Bool,cy [lZ (tI W),dI sizes Ls,tI xs,.lst (Z.map lO)]=M.ok (.bl b)/\(b=true ↔ Good Ls Z xs W):=by
 have S':=K.Q.S
 have kw:=CK hz xs
 obtain⟨h0,sb⟩:=G3 (p:=tI W) S l6 l1 hz hx K
 have st:=mw (levers:=Ls.map (fJ Z)) S' W (by omega)
 cases hb:yH (cx Z) W with
 | false =>
  rw[hb] at st
  refine⟨false,lr S l6 l1 hz hx K st,?_⟩
  simp only[Bool.false_eq_true,false_iff]
  rintro⟨k,_⟩
  rw[pP.mpr k.GJ] at hb
  cases hb
 | true =>
  rw[hb] at st
  have kW:=Ds (pP.mp hb)
  obtain⟨b1,e1,i1⟩:=Bm K.Q kW.1 kW.2
  have we:=rL (levers:=Ls.map (fJ Z)) S' kW.GJ kw.GJ
  rw[uk kW.1 kw.1,show (cx Z).length=Z.length by simp[cx]] at we
  have bt:=mr (Ls:=Ls.map (fJ Z)) S' h0 kw
  rw[z9 S' kw] at bt
  refine⟨b1&&!decide (fS Z.length (vf (cx Z)) (R (cx Z)) (vf W) (vf (qY Z xs))%R (cx Z)=0),sb _ ?_,?_⟩
  ·unfold eh gH
   cases b1 <;> dsimp? [bt,cW,OD,st,e1,we]
  ·rw[Bool.and_eq_true,i1,Bool.not_eq_true',decide_eq_false_iff_not]
   exact⟨λh=>⟨kW,h.1,λd=>h.2 (Int.emod_eq_zero_of_dvd d)⟩,λg=>⟨g.2.1,λh=>g.2.2 (Int.dvd_of_emod_eq_zero h)⟩⟩
end
theorem CP(xs ys:List Int):jP (lI xs) (lI ys)=M.ok (.bl (decide (xs=ys))):=by
 simp only[jP,nA,dat,lI,jM,Option.map_some,El]
 rw[aq (by simp[PySem.SeqAt.shaped,PyData.canLay0,PyData.depth,e7,iM,PySem.SeqAt.noMix,L2.noMix_ints])]
 unfold PySem.Spec.same
 rw[L2.same_ints];rfl
section
variable{P:List Int}
theorem p4(hz:∀ z∈Z,nu sizes z)(hZ:Z.length<=100)(hx:Bd 200 xs)(hl:xs.length<=100):eX [.lst (Z.map eN),tI xs]=M.ok (lI (fJ Z xs)):=by
 have key:bA (bK 0) none (aj bW (ai p8 (aa (bJ (bH (jg zip2 (aa (aj aJ (ae 0) (λ_=>M.ok (.int 0))) (aa (ae 1) ak))) (bB 0 1) none (aj cj (ae 0) (ae 1)) 2 [])) ak)) (aj aJ (ae 0) (λ_=>M.ok (.int 1)))) (Z.map eN) [none,some (.sh (tI xs))]=M.ok ((fJ Z xs).map PV.int):=by
  rw[fJ,List.map_map]
  refine du (inj:=eN) Z λz h=>?_
  have f:=hz z h
  have:=f.n2
  have z1:(z.1.zip xs).length<=sizeLine:=by rw[List.length_zip];exact aH (Nat.le_trans (Nat.min_le_right _ _) (by omega))
  dsimp? [t0,t1,cR (p:=lI z.1) (q:=tI xs) z.1 xs rfl rfl,List.length_map,aq z1,G4 f.bd hx,Hm,aM (i:=dot z.1 xs) (j:=z.2.1) (by omega)]
  rfl
 have zl:Z.length<=sizeLine:=aH (by omega)
 unfold eX gK
 dsimp? [List.length_map,aq zl,key]
 rfl
def FO(Z:List LK):List Int:=Z.map λz=>z.2.2%z.2.1
theorem Ah(hz:∀ z∈Z,nu sizes z)(hZ:Z.length<=100)(hx:Bd 200 xs)(hl:xs.length<=100):f9 [.lst (Z.map eN),tI xs]=M.ok (.bl (decide (fJ Z xs=FO Z))):=by
 have key:bA (bK 0) none (aj bW (aj aJ (ae 0) (λ_=>M.ok (.int 2))) (aj aJ (ae 0) (λ_=>M.ok (.int 1)))) (Z.map eN) [none]=M.ok ((FO Z).map PV.int):=by
  rw[FO,List.map_map]
  refine du (inj:=eN) Z λz h=>?_
  have:=(hz z h).n2
  dsimp? [t1,t2,aM (i:=z.2.2) (j:=z.2.1) (by omega)]
  rfl
 have zl:Z.length<=sizeLine:=aH (by omega)
 unfold f9 iA
 dsimp? [p4 hz hZ hx hl,List.length_map,aq zl,key,show PV.lst ((FO Z).map PV.int)=lI (FO Z) from rfl,CP]
theorem rF(hz:∀ z∈Z,nu sizes z)(l6:Z.length<=6)(l1:1<=Z.length)(Wl:W.length=Z.length)(W0:∀ x∈W,0<=x/\x<360)(yl:ys.length=Z.length)(yb:Bd 200 ys):eR [.lst (Z.map eN),tI W,lI ys]=M.ok (.int (fS Z.length (vf (cx Z)) (R (cx Z)) (vf W) (vf ys)%R (cx Z))):=by
 have S':=zD hz l1 l6
 have nl:(cx Z).length=Z.length:=by simp[cx]
 let tm:Int×LK×Int->Int:=λa=>a.1*(R (cx Z)/a.2.1.2.1)*a.2.2
 have et:((W.zip (Z.zip ys)).map tm).sum=fS Z.length (vf (cx Z)) (R (cx Z)) (vf W) (vf ys):=by
  have hl:((W.zip (Z.zip ys)).map tm).length=Z.length:=by simp;omega
  rw[qv,hl]
  refine dN λi hi=>?_
  rw[aP (by rw[hl];exact hi),aP (by omega),aP (by omega),cx,eJ _ _ hi]
  simp only[List.getElem_map,List.getElem_zip,tm]
  rw[Int.mul_assoc,Int.mul_comm (_/_),← Int.mul_assoc]
  rfl
 have k0:bA (bK 0) none (aj aJ (ae 0) (λ_=>M.ok (.int 1))) (Z.map eN) [none]=M.ok ((cx Z).map PV.int):=by
  rw[cx,List.map_map]
  exact du (inj:=eN) Z λz h=>by dsimp? [t1];rfl
 have k1:bA (oZ 0 1 2) none (aj cj (aj cj (ae 0) (aj cn (ae 3) (aj aJ (ae 1) (λ_=>M.ok (.int 1))))) (ae 2)) ((W.zip (Z.zip ys)).map λa=>.tup [.int a.1,eN a.2.1,.int a.2.2]) [none,none,none,some (.sh (.int (R (cx Z))))]=M.ok ((W.zip (Z.zip ys)).map λa=>.int (tm a)):=by
  refine BI (p:=λa:Int×LK×Int=>PV.int a.1) (q:=λa=>eN a.2.1) (s:=λa=>PV.int a.2.2) (W.zip (Z.zip ys)) λa ha=>?_
  obtain⟨m1,m2⟩:=List.of_mem_zip (a:=a.1) (b:=a.2) ha
  obtain⟨m3,m4⟩:=List.of_mem_zip (a:=a.2.1) (b:=a.2.2) m2
  have f:=hz _ m3
  have mn:a.2.1.2.1∈cx Z:=List.mem_map.mpr ⟨_,m3,rfl⟩
  have a1:=W0 _ m1;have a2:=yb _ m4;have a3:=q_ S' mn;have a4:=S'.hx _ mn
  have a5:=wA S' (w:=a.1) a1 mn
  dsimp? [t1,aS (i:=R (cx Z)) (j:=a.2.1.2.1) (by omega) (by omega),bq (i:=a.1) (j:=R (cx Z)/a.2.1.2.1) (k:=64) (l:=64) (by omega) (by omega),bq (i:=a.1*(R (cx Z)/a.2.1.2.1)) (j:=a.2.2) (k:=80) (l:=200) a5 a2]
  rfl
 have es:p8 [.lst ((W.zip (Z.zip ys)).map λa=>.int (tm a))]=M.ok (.int ((W.zip (Z.zip ys)).map tm).sum):=by
  have:=qz ((W.zip (Z.zip ys)).map tm)
  rw[List.map_map] at this
  exact this
 have zl:Z.length<=sizeLine:=aH (by omega)
 have z1:(W.zip (Z.zip ys)).length<=sizeLine:=by simp only[List.length_zip];exact aH (by omega)
 rw[← et]
 unfold eR gq
 dsimp? [List.length_map,aq zl,k0,show PV.lst ((cx Z).map PV.int)=lI (cx Z) from rfl,BM (cx Z) S',xh (p:=tI W) (q:=.lst (Z.map eN)) (r:=lI ys) (f:=PV.int) (g:=eN) (h:=PV.int) W Z ys rfl rfl rfl,aq z1,k1,es,aM (i:=((W.zip (Z.zip ys)).map tm).sum) (j:=R (cx Z)) (xy S')]
def E_(Z:List LK)(xs:List Int):List Int:=Z.map λz=>z.2.2-dot z.1 xs%z.2.1
theorem ID(hz:∀ z∈Z,nu sizes z)(l6:Z.length<=6)(l1:1<=Z.length):R (cx Z)∣fS Z.length (vf (cx Z)) (R (cx Z)) (vf W) (vf (E_ Z xs)) ↔ R (cx Z)∣fS Z.length (vf (cx Z)) (R (cx Z)) (vf W) (vf (qY Z xs)):=by
 have S':=zD hz l1 l6
 have nl:(cx Z).length=Z.length:=by simp[cx]
 have hq:=E9 S'
 rw[nl] at hq
 have c:=Cr (n:=Z.length) (s:=vf (cx Z)) (Q:=R (cx Z)) (w:=vf W) (v:=vf (qY Z xs)) (u:=vf (E_ Z xs)) hq λi hi=>by
  rw[qY,E_,cx,eJ _ _ hi,eJ _ _ hi,eJ _ _ hi]
  exact cG _ _
 constructor
 ·intro d
  have:=Int.dvd_add c d
  rwa [Int.sub_add_cancel] at this
 ·intro d
  have:=Int.dvd_sub d c
  rwa [show ∀ a b:Int,a-(a-b)=b by intros;omega] at this
theorem wJ(S:Sz sizes)(l6:Z.length<=6)(l1:1<=Z.length)(hz:∀ z∈Z,nu sizes z)(hx:Kp sizes xs)(hL:∀ l∈Ls,Kp sizes l)(Wl:W.length=Z.length):i_ (bQ [.lst (Z.map eN),tI W,.lst (Ls.map tI),tI xs]) λp=>∃ b:Bool,p=.bl b/\(b=true ↔ Good Ls Z xs W):=by
 have s6:=S.h6
 have S':=zD hz l1 l6
 have nl:(cx Z).length=Z.length:=by simp[cx]
 unfold bQ dD
 dsimp? [List.length_map,Wl,decide_true,cR (p:=tI W) (q:=.lst (Z.map eN)) (f:=PV.int) (g:=eN) W Z rfl rfl]
 refine i_.C5 (xs:=W.zip Z) (inj:=λa=>.tup [.int a.1,eN a.2]) (λzs env=>∃ (c:Nat) (y4 y5:Option SV),env=[some (.sh (.lst (Z.map eN))),some (.sh (tI W)),some (.sh (.lst (Ls.map tI))),some (.sh (tI xs)),y4,y5,none,none]/\zs=(W.zip Z).drop c/\c<=Z.length/\∀ i,i<c->0<=vf W i/\vf W i<vf (cx Z) i) ⟨0,_,_,rfl,rfl,by omega,λi hi=>by omega⟩ ?_ ?_
 ·rintro a r env ⟨c,y4,y5,rfl,hd,hc,hi⟩
  obtain⟨c1,c2,c3⟩:=drop_cons hd.symm
  have SW:c<Z.length:=by rw[List.length_zip] at c1;omega
  rw[List.getElem?_eq_getElem c1] at c2
  have c2:=Option.some.inj c2
  rw[List.getElem_zip] at c2
  have e1:vf W c=a.1:=by rw[aP (by omega),← c2]
  have e2:vf (cx Z) c=a.2.2.1:=by rw[cx,eJ _ _ SW,← c2]
  by_cases h1:0<=a.1
  ·by_cases h2:a.1<a.2.2.1
   ·dsimp? [bB,t1,h1,h2,decide_true]
    refine⟨_,rfl,c+1,_,_,rfl,c3.symm,by omega,λi h=>?_⟩
    rcases Nat.lt_succ_iff_lt_or_eq.mp h with q | q
    ·exact hi i q
    ·subst q;rw[e1,e2];exact⟨h1,h2⟩
   ·dsimp? [bB,t1,h1,h2,decide_true,decide_false]
    refine⟨_,rfl,_,rfl,false,rfl,?_⟩
    simp only[Bool.false_eq_true,false_iff]
    intro g
    have:=g.1.2 c (by omega)
    rw[e1,e2] at this
    exact h2 this.2
  ·dsimp? [bB,t1,h1,decide_false]
   refine⟨_,rfl,_,rfl,false,rfl,?_⟩
   simp only[Bool.false_eq_true,false_iff]
   intro g
   have:=g.1.2 c (by omega)
   rw[e1,e2] at this
   exact h1 this.1
 ·rintro env ⟨c,y4,y5,rfl,hd,hc,hi⟩
  have ec:c=Z.length:=by
   have:=congrArg List.length hd
   rw[List.length_drop,List.length_zip] at this
   simp at this;omega
  subst ec
  have kW:Kp (cx Z) W:=⟨by omega,λi h=>hi i (by omega)⟩
  have W0:∀ x∈W,0<=x/\x<360:=λx hx=>by
   obtain⟨i,h,rfl⟩:=List.mem_iff_getElem.mp hx
   have a:=hi i (by omega)
   have b:=S'.hx (vf (cx Z) i) (by rw[aP (by omega)];exact List.getElem_mem _)
   rw[aP h] at a
   omega
  dsimp? []
  refine i_.C5 (xs:=Ls) (inj:=tI) (λzs env=>∃ (c:Nat) (y6:Option SV),env=[some (.sh (.lst (Z.map eN))),some (.sh (tI W)),some (.sh (.lst (Ls.map tI))),some (.sh (tI xs)),y4,y5,y6,none]/\zs=Ls.drop c/\c<=Ls.length/\∀ l,l<c->R (cx Z)∣fS Z.length (vf (cx Z)) (R (cx Z)) (vf W) (AA (Ls.map (fJ Z)) l)) ⟨0,_,rfl,rfl,by omega,λl h=>by omega⟩ ?_ ?_
  ·rintro a r env ⟨c,y6,rfl,hd,hc,hk⟩
   obtain⟨c1,c2,c3⟩:=drop_cons hd.symm
   rw[List.getElem?_eq_getElem c1] at c2
   have c2:=Option.some.inj c2
   have ka:=hL a (by rw[← c2];exact List.getElem_mem _)
   have eA:AA (Ls.map (fJ Z)) c=vf (fJ Z a):=by
    unfold AA
    rw[List.getD_eq_getElem?_getD,List.getElem?_map,List.getElem?_eq_getElem c1,Option.map_some,Option.getD_some,c2]
   have ls:=p4 hz (by omega) (ka.bd S) (by rw[ka.1];omega)
   have tk:=zA hz a
   have sh:=rF (ys:=fJ Z a) hz l6 l1 Wl W0 (by rw[tk.1,nl]) (tk.bd S')
   by_cases h:fS Z.length (vf (cx Z)) (R (cx Z)) (vf W) (vf (fJ Z a))%R (cx Z)=0
   ·dsimp? [bK,ls,sh,h,decide_true]
    refine⟨_,rfl,c+1,_,rfl,c3.symm,by omega,λl q=>?_⟩
    rcases Nat.lt_succ_iff_lt_or_eq.mp q with q | q
    ·exact hk l q
    ·subst q;rw[eA];exact Int.dvd_of_emod_eq_zero h
   ·dsimp? [bK,ls,sh,h,decide_false]
    refine⟨_,rfl,_,rfl,false,rfl,?_⟩
    simp only[Bool.false_eq_true,false_iff]
    intro g
    have:=g.2.1 c (by simpa using c1)
    rw[eA,nl] at this
    exact h (Int.emod_eq_zero_of_dvd this)
  ·rintro env ⟨c,y6,rfl,hd,hc,hk⟩
   have ec:c=Ls.length:=by
    have:=congrArg List.length hd
    rw[List.length_drop] at this
    simp at this;omega
   subst ec
   have ls:=p4 hz (by omega) (hx.bd S) (by rw[hx.1];omega)
   have ez:zip2 [.lst (Z.map eN),lI (fJ Z xs)]=M.ok (Z.map λz=>.tup [eN z,.int (dot z.1 xs%z.2.1)]):=by
    rw[cR (f:=eN) (g:=λz:LK=>PV.int (dot z.1 xs%z.2.1)) Z Z rfl (by rw[Af,fJ,List.map_map];rfl)]
    congr 1
    exact vb (λa b:LK=>PV.tup [eN a,.int (dot b.1 xs%b.2.1)]) Z
   have kw:bA (bB 0 1) none (aj lW (aj aJ (ae 0) (λ_=>M.ok (.int 2))) (ae 1)) (Z.map λz=>.tup [eN z,.int (dot z.1 xs%z.2.1)]) [none,none]=M.ok ((E_ Z xs).map PV.int):=by
    rw[E_,List.map_map]
    exact fv (p:=eN) (q:=λz:LK=>PV.int (dot z.1 xs%z.2.1)) Z λz h=>by dsimp? [t2];rfl
   have zl:Z.length<=sizeLine:=aH (by omega)
   have sh:=rF (ys:=E_ Z xs) hz l6 l1 Wl W0 (by simp[E_]) (λx hx=>by
    obtain⟨z,h,rfl⟩:=List.mem_map.mp hx
    have f:=hz z h
    have a:=f.rb;have b:=f.n2;have d:=f.n3
    have e1:=Int.emod_nonneg (dot z.1 xs) (show z.2.1≠0 by omega)
    have e2:=Int.emod_lt_of_pos (dot z.1 xs) (show 0<z.2.1 by omega)
    generalize dot z.1 xs%z.2.1=u at *
    omega)
   have wp:=ID (W:=W) (xs:=xs) hz l6 l1
   dsimp? [ls,ez,List.length_map,aq zl,kw,show PV.lst ((E_ Z xs).map PV.int)=lI (E_ Z xs) from rfl,sh]
   refine⟨_,rfl,_,rfl,?_⟩
   simp only[Bool.not_eq_true',decide_eq_false_iff_not]
   constructor
   ·intro h
    refine⟨kW,λl hl=>?_,λd=>h (Int.emod_eq_zero_of_dvd (wp.mpr d))⟩
    rw[nl]
    exact hk l (by simpa using hl)
   ·intro g h
    exact g.2.2 (wp.mp (Int.dvd_of_emod_eq_zero h))
end
theorem xC(m:Nat)(f P:dP)(A:Nat->dP):∀ k,(bj m λi=>f i*bj k λl=>P l*A l i)=bj k λl=>P l*bj m λi=>f i*A l i
 | 0=>by
  rw[bj,← iw m]
  exact dN λi _=>by rw[bj,Int.mul_zero]
 | k+1=>by
  rw[bj,← xC m f P A k,eS 1 (P k) (λi=>f i*bj k λl=>P l*A l i) (λi=>f i*A k i) _ m λi _=>?_,Int.one_mul]
  rw[bj,Int.mul_add,Int.one_mul,← Int.mul_assoc,Int.mul_comm (f i) (P k),Int.mul_assoc]
theorem EZ{n:Int}{f s F x P:dP}(hs:∀ i,i<m->n∣f i*s i)(h:∀ i,i<m->s i∣F i-x i-bj k λl=>P l*A l i):n∣(bj m λi=>f i*F i)-(bj m λi=>f i*x i)-bj k λl=>P l*bj m λi=>f i*A l i:=by
 rw[← xC]
 have e1:=eS 1 (-1) (λi=>f i*F i) (λi=>f i*x i) (λi=>f i*(F i-x i)) m λi _=>by rw[Int.mul_sub];omega
 have e2:=eS 1 (-1) (λi=>f i*(F i-x i)) (λi=>f i*bj k λl=>P l*A l i) (λi=>f i*(F i-x i-bj k λl=>P l*A l i)) m λi _=>by rw[Int.mul_sub (f i) (F i-x i)];omega
 have d:n∣bj m λi=>f i*(F i-x i-bj k λl=>P l*A l i):=m9 λi hi=>by
  obtain⟨q,hq⟩:=h i hi
  rw[hq,← Int.mul_assoc]
  exact Int.dvd_trans (hs i hi) (Int.dvd_mul_right _ _)
 rw[e2,e1] at d
 have:1*(1*(bj m λi=>f i*F i)+-1*(bj m λi=>f i*x i))+-1*(bj m λi=>f i*bj k λl=>P l*A l i)=(bj m λi=>f i*F i)-(bj m λi=>f i*x i)-(bj m λi=>f i*bj k λl=>P l*A l i):=by omega
 rw[this] at d
 exact d
section
variable{P:List Int}
theorem Ag(S:Sz sizes)(m8:Ls.length<=8)(hL:∀ l∈Ls,Kp sizes l)(hx:Kp sizes xs)(hp:cF p=some (P.map PV.int))(hP:P.length=Ls.length)(hb:Bd 200 P):i_ (iB [lI sizes,.lst (Ls.map tI),tI xs,p]) λq=>∃ F:List Int,q=tI F/\Kp sizes F/\∀ i,i<sizes.length->vf sizes i∣vf F i-vf xs i-bj Ls.length λl=>vf P l*AA Ls l i:=by
 have l6:=S.h6
 unfold iB iC
 dsimp? [cR (p:=p) (q:=.lst (Ls.map tI)) (f:=PV.int) (g:=tI) P Ls hp rfl]
 refine i_.loop (xs:=P.zip Ls) (inj:=λz=>.tup [.int z.1,tI z.2]) (λzs env=>∃ (c:Nat) (F:List Int) (y5 y6:Option SV),env=[some (.sh (lI sizes)),some (.sh (.lst (Ls.map tI))),some (.sh (tI xs)),some (.sh p),some (.sh (tI F)),y5,y6]/\zs=(P.zip Ls).drop c/\c<=Ls.length/\Kp sizes F/\∀ i,i<sizes.length->vf sizes i∣vf F i-vf xs i-bj c λl=>vf P l*AA Ls l i) ⟨0,xs,_,_,rfl,rfl,by omega,hx,λi hi=>⟨0,by simp[bj]⟩⟩ ?_ ?_
 ·rintro a r env ⟨c,F,y5,y6,rfl,hz,hc,hF,Fd⟩
  obtain⟨c1,c2,c3⟩:=drop_cons hz.symm
  have SW:c<Ls.length:=by rw[List.length_zip] at c1;omega
  rw[List.getElem?_eq_getElem c1] at c2
  have c2:=Option.some.inj c2
  rw[List.getElem_zip] at c2
  have eA:Ls.getD c []=a.2:=by rw[List.getD_eq_getElem?_getD,List.getElem?_eq_getElem SW,Option.getD_some,← c2]
  have et:vf P c=a.1:=by rw[aP (by omega),← c2]
  have eV:AA Ls c=vf a.2:=by unfold AA;rw[eA]
  have ka:=hL a.2 (by rw[← c2];exact List.getElem_mem _)
  have ab:=ka.bd S
  have zb:a.1.natAbs<2^200:=hb a.1 (by rw[← c2];exact List.getElem_mem _)
  obtain⟨k1,k2,k3⟩:=yw (t:=a.1) S hF.1 ka.1
  have key:bA (oZ 0 1 2) none (aj bW (aj dr (ae 0) (aj cj (ae 3) (ae 1))) (ae 2)) ((F.zip (a.2.zip sizes)).map λz=>.tup [.int z.1,.int z.2.1,.int z.2.2]) [none,none,none,some (.sh (.int a.1))]=M.ok ((si sizes F a.2 a.1).map PV.int):=by
   rw[si,List.map_map]
   refine BI (p:=λz:Int×Int×Int=>PV.int z.1) (q:=λz=>PV.int z.2.1) (s:=λz=>PV.int z.2.2) (F.zip (a.2.zip sizes)) λz hz=>?_
   obtain⟨m1,m2⟩:=List.of_mem_zip (a:=z.1) (b:=z.2) hz
   obtain⟨m3,m4⟩:=List.of_mem_zip (a:=z.2.1) (b:=z.2.2) m2
   have:=S.hx _ m4
   dsimp? [bq (i:=a.1) (j:=z.2.1) (k:=200) (l:=200) zb (ab _ m3),aM (i:=z.1+a.1*z.2.1) (j:=z.2.2) (by omega)]
   rfl
  have z1:(F.zip (a.2.zip sizes)).length<=sizeLine:=by simp only[List.length_zip];exact aH (by omega)
  dsimp? [bB,xh (p:=tI F) (q:=tI a.2) (r:=lI sizes) F a.2 sizes rfl rfl rfl,List.length_map,aq z1,key]
  refine⟨_,rfl,c+1,_,_,_,rfl,c3.symm,by omega,⟨k1,k2⟩,λi hi=>?_⟩
  obtain⟨x,hx⟩:=Fd i hi
  obtain⟨y,hy⟩:=k3 i hi
  exact⟨x+y,by rw[bj,et,eV,Int.mul_add,← hx,← hy];omega⟩
 ·rintro env ⟨c,F,y5,y6,rfl,hz,hc,hF,Fd⟩
  have ec:c=Ls.length:=by
   have:=congrArg List.length hz
   rw[List.length_drop,List.length_zip] at this
   simp at this;omega
  subst ec
  dsimp? []
  exact⟨_,rfl,F,rfl,hF,Fd⟩
theorem zW{F:List Int}(f:nu sizes z)(hL:∀ l∈Ls,Kp sizes l)(hx:Kp sizes xs)(hF:Kp sizes F)(h:∀ i,i<sizes.length->vf sizes i∣vf F i-vf xs i-bj Ls.length λl=>vf P l*AA Ls l i):z.2.1∣dot z.1 F-dot z.1 xs-bj Ls.length λl=>vf P l*dot z.1 (Ls.getD l []):=by
 have e:(bj Ls.length λl=>vf P l*dot z.1 (Ls.getD l []))=bj Ls.length λl=>vf P l*bj sizes.length λi=>vf z.1 i*AA Ls l i:=dN λl hl=>by
  rw[uO f.len (hL _ (by rw[List.getD_eq_getElem?_getD,List.getElem?_eq_getElem hl,Option.getD_some];exact List.getElem_mem _)).1]
  rfl
 rw[uO f.len hF.1,uO f.len hx.1,e]
 exact EZ f.dv h
theorem K8{l:Nat}(hk:k<Z.length)(hl:l<Ls.length):AA (Ls.map (fJ Z)) l k=dot Z[k].1 (Ls.getD l [])%Z[k].2.1:=by
 unfold AA
 rw[List.getD_eq_getElem?_getD,List.getElem?_map,List.getElem?_eq_getElem hl,Option.map_some,Option.getD_some,fJ,eJ _ _ hk,List.getD_eq_getElem?_getD,List.getElem?_eq_getElem hl,Option.getD_some]
theorem E8{n:Int}{P u:dP}:n∣(bj m λl=>P l*(u l%n))-bj m λl=>P l*u l:=by
 have e:=eS 1 (-1) (λl=>P l*(u l%n)) (λl=>P l*u l) (λl=>P l*(u l%n-u l)) m λl _=>by rw[Int.mul_sub];omega
 have d:n∣bj m λl=>P l*(u l%n-u l):=m9 λl _=>Int.dvd_trans (cG _ _) (Int.dvd_mul_left _ _)
 rw[e] at d
 rwa [show ∀ a b:Int,1*a+-1*b=a-b by intros;omega] at d
theorem Eo(hk:k<Z.length):Z[k].2.1∣(bj Ls.length λl=>vf P l*AA (Ls.map (fJ Z)) l k)-bj Ls.length λl=>vf P l*dot Z[k].1 (Ls.getD l []):=by
 rw[dN (g:=λl=>vf P l*(dot Z[k].1 (Ls.getD l [])%Z[k].2.1)) λl hl=>by rw[K8 hk hl]]
 exact E8
theorem E7{F:List Int}(hz:∀ z∈Z,nu sizes z)(hL:∀ l∈Ls,Kp sizes l)(hx:Kp sizes xs)(hF:Kp sizes F)(h:∀ i,i<sizes.length->vf sizes i∣vf F i-vf xs i-bj Ls.length λl=>vf P l*AA Ls l i)(led:Led Z.length (vf (cx Z)) Ls.length (AA (Ls.map (fJ Z))) (vf (qY Z xs)) (vf P)):fJ Z F=FO Z:=by
 unfold fJ FO
 refine List.map_congr_left λz Ri=>?_
 obtain⟨k,hk,rfl⟩:=List.mem_iff_getElem.mp Ri
 have f:=hz _ Ri
 have d1:=zW (P:=P) f hL hx hF h
 have d2:=led k hk
 rw[cx,qY,eJ _ _ hk,eJ _ _ hk] at d2
 have d3:=Eo (Ls:=Ls) (P:=P) hk
 have d4:Z[k].2.1∣(Z[k].2.2-dot Z[k].1 xs%Z[k].2.1)%Z[k].2.1-(Z[k].2.2-dot Z[k].1 xs%Z[k].2.1):=cG _ _
 have d5:Z[k].2.1∣dot Z[k].1 xs%Z[k].2.1-dot Z[k].1 xs:=cG _ _
 refine Int.emod_eq_emod_iff_emod_sub_eq_zero.mpr (Int.emod_eq_zero_of_dvd ?_)
 generalize (Z[k].2.2-dot Z[k].1 xs%Z[k].2.1)%Z[k].2.1=w at *
 generalize dot Z[k].1 xs%Z[k].2.1=dx at *
 generalize (bj Ls.length λl=>vf P l*AA (Ls.map (fJ Z)) l k)=s1 at *
 generalize (bj Ls.length λl=>vf P l*dot Z[k].1 (Ls.getD l []))=s2 at *
 have:=Int.dvd_sub (Int.dvd_sub (Int.dvd_sub (Int.dvd_add d1 d4) d2) d3) d5
 rwa [show dot Z[k].1 F-dot Z[k].1 xs-s2+(w-(Z[k].2.2-dx))-(w-s1)-(s1-s2)-(dx-dot Z[k].1 xs)=dot Z[k].1 F-Z[k].2.2 by omega] at this
theorem Dg{F:List Int}(hz:∀ z∈Z,nu sizes z)(hL:∀ l∈Ls,Kp sizes l)(hx:Kp sizes xs)(hF:Kp sizes F)(h:∀ i,i<sizes.length->vf sizes i∣vf F i-vf xs i-bj Ls.length λl=>vf P l*AA Ls l i)(m:fJ Z xs=FO Z):Led Z.length (vf (cx Z)) Ls.length (AA (Ls.map (fJ Z))) (vf (qY Z F)) (λl=>- vf P l):=λk hk=>by
 have f:=hz _ (List.getElem_mem hk)
 have d1:=zW (P:=P) f hL hx hF h
 have e:dot Z[k].1 xs%Z[k].2.1=Z[k].2.2%Z[k].2.1:=by
  have:=congrArg (λa=>vf a k) m
  simp only[fJ,FO] at this
  rwa [eJ _ _ hk,eJ _ _ hk] at this
 have d2:=Int.dvd_of_emod_eq_zero (Int.emod_eq_emod_iff_emod_sub_eq_zero.mp e)
 have d3:=Eo (Ls:=Ls) (P:=P) hk
 have d4:Z[k].2.1∣(Z[k].2.2-dot Z[k].1 F%Z[k].2.1)%Z[k].2.1-(Z[k].2.2-dot Z[k].1 F%Z[k].2.1):=cG _ _
 have d5:Z[k].2.1∣dot Z[k].1 F%Z[k].2.1-dot Z[k].1 F:=cG _ _
 have en:(bj Ls.length λl=>-vf P l*AA (Ls.map (fJ Z)) l k)=-(bj Ls.length λl=>vf P l*AA (Ls.map (fJ Z)) l k):=by
  have:=eS (-1) 0 (λl=>vf P l*AA (Ls.map (fJ Z)) l k) (λ_=>0) (λl=>-vf P l*AA (Ls.map (fJ Z)) l k) Ls.length λl _=>by rw[Int.neg_mul];omega
  rw[this];omega
 rw[cx,qY,eJ _ _ hk,eJ _ _ hk,en]
 generalize (Z[k].2.2-dot Z[k].1 F%Z[k].2.1)%Z[k].2.1=w at *
 generalize dot Z[k].1 F%Z[k].2.1=dx at *
 generalize (bj Ls.length λl=>vf P l*AA (Ls.map (fJ Z)) l k)=s1 at *
 generalize (bj Ls.length λl=>vf P l*dot Z[k].1 (Ls.getD l []))=s2 at *
 have:=Int.dvd_sub (Int.dvd_sub (Int.dvd_sub (Int.dvd_add d3 d4) d5) d1) d2
 rwa [show s1-s2+(w-(Z[k].2.2-dx))-(dx-dot Z[k].1 F)-(dot Z[k].1 F-dot Z[k].1 xs-s2)-(dot Z[k].1 xs-Z[k].2.2)=w - -s1 by omega] at this
end
theorem OW:PyData.strOk (Str.ofString "shares")=true:=by unfold PyData.strOk;rw[← Array.all_toList];rfl
theorem Fu(x:Str)(h:PyData.strOk x=true)(P:List Int):nX (.tup [.str x,tI P]) (.tup [.str x,tI P])=M.ok (.bl false):=by
 simp only[nX,nA,dat,my,tI,jM,Option.map_some,Option.bind_some,El]
 rw[aq (by simp[SeqAt.shaped,PyData.canLay0,PyData.canLayAll0,PyData.depth,PyData.depthAll,e7,iM,SeqAt.noMix,SeqAt.noMixAll,L2.noMix_ints,h])]
 unfold Spec.same
 simp[Spec.sameAll,Spec.same,L2.same_ints]
 rfl
theorem eq_str(x y:Str)(hx:PyData.strOk x=true)(hy:PyData.strOk y=true):jP (.str x) (.str y)=M.ok (.bl (x==y)):=by
 simp only[jP,nA,dat,El]
 rw[aq (by simp[SeqAt.shaped,PyData.canLay0,PyData.depth,SeqAt.noMix,hx,hy])]
 unfold Spec.same
 rfl
theorem Ox:PyData.strOk (Str.ofString "open")=true:=by unfold PyData.strOk;rw[← Array.all_toList];rfl
theorem My:PyData.strOk (Str.ofString "shut")=true:=by unfold PyData.strOk;rw[← Array.all_toList];rfl
theorem OG:PyData.strOk (Str.ofString "none")=true:=by unfold PyData.strOk;rw[← Array.all_toList];rfl
theorem q1:jP (.str "open") (.str "none")=M.ok (.bl false):=(eq_str _ _ Ox OG).trans (by rw[show (Str.ofString "open" == Str.ofString "none")=false by decide])
theorem q2:jP (.str "shut") (.str "none")=M.ok (.bl false):=(eq_str _ _ My OG).trans (by rw[show (Str.ofString "shut" == Str.ofString "none")=false by decide])
theorem q3:jP (.str "open") (.str "shut")=M.ok (.bl false):=(eq_str _ _ Ox My).trans (by rw[show (Str.ofString "open" == Str.ofString "shut")=false by decide])
theorem q4:jP (.str "shut") (.str "shut")=M.ok (.bl true):=(eq_str _ _ My My).trans (by rw[show (Str.ofString "shut" == Str.ofString "shut")=true by decide])
section
variable{P:List Int}
theorem FV:xU (λ_=>false) (m_ jZ jT) (m_ qa qr) (way P)=M.ok (.bl true):=by
 show eM ((m_ jZ jT bT).map .bl)=_
 rw[show m_ jZ jT bT=some true by decide];rfl
theorem BO:xU (λ_=>false) (m_ jZ jT) (m_ qa qr) (lZ p)=M.ok (.bl false):=by
 show eM ((m_ jZ jT aT).map .bl)=_
 rw[show m_ jZ jT aT=some false by decide];rfl
theorem Bw:xU (λ_=>false) (m_ lS lK) (m_ pK pL) (lZ p)=M.ok (.bl true):=by
 show eM ((m_ lS lK aT).map .bl)=_
 rw[show m_ lS lK aT=some true by decide];rfl
theorem OS:kT [(bT,dE),(bL,gO),(aT,cX)] "words" (way P) (M.ok [])=M.ok (.tup [.str "pulls", tI P]):=(jI (fl:=GF P) (s1:=dE) rfl rfl).trans (by
 show dE [way P]=_
 unfold dE i9
 dsimp? [cW,OI])
theorem OU:kT [(bT,dE),(bL,gO),(aT,cX)] "words" (lZ p) (M.ok [])=M.ok (.tup [.str "shares", p]):=(jI (fl:=[("shares", p)]) (s1:=cX) rfl rfl).trans (by
 show cX [lZ p]=_
 unfold cX h_
 dsimp? [cW,MP])
theorem G8:oU aT "bars" cy (lZ p) x=x.bind λps=>cy (lZ p::ps):=ix (fl:=[("shares", p)]) rfl
theorem tP(S:Sz sizes)(m8:Ls.length<=8)(hL:∀ l∈Ls,Kp sizes l)(l6:Z.length<=6)(hz:∀ z∈Z,nu sizes z)(hx:Kp sizes xs)(e:cO [dI sizes Ls,tI xs,.lst (Z.map lO)]=M.ok (way P))(hP:P.length=Ls.length)(hb:Bd 200 P)(led:Led Z.length (vf (cx Z)) Ls.length (AA (Ls.map (fJ Z))) (vf (qY Z xs)) (vf P)):cH [dI sizes Ls,lI sizes,.lst (Ls.map tI),tI xs,.lst (Z.map eN)]=M.ok (.str "open"):=by
 have s6:=S.h6
 obtain⟨_,el,F,rfl,hF,Fd⟩:=Ag (p:=tI P) S m8 hL hx rfl hP hb
 have mt:=Ah hz (by omega) (hF.bd S) (by rw[hF.1];omega)
 rw[decide_eq_true (E7 hz hL hx hF Fd led)] at mt
 have zl:Z.length<=sizeLine:=aH (by omega)
 have i1:aJ (.tup [.str "pulls", tI P]) (.int 1)=M.ok (tI P):=bD (p:=.tup [.str "pulls", tI P]) (j:=1) rfl rfl
 have i2:aJ (.lst [.str "none", .str "open"]) (.int 1)=M.ok (.str "open"):=bD (p:=.lst [.str "none", .str "open"]) (j:=1) rfl rfl
 unfold cH fb
 dsimp? [List.length_map,aq zl,p5,e,FV,lN,OS,i1,hP,decide_true,Ou,el,mt,show l8 [.bl true]=M.ok (.int 1) from rfl,i2]
theorem yv(S:Sz sizes)(m8:Ls.length<=8)(hL:∀ l∈Ls,Kp sizes l)(l6:Z.length<=6)(l1:1<=Z.length)(hz:∀ z∈Z,nu sizes z)(hx:Kp sizes xs)(K:Lv ns sizes Ls Z T idle)(e:cO [dI sizes Ls,tI xs,.lst (Z.map lO)]=M.ok (lZ (tI W)))(w:Ws (cx Z) T c W)(nd:¬ R (cx Z)∣fS Z.length (vf (cx Z)) (R (cx Z)) (vf W) (vf (qY Z xs))):cH [dI sizes Ls,lI sizes,.lst (Ls.map tI),tI xs,.lst (Z.map eN)]=M.ok (.str "shut"):=by
 have nl:(cx Z).length=Z.length:=by simp[cx]
 have g:Good Ls Z xs W:=⟨⟨w.len,w.kz⟩,λl hl=>w.kill K.Q (K.Q.st.cl l (by omega)),nd⟩
 obtain⟨b1,e1,i1⟩:=zF (W:=W) S l6 l1 hz hx K (by rw[w.len];omega)
 obtain⟨_,e2,b2,rfl,i2⟩:=wJ (W:=W) S l6 l1 hz hx hL (by rw[w.len,nl])
 obtain rfl:=i1.mpr g
 obtain rfl:=i2.mpr g
 have zl:Z.length<=sizeLine:=aH (by omega)
 have j2:aJ (.lst [.str "none", .str "shut"]) (.int 1)=M.ok (.str "shut"):=bD (p:=.lst [.str "none", .str "shut"]) (j:=1) rfl rfl
 unfold cH fb
 dsimp? [List.length_map,aq zl,p5,e,BO,Bw,lN,O8,OU,cW,MP,Fu _ OW,e2,bR,G8,e1,show l8 [.bl true]=M.ok (.int 1) from rfl,j2]
theorem BJ(Q:yT ns sizes raw Ls T idle)(l6:Z.length<=6)(hz:∀ z∈Z,nu sizes z)(hx:Kp sizes xs):cH [dI sizes Ls,lI sizes,.lst (Ls.map tI),tI xs,.lst (Z.map eN)]=M.ok (.str "open")\/(cH [dI sizes Ls,lI sizes,.lst (Ls.map tI),tI xs,.lst (Z.map eN)]=M.ok (.str "shut")/\∀ P:dP,¬ Led Z.length (vf (cx Z)) Ls.length (AA (Ls.map (fJ Z))) (vf (qY Z xs)) P):=by
 have S:=Q.S
 have m8:=Q.m8
 have hL:∀ l∈Ls,Kp sizes l:=λl h=>uS Q h
 by_cases l0:Z.length=0
 ·obtain rfl:=List.eq_nil_of_length_eq_zero l0
  refine .inl (tP (P:=List.replicate Ls.length 0) S m8 hL l6 hz hx (AB S m8 hx) (by simp) (λx h=>by rw[List.eq_of_mem_replicate h];decide) λk hk=>by simp at hk)
 ·have l1:1<=Z.length:=by omega
  have nl:(cx Z).length=Z.length:=by simp[cx]
  obtain⟨T',Rq,K⟩:=Lv.get Q hz l1 l6
  rcases Ga S l6 l1 hz hx K with ⟨P,e,hP,hb,led⟩ | ⟨ng,c,W,w,e,nd⟩
  ·exact .inl (tP S m8 hL l6 hz hx e hP hb led)
  ·refine .inr ⟨yv S m8 hL l6 l1 hz hx K e w nd,λP led=>ng ?_⟩
   have eL:(Ls.map (fJ Z)).length=Ls.length:=by simp
   have:=LB (sizes:=cx Z) (Ls:=Ls.map (fJ Z)) (P:=P) K.Q.st (by omega) (by rw[nl,eL];exact led)
   rwa [nl] at this
theorem wC(x:Str):bu [dI sizes Ls,.str x]=M.ok (.bl false):=by
 unfold bu cK
 dsimp? [bR,Fy]
end
theorem Lg(xs:List Int)(k:Nat):Jn (tI xs) none (some (k:Int))=M.ok (tI (xs.take k)):=by
 show M.ok (PV.tup (ni (xs.map PV.int) none (some (k:Int))))=_
 rw[ni,HT.wg,HT.pV,List.drop_zero,Nat.sub_zero,tI,List.length_map,List.map_take,← List.take_take,List.take_of_length_le (l:=xs.map PV.int) (by simp)]
theorem zY(xs:List Int)(k:Nat):Jn (tI xs) (some ((k:Int)+1)) none=M.ok (tI (xs.drop (k+1))):=by
 show M.ok (PV.tup (ni (xs.map PV.int) (some ((k:Int)+1)) none))=_
 rw[show ((k:Int)+1)=((k+1:Nat):Int) by omega,ni,HT.wg,HT.pV,tI,List.length_map,List.map_drop]
 rcases Nat.le_total (k+1) xs.length with h | h
 ·rw[Nat.min_eq_left h,List.take_of_length_le (by rw[List.length_drop,List.length_map];omega)]
 ·rw[Nat.min_eq_right h,List.drop_of_length_le (by rw[List.length_map];omega),List.drop_of_length_le (by rw[List.length_map];omega)];simp
theorem LX(xs ys:List Int)(h:xs.length+ys.length<=1000):dr (tI xs) (tI ys)=M.ok (tI (xs++ys)):=by
 rw[tI,tI,dr,aq (aH (by simp;omega)),tI,List.map_append]
theorem Jh(xs:List Int)(k:Nat)(x:Int)(h:k<xs.length):xs.take k++[x]++xs.drop (k+1)=xs.set k x:=by
 rw[List.set_eq_take_append_cons_drop,if_pos h];simp
theorem AE(xs:List Int)(h:xs.length<=100):dr (.lst [.int 0]) (.lst (xs.map PV.int))=M.ok (.lst ((0::xs).map PV.int)):=by
 rw[dr,aq (aH (by simp;omega))];rfl
section
variable{P:List Int}
theorem yS(h:xU (λa=>a == "tuple") nI nI p=M.ok (.bl false)){q r:PV}:bQ [.lst (Z.map eN),p,q,r]=M.ok (.bl false):=by
 unfold bQ dD
 dsimp? [h]
theorem JM(h:¬ (W.length:Int)=(Z.length:Int)){q r:PV}:bQ [.lst (Z.map eN),tI W,q,r]=M.ok (.bl false):=by
 unfold bQ dD
 dsimp? [List.length_map,h,decide_false]
theorem Iz(l1:1<=Z.length){q r:PV}:bQ [.lst (Z.map eN),.tup (List.replicate Z.length (.bl true)),q,r]=M.ok (.bl false):=by
 have ez:zip2 [.tup (List.replicate Z.length (.bl true)),.lst (Z.map eN)]=M.ok (Z.map λz=>.tup [.bl true,eN z]):=by
  rw[cR (p:=.tup (List.replicate Z.length (.bl true))) (q:=.lst (Z.map eN)) (f:=λ_:LK=>PV.bl true) (g:=eN) Z Z (by rw[xp,List.map_const']) rfl]
  congr 1
  exact vb (λa b:LK=>PV.tup [.bl true,eN b]) Z
 refine i_.eq ?_
 unfold bQ dD
 dsimp? [List.length_map,List.length_replicate,decide_true,ez]
 refine i_.C5 (xs:=Z) (inj:=λz=>.tup [.bl true,eN z]) (λzs env=>zs.length=Z.length/\∃ y4 y5,env=[some (.sh (.lst (Z.map eN))),some (.sh (.tup (List.replicate Z.length (.bl true)))),some (.sh q),some (.sh r),y4,y5,none,none]) ⟨rfl,_,_,rfl⟩ ?_ ?_
 ·rintro a r env ⟨_,y4,y5,rfl⟩
  dsimp? [bB]
  exact⟨_,rfl,_,rfl,rfl⟩
 ·rintro env ⟨h,_⟩
  simp at h
  omega
theorem ED(c:Int)(b:Nat)(hb:b<=90):∃ m:Nat->Int,∀ k:Nat,k<=8->bI [.int c,.int ((b:Int)+(k:Int))]=M.ok (.int (m k))/\0<=m k/\m k<2147483579 :=
 Classical.axiomOfChoice (r:=λ(k:Nat) (x:Int)=>k<=8->bI [.int c,.int ((b:Int)+(k:Int))]=M.ok (.int x)/\0<=x/\x<2147483579) λk=>by
  by_cases h:k<=8
  ·obtain⟨x,e,h1⟩:=uU c (b+k) (by omega)
   rw[show ((b+k:Nat):Int)=(b:Int)+(k:Int) by omega] at e
   exact⟨x,λ_=>⟨e,h1⟩⟩
  ·exact⟨0,λz=>(h z).elim⟩
theorem tJ(Q:yT ns sizes raw Ls T idle)(l6:Z.length<=6)(l1:1<=Z.length)(hz:∀ z∈Z,nu sizes z)(hx:Kp sizes xs)(c:Int):gi [.int c,dI sizes Ls,.lst (Ls.map tI),tI xs,.lst (Z.map eN)]=M.ok (.bl true):=by
 have S:=Q.S
 have hL:∀ l∈Ls,Kp sizes l:=λl h=>uS Q h
 have nl:(cx Z).length=Z.length:=by simp[cx]
 obtain⟨T',Rq,K⟩:=Lv.get Q hz l1 l6
 have S':=K.Q.S
 obtain⟨m,hm⟩:=ED c 80 (by decide)
 simp only[show ((80:Nat):Int)=80 from rfl] at hm
 obtain⟨W,hW⟩:∃ W:List Int,W=Z.zipIdx.map λa=>m a.2%a.1.2.1:=⟨_,rfl⟩
 have Wl:W.length=Z.length:=by simp[hW]
 have k1:bA (bB 0 1) none (aj bW (ai bI (aa (ae 2) (aa (aj dr (λ_=>M.ok (.int 80)) (ae 0)) ak))) (aj aJ (ae 1) (λ_=>M.ok (.int 1)))) (Z.zipIdx.map λa=>.tup [.int (a.2:Int),eN a.1]) [none,none,some (.sh (.int c))]=M.ok (W.map PV.int):=by
  rw[hW,List.map_map]
  refine fv (p:=λa:LK×Nat=>PV.int (a.2:Int)) (q:=λa=>eN a.1) Z.zipIdx λa ha=>?_
  have h2:=List.snd_lt_of_mem_zipIdx ha
  have f:=(hz _ (List.fst_mem_of_mem_zipIdx ha)).n2
  dsimp? [(hm a.2 (by omega)).1,t1,aM (i:=m a.2) (j:=a.1.2.1) (by omega)]
  rfl
 obtain⟨k,hk⟩:=Int.eq_ofNat_of_zero_le (Int.emod_nonneg c (show (Z.length:Int)≠0 by omega))
 have Sb:k<Z.length:=by have:=Int.emod_lt_of_pos c (show 0<(Z.length:Int) by omega);omega
 have ek:bW (.int c) (.int (Z.length:Int))=M.ok (.int (k:Int)):=by rw[aM (by omega),hk]
 have ik:aJ (.lst (Z.map eN)) (.int (k:Int))=M.ok (eN Z[k]):=bD (p:=.lst (Z.map eN)) rfl (by rw[List.getElem?_map,List.getElem?_eq_getElem Sb];rfl)
 have a1:dr (tI (W.take k)) (.tup [.int Z[k].2.1])=M.ok (tI (W.take k++[Z[k].2.1])):=LX (W.take k) [Z[k].2.1] (by simp;omega)
 have a2:dr (tI (W.take k++[Z[k].2.1])) (tI (W.drop (k+1)))=M.ok (tI (W.set k Z[k].2.1)):=by
  rw[LX _ _ (by simp;omega),Jh _ _ _ (by omega)]
 have good:∀ V:List Int,V.length=Z.length->∃ b:Bool,cy [lZ (tI V),dI sizes Ls,tI xs,.lst (Z.map lO)]=M.ok (.bl b)/\bQ [.lst (Z.map eN),tI V,.lst (Ls.map tI),tI xs]=M.ok (.bl b):=λV hV=>by
  obtain⟨b1,e1,i1⟩:=zF (W:=V) S l6 l1 hz hx K (by omega)
  obtain⟨_,e2,b2,rfl,i2⟩:=wJ (W:=V) S l6 l1 hz hx hL hV
  have:b1=b2:=Bool.eq_iff_iff.mpr (i1.trans i2.symm)
  exact⟨b1,e1,by rw[e2,this]⟩
 have all:∀ p∈[tI W,tI (List.replicate Z.length 0),tI (W.set k Z[k].2.1),tI (W.drop 1),PV.lst (W.map PV.int),.tup (List.replicate Z.length (.bl true)),.str "shares", .da],∃ b:Bool,cy [lZ p,dI sizes Ls,tI xs,.lst (Z.map lO)]=M.ok (.bl b)/\bQ [.lst (Z.map eN),p,.lst (Ls.map tI),tI xs]=M.ok (.bl b):=by
  simp only[List.mem_cons,List.not_mem_nil,or_false]
  rintro p (rfl | rfl | rfl | rfl | rfl | rfl | rfl | rfl)
  ·exact good W Wl
  ·exact good _ (by simp)
  ·exact good _ (by simpa using Wl)
  ·have hl:(W.drop 1).length≠Z.length:=by simp;omega
   refine⟨false,lr S l6 l1 hz hx K (IL S' (by simp;omega) ?_),JM (by omega)⟩
   cases hb:yH (cx Z) (W.drop 1) with
   | false=>rfl
   | true=>exact(hl (by rw[(pP.mp hb).len,nl])).elim
  ·exact⟨false,lr S l6 l1 hz hx K (ES _),yS rfl⟩
  ·refine⟨false,lr S l6 l1 hz hx K ?_,Iz l1⟩
   exact Gk S' Z.length (by omega) true l1
  ·exact⟨false,lr S l6 l1 hz hx K (wC _),yS rfl⟩
  ·exact⟨false,lr S l6 l1 hz hx K F4,yS rfl⟩
 have zi:Z.zipIdx.length<=sizeLine:=by rw[List.length_zipIdx];exact aH (by omega)
 have zl:Z.length<=sizeLine:=aH (by omega)
 have e8:∀ a b c d e g h i:PV,lstK [a,b,c,d,e,g,h,i]=M.ok (.lst [a,b,c,d,e,g,h,i]):=λ_ _ _ _ _ _ _ _=>aq (aH (show 8<=1000 by decide))
 have cf0:=zY W 0
 rw[show ((0:Nat):Int)+1=1 from rfl] at cf0
 refine i_.eq ?_
 unfold gi gC
 dsimp? [nO,List.length_map,aq zi,k1,show PV.tup (W.map PV.int)=tI W from rfl,ek,kX,DY,jq,Iy,Lg,ik,t1,a1,zY,a2,cf0,xE Z.length (by omega),mul_one (.bl true) Z.length (by omega),e8]
 generalize [tI W,tI (List.replicate Z.length 0),tI (W.set k Z[k].2.1),tI (W.drop 1),PV.lst (W.map PV.int),.tup (List.replicate Z.length (.bl true)),.str "shares", .da]=things at *
 show i_ (M.bind (ku _ _ things _) _) _
 rw[← List.map_id things]
 refine i_.loop (xs:=things) (inj:=id) (λzs env=>(∀ z∈zs,z∈things)/\∃ y8 y9,env=[some (.sh (.int c)),some (.sh (dI sizes Ls)),some (.sh (.lst (Ls.map tI))),some (.sh (tI xs)),some (.sh (.lst (Z.map eN))),some (.sh (tI W)),some (.sh (.int (k:Int))),some (.sh (tI (W.set k Z[k].2.1))),y8,y9]) ⟨λz h=>h,_,_,rfl⟩ ?_ ?_
 ·rintro a r env ⟨Ri,y8,y9,rfl⟩
  obtain⟨b,e1,e2⟩:=all a (Ri a List.mem_cons_self)
  dsimp? [bK,id_eq,Aa,List.length_map,aq zl,p5,bR,G8,e1,e2,decide_true]
  exact⟨_,rfl,λz h=>Ri z (List.mem_cons_of_mem _ h),_,_,rfl⟩
 ·rintro env ⟨_,y8,y9,rfl⟩
  exact⟨_,rfl,rfl⟩
end
theorem F0{t:af->M Bool}{f:af->M PV}{inj h:α->PV}{b:α->Bool}{rest:af}{x0:Option SV}(xs:List α)(Ht:∀ a∈xs,t (some (.sh (inj a))::rest)=M.ok (b a))(H:∀ a∈xs,f (some (.sh (inj a))::rest)=M.ok (h a)):bA (bK 0) (some t) f (xs.map inj) (x0::rest)=M.ok ((xs.filter b).map h):=by
 induction xs generalizing x0 with
 | nil=>rfl
 | cons a r ih =>
  have i:=ih (x0:=some (.sh (inj a))) (λc hc=>Ht c (List.mem_cons_of_mem _ hc)) λc hc=>H c (List.mem_cons_of_mem _ hc)
  rw[List.map_cons,bA]
  show M.bind (M.ok ((x0::rest).set 0 (some (.sh (inj a))))) _=_
  rw[M.aV,List.set_cons_zero]
  show M.bind (t _) _=_
  rw[Ht a List.mem_cons_self,M.aV]
  cases e:b a with
  | true=>rw[if_pos rfl,H a List.mem_cons_self,M.aV,i,List.filter_cons_of_pos e];rfl
  | false=>rw[if_neg (by simp),i,List.filter_cons_of_neg (by simp[e])]
theorem z6{x:Int}:vf (xs++[x]) i=if i<xs.length then vf xs i else if i=xs.length then x else vf (xs++[x]) i:=by
 split
 ·rename_i h
  rw[aP (by simp;omega),aP h,List.getElem_append_left h]
 ·split
  ·rename_i h;subst h
   rw[aP (by simp),List.getElem_append_right (by omega)];simp
  ·rfl
theorem FA(S:Sz sizes){tg:List Int}(ht:Kp sizes tg)(c:Int):∃ z:LK,eB [.int c,lI sizes,tI tg]=M.ok (eN z)/\nu sizes z:=by
 suffices h:i_ (eB [.int c,lI sizes,tI tg]) λp=>∃ z:LK,p=eN z/\nu sizes z by
  obtain⟨_,e,z,rfl,f⟩:=h
  exact⟨z,e,f⟩
 have l6:=S.h6
 have l1:=S.h1
 obtain⟨k,hk⟩:=Int.eq_ofNat_of_zero_le (Int.emod_nonneg c (show (sizes.length:Int)≠0 by omega))
 have Sb:k<sizes.length:=by have:=Int.emod_lt_of_pos c (show 0<(sizes.length:Int) by omega);omega
 have ek:bW (.int c) (.int (sizes.length:Int))=M.ok (.int (k:Int)):=by rw[aM (by omega),hk]
 have ik:aJ (lI sizes) (.int (k:Int))=M.ok (.int sizes[k]):=bD (p:=lI sizes) rfl (by rw[List.getElem?_map,List.getElem?_eq_getElem Sb];rfl)
 have sk:=S.hx _ (List.getElem_mem Sb)
 obtain⟨s,hs⟩:∃ s,s=sizes[k]:=⟨_,rfl⟩
 rw[← hs] at ik sk
 obtain⟨w,hw⟩:=Int.eq_ofNat_of_zero_le (show 0<=s-2 by omega)
 have key:=F0 (t:=dz (aj jP (aj bW (ae 1) (ae 0)) (λ_=>M.ok (.int 0)))) (f:=ae 0) (inj:=λ(i:Nat)=>PV.int (2+(i:Int))) (h:=λ(i:Nat)=>PV.int (2+(i:Int))) (b:=λ(i:Nat)=>decide (s%(2+(i:Int))=0)) (rest:=[some (.sh (.int s))]) (x0:=none) (List.range (s+1-2).toNat) (λi _=>by dsimp? [aM (i:=s) (j:=2+(i:Int)) (by omega)]) λi _=>rfl
 obtain⟨D,hD⟩:∃ D,D=(List.range (s+1-2).toNat).filter λ(i:Nat)=>decide (s%(2+(i:Int))=0):=⟨_,rfl⟩
 rw[← hD] at key
 have wD:w∈D:=by
  rw[hD,List.mem_filter]
  refine⟨List.mem_range.mpr (by omega),?_⟩
  rw[show 2+(w:Int)=s by omega,decide_eq_true (Int.emod_self)]
 have d1:0<D.length:=List.length_pos_of_mem wD
 have dl:D.length<=360:=by
  rw[hD]
  refine Nat.le_trans (List.length_filter_le _ _) ?_
  rw[List.length_range];omega
 obtain⟨j,hj⟩:=Int.eq_ofNat_of_zero_le (Int.emod_nonneg (c/6) (show (D.length:Int)≠0 by omega))
 have hj':j<D.length:=by have:=Int.emod_lt_of_pos (c/6) (show 0<(D.length:Int) by omega);omega
 have ej:bW (.int (c/6)) (.int (D.length:Int))=M.ok (.int (j:Int)):=by rw[aM (by omega),hj]
 have ij:aJ (.lst (D.map λ(i:Nat)=>PV.int (2+(i:Int)))) (.int (j:Int))=M.ok (.int (2+(D[j]:Int))):=bD (p:=.lst (D.map λ(i:Nat)=>PV.int (2+(i:Int)))) rfl (by rw[List.getElem?_map,List.getElem?_eq_getElem hj'];rfl)
 have dj:D[j]<(s+1-2).toNat:=by
  have:∀ y∈D,y<(s+1-2).toNat:=λy hy=>by
   rw[hD,List.mem_filter,List.mem_range] at hy
   exact hy.1
  exact this _ (List.getElem_mem hj')
 obtain⟨n,hn⟩:∃ n:Nat,n=2+D[j]:=⟨_,rfl⟩
 have RX:2+(D[j]:Int)=(n:Int):=by omega
 rw[RX] at ij
 have n0:2<=n/\n<=360:=by omega
 have zr:(List.range (s+1-2).toNat).length<=sizeLine:=by rw[List.length_range];exact aH (by omega)
 unfold eB iU
 dsimp? [ek,ik,wN (a:=2) (b:=s+1) (by omega) (by omega) (by omega) (by omega),List.length_map,aq zr,key,aS (i:=c) (j:=6) (by decide) (by decide),ej,ij,jB,yQ]
 refine i_.loop (xs:=sizes.zipIdx) (inj:=λz=>.tup [.int (z.2:Int),.int z.1]) (λzs env=>∃ (F:List Int) (t:Int) (y8 y9 SM:Option SV),env=[some (.sh (.int c)),some (.sh (lI sizes)),some (.sh (tI tg)),some (.sh (.int s)),some (.sh (.lst (D.map λ(i:Nat)=>PV.int (2+(i:Int))))),some (.sh (.int (n:Int))),some (.ow (F.map PV.int)),some (.sh (.int t)),y8,y9,SM]/\zs=sizes.zipIdx.drop F.length/\F.length<=sizes.length/\(∀ x∈F,x.natAbs<2^20)/\t.natAbs<=F.length*2^40/\∀ i,i<F.length->(n:Int)∣vf F i*vf sizes i) ⟨[],0,none,none,none,rfl,rfl,Nat.zero_le _,(λ_ h=>nomatch h),by decide,λi h=>absurd h (Nat.not_lt_zero i)⟩ ?_ ?_
 ·rintro⟨o,i⟩ r env ⟨F,t,y8,y9,SM,rfl,hd,hF,Fb,tb,Fd⟩
  obtain⟨c1,c2,c3⟩:=drop_cons hd.symm
  rw[List.length_zipIdx] at c1
  rw[List.getElem?_eq_getElem (by rw[List.length_zipIdx];exact c1)] at c2
  have c2:=Option.some.inj c2
  rw[List.getElem_zipIdx] at c2
  have ei:i=F.length:=by have:=congrArg Prod.snd c2;simp at this;omega
  have eo:sizes[F.length]=o:=congrArg Prod.fst c2
  subst ei
  have so:=S.hx o (by rw[← eo];exact List.getElem_mem _)
  obtain⟨u,hu⟩:=Int.eq_ofNat_of_zero_le (show 0<=o by omega)
  obtain⟨x,ex,x0,x1⟩:=uU c F.length (by omega)
  have gd:=rQ u n
  have g1:0<Nat.gcd u n:=Nat.gcd_pos_of_pos_right _ (by omega)
  have g2:Nat.gcd u n<=n:=Nat.gcd_le_right _ (by omega)
  have q1:(n:Int)/((Nat.gcd u n:Nat):Int)=((n/Nat.gcd u n:Nat):Int):=by simp
  have q2:n/Nat.gcd u n<=360:=Nat.le_trans (Nat.div_le_self _ _) n0.2
  obtain⟨v,hv⟩:=Int.eq_ofNat_of_zero_le (show 0<=x%360 by omega)
  have v1:v<360:=by omega
  have g3:=ht.2 F.length c1
  have g4:vf sizes F.length=o:=by rw[aP c1,eo]
  obtain⟨q,hq⟩:∃ q:Nat,q=n/Nat.gcd u n*v:=⟨_,rfl⟩
  have qb:q<2^20:=by
   rw[hq]
   exact Nat.lt_of_le_of_lt (Nat.mul_le_mul q2 (by omega:v<=360)) (by decide)
  have dv:(n:Int)∣(q:Int)*o:=by
   rw[hu,hq]
   have:n∣n/Nat.gcd u n*v*u:=by
    have h1:Nat.gcd u n∣u:=Nat.gcd_dvd_left _ _
    have h2:Nat.gcd u n∣n:=Nat.gcd_dvd_right _ _
    obtain⟨a,ha⟩:=h1
    have:n/Nat.gcd u n*v*u=n/Nat.gcd u n*Nat.gcd u n*(v*a):=by
     have e:v*u=Nat.gcd u n*(v*a):=by
      conv=>lhs;rw[ha]
      rw[← Nat.mul_assoc,Nat.mul_comm v,Nat.mul_assoc]
     rw[Nat.mul_assoc,e,← Nat.mul_assoc]
    rw[this,Nat.div_mul_cancel h2]
    exact Nat.dvd_mul_right _ _
   exact_mod_cast this
  have e1:cj (.int ((n/Nat.gcd u n:Nat):Int)) (.int (v:Int))=M.ok (.int (q:Int)):=by
   rw[hq]
   generalize n/Nat.gcd u n=d at *
   rw[bq (k:=31) (l:=31) (by omega) (by omega)]
   simp
  have i2:aJ (tI tg) (.int (F.length:Int))=M.ok (.int (vf tg F.length)):=k8 (by rw[ht.1];exact c1)
  have e2:cj (.int (q:Int)) (.int (vf tg F.length))=M.ok (.int ((q:Int)*vf tg F.length)):=bq (k:=31) (l:=31) (by omega) (by omega)
  have e3:((q:Int)*vf tg F.length).natAbs<=2^40:=by
   rw[Int.natAbs_mul]
   have:(q:Int).natAbs*(vf tg F.length).natAbs<=2^20*2^20:=Nat.mul_le_mul (by omega) (by omega)
   exact this
  rw[hu]
  dsimp? [bB,gd,aS (i:=(n:Int)) (j:=((Nat.gcd u n:Nat):Int)) (by omega) (by omega),q1,ex,aM (i:=x) (j:=360) (by decide),hv,e1,vE,ownAt,vB (xs:=F.map PV.int) (show (F.map PV.int).length<1000 by simp;omega),n_,i2,e2]
  refine⟨_,rfl,F++[(q:Int)],t+(q:Int)*vf tg F.length,_,_,_,rfl,by rw[List.length_append];exact c3.symm,by rw[List.length_append];exact c1,λy hy=>?_,?_,λi hi=>?_⟩
  ·rcases List.mem_append.mp hy with h | h
   ·exact Fb y h
   ·rw[List.mem_singleton.mp h];omega
  ·rw[List.length_append,List.length_singleton,Nat.add_mul]
   generalize (q:Int)*vf tg F.length=y at *
   omega
  ·rw[List.length_append,List.length_singleton] at hi
   by_cases h:i<F.length
   ·rw[z6,if_pos h];exact Fd i h
   ·have:i=F.length:=by omega
    subst this
    rw[z6,if_neg h,if_pos rfl,g4]
    exact dv
 ·rintro env ⟨F,t,y8,y9,SM,rfl,hd,hF,Fb,tb,Fd⟩
  have ec:F.length=sizes.length:=by
   have:=congrArg List.length hd
   rw[List.length_drop,List.length_zipIdx] at this
   simp at this;omega
  obtain⟨o,eo,ho⟩:∃ o:Int,l8 [.bl (decide (c/7%4=0))]=M.ok (.int o)/\(o=0\/o=1):=by
   by_cases q:c/7%4=0
   ·exact⟨1,by rw[decide_eq_true q];rfl,.inr rfl⟩
   ·exact⟨0,by rw[decide_eq_false q];rfl,.inl rfl⟩
  dsimp? [aS (i:=c) (j:=7) (by decide) (by decide),aM (i:=c/7) (j:=4) (by decide),eo]
  refine⟨_,rfl,(F,(n:Int),t+o),rfl,ec,λx hx=>Nat.lt_of_lt_of_le (Fb x hx) (by decide),by show 2<=(n:Int);omega,by show (n:Int)<=360;omega,?_,λi hi=>Fd i (by omega)⟩
  show (t+o).natAbs<2^190
  have:F.length*2^40<=6*2^40:=Nat.mul_le_mul_right _ (by omega)
  omega
theorem yj(Z:List LK):my (Z.map eN)=some (Z.map λz=>.tuple [.list (z.1.map PyData.int),.int z.2.1,.int z.2.2]):=by
 induction Z with
 | nil=>rfl
 | cons a r ih=>simp[my,dat,eN,lI,jM] at ih ⊢;simp[ih]
theorem uV(Z:List LK):PyData.canLayAll0 (Z.map λz=>.tuple [.list (z.1.map PyData.int),.int z.2.1,.int z.2.2])=true:=by
 induction Z with
 | nil=>rfl
 | cons a r ih=>simp[PyData.canLayAll0,PyData.canLay0,ih,e7]
theorem w6(Z:List LK):PyData.depthAll (Z.map λz=>.tuple [.list (z.1.map PyData.int),.int z.2.1,.int z.2.2])<=2:=by
 induction Z with
 | nil=>exact Nat.zero_le _
 | cons a r ih=>simp[PyData.depthAll,PyData.depth,iM,ih]
theorem Em(Z:List LK):nX (.lst (Z.map eN)) (.lst [])=M.ok (.bl (!decide (Z.length=0))):=by
 simp only[nX,nA,dat,yj,my,Option.map_some,El]
 have h1:=w6 Z
 rw[aq (by cases Z <;> simp[PySem.SeqAt.shaped,PyData.canLay0,PyData.canLayAll0,PyData.depth,PyData.depthAll,uV,e7,PySem.SeqAt.noMix,PySem.SeqAt.noMixAll] at h1 ⊢ <;> omega)]
 unfold PySem.Spec.same
 cases Z with
 | nil=>rfl
 | cons a r=>rfl
theorem BS(h:xs.length=sizes.length/\∀ z∈xs.zip sizes,0<=z.1/\z.1<z.2):Kp sizes xs:=Ds ⟨h.1,h.2⟩
theorem pap(Q:yT ns sizes raw Ls T idle)(l6:Z.length<=6)(hz:∀ z∈Z,nu sizes z)(hx:Kp sizes xs):∃ w b,cH [dI sizes Ls,lI sizes,.lst (Ls.map tI),tI xs,.lst (Z.map eN)]=M.ok (.str w)/\jP (.str w) (.str "none")=M.ok (.bl false)/\jP (.str w) (.str "shut")=M.ok (.bl b)/\(b=true->∀ P:dP,¬ Led Z.length (vf (cx Z)) Ls.length (AA (Ls.map (fJ Z))) (vf (qY Z xs)) P):=by
 rcases BJ Q l6 hz hx with e | ⟨e,no⟩
 ·exact⟨_,_,e,q1,q3,λh=>nomatch h⟩
 ·exact⟨_,_,e,q2,q4,λ_=>no⟩
theorem HJ(ns:List Int):tU [.kF (ns.map PV.int)]=M.ok (.bl true):=by
 obtain⟨c0,ec⟩:=u_ ns 0 (by decide)
 rw[show ((0:Nat):Int)=0 from rfl] at ec
 obtain⟨c1,ec1⟩:=u_ ns 1 (by decide)
 rw[show ((1:Nat):Int)=1 from rfl] at ec1
 obtain⟨_,es,sizes,rfl,S⟩:=Bj c0
 have l6:=S.h6
 have l1:=S.h1
 have exL:∀ c:Int,∃ xs:List Int,eH [.int c,lI sizes]=M.ok (tI xs)/\Kp sizes xs:=λc=>by
  obtain⟨_,e,xs,rfl,q⟩:=Ba S c
  exact⟨xs,e,BS q⟩
 obtain⟨f,hf⟩:=Classical.skolem.mp exL
 have s8:=tK ns 8 16
 have kl:bA (bK 0) none (ai eH (aa (ae 0) (aa (ae 1) ak))) ((gG ns 8 16).map PV.int) [none,some (.sh (lI sizes))]=M.ok ((gG ns 8 16).map λc=>tI (f c)):=by
  refine du (inj:=PV.int) (gG ns 8 16) λc _=>?_
  dsimp? [(hf c).1]
 have em:(gG ns 8 16).map (λc=>tI (f c))=((gG ns 8 16).map f).map tI:=by rw[List.map_map];rfl
 have hk:∀ l∈(gG ns 8 16).map f,Kp sizes l:=λl hl=>by
  obtain⟨c,_,rfl⟩:=List.mem_map.mp hl
  exact(hf c).2
 obtain⟨Ls,T,idle,Q⟩:=yT.get ns S (raw:=(gG ns 8 16).map f) (by simp;omega) λl hl=>⟨(hk l hl).1,(hk l hl).bd S⟩
 have eL:(gG ns 8 16).map f=Ls:=by
  rw[Q.eL]
  exact((List.map_congr_left λl hl=>xt (hk l hl).GJ).trans (List.map_id _)).symm
 rw[eL] at em
 have Q':yT ns sizes Ls Ls T idle:=by rw[eL] at Q;exact Q
 clear Q hk
 have Q:=Q'
 have m8:=Q.m8
 have hL:∀ l∈Ls,Kp sizes l:=λl h=>uS Q h
 have mk:=Q.Mu (p:=lI sizes) (f:=tI) (.inl rfl) rfl
 obtain⟨m,hm⟩:=ED c0 50 (by decide)
 simp only[show ((50:Nat):Int)=50 from rfl] at hm
 obtain⟨tg,htg⟩:∃ tg:List Int,tg=sizes.zipIdx.map λa=>m a.2%a.1:=⟨_,rfl⟩
 have ht:Kp sizes tg:=⟨by simp[htg],λi hi=>by
  rw[htg,aP (by simpa using hi),aP hi,List.getElem_map,List.getElem_zipIdx]
  have:=S.hx _ (List.getElem_mem hi)
  exact⟨Int.emod_nonneg _ (by omega),Int.emod_lt_of_pos _ (by omega)⟩⟩
 have k1:bA (bB 0 1) none (aj bW (ai bI (aa (ae 2) (aa (aj dr (λ_=>M.ok (.int 50)) (ae 0)) ak))) (ae 1)) (sizes.zipIdx.map λa=>.tup [.int (a.2:Int),.int a.1]) [none,none,some (.sh (.int c0))]=M.ok (tg.map PV.int):=by
  rw[htg,List.map_map]
  refine fv (p:=λa:Int×Nat=>PV.int (a.2:Int)) (q:=λa=>PV.int a.1) sizes.zipIdx λa ha=>?_
  have h2:=List.snd_lt_of_mem_zipIdx ha
  have:=S.hx _ (List.fst_mem_of_mem_zipIdx ha)
  dsimp? [(hm a.2 (by omega)).1,aM (i:=m a.2) (j:=a.1) (by omega)]
  rfl
 obtain⟨n,hn⟩:=Int.eq_ofNat_of_zero_le (show 0<=c1%7 by omega)
 have n6:n<=6:=by omega
 have exZ:∀ i:Nat,∃ z:LK,i<=50->(∃ c,dG [.kF (ns.map PV.int),.int (2+(i:Int))]=M.ok (.int c)/\eB [.int c,lI sizes,tI tg]=M.ok (eN z))/\nu sizes z:=λi=>by
  by_cases h:i<=50
  ·obtain⟨c,e⟩:=u_ ns (2+i) (by omega)
   rw[show ((2+i:Nat):Int)=2+(i:Int) by omega] at e
   obtain⟨z,ez,fz⟩:=FA S ht c
   exact⟨z,λ_=>⟨⟨c,e,ez⟩,fz⟩⟩
  ·exact⟨([],0,0),λz=>(h z).elim⟩
 obtain⟨g,hg⟩:=Classical.skolem.mp exZ
 obtain⟨Z,hZ⟩:∃ Z,Z=(List.range n).map g:=⟨_,rfl⟩
 have Zl:Z.length=n:=by simp[hZ]
 have hz:∀ z∈Z,nu sizes z:=λz h=>by
  rw[hZ] at h
  obtain⟨i,hi,rfl⟩:=List.mem_map.mp h
  exact(hg i (by have:=List.mem_range.mp hi;omega)).2
 have k2:bA (bK 0) none (ai eB (aa (ai dG (aa (ae 1) (aa (aj dr (λ_=>M.ok (.int 2)) (ae 0)) ak))) (aa (ae 2) (aa (ae 3) ak)))) ((List.range n).map λ(i:Nat)=>.int (i:Int)) [none,some (.sh (.kF (ns.map PV.int))),some (.sh (lI sizes)),some (.sh (tI tg))]=M.ok (Z.map eN):=by
  rw[hZ,List.map_map]
  refine du (inj:=λ(i:Nat)=>PV.int (i:Int)) (List.range n) λi hi=>?_
  obtain⟨c,e1,e2⟩:=(hg i (by have:=List.mem_range.mp hi;omega)).1
  dsimp? [e1,e2]
  rfl
 have zr:(List.range n).length<=sizeLine:=by rw[List.length_range];exact aH (by omega)
 have zi:sizes.zipIdx.length<=sizeLine:=by rw[List.length_zipIdx];exact aH (by omega)
 have mt:=Ah hz (by omega) (ht.bd S) (by rw[ht.1];omega)
 have nz:=Em Z
 refine i_.eq ?_
 unfold tU Ep
 dsimp? [ec,es,kX,jq,Iy,show Jn (.kF (ns.map PV.int)) (some 8) (some 16)=M.ok (.lst ((gG ns 8 16).map PV.int)) from zM ns 8 16,List.length_map,aq (aH (show (gG ns 8 16).length<=1000 by omega)),kl,em,mk,yQ,aq zi,k1,show PV.tup (tg.map PV.int)=tI tg from rfl,ec1,aM (i:=c1) (j:=7) (by decide),hn,jF (n:=(n:Int)) (by omega) (by omega),Int.toNat_natCast,aq zr,k2,show Jn (.kF (ns.map PV.int)) (some 1) (some 40)=M.ok (.lst ((gG ns 1 40).map PV.int)) from zM ns 1 40,AE (gG ns 1 40) (by have:=tK ns 1 40;omega)]
 refine i_.loop (xs:=0::gG ns 1 40) (inj:=PV.int) (λzs env=>∃ (y7 y8 y9 SM:Option SV),env=[some (.sh (.kF (ns.map PV.int))),some (.sh (.int c0)),some (.sh (lI sizes)),some (.sh (.lst (Ls.map tI))),some (.sh (dI sizes Ls)),some (.sh (tI tg)),some (.sh (.lst (Z.map eN))),y7,y8,y9,SM]) ⟨_,_,_,_,rfl⟩ ?_ ?_
 ·rintro a r env ⟨y7,y8,y9,SM,rfl⟩
  obtain⟨xs,ed,xk⟩:=oq (a/2) (lI sizes) sizes rfl (λb hb=>by have:=S.hx b hb;omega) (by omega)
  have xk:=BS xk
  have mm:=aM (i:=a) (j:=2) (by decide)
  by_cases z:a%2=0
  ·obtain⟨m',hm'⟩:=ED a 60 (by decide)
   simp only[show ((60:Nat):Int)=60 from rfl] at hm'
   obtain⟨P,hP⟩:∃ P:List Int,P=(List.range Ls.length).map λi=>m' i%1000:=⟨_,rfl⟩
   have Pl:P.length=Ls.length:=by simp[hP]
   have Pb:Bd 200 P:=λx hx=>by
    rw[hP] at hx
    obtain⟨i,_,rfl⟩:=List.mem_map.mp hx
    have h1:=Int.emod_nonneg (m' i) (show (1000:Int)≠0 by decide)
    have h2:=Int.emod_lt_of_pos (m' i) (show (0:Int)<1000 by decide)
    generalize m' i%1000=y at *
    exact Pc (n:=1000) (by omega) (by decide)
   have k3:bA (bK 0) none (aj bW (ai bI (aa (ae 1) (aa (aj dr (λ_=>M.ok (.int 60)) (ae 0)) ak))) (λ_=>M.ok (.int 1000))) ((List.range Ls.length).map λ(i:Nat)=>.int (i:Int)) [none,some (.sh (.int a))]=M.ok (P.map PV.int):=by
    rw[hP,List.map_map]
    refine du (inj:=λ(i:Nat)=>PV.int (i:Int)) (List.range Ls.length) λi hi=>?_
    dsimp? [(hm' i (by have:=List.mem_range.mp hi;omega)).1,aM (i:=m' i) (j:=1000) (by decide)]
    rfl
   have zL:(List.range Ls.length).length<=sizeLine:=by rw[List.length_range];exact aH (by omega)
   obtain⟨_,el,F,rfl,hF,Fd⟩:=Ag (p:=.lst (P.map PV.int)) S m8 hL ht rfl Pl Pb
   have ot:¬ Z.length=0->_:=λh=>tJ (Z:=Z) Q (xs:=F) (by omega) (by omega) hz hF a
   obtain⟨w,b,e,e1,e2,e3⟩:=pap Q (by omega) hz hF
   have e4:b=true->f9 [.lst (Z.map eN),tI tg]=M.ok (.bl false):=λh=>by
    rw[mt,decide_eq_false λh'=>e3 h _ (Dg hz hL ht hF Fd h')]
   cases b <;> by_cases zz:Z.length=0 <;> dsimp? [bK,aS (i:=a) (j:=2) (by decide) (by decide),ed,mm,z,decide_true,decide_false,List.length_map,jF (n:=(Ls.length:Int)) (by omega) (by omega),Int.toNat_natCast,aq zL,k3,el,e,e1,e2,e4,nz,zz,ot,not_false_eq_true] <;> exact⟨_,rfl,_,_,_,_,rfl⟩
  ·have ot:¬ Z.length=0->_:=λh=>tJ (Z:=Z) Q (xs:=xs) (by omega) (by omega) hz xk a
   obtain⟨w,b,e,e1,e2,e3⟩:=pap Q (by omega) hz xk
   cases b <;> by_cases zz:Z.length=0 <;> dsimp? [bK,aS (i:=a) (j:=2) (by decide) (by decide),ed,mm,z,decide_true,decide_false,e,e1,e2,nz,zz,ot,not_false_eq_true] <;> exact⟨_,rfl,_,_,_,_,rfl⟩
 ·rintro env ⟨y7,y8,y9,SM,rfl⟩
  exact⟨_,rfl,rfl⟩
end xS
theorem PySem.Challenge.cw_dialvault_k58_whole_locks_opened_or_shut_holds : PySem.Challenge.rw_dialvault_k58_whole_locks_opened_or_shut.Holds :=
  xS.hold HD.said λns _ _ => xS.HJ ns
end