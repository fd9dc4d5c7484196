import PyProof.Rows.All
import Wide.All
import OpenK.AllK
import Wide.FinOn
import Lean
import PyProof.EqAt
import PyProof.EqKinds
import PyProof.TupleCall
import PySem.Challenge.RW_dialvault_k34_what_picked_levers_can_do
set_option Elab.async false
set_option linter.all false
set_option maxRecDepth 100000
set_option maxHeartbeats 0
noncomputable section
theorem aR(h:True:=by rfl):True:=h
theorem aD(h:True:=by decide):True:=h
theorem aI(h:True:=by intro _;rfl):True:=h
theorem aK(h:True:=by kernel_rfl):True:=h
theorem aF(h:True:=by first | exact .inl rfl | exact .inr rfl | assumption):True:=h
theorem aU(h:True:=by with_unfolding_all rfl):True:=h
theorem aN(h:True:=by decide +kernel):True:=h
theorem aG(h:True:=by first | exact .inl rfl | exact .inr rfl):True:=h
namespace L2
open PySem PySem.Spec PyProof.Rows
abbrev Key:=Sum Int Str
def FK:Key->Value->Bool
 | .inl k,v=>Value.isInt k v
 | .inr x,v=>Value.isStrOf x v
def MP(w:World):Key->Int
 | .inl k=>hashInt k
 | .inr x=>hashStr w x
theorem cB:∀ {k:Key} {v:Value},FK k v=true->(∃ i t,k=Sum.inl i/\v=Value.int i t)\/(∃ x t,k=Sum.inr x/\v=Value.str x t)
 | .inl i,v,h=>by
  obtain⟨t,e⟩:=Value.isInt_shape (k:=i) (v:=v) h
  exact .inl ⟨i,t,rfl,e⟩
 | .inr x,v,h=>by
  obtain⟨t,e⟩:=Value.isStrOf_shape (x:=x) (v:=v) h
  exact .inr ⟨x,t,rfl,e⟩
theorem Hb(a b:Int):decide ((Sum.inl a:Key)=Sum.inl b)=(a==b):=by
 by_cases e:a=b
 ·subst e;simp
 ·have h:¬ (Sum.inl a:Key)=Sum.inl b:=λq=>e (Sum.inl.inj q)
  rw[decide_eq_false h]
  exact(beq_eq_false_iff_ne.mpr e).symm
theorem Iy(a b:Str):decide ((Sum.inr a:Key)=Sum.inr b)=decide (a=b):=by
 by_cases e:a=b
 ·subst e;simp
 ·have h:¬ (Sum.inr a:Key)=Sum.inr b:=λq=>e (Sum.inr.inj q)
  rw[decide_eq_false h,decide_eq_false e]
theorem GP(a:Int)(b:Str):decide ((Sum.inl a:Key)=Sum.inr b)=false:=decide_eq_false (λq=>nomatch q)
theorem GI(a:Str)(b:Int):decide ((Sum.inr a:Key)=Sum.inl b)=false:=decide_eq_false (λq=>nomatch q)
def yc(prog:Program)(w:World):PySem.KeyKind prog w Key where
 is:=FK
 hash:=MP w
 inj:=λv a b ha hb=>by
  rcases cB ha with ⟨i,t,rfl,rfl⟩ | ⟨x,t,rfl,rfl⟩
  ·rcases cB hb with ⟨j,u,rfl,e⟩ | ⟨y,u,rfl,e⟩
   ·injection e with e1 _;rw[e1]
   ·exact nomatch e
  ·rcases cB hb with ⟨j,u,rfl,e⟩ | ⟨y,u,rfl,e⟩
   ·exact nomatch e
   ·injection e with e1 _;rw[e1]
 byValue:=λk v h=>by
  rcases cB h with ⟨i,t,rfl,rfl⟩ | ⟨x,t,rfl,rfl⟩ <;> rfl
 pyHash:=λhv h=>by
  rcases cB hv with ⟨i,t,rfl,rfl⟩ | ⟨x,t,rfl,rfl⟩
  ·exact wpAny_pyHash_int h
  ·exact wpAny_pyHash_str h
 eqBool:=λhu hv h=>by
  rcases cB hu with ⟨i,t,rfl,rfl⟩ | ⟨x,t,rfl,rfl⟩
  ·rcases cB hv with ⟨j,u,rfl,rfl⟩ | ⟨y,u,rfl,rfl⟩
   ·rw[Hb] at h;exact wpAny_eqBool_int h
   ·rw[GP] at h;exact SeqAt.EqAt.int_str i t y u _ _ _ _ h
  ·rcases cB hv with ⟨j,u,rfl,rfl⟩ | ⟨y,u,rfl,rfl⟩
   ·rw[GI] at h;exact SeqAt.EqAt.str_int x t j u _ _ _ _ h
   ·rw[Iy] at h;exact wpAny_eqBool_str h
 «strs»:=λk x t v h=>by
  rcases cB h with ⟨i,u,rfl,e⟩ | ⟨y,u,rfl,e⟩
  ·exact nomatch e
  ·injection e with e1 _
   subst e1
   cases v <;> rfl
inductive V where
 | da | bl (b:Bool) | int (i:Int) | str (x:Str) | byt (b:Array UInt8) | F2 (b:UInt64) | ref (a:Addr) | ty (n:String)
 deriving DecidableEq
def RelV:V->Value->Prop
 | .da,u=>u=Value.none
 | .bl b,u=>u=Value.bool b
 | .int i,u=>∃ t,u=Value.int i t
 | .str x,u=>∃ t,u=Value.str x t
 | .byt b,u=>∃ t,u=Value.bytes b t
 | .F2 b,u=>∃ t,u=Value.float b t
 | .ref a,u=>u=Value.ref a
 | .ty n,u=>u=Value.type n
abbrev Vals:List V->List Value->Prop:=Paired RelV
theorem Vals.length{xs:List V}{us:List Value}(r:Vals xs us):xs.length=us.length:=Paired.length r
theorem Vals.get:∀ {xs:List V} {us:List Value} {i:Nat} {x:V},Vals xs us->xs[i]?=some x->∃ u,us[i]?=some u/\RelV x u
 | _,_,_,_,.nil,e=>by simp at e
 | _,_,0,_,.cons r _,e=>by simp at e;subst e;exact⟨_,rfl,r⟩
 | _,_,i+1,x,.cons _ t,e=>by
  obtain⟨u,h1,h2⟩:=Vals.get (i:=i) (x:=x) t (by simpa using e)
  exact⟨u,by simpa using h1,h2⟩
theorem Vals.set{x:V}{u:Value}(r:RelV x u):∀ {xs:List V} {us:List Value} (i:Nat),Vals xs us->Vals (xs.set i x) (us.set i u)
 | _,_,_,.nil=>.nil
 | _,_,0,.cons _ t=>.cons r t
 | _,_,i+1,.cons q t=>.cons q (Vals.set r i t)
theorem Vals.append:∀ {xs ys:List V} {us ws:List Value},Vals xs us->Vals ys ws->Vals (xs++ys) (us++ws)
 | _,_,_,_,.nil,s=>s
 | _,_,_,_,.cons r t,s=>.cons r (Vals.append t s)
theorem Vals.take:∀ {xs:List V} {us:List Value} (n:Nat),Vals xs us->Vals (xs.take n) (us.take n)
 | _,_,0,_=>.nil
 | _,_,_+1,.nil=>.nil
 | _,_,n+1,.cons r t=>.cons r (Vals.take n t)
theorem Vals.drop:∀ {xs:List V} {us:List Value} (n:Nat),Vals xs us->Vals (xs.drop n) (us.drop n)
 | _,_,0,r=>r
 | _,_,_+1,.nil=>.nil
 | _,_,n+1,.cons _ t=>Vals.drop n t
def mQ:Option V->Option Value->Prop
 | some v,some u=>RelV v u
 | none,none=>True
 | _,_=>False
def KV{κ:Type}:List (κ×V)->List (κ×Value)->Prop:=Paired λ(p:κ×V) (q:κ×Value)=>p.1=q.1/\RelV p.2 q.2
def kV:Key->V
 | .inl i=>.int i
 | .inr x=>.str x
inductive HO where
 | lst (xs:List V)
 | tup (xs:List V)
 | dK (OL:List (Key×V)) | dT (OL:List (List Key×V))
 | set (S:Int->Bool) (n:Nat)
 | ins (C dx:Addr) (fs:List (Str×V))
 | own (x:Addr)
 | xd (fs:List (Str×V))
 | met (f x:Addr)
 | jg (lo hi:Int)
 | qK (o:Obj) (u:HO)
 | FL (ps:Array Value)
 | ext (φ:Heap->Prop)
abbrev Hp:=Addr->Option HO
def upd(H:Hp)(a:Addr)(o:HO):Hp:=λb=>if b=a then some o else H b
variable{a:Addr}{H:Hp}
theorem aB{o:HO}:upd H a o a=some o:=by unfold upd;rw[if_pos rfl]
variable{b:Addr}
theorem aw{o:HO}(h:b≠a):upd H a o b=H b:=by unfold upd;rw[if_neg h]
theorem x9{o u:HO}:upd (upd H a o) a u=upd H a u:=by
 funext b;unfold upd;split <;> rfl
theorem bY{o:HO}(h:H a=some o)(h':H b=none):a≠b:=by
 intro e;subst e;rw[h] at h';cases h'
section
variable(P:Program)(w:World)
def cu(H:Hp)(h:Heap)(a:Addr):HO->Prop
 | .lst xs=>xs.length<=sizeLine/\∃ (NZ:List Value) (n:Nat),Vals xs NZ/\h.get? a=some { cls:=.type "list", data:=.seq NZ.toArray n }
 | .tup xs=>xs.length<=sizeLine/\∃ NZ:List Value,Vals xs NZ/\IsTup h a NZ.toArray
 | .dK OL=>OL.length<=sizeLine/\(a==sysModules)=false/\∃ vs,KV OL vs/\h.DictOf (yc P w) a vs
 | .dT OL=>OL.length<=sizeLine/\(a==sysModules)=false/\∃ xs:List (List Key×Addr×Value),
   Paired (λ(p:List Key×V) (q:List Key×Addr×Value)=>p.1=q.1/\H q.2.1=some (.tup (p.1.map kV))/\RelV p.2 q.2.2) OL xs ∧
   ∃ o es ep,h.get? a=some o/\o.ExactDict/\o.data=.dict es ep/\es.toList=xs.map (entryOfKey (tupleKind (yc P w)))/\(xs.map (·.1)).Nodup
 | .set S n=>h.SetOf (intKind P w) a S n
 | .ins C dx fs=>H dx=some (.own a)/\fs.length<=1000/\dx≠a/\h.get? a=some (PySem.W.instObj C dx) ∧
   ∃ mA,h.Ns1 dx mA/\(∀ f,mQ (fs.lookup f) (mA f))/\PySem.Within mA (fs.map (·.1))
 | .own _=>∃ o,h.get? a=some o
 | .xd fs=>∃ mA,h.Ns1 a mA/\∀ f,mQ (fs.lookup f) (mA f)
 | .jg lo hi=>∃ t u v,h.get? a=some { cls:=.type "range", data:=.fields #[.int lo t,.int hi u,.int 1 v] }
 | .qK o u=>h.get? a=some o/\cu H h a u
 | .FL ps=>h.get? a=some { cls:=.none,data:=.fields ps }
 | .met f x=>h.get? a=some (PySem.W.methodObj (.ref f) (.ref x))
 | .ext φ=>φ h/\(∃ o,h.get? a=some o)/\∀ h1 h2:Heap,φ h1->(∀ o,h1.get? a=some o->h2.get? a=some o)->φ h2
def mH(H:Hp)(h:Heap):Prop:=∀ a o,H a=some o->cu P w H h a o
end
variable{h h':Heap}{H':Hp}{w:World}{P:Program}
section
variable{o:HO}
theorem cu.lt(x:cu P w H h a o):a<h.objs.size:=by
 cases o with
 | lst xs=>obtain⟨_,_,_,_,e⟩:=x;exact Heap.lt_size e
 | tup xs=>obtain⟨_,_,_,p⟩:=x;exact p.lt
 | dK OL=>obtain⟨_,_,_,_,o,_,_,e,_⟩:=x;exact Heap.lt_size e
 | dT OL=>obtain⟨_,_,_,_,o,_,_,e,_⟩:=x;exact Heap.lt_size e
 | set S n=>obtain⟨o,_,_,_,e,_⟩:=x;exact Heap.lt_size e
 | ins C dx fs=>obtain⟨_,_,_,e,_⟩:=x;exact Heap.lt_size e
 | own y=>obtain⟨_,e⟩:=x;exact Heap.lt_size e
 | xd fs=>obtain⟨_,⟨_,_,_,e,_⟩,_⟩:=x;exact Heap.lt_size e
 | jg lo hi=>obtain⟨_,_,_,e⟩:=x;exact Heap.lt_size e
 | qK ob u=>obtain⟨e,_⟩:=x;exact Heap.lt_size e
 | FL ps=>exact Heap.lt_size (show h.get? a=some _ from x)
 | met f y=>exact Heap.lt_size (show h.get? a=some _ from x)
 | ext φ=>obtain⟨_,⟨_,e⟩,_⟩:=x;exact Heap.lt_size e
theorem Paired.KQ{α β:Type}{F G:α->β->Prop}:∀ {l₁:List α} {l₂:List β},Paired F l₁ l₂->(∀ a b,F a b->G a b)->Paired G l₁ l₂
 | _,_,.nil,_=>.nil
 | _,_,.cons r t,f=>.cons (f _ _ r) (Paired.KQ t f)
theorem cu.mf(x:cu P w H h a o)(k:∀ b u,(b=a\/H b=some (.own a))->h.get? b=some u->h'.get? b=some u)
  (ho:∀ b,H b=some (.own a)->H' b=some (.own a)) (ht:∀ b xs,H b=some (.tup xs)->H' b=some (.tup xs)):cu P w H' h' a o:=by
 induction o with
 | lst xs=>obtain⟨z,NZ,n,r,e⟩:=x;exact⟨z,NZ,n,r,k _ _ (.inl rfl) e⟩
 | tup xs=>obtain⟨z,NZ,r,ob,e,c⟩:=x;exact⟨z,NZ,r,ob,k _ _ (.inl rfl) e,c⟩
 | dK OL=>obtain⟨z,y,vs,r,ob,es,ep,e,c⟩:=x;exact⟨z,y,vs,r,ob,es,ep,k _ _ (.inl rfl) e,c⟩
 | dT OL =>
  obtain⟨z,y,xs,r,ob,es,ep,e,c⟩:=x
  exact⟨z,y,xs,Paired.KQ r λp q z=>⟨z.1,ht _ _ z.2.1,z.2.2⟩,ob,es,ep,k _ _ (.inl rfl) e,c⟩
 | set S n=>obtain⟨ob,es,ep,t,e,c⟩:=x;exact⟨ob,es,ep,t,k _ _ (.inl rfl) e,c⟩
 | ins C dx fs =>
  obtain⟨d,z,ne,e,mA,⟨od,es,ep,e2,c⟩,r⟩:=x
  exact⟨ho _ d,z,ne,k _ _ (.inl rfl) e,mA,⟨od,es,ep,k _ _ (.inr d) e2,c⟩,r⟩
 | own y=>obtain⟨ob,e⟩:=x;exact⟨ob,k _ _ (.inl rfl) e⟩
 | xd fs=>obtain⟨mA,⟨od,es,ep,e,c⟩,r⟩:=x;exact⟨mA,⟨od,es,ep,k _ _ (.inl rfl) e,c⟩,r⟩
 | jg lo hi=>obtain⟨t,u,v,e⟩:=x;exact⟨t,u,v,k _ _ (.inl rfl) e⟩
 | qK ob u ih=>obtain⟨e,q⟩:=x;exact⟨k _ _ (.inl rfl) e,ih q⟩
 | FL ps =>
  have e:h.get? a=some { cls:=.none,data:=.fields ps }:=x
  show h'.get? a=some { cls:=.none,data:=.fields ps }
  exact k a _ (.inl rfl) e
 | met f y =>
  have e:h.get? a=some (PySem.W.methodObj (.ref f) (.ref y)):=x
  show h'.get? a=some (PySem.W.methodObj (.ref f) (.ref y))
  exact k a _ (.inl rfl) e
 | ext φ=>obtain⟨p,⟨o,e⟩,st⟩:=x;exact⟨st _ _ p λo q=>k _ _ (.inl rfl) q,⟨o,k _ _ (.inl rfl) e⟩,st⟩
theorem mH.lt(x:mH P w H h)(e:H a=some o):a<h.objs.size:=(x a o e).lt
theorem mH.fresh(x:mH P w H h)(e:h.objs.size<=a):H a=none:=by
 cases q:H a with
 | none=>rfl
 | some u=>exact absurd (Nat.lt_of_lt_of_le (x.lt q) e) (Nat.lt_irrefl _)
theorem mH.kept(x:mH P w H h)(k:∀ b u,h.get? b=some u->h'.get? b=some u):mH P w H h':=λa o e =>
 (x a o e).mf (λb u _ q=>k b u q) (λ_ q=>q) λ_ _ q=>q
theorem mH.laid(x:mH P w H h)(k:∀ b u,h.get? b=some u->h'.get? b=some u)(hp:h.objs.size<=a)(new:cu P w (upd H a o) h' a o):mH P w (upd H a o) h':=λb u e=>by
 have hn:=x.fresh hp
 by_cases hb:b=a
 ·subst hb;rw[aB] at e;cases e;exact new
 ·rw[aw hb] at e
  exact(x b u e).mf (λc v _ q=>k c v q) (λc q=>by rw[aw (bY q hn)];exact q) λc xs q=>by rw[aw (bY q hn)];exact q
end
def Rd(H:Hp)(a:Addr)(u:HO):Prop:=H a=some u\/∃ o,H a=some (.qK o u)
theorem Rd.ok{u:HO}(r:Rd H a u)(x:mH P w H h):cu P w H h a u:=by
 rcases r with r | ⟨o,r⟩
 ·exact x a u r
 ·obtain⟨_,q⟩:=x a _ r
  exact q
def LB:Option HO->Prop
 | some (.lst _)=>True
 | some (.dK _)=>True
 | some (.dT _)=>True
 | some (.set _ _)=>True
 | some (.ins _ _ _)=>True
 | some (.ext _)=>True
 | _=>False
section
variable{x e:Addr}{o':HO}
theorem mH.write(ok:mH P w H h)(mu:LB (H x))(he:e=x\/H e=some (.own x))(k:∀ b u,b≠e->h.get? b=some u->h'.get? b=some u)(Rf:∃ u,h'.get? e=some u)
  (new:cu P w (upd H x o') h' x o'):mH P w (upd H x o') h':=λb u q=>by
 have RL:∀ c y,H c=some (.own y)->c≠x:=λc y r z=>by subst z;rw[r] at mu;exact mu
 have ntup:∀ c xs,H c=some (.tup xs)->c≠x:=λc xs r z=>by subst z;rw[r] at mu;exact mu
 by_cases hb:b=x
 ·subst hb;rw[aB] at q;cases q;exact new
 ·rw[aw hb] at q
  by_cases Qg:b=e
  ·have q':H b=some (.own x):=by
    rcases he with z | z
    ·exact absurd (Qg.trans z) hb
    ·rw[Qg];exact z
   rw[q] at q';cases q'
   obtain⟨v,hv⟩:=Rf
   exact⟨v,by rw[Qg];exact hv⟩
  ·refine(ok b u q).mf (λc v hc r=>k c v ?_ r) (λc r=>by rw[aw (RL c b r)];exact r) λc xs r=>by rw[aw (ntup c xs r)];exact r
   rcases hc with rfl | hc
   ·exact Qg
   ·rintro rfl
    rcases he with z | z
    ·exact RL c b hc z
    ·rw[hc] at z;cases z;exact hb rfl
end
structure Un (fs ex:List Addr) (H H':Hp) (h h':Heap):Prop where
 keep:∀ b o,h.get? b=some o->H b=none->b ∉ fs->b ∉ ex->h'.get? b=some o
 slot:∀ b o,h.get? b=some o->H b=none->b∈fs->b ∉ ex->∃ sl,h'.get? b=some { o with slots:=sl }
 free:∀ b o,h.get? b=some o->H b=none->b ∉ ex->H' b=none
 there:∀ b o,h.get? b=some o->b ∉ ex->∃ o',h'.get? b=some o'
 qg:∀ b xs,H b=some (.tup xs)->H' b=some (.tup xs)
 lE:∀ b o u,H b=some (.qK o u)->H' b=some (.qK o u)
 oX:∀ b ps,H b=some (.FL ps)->∃ more,H' b=some (.FL (ps++more))
section
variable{fs QW ex ex':List Addr}{H1 H2:Hp}{h1 h2:Heap}{x e:Addr}{o:HO}
theorem Un.any(u:Un fs ex H H1 h h1){ob:Obj}(q:h.get? b=some ob)(n:H b=none)(hx:b ∉ ex):∃ sl,h1.get? b=some { ob with slots:=sl }:=by
 by_cases hb:b∈fs
 ·exact u.slot b ob q n hb hx
 ·exact⟨ob.slots,u.keep b ob q n hb hx⟩
theorem Un.kept(k:∀ b u,h.get? b=some u->h'.get? b=some u):Un fs ex H H h h' :=
 ⟨λb ob q _ _ _=>k b ob q,λb ob q _ _ _=>⟨ob.slots,k b ob q⟩,λ_ _ _ n _=>n,λb ob q _=>⟨ob,k b ob q⟩,λ_ _ q=>q,λ_ _ _ q=>q,λ_ ps q=>⟨#[],by rw[q];simp⟩⟩
theorem Un.refl:Un fs ex H H h h:=Un.kept λ_ _ q=>q
theorem Un.laid(k:∀ b u,h.get? b=some u->h'.get? b=some u)(hp:h.objs.size<=a)(hn:H a=none):Un fs ex H (upd H a o) h h' where
 keep:=λb u q _ _ _=>k b u q
 slot:=λb u q _ _ _=>⟨u.slots,k b u q⟩
 free:=λb u q n _=>by rw[aw (Nat.ne_of_lt (Nat.lt_of_lt_of_le (Heap.lt_size q) hp))];exact n
 there:=λb u q _=>⟨u,k b u q⟩
 qg:=λb xs q=>by rw[aw (bY q hn)];exact q
 lE:=λb u xs q=>by rw[aw (bY q hn)];exact q
 oX:=λb ps q=>⟨#[],by rw[aw (bY q hn),q];simp⟩
theorem Un.write(mu:LB (H x))(he:e=x\/H e=some (.own x))(k:∀ b u,b≠e->h.get? b=some u->h'.get? b=some u)(Rf:∃ u,h'.get? e=some u):Un fs ex H (upd H x o) h h':=by
 have hx:∀ b,H b=none->b≠x:=λb n z=>by subst z;rw[n] at mu;exact mu
 have hb:∀ b,H b=none->b≠e:=λb n z=>by
  subst z
  rcases he with r | r
  ·exact hx b n r
  ·rw[n] at r;cases r
 have hm:∀ b u,H b=some u->¬ LB (some u)->b≠x:=λb u q nm z=>by subst z;rw[q] at mu;exact nm mu
 refine⟨λb u q n _ _=>k b u (hb b n) q,λb u q n _ _=>⟨u.slots,k b u (hb b n) q⟩,λb u q n _=>by rw[aw (hx b n)];exact n,λb u q _=>?_,
  λb xs q=>by rw[aw (hm b _ q λz=>z)];exact q,λb u xs q=>by rw[aw (hm b _ q λz=>z)];exact q,λb ps q=>⟨#[],by rw[aw (hm b _ q λz=>z),q];simp⟩⟩
 by_cases Qg:b=e
 ·subst Qg;exact Rf
 ·exact⟨u,k b u Qg q⟩
end
def Lu(h:Heap)(H:Hp):List Addr:=(List.range h.objs.size).filter λa=>(H a).isSome
def sE(h:Heap)(H:Hp):Heap:=PySem.W.hideAll h (Lu h H)
theorem yY(h:Heap)(H:Hp):(sE h H).objs.size=h.objs.size:=PySem.W.hideAll_size _ _
variable{o:Obj}
theorem AB(e:h.get? b=some o)(n:H b=none):(sE h H).get? b=some o :=
 PySem.W.hideAll_get _ e λhm=>by
  have q:(H b).isSome=true:=(List.mem_filter.mp hm).2
  rw[n] at q;simp at q
theorem Fs(e:(sE h H).get? b=some o):h.get? b=some o/\H b=none:=by
 have e':h.get? b=some o:=PySem.W.of_hideAll (Lu h H) e
 refine⟨e',?_⟩
 cases q:H b with
 | none=>rfl
 | some x =>
  have hm:b∈Lu h H:=List.mem_filter.mpr ⟨List.mem_range.mpr (Heap.lt_size e'),by simp[q]⟩
  have z:(sE h H).get? b=none:=PySem.W.hideAll_none (Lu h H) hm
  rw[z] at e;cases e
def ER(g h:Heap)(L:Addr):List (Addr×Obj):=(List.range h.objs.size).filterMap λa=>if a=L\/(g.get? a).isSome=true then none else (h.get? a).map λo=>(a,o)
def rest(g h:Heap)(L d:Addr):List (Addr×Obj):=(ER g h L).filter λp=>decide (p.1≠d)
structure Mod (K:PySem.W.Frag) (mg:Str->Option Value) (base:Heap):Prop where
 Gf:K.In base
 glob:base.Ns mainGlobals mg
 blt:∃ mb,base.Ns builtinsNs mb/\∀ x:Str,x ≠ "__name__" -> mb x=bootBuiltins x
 nolimit:base.NoLimit
structure Cx where
 prog:Program
 w:World
 K:PySem.W.Frag
 mg:Str->Option Value
 base:Heap
 A:Around
 N:List Str
 s₀:Shared
 H₀:Hp
 env:Env
 outer:List Env
 stack:List Env
 ex:List Addr
 fn:Str->Bool
 calm:Bool
 pn:List (Addr×Obj)
 xe:Value->Shared->Prop
def wg(l:List Env):List Addr:=l.filterMap (·.frame)
abbrev Cx.fs(X:Cx):List Addr:=wg X.outer
def A0(sc:Scope)(x:Str):Prop:=sc.names.lookup x=some .local\/sc.names.lookup x=some .cell\/sc.names.lookup x=some .free
def Loc(sc:Scope)(x:Str):Prop:=sc.names.lookup x=some .local\/sc.names.lookup x=some .cell
def Look(env:Env)(h:Heap)(m:Str->Option Value)(x:Str)(u:Value):Prop :=
 (env.kindOf x=some .local/\m x=some u)\/((env.kindOf x=some .cell\/env.kindOf x=some .free)/\∃ c,env.cells.lookup x=some c/\h.IsCell c (some u))
structure Cx.Ok (X:Cx):Prop where
 mod:Mod X.K X.mg X.base
 kind:X.env.scope.kind=.function
 glob:X.env.globals=mainGlobals
 blt:X.env.builtins=builtinsNs
 above:X.s₀.heap.objs.size<=X.env.locals
 inj:∀ x y c,X.env.cells.lookup x=some c->X.env.cells.lookup y=some c->x=y
 has:∀ x,(X.env.kindOf x=some .cell\/X.env.kindOf x=some .free)->∃ c,X.env.cells.lookup x=some c
 FU:∀ x c,X.fn x=true->X.env.cells.lookup x=some c->X.s₀.heap.objs.size<=c
 hd:X.calm=true->X.A.handled=none
 frames:X.A.frames=some X.stack
 Hw:X.stack=X.outer\/(X.stack=X.env::X.outer/\X.env.frame=some X.env.locals)
 Jn:∀ b∈X.ex,b≠X.env.locals/\∀ x c,X.env.cells.lookup x=some c->c≠b
 bs:∀ b o,X.base.get? b=some o->X.s₀.heap.get? b=some o/\X.H₀ b=none
 AY:X.base.objs.size<=X.s₀.heap.objs.size
 tX:∀ b o,X.base.get? b=some o->b ∉ X.ex
 u4:∀ b∈X.ex,b ∉ X.fs
 lG:X.s₀.heap.FunFrames X.base X.outer
 Du:∀ b∈X.fs,X.H₀ b=none
structure Inv (X:Cx) (NX:List (Addr×Obj)) (σ:List (Option V)) (H:Hp) (s:Shared):Prop where
 ok:X.Ok
 os:s.os=X.s₀.os
 bare:AllBare s.gens
 base:Un X.fs X.ex X.H₀ H X.s₀.heap s.heap
 loc:∃ m,s.heap.Ns X.env.locals m/\∀ (i:Nat) (x:Str) (v:V),X.N[i]?=some x->σ[i]?=some (some v)->A0 X.env.scope x->∃ u,RelV v u/\Look X.env s.heap m x u
 cell:∀ x c,X.env.cells.lookup x=some c->∃ v,s.heap.IsCell c v
 free:H X.env.locals=none
 gk:∀ x c,X.env.cells.lookup x=some c->H c=none
 pin:∀ p∈X.pn++NX,s.heap.get? p.1=some p.2/\H p.1=none/\p.1≠X.env.locals/\p.1 ∉ X.fs/\∀ v,p.2.data≠.cell v
 bK:mH X.prog X.w H s.heap
 len:σ.length=X.N.length
variable{s:Shared}{NX:List (Addr×Obj)}{X:Cx}
variable{ch:List Addr}{d':Drawn}{t':Nat}{g':Array GenState}
variable{it:Addr}
variable{x:Str}{i:Nat}{N:List Str}
variable{u:Value}{v:V}{E:Value->Shared->Prop}{A:Around}
section
variable{σ:List (Option V)}
theorem Cx.Ok.MR(ok:X.Ok)(e:X.base.get? b=some o):b ∉ X.fs:=λhb=>by
 have:=(ok.lG.mem hb).1
 rw[e] at this;cases this
theorem Inv.bs(I:Inv X NX σ H s):∀ b o,X.base.get? b=some o->s.heap.get? b=some o/\H b=none:=λb o e =>
 ⟨I.base.keep b o (I.ok.bs b o e).1 (I.ok.bs b o e).2 (I.ok.MR e) (I.ok.tX b o e),I.base.free b o (I.ok.bs b o e).1 (I.ok.bs b o e).2 (I.ok.tX b o e)⟩
theorem Inv.bk(I:Inv X NX σ H s):∀ b o,X.base.get? b=some o->s.heap.get? b=some o:=λb o e=>(I.bs b o e).1
theorem Inv.mod(I:Inv X NX σ H s):Mod X.K X.mg X.base:=I.ok.mod
theorem Inv.jX(I:Inv X NX σ H s):X.K.In s.heap:=I.ok.mod.Gf.keeps I.bk
theorem Inv.lt(I:Inv X NX σ H s):X.env.locals<s.heap.objs.size:=let ⟨_,hn,_⟩:=I.loc;hn.lt
theorem Inv.sz(I:Inv X NX σ H s):X.s₀.heap.objs.size<=s.heap.objs.size:=Nat.le_trans I.ok.above (Nat.le_of_lt I.lt)
theorem Inv.Mr(I:Inv X NX σ H s)(h:s.heap.objs.size<=a):a ∉ X.fs:=λhb=>by
 obtain⟨_,o,ho,_⟩:=I.ok.lG.mem hb
 exact absurd (Nat.lt_of_lt_of_le (Heap.lt_size ho) (Nat.le_trans I.sz h)) (Nat.lt_irrefl _)
theorem Inv.CJ(I:Inv X NX σ H s):∀ x c,X.env.cells.lookup x=some c->c≠X.env.locals:=λx c e z=>by
 obtain⟨v,o,ho,hd⟩:=I.cell x c e
 obtain⟨m,⟨o',es,ep,PN,Rr,_⟩,_⟩:=I.loc
 rw[z,PN] at ho;cases ho;rw[Rr] at hd;cases hd
theorem Inv.lG(I:Inv X NX σ H s):s.heap.FunFrames X.base X.outer:=by
 have all:∀ (l:List Env),(∀ b∈wg l,b∈X.fs)->X.s₀.heap.FunFrames X.base l->s.heap.FunFrames X.base l:=by
  intro l
  induction l with
  | nil=>intro _ _;trivial
  | cons env r ih =>
   intro hs hl
   obtain⟨hk,⟨L,o,hf,hn,ho,hd⟩,hr⟩:=hl
   have hL:L∈X.fs:=hs L (by unfold wg;rw[List.filterMap_cons,hf];exact List.mem_cons_self)
   obtain⟨sl,e⟩:=I.base.slot L o ho (I.ok.Du L hL) hL λz=>I.ok.u4 L z hL
   exact⟨hk,⟨L,_,hf,hn,e,hd⟩,ih (λb hb=>hs b (by unfold wg;rw[List.filterMap_cons,hf];exact List.mem_cons_of_mem _ hb)) hr⟩
 exact all X.outer (λ_ hb=>hb) I.ok.lG
theorem Inv.stack(I:Inv X NX σ H s):s.heap.FunFrames X.base X.stack:=by
 rcases I.ok.Hw with e | ⟨e,hf⟩
 ·rw[e];exact I.lG
 ·rw[e]
  obtain⟨m,hn,_⟩:=I.loc
  refine .cons (by rw[I.ok.kind];decide) hf hn ?_ I.lG
  exact Heap.get?_none_of_le (Nat.le_trans I.ok.AY I.ok.above)
theorem Inv.tQ(I:Inv X NX σ H s):∀ b∈wg X.stack,b∈X.env.locals::X.fs:=λb hb=>by
 rcases I.ok.Hw with e | ⟨e,hf⟩
 ·rw[e] at hb;exact List.mem_cons_of_mem _ hb
 ·rw[e] at hb
  unfold wg at hb
  rw[List.filterMap_cons,hf] at hb
  exact hb
theorem Inv.ug(I:Inv X NX σ H s):∀ b∈wg X.stack,H b=none:=λb hb=>by
 rcases List.mem_cons.mp (I.tQ b hb) with e | hb
 ·rw[e];exact I.free
 ·obtain⟨_,o,ho,_⟩:=I.ok.lG.mem hb
  exact I.base.free b o ho (I.ok.Du b hb) λz=>I.ok.u4 b z hb
theorem Inv.step(I:Inv X NX σ H s)
  (PY:∀ b∈ch,(b∈X.ex\/X.s₀.heap.objs.size<=b)/\b≠X.env.locals/\(∀ x c,X.env.cells.lookup x=some c->c≠b)/\∀ p∈X.pn++NX,p.1≠b)
  (keep:∀ b o,b≠X.env.locals->b ∉ X.fs->b ∉ ch->s.heap.get? b=some o->H b=none->h'.get? b=some o)
  (slot:∀ b o,b≠X.env.locals->b∈X.fs->b ∉ ch->s.heap.get? b=some o->H b=none->∃ sl,h'.get? b=some { o with slots:=sl }) (free:∀ b o,b ∉ ch->s.heap.get? b=some o->H b=none->H' b=none)
  (there:∀ b o,b ∉ ch->s.heap.get? b=some o->∃ o',h'.get? b=some o')
  (qg:∀ b xs,H b=some (.tup xs)->H' b=some (.tup xs)) (lE:∀ b o u,H b=some (.qK o u)->H' b=some (.qK o u)) (oX:∀ b ps,H b=some (.FL ps)->∃ more,H' b=some (.FL (ps++more)))
  (ns:∀ m,s.heap.Ns X.env.locals m->h'.Ns X.env.locals m) (bK:mH X.prog X.w H' h') (hg:AllBare g') :
  Inv X NX σ H' { s with heap:=h',gens:=g',drawn:=d',toks:=t' }:=by
 have neL:∀ b o,X.s₀.heap.get? b=some o->b≠X.env.locals:=λb o e=>Nat.ne_of_lt (Nat.lt_of_lt_of_le (Heap.lt_size e) I.ok.above)
 have neC:∀ b o,X.s₀.heap.get? b=some o->b ∉ X.ex->b ∉ ch:=λb o e hx hb=>by
  rcases(PY b hb).1 with z | z
  ·exact hx z
  ·exact absurd (Nat.lt_of_lt_of_le (Heap.lt_size e) z) (Nat.lt_irrefl _)
 have cellK:∀ x c,X.env.cells.lookup x=some c->∀ v,s.heap.IsCell c v->h'.IsCell c v:=λx c e v ⟨o,ho,hd⟩=>by
  have RJ:c ∉ ch:=λz=>(PY c z).2.2.1 x c e rfl
  by_cases hc:c∈X.fs
  ·obtain⟨sl,q⟩:=slot c o (I.CJ x c e) hc RJ ho (I.gk x c e)
   exact⟨_,q,hd⟩
  ·exact⟨o,keep c o (I.CJ x c e) hc RJ ho (I.gk x c e),hd⟩
 refine⟨I.ok,I.os,hg,⟨λb o e n hb hx=>?_,λb o e n hb hx=>?_,λb o e n hx=>?_,λb o e hx=>?_,λb xs e=>qg b xs (I.base.qg b xs e),λb o xs e=>lE b o xs (I.base.lE b o xs e),λb ps e=>?_⟩,?_,λx c e=>?_,?_,λx c e=>?_,λp hp=>?_,bK,I.len⟩
 ·exact keep b o (neL b o e) hb (neC b o e hx) (I.base.keep b o e n hb hx) (I.base.free b o e n hx)
 ·obtain⟨sl,e1⟩:=I.base.slot b o e n hb hx
  obtain⟨sl',e2⟩:=slot b _ (neL b o e) hb (neC b o e hx) e1 (I.base.free b o e n hx)
  exact⟨sl',e2⟩
 ·obtain⟨o',e1⟩:=I.base.there b o e hx
  exact free b o' (neC b o e hx) e1 (I.base.free b o e n hx)
 ·obtain⟨o',e1⟩:=I.base.there b o e hx
  exact there b o' (neC b o e hx) e1
 ·obtain⟨m1,e1⟩:=I.base.oX b ps e
  obtain⟨m2,e2⟩:=oX b _ e1
  exact⟨m1++m2,by rw[e2,Array.append_assoc]⟩
 ·obtain⟨m,hn,hl⟩:=I.loc
  refine⟨m,ns m hn,λi x v e1 e2 e3=>?_⟩
  obtain⟨u,r,l⟩:=hl i x v e1 e2 e3
  refine⟨u,r,?_⟩
  rcases l with l | ⟨k,c,e,z⟩
  ·exact .inl l
  ·exact .inr ⟨k,c,e,cellK x c e _ z⟩
 ·obtain⟨v,z⟩:=I.cell x c e
  exact⟨v,cellK x c e v z⟩
 ·obtain⟨m,⟨o,_,_,ho,_⟩,_⟩:=I.loc
  exact free _ o (λz=>(PY _ z).2.1 rfl) ho I.free
 ·obtain⟨v,o,ho,hd⟩:=I.cell x c e
  exact free c o (λz=>(PY c z).2.2.1 x c e rfl) ho (I.gk x c e)
 ·obtain⟨e,n,ne,nf,d⟩:=I.pin p hp
  have RJ:p.1 ∉ ch:=λz=>(PY p.1 z).2.2.2 p hp rfl
  exact⟨keep p.1 p.2 ne nf RJ e n,free p.1 p.2 RJ e n,ne,nf,d⟩
theorem Inv.un(I:Inv X NX σ H s)(u:Un X.fs [] H H' s.heap h')(bK:mH X.prog X.w H' h'):Inv X NX σ H' { s with heap:=h',toks:=t' }:=by
 obtain⟨m,⟨o,es,ep,ho,r⟩,_⟩:=id I.loc
 obtain⟨sl,hL⟩:=u.any ho I.free (by simp)
 exact I.step (g':=s.gens) (d':=s.drawn) (ch:=[]) (λ_ z=>nomatch z) (λb o _ hb _ e n=>u.keep b o e n hb (by simp)) (λb o _ hb _ e n=>u.slot b o e n hb (by simp)) (λb o _ e n=>u.free b o e n (by simp)) (λb o _ e=>u.there b o e (by simp)) u.qg u.lE u.oX (λm' hm=>by
  obtain⟨o',es',ep',PN,r'⟩:=hm
  rw[ho] at PN;cases PN
  exact⟨_,es',ep',hL,r'⟩) bK I.bare
theorem Inv.call(I:Inv X NX σ H s)(u:Un (wg X.stack) ch H H' s.heap h')(bK:mH X.prog X.w H' h')(hg:AllBare g')
  (PY:∀ b∈ch,(b∈X.ex\/X.s₀.heap.objs.size<=b)/\b≠X.env.locals/\(∀ x c,X.env.cells.lookup x=some c->c≠b)/\∀ p∈X.pn++NX,p.1≠b) :
  Inv X NX σ H' { s with heap:=h',gens:=g',drawn:=d',toks:=t' }:=by
 obtain⟨m,⟨o,es,ep,ho,r⟩,_⟩:=id I.loc
 obtain⟨sl,hL⟩:=u.any ho I.free λz=>(PY _ z).2.1 rfl
 exact I.step (ch:=ch) PY (λb o hL hb hc e n=>u.keep b o e n (λz=>(List.mem_cons.mp (I.tQ b z)).elim hL hb) hc) (λb o _ _ hc e n=>u.any e n hc) (λb o hc e n=>u.free b o e n hc) (λb o hc e=>u.there b o e hc) u.qg u.lE u.oX (λm' hm=>by
  obtain⟨o',es',ep',PN,r'⟩:=hm
  rw[ho] at PN;cases PN
  exact⟨_,es',ep',hL,r'⟩) bK hg
theorem Inv.turned(I:Inv X NX σ H s)(k:∀ b o,b≠it->s.heap.get? b=some o->h'.get? b=some o)(hn:H it=none)(hL:it≠X.env.locals)
  (h1:it∈X.ex\/X.s₀.heap.objs.size<=it) (h2:∀ x c,X.env.cells.lookup x=some c->c≠it) (h3:∀ p∈X.pn++NX,p.1≠it):Inv X NX σ H { s with heap:=h',toks:=t' }:=by
 have nit:∀ b u,H b=some u->b≠it:=λb u e z=>by rw[z,hn] at e;cases e
 refine I.step (g':=s.gens) (d':=s.drawn) (ch:=[it]) (λb hb=>?_) (λb o _ _ hc e _=>k b o (λz=>hc (by simp[z])) e) (λb o _ _ hc e _=>⟨o.slots,k b o (λz=>hc (by simp[z])) e⟩) (λ_ _ _ _ n=>n)
  (λb o hc e=>⟨o,k b o (λz=>hc (by simp[z])) e⟩) (λ_ _ e=>e) (λ_ _ _ e=>e) (λb ps e=>⟨#[],by rw[e];simp⟩) (λm hm=>?_) (λb u e=>?_) I.bare
 ·have e:b=it:=by simpa using hb
  subst e
  exact⟨h1,hL,h2,h3⟩
 ·obtain⟨o,es,ep,ho,r⟩:=hm
  exact⟨o,es,ep,k _ o (Ne.symm hL) ho,r⟩
 ·refine(I.bK b u e).mf (λc v hc q=>k c v ?_ q) (λ_ q=>q) λ_ _ q=>q
  rcases hc with z | z
  ·rw[z];exact nit b u e
  ·exact nit c _ z
theorem Inv.tok(I:Inv X NX σ H s)(t:Nat):Inv X NX σ H { s with toks:=t }:=I.un (h':=s.heap) (t':=t) Un.refl I.bK
theorem Inv.kept{t':Nat}(I:Inv X NX σ H s)(k:∀ b u,s.heap.get? b=some u->h'.get? b=some u):Inv X NX σ H { s with heap:=h',toks:=t' }:=I.un (Un.kept k) (I.bK.kept k)
theorem Inv.laid{a:Addr}{o:HO}{t':Nat}(I:Inv X NX σ H s)(k:∀ b u,s.heap.get? b=some u->h'.get? b=some u)(hp:s.heap.objs.size<=a)(new:cu X.prog X.w (upd H a o) h' a o) :
  Inv X NX σ (upd H a o) { s with heap:=h',toks:=t' }:=I.un (Un.laid k hp (I.bK.fresh hp)) (I.bK.laid k hp new)
theorem Inv.write{x e:Addr}{o:HO}{t':Nat}(I:Inv X NX σ H s)(mu:LB (H x))(he:e=x\/H e=some (.own x))(k:∀ b u,b≠e->s.heap.get? b=some u->h'.get? b=some u)(Rf:∃ u,h'.get? e=some u)
  (new:cu X.prog X.w (upd H x o) h' x o):Inv X NX σ (upd H x o) { s with heap:=h',toks:=t' }:=I.un (Un.write mu he k Rf) (I.bK.write mu he k Rf new)
theorem Inv.yv{PZ:List (Addr×Obj)}(I:Inv X NX σ H s)(h:∀ p∈PZ,s.heap.get? p.1=some p.2/\H p.1=none/\p.1≠X.env.locals/\p.1 ∉ X.fs/\∀ v,p.2.data≠.cell v):Inv X PZ σ H s :=
 ⟨I.ok,I.os,I.bare,I.base,I.loc,I.cell,I.free,I.gk,λp hp=>(List.mem_append.mp hp).elim (λz=>I.pin p (List.mem_append_left _ z)) (h p),I.bK,I.len⟩
theorem pQ(hN:N.Nodup){j:Nat}(a:N[i]?=some x)(b:N[j]?=some x):i=j:=by
 obtain⟨h1,e1⟩:=List.getElem?_eq_some_iff.mp a
 obtain⟨h2,e2⟩:=List.getElem?_eq_some_iff.mp b
 exact(List.getElem_inj hN).mp (e1.trans e2.symm)
theorem nh{M:Model}{Q:Unit->Shared->Prop}(I:Inv X NX σ H s)(hN:X.N.Nodup)(hi:X.N[i]?=some x)(hx:Loc X.env.scope x)(r:RelV v u)
  (h:∀ s',Inv X NX (σ.set i (some v)) H s'->(∃ a,Heap.SameBut a s.heap s'.heap/\(a=X.env.locals\/X.env.cells.lookup x=some a))->Q () s') (hf:autoParam (X.fn x=true\/X.env.scope.names.lookup x=some .local) aF._auto_1):wpAny M A (storeName X.env x u) Q E s:=by
 obtain⟨m,hn,hl⟩:=id I.loc
 have hcls:(X.env.scope.kind==.class||(X.env.scope.kind==.module&&X.env.locals != X.env.globals))=false:=by rw[I.ok.kind];rfl
 have hiσ:i<σ.length:=by rw[I.len];exact(List.getElem?_eq_some_iff.mp hi).1
 have CJ:=I.CJ
 have tracked:∀ {a:Addr} {h':Heap},(∃ o,s.heap.get? a=some o/\H a=none)->Heap.SameBut a s.heap h'->mH X.prog X.w H h':=λ{a h'} ha hs b ob e=>by
  obtain⟨_,_,Qa⟩:=ha
  refine(I.bK b ob e).mf (λc w' hc q=>(hs.2 c ?_).trans q) (λ_ q=>q) λ_ _ q=>q
  rintro rfl
  rcases hc with rfl | hc
  ·rw[Qa] at e;cases e
  ·rw[Qa] at hc;cases hc
 rcases hx with hk | hk
 ·refine wpAny_storeName_local hk hn (λh' Ry hs=>?_) hcls
  obtain⟨oL,_,_,hoL,_⟩:=id hn
  refine h _ ⟨I.ok,I.os,I.bare,⟨λb o e n hb hx=>?_,λb o e n hb hx=>?_,I.base.free,λb o e hx=>?_,I.base.qg,I.base.lE,I.base.oX⟩,⟨_,Ry,λj y v' e1 e2 e3=>?_⟩,λy c e=>?_,I.free,I.gk,λp hp=>?_,tracked ⟨oL,hoL,I.free⟩ hs,by simpa using I.len⟩ ⟨_,hs,.inl rfl⟩
  ·exact(hs.2 b (Nat.ne_of_lt (Nat.lt_of_lt_of_le (Heap.lt_size e) I.ok.above))).trans (I.base.keep b o e n hb hx)
  ·obtain⟨sl,e1⟩:=I.base.slot b o e n hb hx
   exact⟨sl,(hs.2 b (Nat.ne_of_lt (Nat.lt_of_lt_of_le (Heap.lt_size e) I.ok.above))).trans e1⟩
  ·obtain⟨o',e1⟩:=I.base.there b o e hx
   exact⟨o',(hs.2 b (Nat.ne_of_lt (Nat.lt_of_lt_of_le (Heap.lt_size e) I.ok.above))).trans e1⟩
  ·by_cases hj:j=i
   ·subst hj
    rw[hi] at e1;cases e1
    rw[List.getElem?_set_self hiσ] at e2
    cases e2
    exact⟨u,r,.inl ⟨hk,by simp⟩⟩
   ·rw[List.getElem?_set_ne (Ne.symm hj)] at e2
    obtain⟨u',r',q⟩:=hl j y v' e1 e2 e3
    refine⟨u',r',?_⟩
    rcases q with ⟨k,e⟩ | ⟨k,c,e,z⟩
    ·refine .inl ⟨k,?_⟩
     have:y≠x:=λe=>hj (pQ hN e1 (e▸hi))
     simp[this,e]
    ·exact .inr ⟨k,c,e,z.sameBut hs (CJ y c e)⟩
  ·obtain⟨w',z⟩:=I.cell y c e
   exact⟨w',z.sameBut hs (CJ y c e)⟩
  ·obtain⟨e,n,ne,nf,d⟩:=I.pin p hp
   exact⟨(hs.2 p.1 ne).trans e,n,ne,nf,d⟩
 ·have hfn:X.fn x=true:=by
   rcases hf with z | z
   ·exact z
   ·rw[z] at hk;cases hk
  obtain⟨c,hc⟩:=I.ok.has x (.inl hk)
  obtain⟨w',z⟩:=I.cell x c hc
  refine wpAny_storeName_cell I.ok.kind hk hc z (λh' QN hs=>?_)
  obtain⟨oc,hoc,hocd⟩:=id z
  refine h { s with heap:=h' } ⟨I.ok,I.os,I.bare,⟨λb o e n hb hx=>?_,λb o e n hb hx=>?_,I.base.free,λb o e hx=>?_,I.base.qg,I.base.lE,I.base.oX⟩,⟨m,hn.sameBut hs (Ne.symm (CJ x c hc)),λj y v' e1 e2 e3=>?_⟩,λy c' e=>?_,I.free,I.gk,λp hp=>?_,tracked ⟨oc,hoc,I.gk x c hc⟩ hs,by simpa using I.len⟩ ⟨c,hs,.inr hc⟩
  ·exact(hs.2 b (Nat.ne_of_lt (Nat.lt_of_lt_of_le (Heap.lt_size e) (I.ok.FU x c hfn hc)))).trans (I.base.keep b o e n hb hx)
  ·obtain⟨sl,e1⟩:=I.base.slot b o e n hb hx
   exact⟨sl,(hs.2 b (Nat.ne_of_lt (Nat.lt_of_lt_of_le (Heap.lt_size e) (I.ok.FU x c hfn hc)))).trans e1⟩
  ·obtain⟨o',e1⟩:=I.base.there b o e hx
   exact⟨o',(hs.2 b (Nat.ne_of_lt (Nat.lt_of_lt_of_le (Heap.lt_size e) (I.ok.FU x c hfn hc)))).trans e1⟩
  ·by_cases hj:j=i
   ·subst hj
    rw[hi] at e1;cases e1
    rw[List.getElem?_set_self hiσ] at e2
    cases e2
    exact⟨u,r,.inr ⟨.inl hk,c,hc,QN⟩⟩
   ·rw[List.getElem?_set_ne (Ne.symm hj)] at e2
    obtain⟨u',r',q⟩:=hl j y v' e1 e2 e3
    refine⟨u',r',?_⟩
    rcases q with q | ⟨k,c',e,z'⟩
    ·exact .inl q
    ·refine .inr ⟨k,c',e,z'.sameBut hs ?_⟩
     rintro rfl
     exact hj (pQ hN e1 (I.ok.inj _ _ _ e hc▸hi))
  ·by_cases hcc:c'=c
   ·subst hcc;exact⟨_,QN⟩
   ·obtain⟨w2,z2⟩:=I.cell y c' e
    exact⟨w2,z2.sameBut hs hcc⟩
  ·obtain⟨e,n,ne,nf,d⟩:=I.pin p hp
   refine⟨(hs.2 p.1 ?_).trans e,n,ne,nf,d⟩
   intro q
   rw[q,hoc] at e
   have q':oc=p.2:=Option.some.inj e
   exact d w' (by rw[← q'];exact hocd)
theorem kf{M:Model}{Q:Unit->Shared->Prop}(I:Inv X NX σ H s)(hN:X.N.Nodup)(hi:X.N[i]?=some x)(hx:Loc X.env.scope x)(r:RelV v u)
  (h:∀ s',Inv X NX (σ.set i (some v)) H s'->Q () s') (hf:autoParam (X.fn x=true\/X.env.scope.names.lookup x=some .local) aF._auto_1):wpAny M A (storeName X.env x u) Q E s :=
 nh I hN hi hx r (λs' I' _=>h s' I') hf
theorem Inv.CU{s':Shared}(I:Inv X NX σ H s)(ho:s'.os=s.os)(u:Un (wg X.stack) ch H H' s.heap s'.heap)(bK:mH X.prog X.w H' s'.heap)(hg:AllBare s'.gens)
  (PY:∀ b∈ch,(b∈X.ex\/X.s₀.heap.objs.size<=b)/\b≠X.env.locals/\(∀ x c,X.env.cells.lookup x=some c->c≠b)/\∀ p∈X.pn++NX,p.1≠b):Inv X NX σ H' s':=by
 obtain⟨h',g',d',t',o'⟩:=s'
 have e:o'=s.os:=ho
 subst e
 exact I.call (g':=g') (t':=t') (d':=d') u bK hg PY
end
abbrev XK:=Value->Option Addr->Hp->Prop
abbrev St:=List (Option V)
abbrev VK:=V->Hp->Prop
abbrev TE:=St->Hp->VK->Prop
abbrev TT:=St->Hp->(Bool->Hp->Prop)->Prop
abbrev TA:=St->Hp->(List V->Hp->Prop)->Prop
structure Ends where
 nx:St->Hp->Prop
 rt:VK
 bk:St->Hp->Prop:=λ_ _=>False
 ct:St->Hp->Prop:=λ_ _=>False
abbrev TS:=Ends->St->Hp->Prop
def EP(X:Cx)(NX:List (Addr×Obj))(σ:St)(Q:VK)(u:Value)(s':Shared):Prop:=∃ v H',Inv X NX σ H' s'/\RelV v u/\Q v H'
def TP(X:Cx)(NX:List (Addr×Obj))(σ:St)(Q:Bool->Hp->Prop)(b:Bool)(s':Shared):Prop:=∃ H',Inv X NX σ H' s'/\Q b H'
def AP(X:Cx)(NX:List (Addr×Obj))(σ:St)(Q:List V->Hp->Prop)(us:List Value)(s':Shared):Prop:=∃ vs H',Inv X NX σ H' s'/\Vals vs us/\Q vs H'
def SP(X:Cx)(NX:List (Addr×Obj))(D:Ends)(f:Flow)(s':Shared):Prop :=
 match f with
 | .next=>∃ σ' H',Inv X NX σ' H' s'/\D.nx σ' H'
 | .brk=>∃ σ' H',Inv X NX σ' H' s'/\D.bk σ' H'
 | .cont=>∃ σ' H',Inv X NX σ' H' s'/\D.ct σ' H'
 | .ret u=>∃ v σ' H',Inv X NX σ' H' s'/\RelV v u/\D.rt v H'
def PE(X:Cx)(e:Expr)(t:TE):Prop :=
 ∀ (NX:List (Addr×Obj)) (s:Shared) (σ:St) (H:Hp) (Q:VK),Inv X NX σ H s->t σ H Q->wpAny (model X.prog X.w) X.A (eval e X.env) (EP X NX σ Q) X.xe s
def PT(X:Cx)(e:Expr)(t:TT):Prop :=
 ∀ (NX:List (Addr×Obj)) (s:Shared) (σ:St) (H:Hp) (Q:Bool->Hp->Prop),Inv X NX σ H s->t σ H Q->wpAny (model X.prog X.w) X.A (isTrue e X.env (eval e X.env)) (TP X NX σ Q) X.xe s
def PW(X:Cx)(e:Expr)(t:TT):Prop :=
 ∀ (whole:Sem Value) (NX:List (Addr×Obj)) (s:Shared) (σ:St) (H:Hp) (Q:Bool->Hp->Prop),Inv X NX σ H s->t σ H Q->wpAny (model X.prog X.w) X.A (isTrue e X.env whole) (TP X NX σ Q) X.xe s
variable{e:Expr}
theorem PW.pt{t:TT}(h:PW X e t):PT X e t:=h _
def PA(X:Cx)(es:List Expr)(t:TA):Prop :=
 ∀ (pos:Pos) (NX:List (Addr×Obj)) (s:Shared) (σ:St) (H:Hp) (Q:List V->Hp->Prop),Inv X NX σ H s->t σ H Q->wpAny (model X.prog X.w) X.A (spliced (backTo pos (starEach es X.env))) (AP X NX σ Q) X.xe s
def PS(X:Cx)(st:Stmt)(t:TS):Prop :=
 ∀ (NX:List (Addr×Obj)) (s:Shared) (σ:St) (H:Hp) (D:Ends),Inv X NX σ H s->t D σ H->wpAny (model X.prog X.w) X.A (exec st X.env) (SP X NX D) X.xe s
def kq(X:Cx)(st:List Stmt)(t:TS):Prop :=
 ∀ (NX:List (Addr×Obj)) (s:Shared) (σ:St) (H:Hp) (D:Ends),Inv X NX σ H s->t D σ H->wpAny (model X.prog X.w) X.A (execs st X.env) (SP X NX D) X.xe s
theorem cG{α:Type}{t:Sem α}{Q Q':α->Shared->Prop}{M:Model}(h:wpAny M A t Q E s)(hQ:∀ a s,Q a s->Q' a s):wpAny M A t Q' E s:=wpAny_mono h hQ λ_ _ x=>x
variable{Q:Value->Shared->Prop}{σ:St}
variable{ta:TE}
variable{c:Expr}
section
def LM(i:Nat):TE:=fun σ H Q=>∃ v,σ[i]?=some (some v)/\Q v H
def tC(v:V):TE:=λ_ H Q=>Q v H
theorem lq{pos:Pos}(hN:X.N[i]?=some x)(hv:A0 X.env.scope x)(hd:autoParam ((x==("__debug__" : Str))=false) aD._auto_1)(OX:autoParam ((x==("__classdict__" : Str))=false) aD._auto_1):PE X (.Name x pos) (LM i):=by
 intro NX s σ H Q I h
 obtain⟨v,e,h⟩:=h
 obtain⟨m,hn,hl⟩:=I.loc
 obtain⟨u,r,l⟩:=hl i x v hN e hv
 have fin:EP X NX σ Q u s:=⟨v,H,I,r,h⟩
 rcases l with ⟨hk,hm⟩ | ⟨hk,c,hc,P_⟩
 ·exact wpAny_Name (wpAny_loadName_local I.ok.kind hk hn hm fin) hd
 ·rcases hk with hk | hk
  ·exact wpAny_Name (wpAny_loadName_cell I.ok.kind hk hc P_ fin) hd
  ·exact wpAny_Name (wpAny_loadName_free I.ok.kind hk hc P_ fin OX) hd
theorem GL{i j pos}:PE X (.Constant (.int i) j pos) (tC (.int i)):=λ_ _ _ H _ I h=>wpAny_Constant_int ⟨.int i,H,I.tok _,⟨_,rfl⟩,h⟩
theorem K6{b j pos}:PE X (.Constant (.bool b) j pos) (tC (.bl b)):=λ_ _ _ H _ I h=>Constant_bool ⟨.bl b,H,I,rfl,h⟩
theorem Hl{j pos}:PE X (.Constant .none j pos) (tC .da):=λ_ _ _ H _ I h=>Constant_none ⟨.da,H,I,rfl,h⟩
theorem Hm{x j pos}:PE X (.Constant (.str x) j pos) (tC (.str x)):=λ_ _ _ H _ I h=>Calls.Constant_str ⟨.str x,H,I.tok _,⟨_,rfl⟩,h⟩
def Gl(X:Cx)(x:Str):Prop:=X.env.kindOf x=some .globalImplicit
theorem jd{pos:Pos}(I:Inv X NX σ H s)(hg:Gl X x)(hm:X.mg x=some u)(h:Q u s)
  (hd:autoParam ((x==("__debug__" : Str))=false) aD._auto_1):wpAny (model X.prog X.w) X.A (eval (.Name x pos) X.env) Q E s :=
 Calls.Name_function_global I.ok.kind hg (Calls.loadGlobal_global (by rw[I.ok.glob];exact I.mod.glob.keeps I.bk) hm h) hd
theorem ju{pos:Pos}(I:Inv X NX σ H s)(hg:Gl X x)(hm:X.mg x=none)(hv:bootBuiltins x=some u)(h:Q u s)
  (hn:autoParam (x ≠ "__name__") aD._auto_1) (hd:autoParam ((x==("__debug__" : Str))=false) aD._auto_1):wpAny (model X.prog X.w) X.A (eval (.Name x pos) X.env) Q E s:=by
 obtain⟨mb,h1,h2⟩:=I.mod.blt
 exact Calls.Name_function_global I.ok.kind hg (Calls.loadGlobal_builtin (by rw[I.ok.glob];exact I.mod.glob.keeps I.bk) hm (by rw[I.ok.blt];exact h1.keeps I.bk) ((h2 x hn).trans hv) h) hd
theorem xX{pos:Pos}(hg:Gl X x)(hm:X.mg x=some u)(r:RelV v u)(hd:autoParam ((x==("__debug__" : Str))=false) aD._auto_1):PE X (.Name x pos) (tC v) :=
 λ_ _ _ H _ I h=>jd I hg hm ⟨v,H,I,r,h⟩ hd
theorem fy{pos:Pos}(hg:Gl X x)(hm:X.mg x=none)(hv:bootBuiltins x=some u)(r:RelV v u)(hn:autoParam (x ≠ "__name__") aD._auto_1)(hd:autoParam ((x==("__debug__" : Str))=false) aD._auto_1):PE X (.Name x pos) (tC v) :=
 λ_ _ _ H _ I h=>ju I hg hm hv ⟨v,H,I,r,h⟩ hn hd
variable{a b:Expr}{tb:TE}{pos:Pos}
def tB(t:TE):TT:=fun σ H Q=>t σ H λx H1=>∃ c,x=.bl c/\Q c H1
theorem Im{t:TE}(h:PE X e t)(he:autoParam (∀ whole,isTrue e X.env whole=(do let v ← whole;standAt e.pos;holding [v] (truthy v))) aI._auto_1):PT X e (tB t):=by
 intro NX s σ H Q I hw
 refine isTrue_plain (cG (h NX s σ H _ I hw) λv s1 ⟨x,H1,I1,r1,q1⟩=>?_) (he _)
 obtain⟨d,rfl,q⟩:=q1
 cases r1
 exact wpAny_truthy_bool ⟨H1,I1,q⟩
variable{tA tB':TT}{rest:List Expr}
def MN(t u:TT):TT:=fun σ H Q=>t σ H λc H1=>if c=true then u σ H1 Q else Q false H1
def NS(t u:TT):TT:=fun σ H Q=>t σ H λc H1=>if c=true then Q true H1 else u σ H1 Q
def MT(t:TT):TT:=fun σ H Q=>t σ H λc H1=>Q (!c) H1
theorem pw_and1(ha:PT X a tA):PW X (.BoolOp .And [a] pos) tA:=by
 intro wh NX s σ H Q I h
 refine isTrue_and (cG (ha NX s σ H Q I h) λc s1 e=>?_)
 cases c with
 | true=>exact isTrue_and_nil e
 | false=>exact e
theorem pw_or1(ha:PT X a tA):PW X (.BoolOp .Or [a] pos) tA:=by
 intro wh NX s σ H Q I h
 refine isTrue_or (cG (ha NX s σ H Q I h) λc s1 e=>?_)
 cases c with
 | false=>exact isTrue_or_nil e
 | true=>exact e
theorem pw_and(ha:PT X a tA)(hb:PW X (.BoolOp .And (b::rest) pos) tB'):PW X (.BoolOp .And (a::b::rest) pos) (MN tA tB'):=by
 intro wh NX s σ H Q I h
 refine isTrue_and (cG (ha NX s σ H _ I h) λc s1 ⟨H1,I1,q1⟩=>?_)
 cases c with
 | true=>exact hb wh NX s1 σ H1 Q I1 q1
 | false=>exact⟨H1,I1,q1⟩
theorem pw_or(ha:PT X a tA)(hb:PW X (.BoolOp .Or (b::rest) pos) tB'):PW X (.BoolOp .Or (a::b::rest) pos) (NS tA tB'):=by
 intro wh NX s σ H Q I h
 refine isTrue_or (cG (ha NX s σ H _ I h) λc s1 ⟨H1,I1,q1⟩=>?_)
 cases c with
 | true=>exact⟨H1,I1,q1⟩
 | false=>exact hb wh NX s1 σ H1 Q I1 q1
theorem G0(ha:PT X a tA):PT X (.UnaryOp .Not a pos) (MT tA):=by
 intro NX s σ H Q I h
 exact isTrue_not (ha NX s σ H (λc H1=>Q (!c) H1) I h)
def JX(ta tb:TE):TE:=fun σ H Q=>ta σ H λx H1=>∃ c,x=.bl c/\if c=true then tb σ H1 Q else Q (.bl false) H1
def KZ(ta:TE):TE:=fun σ H Q=>ta σ H λx H1=>∃ c,x=.bl c/\Q (.bl (!c)) H1
theorem xN{op}{t:TE}(h:PE X a t):PE X (.BoolOp op [a] pos) t:=λNX s σ H Q I hw=>BoolOp_one (h NX s σ H Q I hw)
theorem Gw(ha:PE X a ta)(hb:PE X (.BoolOp .And (b::rest) pos) tb):PE X (.BoolOp .And (a::b::rest) pos) (JX ta tb):=by
 intro NX s σ H Q I h
 refine BoolOp_and (cG (ha NX s σ H _ I h) λv s1 ⟨x,H1,I1,r1,q1⟩=>?_)
 obtain⟨c,rfl,q1⟩:=q1
 cases r1
 refine wpAny_truthy_bool ?_
 cases c with
 | true=>exact hb NX s1 σ H1 Q I1 q1
 | false=>exact⟨.bl false,H1,I1,rfl,q1⟩
theorem Hn(ha:PE X a ta):PE X (.UnaryOp .Not a pos) (KZ ta):=by
 intro NX s σ H Q I h
 refine UnaryOp_ (cG (ha NX s σ H _ I h) λv s1 ⟨x,H1,I1,r1,q1⟩=>?_)
 obtain⟨c,rfl,q1⟩:=q1
 cases r1
 exact not_of (wpAny_truthy_bool ⟨.bl (!c),H1,I1,rfl,q1⟩)
def NQ(t:TT)(ta tb:TE):TE:=fun σ H Q=>t σ H λc H1=>if c=true then ta σ H1 Q else tb σ H1 Q
theorem AD(hc:PT X c tA)(ha:PE X a ta)(hb:PE X b tb):PE X (.IfExp c a b pos) (NQ tA ta tb):=by
 intro NX s σ H Q I h
 refine wpAny_IfExp (cG (hc NX s σ H _ I h) λd s1 ⟨H1,I1,q1⟩=>?_)
 cases d with
 | true=>exact ha NX s1 σ H1 Q I1 q1
 | false=>exact hb NX s1 σ H1 Q I1 q1
end
def gS(K:PySem.W.Frag)(H:Hp)(a:Addr)(xs:List V):Prop :=
 Rd H a (.lst xs) ∨
  ∃ (o:Obj) (NZ:Array Value) (n:Nat),K.lookup a=some o/\o.cls=.type "list" /\ o.dict=none/\o.data=.seq NZ n/\NZ.size<=sizeLine/\Vals xs NZ.toList
def hX(K:PySem.W.Frag)(H:Hp)(a:Addr)(xs:List V):Prop :=
 Rd H a (.tup xs) ∨
  ∃ (o:Obj) (NZ:Array Value) (n:Nat),K.lookup a=some o/\o.cls=.type "tuple" /\ o.data=.seq NZ n/\NZ.size<=sizeLine/\Vals xs NZ.toList
def Ms:Value->Option V
 | .none=>some .da
 | .bool b=>some (.bl b)
 | .int i _=>some (.int i)
 | .str x _=>some (.str x)
 | .bytes b _=>some (.byt b)
 | .float b _=>some (.F2 b)
 | .ref a=>some (.ref a)
 | .type n=>some (.ty n)
 | _=>none
theorem RelV.abs{x:V}(r:RelV x u):Ms u=some x:=by
 cases x with
 | da=>cases r;rfl
 | bl _=>cases r;rfl
 | int _=>obtain⟨t,rfl⟩:=r;rfl
 | str _=>obtain⟨t,rfl⟩:=r;rfl
 | byt _=>obtain⟨t,rfl⟩:=r;rfl
 | F2 _=>obtain⟨t,rfl⟩:=r;rfl
 | ref _=>cases r;rfl
 | ty _=>cases r;rfl
theorem RelV.inj{x y:V}{u:Value}(r:RelV x u)(q:RelV y u):x=y:=Option.some.inj (r.abs.symm.trans q.abs)
theorem Vals.inj:∀ {xs ys:List V} {us:List Value},Vals xs us->Vals ys us->xs=ys
 | _,_,_,.nil,.nil=>rfl
 | _,_,_,.cons r t,.cons r' t'=>by rw[r.inj r',Vals.inj t t']
section
variable{xs ys:List V}
theorem gS.of{K:PySem.W.Frag}(h:H a=some (.lst xs)):gS K H a xs:=.inl (.inl h)
theorem hX.of{K:PySem.W.Frag}(h:H a=some (.tup xs)):hX K H a xs:=.inl (.inl h)
theorem Inv.list(I:Inv X NX σ H s)(h:gS X.K H a xs):∃ NZ:List Value,Vals xs NZ/\PlainL s.heap a NZ.toArray/\xs.length<=sizeLine:=by
 rcases h with h | ⟨o,NZ,n,hk,hc,hd,hs,hz,r⟩
 ·obtain⟨z,NZ,n,r,e⟩:=h.ok I.bK
  exact⟨NZ,r,⟨_,n,e,rfl,rfl,rfl⟩,z⟩
 ·refine⟨NZ.toList,r,⟨o,n,I.jX a o hk,hc,hd,by simpa using hs⟩,?_⟩
  have e:=r.length
  simp only[Array.length_toList] at e
  omega
theorem Inv.tuple(I:Inv X NX σ H s)(h:hX X.K H a xs):∃ NZ:List Value,Vals xs NZ/\IsTup s.heap a NZ.toArray/\xs.length<=sizeLine:=by
 rcases h with h | ⟨o,NZ,n,hk,hc,hs,hz,r⟩
 ·obtain⟨z,NZ,r,p⟩:=h.ok I.bK
  exact⟨NZ,r,p,z⟩
 ·refine⟨NZ.toList,r,⟨o,I.jX a o hk,hc,n,by simpa using hs⟩,?_⟩
  have e:=r.length
  simp only[Array.length_toList] at e
  omega
theorem Inv.qw(I:Inv X NX σ H s)(h:gS X.K H a xs)(h':gS X.K H a ys):xs=ys:=by
 obtain⟨NZ,r,⟨o,n,e,_,_,d⟩,_⟩:=I.list h
 obtain⟨its',r',⟨o',n',e',_,_,d'⟩,_⟩:=I.list h'
 rw[e] at e';cases e'
 rw[d] at d'
 injection d' with d1 _
 have:NZ=its':=by simpa using congrArg Array.toList d1
 subst this
 exact r.inj r'
theorem Inv.mK(I:Inv X NX σ H s)(h:hX X.K H a xs)(h':hX X.K H a ys):xs=ys:=by
 obtain⟨NZ,r,⟨o,e,_,n,d⟩,_⟩:=I.tuple h
 obtain⟨its',r',⟨o',e',_,n',d'⟩,_⟩:=I.tuple h'
 rw[e] at e';cases e'
 rw[d] at d'
 injection d' with d1 _
 have:NZ=its':=by simpa using congrArg Array.toList d1
 subst this
 exact r.inj r'
end
abbrev Cx.qv(X:Cx)(E:Value->Shared->Prop):Cx:={ X with xe:=E }
theorem Cx.Ok.qv{X:Cx}(ok:X.Ok)(E:Value->Shared->Prop):(X.qv E).Ok :=
 ⟨ok.mod,ok.kind,ok.glob,ok.blt,ok.above,ok.inj,ok.has,ok.FU,ok.hd,ok.frames,ok.Hw,ok.Jn,ok.bs,ok.AY,ok.tX,ok.u4,ok.lG,ok.Du⟩
theorem Cx.Ok.eK(ok:(X.qv E).Ok):X.Ok :=
 ⟨ok.mod,ok.kind,ok.glob,ok.blt,ok.above,ok.inj,ok.has,ok.FU,ok.hd,ok.frames,ok.Hw,ok.Jn,ok.bs,ok.AY,ok.tX,ok.u4,ok.lG,ok.Du⟩
theorem Inv.qv(I:Inv X NX σ H s)(E:Value->Shared->Prop):Inv (X.qv E) NX σ H s:=⟨I.ok.qv E,I.os,I.bare,I.base,I.loc,I.cell,I.free,I.gk,I.pin,I.bK,I.len⟩
theorem Inv.eK(I:Inv (X.qv E) NX σ H s):Inv X NX σ H s:=⟨I.ok.eK,I.os,I.bare,I.base,I.loc,I.cell,I.free,I.gk,I.pin,I.bK,I.len⟩
theorem SP.eK{D:Ends}{f:Flow}{s':Shared}(h:SP (X.qv E) NX D f s'):SP X NX D f s':=by
 cases f with
 | next=>obtain⟨σ',H',I,q⟩:=h;exact⟨σ',H',I.eK,q⟩
 | brk=>obtain⟨σ',H',I,q⟩:=h;exact⟨σ',H',I.eK,q⟩
 | cont=>obtain⟨σ',H',I,q⟩:=h;exact⟨σ',H',I.eK,q⟩
 | ret u=>obtain⟨v,σ',H',I,r,q⟩:=h;exact⟨v,σ',H',I.eK,r,q⟩
variable{te:TE}
variable{tc:TT}
section
variable{st:Stmt}{rest:List Stmt}{t u:TS}{pos:Pos}
def JM:TS:=λD σ H=>D.nx σ H
def Ma(t u:TS):TS:=λD σ H=>t { D with nx:=u D } σ H
theorem sR:kq X [] JM:=λ_ _ σ H _ I h=>wpAny_execs_nil ⟨σ,H,I,h⟩
theorem oW(h1:PS X st t)(h2:kq X rest u):kq X (st::rest) (Ma t u):=by
 intro NX s σ H D I h
 refine wpAny_execs_cons (cG (h1 NX s σ H { D with nx:=u D } I h) λf s1 q=>?_)
 cases f with
 | next =>
  obtain⟨σ',H',I',q⟩:=q
  exact h2 NX s1 σ' H' D I' q
 | ret v=>exact q
 | brk=>exact q
 | cont=>exact q
theorem DV(h1:PS X st t):kq X [st] t:=by
 intro NX s σ H D I h
 refine wpAny_execs_cons (cG (h1 NX s σ H D I h) λf s1 q=>?_)
 cases f with
 | next=>exact wpAny_execs_nil q
 | ret v=>exact q
 | brk=>exact q
 | cont=>exact q
theorem Inv.quiet(I:Inv X NX σ H s):interactive X.env=false:=by simp[interactive,I.ok.kind]
def Kq(te:TE):TS:=λD σ H=>te σ H λ_ H1=>D.nx σ H1
theorem uk(he:PE X e te)(hs:autoParam (swapsWith e none pos.line X.env=pure false) aR._auto_1):PS X (.Expr e pos) (Kq te):=by
 intro NX s σ H D I h
 exact wpAny_Expr_any (cG (he NX s σ H _ I h) λv s1 ⟨x,H1,I1,r1,q1⟩=>⟨σ,H1,I1,q1⟩) I.quiet hs
def LO(te:TE):TS:=λD σ H=>te σ H D.rt
theorem IS(he:PE X e te):PS X (.Return (some e) pos) (LO te):=by
 intro NX s σ H D I h
 exact wpAny_Return_some (cG (he NX s σ H _ I h) λv s1 ⟨x,H1,I1,r1,q1⟩=>⟨x,σ,H1,I1,r1,q1⟩)
def LI(c:TT)(t u:TS):TS:=λD σ H=>c σ H λb H1=>if b=true then t D σ H1 else u D σ H1
theorem F7{a b:List Stmt}(hc:PT X c tc)(ha:kq X a t)(hb:kq X b u):PS X (.If c a b pos) (LI tc t u):=by
 intro NX s σ H D I h
 refine wpAny_If (cG (hc NX s σ H _ I h) λd s1 ⟨H1,I1,q1⟩=>?_)
 cases d with
 | true=>exact ha NX s1 σ H1 D I1 q1
 | false=>exact hb NX s1 σ H1 D I1 q1
end
abbrev TG:=V->St->Hp->(St->Hp->Prop)->Prop
abbrev HU:=List V->St->Hp->(St->Hp->Prop)->Prop
def PG(X:Cx)(target:Expr)(t:TG):Prop :=
 ∀ (NX:List (Addr×Obj)) (s:Shared) (σ:St) (H:Hp) (v:V) (u:Value) (Q:St->Hp->Prop),Inv X NX σ H s->RelV v u->t v σ H Q ->
  wpAny (model X.prog X.w) X.A (assign target X.env u) (λ_ s'=>∃ σ' H',Inv X NX σ' H' s'/\Q σ' H') X.xe s
def Lo(X:Cx)(ts:List Expr)(t:HU):Prop :=
 ∀ (NX:List (Addr×Obj)) (s:Shared) (σ:St) (H:Hp) (vs:List V) (us:List Value) (Q:St->Hp->Prop),Inv X NX σ H s->Vals vs us->t vs σ H Q ->
  wpAny (model X.prog X.w) X.A (assignInOrder ((assignEach ts X.env).map (·.2)) us) (λ_ s'=>∃ σ' H',Inv X NX σ' H' s'/\Q σ' H') X.xe s
abbrev GO:=V->V->V->Hp->(Hp->Prop)->Prop
def Ko(X:Cx)(t:GO):Prop :=
 ∀ (NX:List (Addr×Obj)) (s:Shared) (σ:St) (H:Hp) (o i v:V) (ov iv u:Value) (Q:Hp->Prop),Inv X NX σ H s->RelV o ov->RelV i iv->RelV v u->t o i v H Q ->
  wpAny (model X.prog X.w) X.A (setItem ov iv u) (λ_ s'=>∃ H',Inv X NX σ H' s'/\Q H') X.xe s
variable{es:List Expr}
variable{n k:Nat}
variable{tg:Expr}
section
variable{pos:Pos}
def aC(i:Nat):TG:=λv σ H Q=>Q (σ.set i (some v)) H
theorem DB(hN:X.N.Nodup)(hi:X.N[i]?=some x)(hx:Loc X.env.scope x)(hf:autoParam (X.fn x=true\/X.env.scope.names.lookup x=some .local) aF._auto_1):PG X (.Name x pos) (aC i):=by
 intro NX s σ H v u Q I r h
 exact wpAny_assign_Name (kf I hN hi hx r (λs' I'=>⟨_,H,I',h⟩) hf)
def iQ:HU:=λvs σ H Q=>vs=[]/\Q σ H
def bA(t:TG)(u:HU):HU:=λvs σ H Q=>∃ v r,vs=v::r/\t v σ H fun σ' H'=>u r σ' H' Q
theorem cw:Lo X [] iQ:=by
 intro NX s σ H vs us Q I r h
 obtain⟨e,h⟩:=h
 subst e
 cases r
 exact assignInOrder_nil ⟨σ,H,I,h⟩
theorem aH{t:TG}{u:HU}(h1:PG X e t)(h2:Lo X es u)
  (hs:autoParam ((assignEach (e::es) X.env).map (·.2)=assign e X.env::(assignEach es X.env).map (·.2)) aR._auto_1):Lo X (e::es) (bA t u):=by
 intro NX s σ H vs us Q I r h
 obtain⟨v,vr,e1,h⟩:=h
 subst e1
 cases r with
 | cons r rr =>
  rw[hs]
  refine assignInOrder_cons (cG (h1 NX s σ H _ _ _ I r h) λ_ s1 ⟨σ1,H1,I1,q1⟩=>?_)
  exact h2 NX s1 σ1 H1 _ _ Q I1 rr q1
def iJ(K:PySem.W.Frag)(n:Nat)(t:HU):TG:=λv σ H Q=>∃ a xs,v=.ref a/\hX K H a xs/\xs.length=n/\t xs σ H Q
theorem c9{t:HU}(hc:X.calm=true)(h:Lo X es t)
  (hn:autoParam ((assignEach es X.env).length=n) aR._auto_1) (Ol:autoParam ((assignEach es X.env).findIdx? (·.1)=none) aR._auto_1):PG X (.Tuple es k pos) (iJ X.K n t):=by
 intro NX s σ H v u Q I r hw
 obtain⟨a,xs,e1,hq,hl,hw⟩:=hw
 subst e1
 cases r
 obtain⟨NZ,rv,ht,hz⟩:=I.tuple hq
 refine assign_Tuple_tuple (I.ok.hd hc) ht (by simp[hn,← hl,rv.length]) Ol λh' hx=>?_
 have I1:Inv X NX σ H { s with heap:=h' }:=I.kept (t':=s.toks) λb o e=>hx b o (Nat.ne_of_lt (Heap.lt_size e)) e
 exact h NX _ σ H xs _ Q I1 (by simpa using rv) hw
def LS(to ti:TE)(t:GO):TG:=λv σ H Q=>to σ H λo H1=>ti σ H1 λi H2=>t o i v H2 λH3=>Q σ H3
theorem Je{o i:Expr}{to ti:TE}{t:GO}(ho:PE X o to)(hi:PE X i ti)(hs:Ko X t)
  (ha:autoParam (∀ v,assign (.Subscript o i pos) X.env v=(do
   let ov ← holding [v] (eval o X.env)
   let iv ← holding [v,ov] (eval i X.env)
   standAt pos
   holding [v,ov,iv] (setItem ov iv v)
   release [v,ov,iv] [])) aI._auto_1):PG X (.Subscript o i pos) (LS to ti t):=by
 intro NX s σ H v u Q I r h
 rw[ha]
 refine wpAny_bind (wpAny_holding (cG (ho NX s σ H _ I h) λov s1 ⟨x,H1,I1,r1,q1⟩=>?_))
 refine wpAny_bind (wpAny_holding (cG (hi NX s1 σ H1 _ I1 q1) λiv s2 ⟨y,H2,I2,r2,q2⟩=>?_))
 refine wpAny_bind (wpAny_standAt (wpAny_bind (wpAny_holding (cG (hs NX s2 σ H2 x y v ov iv u _ I2 r1 r2 r q2) λ_ s3 ⟨H3,I3,q3⟩=>?_))))
 exact wpAny_release ⟨σ,H3,I3,q3⟩
def Ff(te:TE)(g:TG):TS:=λD σ H=>te σ H λx H1=>g x σ H1 D.nx
theorem Ib{g:TG}(he:PE X e te)(hg:PG X tg g)(hs:autoParam (swapsWithSole [tg] e pos.line X.env=pure false) aR._auto_1)(hw:autoParam (swappedStores [tg] e X.env=pure none) aR._auto_1)
  (h1:autoParam ((assignEach [tg] X.env).map (·.2)=[assign tg X.env]) aR._auto_1):PS X (.Assign [tg] e pos) (Ff te g):=by
 intro NX s σ H D I h
 refine wpAny_Assign_stores (cG (he NX s σ H _ I h) λv s1 ⟨x,H1,I1,r1,q1⟩=>?_) hs hw
 rw[h1]
 exact cG (hg NX s1 σ H1 x v _ I1 r1 q1) λ_ s2 q=>q
theorem Bc{pos':Pos}(hN:X.N.Nodup)(hi:X.N[i]?=some x)(hx:Loc X.env.scope x)(he:PE X e te)(hs:autoParam (swapsWith e (some (.Name x pos')) pos.line X.env=pure false) aR._auto_1)(hf:autoParam (X.fn x=true\/X.env.scope.names.lookup x=some .local) aF._auto_1) :
  PS X (.Assign [.Name x pos'] e pos) (Ff te (aC i)):=by
 intro NX s σ H D I h
 refine wpAny_Assign_Name (cG (he NX s σ H _ I h) λv s1 ⟨y,H1,I1,r1,q1⟩=>?_) hs
 exact kf I1 hN hi hx r1 (λs2 I2=>⟨_,H1,I2,q1⟩) hf
def LW(i j:Nat)(ta:TA):TS:=λD σ H=>ta σ H λvs H1=>∃ v w,vs=[v,w]/\D.nx ((σ.set i (some v)).set j (some w)) H1
theorem Ii{j:Nat}{y:Str}{a b:Expr}{ta:TA}{px py pt:Pos}{kt k2 Rb}(hc:X.calm=true)(hN:X.N.Nodup)(hi:X.N[i]?=some x)(hj:X.N[j]?=some y)(hij:i≠j)
  (hx:X.env.scope.names.lookup x=some .local) (hy:X.env.scope.names.lookup y=some .local) (ha:PA X [a,b] ta)
  (hw:swappedStores [.Tuple [.Name x px,.Name y py] kt pt] (.Tuple [a,b] k2 Rb) X.env=pure (some [x,y]))
  (hs:autoParam (swapsWithSole [.Tuple [.Name x px,.Name y py] kt pt] (.Tuple [a,b] k2 Rb) pos.line X.env=pure false) aR._auto_1) :
  PS X (.Assign [.Tuple [.Name x px,.Name y py] kt pt] (.Tuple [a,b] k2 Rb) pos) (LW i j ta):=by
 intro NX s σ H D I h
 rw[exec_Assign_arm]
 refine wpAny_bind (wpAny_standAt ?_)
 rw[hs]
 refine wpAny_bind (wpAny_pure ?_)
 rw[if_neg (by decide)]
 refine wpAny_bind (Tuple_ (cG (ha _ NX s σ H _ I h) λus s1 ⟨vs,H1,I1,r1,q1⟩=>?_))
 obtain⟨v,w,e1,q1⟩:=q1
 subst e1
 obtain⟨u1,u2,rfl,rv,PM⟩:∃ u1 u2,us=[u1,u2]/\RelV v u1/\RelV w u2:=by
  cases r1 with
  | cons p q =>
   cases q with
   | cons p' q' =>
    cases q'
    exact⟨_,_,rfl,p,p'⟩
 refine wpAny_newObj_type ?_ (by show 2<=sizeLine;decide)
 have I2:Inv X NX σ H1 { s1 with heap:=s1.heap.push { cls:=.type "tuple", data:=.seq [u1,u2].toArray } }:=I1.kept (t':=s1.toks) λb o e=>Heap.get?_push_of_some _ e
 rw[hw]
 refine wpAny_bind (wpAny_pure ?_)
 show wpAny (model X.prog X.w) X.A (do rule "assign.swapped-stores";let items ← unpackItems (.ref s1.heap.objs.size) 2 none;assignInOrder [λv=>bindName X.env y v,λv=>bindName X.env x v] items.reverse;pure Flow.next) _ _ _
 refine wpAny_bind (wpAny_rule (wpAny_bind (unpackItems_tuple (items:=#[u1,u2]) (I.ok.hd hc) (IsTup.new s1.heap _) λh' RD=>?_)))
 have I3:=I2.kept (h':=h') (t':=s1.toks) λb o e=>RD b o (Nat.ne_of_lt (Heap.lt_size e)) e
 show wpAny _ _ (assignInOrder [λv=>bindName X.env y v,λv=>bindName X.env x v] [u2,u1] >>= λ_=>pure Flow.next) _ _ _
 refine wpAny_bind (assignInOrder_cons (wpAny_bindName (kf I3 hN hj (.inl hy) PM (λs2 I4=>?_) (.inr hy))))
 refine assignInOrder_cons (wpAny_bindName (kf I4 hN hi (.inl hx) rv (λs3 I5=>assignInOrder_nil (wpAny_pure ?_)) (.inr hx)))
 rw[List.set_comm _ _ (Ne.symm hij)] at I5
 exact⟨_,H1,I5,q1⟩
end
variable{tb:TS}{body:List Stmt}
section
variable{pos:Pos}
def Hq(c:TT)(tb:TS):TS:=λD σ H=>∃ W:Nat->St->Hp->Prop,(∃ m,W m σ H)/\∀ m σ H,W m σ H ->
 c σ H λb H1=>if b=true then ∃ N:St->Hp->Prop,(∀ σ' H',N σ' H'->∃ m',m'<m/\W m' σ' H')/\tb { D with nx:=N,ct:=N,bk:=D.nx } σ H1 else D.nx σ H1
theorem Dq(hp:PassesOwn (model X.prog X.w) X.A X.env X.xe)(hc:PT X c tc)(hb:kq X body tb):PS X (.While c body [] pos) (Hq tc tb):=by
 intro NX s σ H D I h
 obtain⟨W,⟨m0,w0⟩,turn⟩:=h
 refine wpAny_While (codeAny_whileLoop (λn s'=>∃ σ' H',Inv X NX σ' H' s'/\W n σ' H') ?_ m0 ⟨σ,H,I,w0⟩)
 rintro n s1 ⟨σ1,H1,I1,w1⟩
 refine wpAny_passesOwn hp (cG (hc NX s1 σ1 H1 _ I1 (turn n σ1 H1 w1)) λb s2 ⟨H2,I2,q2⟩=>?_)
 cases b with
 | true =>
  obtain⟨N,hN,q2⟩:=q2
  rw[if_pos rfl]
  refine wpAny_passesOwn hp (cG (hb NX s2 σ1 H2 _ I2 q2) λf s3 q3=>?_)
  cases f with
  | next =>
   obtain⟨σ3,H3,I3,n3⟩:=q3
   obtain⟨m',hm,w3⟩:=hN σ3 H3 n3
   exact⟨m',hm,σ3,H3,I3,w3⟩
  | cont =>
   obtain⟨σ3,H3,I3,n3⟩:=q3
   obtain⟨m',hm,w3⟩:=hN σ3 H3 n3
   exact⟨m',hm,σ3,H3,I3,w3⟩
  | brk=>exact q3
  | ret v=>exact q3
 | false =>
  rw[if_neg Bool.false_ne_true]
  exact wpAny_execs_nil ⟨σ1,H2,I2,q2⟩
end
structure It where
 go:Nat->Hp->Prop
 tR:Nat->Hp->V->Hp->Prop
 stop:Nat->Hp->Prop
def mq(X:Cx)(NX:List (Addr×Obj))(H:Hp)(b:Addr):Prop :=
 H b=none/\b≠X.env.locals/\b ∉ X.fs/\(b∈X.ex\/X.s₀.heap.objs.size<=b)/\(∀ x c,X.env.cells.lookup x=some c->c≠b)/\∀ p∈X.pn++NX,p.1≠b
theorem Inv.ux(I:Inv X NX σ H s)(hb:s.heap.objs.size<=b)(hn:H' b=none):mq X NX H' b:=by
 refine⟨hn,Nat.ne_of_gt (Nat.lt_of_lt_of_le I.lt hb),I.Mr hb,.inr (Nat.le_trans I.sz hb),λx c e z=>?_,λp hp z=>?_⟩
 ·obtain⟨v,q⟩:=I.cell x c e
  exact absurd (Nat.lt_of_lt_of_le q.lt (by rw[z];exact hb)) (Nat.lt_irrefl _)
 ·exact absurd (Nat.lt_of_lt_of_le (Heap.lt_size (I.pin p hp).1) (by rw[z];exact hb)) (Nat.lt_irrefl _)
structure Turn (P:Program) (w:World) (K:PySem.W.Frag) (tg:Expr) (J:It) (fp:List Addr) (it:Addr) (tn:Nat->Heap->Prop):Prop where
 mem:it∈fp
 obj:∀ i h,tn i h->∀ b∈fp,∃ o,h.get? b=some o/\∀ v,o.data≠.cell v
 keep:∀ i h h',tn i h->(∀ b∈fp,∀ o,h.get? b=some o->h'.get? b=some o)->tn i h'
 item:∀ (X:Cx),X.prog=P->X.w=w->X.K=K->X.calm=true->∀ (i:Nat) (NX:List (Addr×Obj)) (s:Shared) (σ:St) (H:Hp) (E:Value->Shared->Prop),Inv X NX σ H s->(∀ b∈fp,mq X NX H b)->tn i s.heap->J.go i H ->
  wpAny (model P w) X.A (pyNext (.ref it)) (λr s1=>∃ u,r=some u ∧
   wpAny (model P w) X.A (letOwnedTupleGo tg (.ref it) u) (λ_ s2=>∃ x H',Inv X NX σ H' s2/\RelV x u/\J.tR i H x H'/\tn (i+1) s2.heap/\∀ b∈fp,H' b=none) E s1) E s
 done:∀ (X:Cx),X.prog=P->X.w=w->X.K=K->X.calm=true->∀ (i:Nat) (NX:List (Addr×Obj)) (s:Shared) (σ:St) (H:Hp) (E:Value->Shared->Prop),Inv X NX σ H s->(∀ b∈fp,mq X NX H b)->tn i s.heap->J.stop i H ->
  wpAny (model P w) X.A (pyNext (.ref it)) (λr s1=>r=none/\Inv X NX σ H s1) E s
 self:∀ (A:Around) (i:Nat) (s:Shared) (Q:Value->Shared->Prop) (E:Value->Shared->Prop),tn i s.heap->Q (.ref it) s->wpAny (model P w) A (pyIter (.ref it)) Q E s
abbrev TI:=St->Hp->(It->Hp->Prop)->Prop
def LX(X:Cx)(NX:List (Addr×Obj))(σ:St)(tg:Expr)(R:It->Hp->Prop)(itv:Value)(s2:Shared):Prop :=
 ∃ (it:Addr) (fp:List Addr) (tn:Nat->Heap->Prop) (J:It) (H':Hp),itv=.ref it/\Inv X NX σ H' s2/\Turn X.prog X.w X.K tg J fp it tn/\tn 0 s2.heap/\(∀ b∈fp,mq X NX H' b)/\R J H'
def PI(X:Cx)(tg iter:Expr)(wi:TI):Prop :=
 ∀ (NX:List (Addr×Obj)) (s:Shared) (σ:St) (H:Hp) (R:It->Hp->Prop),Inv X NX σ H s->wi σ H R ->
  wpAny (model X.prog X.w) X.A (eval iter X.env) (λv s1=>wpAny (model X.prog X.w) X.A (pyIter v) (LX X NX σ tg R) X.xe s1) X.xe s
theorem yd {M : Model} {n : String} {vs : Array Value} {Q : Unit -> Shared -> Prop} (ho : s.heap.get? it = some o) (hc : o.cls = .type n) (hd : o.data = .fields vs)
    (hn : ["enumerate", "zip", "dict_itemiterator", "dict_reverseitemiterator", "odict_iterator", "itertools.zip_longest", "itertools.pairwise"].contains n = false) (hQ : Q () s) : wpAny M A (letOwnedTupleGo tg (.ref it) u) Q E s := by
  unfold letOwnedTupleGo
  cases tg <;> first
    | exact wpAny_pure hQ
    | (cases u <;> first
        | exact wpAny_pure hQ
        | (refine wpAny_bind (wpAny_load ho ?_)
           rw [hc, hd]
           show wpAny M A (if (["enumerate", "zip", "dict_itemiterator", "dict_reverseitemiterator", "odict_iterator", "itertools.zip_longest", "itertools.pairwise"].contains n && vs[0]? == some (rawInt _)) = true then _ else _) Q E s
           rw [if_neg (by intro h; rw [hn, Bool.false_and] at h; cases h)]
           exact wpAny_pure hQ))
def Nm(K:PySem.W.Frag)(a:Addr):It :=
 ⟨λi H=>∃ xs x,gS K H a xs/\xs[i]?=some x,λi H x H'=>H'=H/\∀ xs,gS K H a xs->xs[i]?=some x,λi H=>∃ xs,gS K H a xs/\xs.length<=i⟩
def Nj(K:PySem.W.Frag)(a:Addr):It :=
 ⟨λi H=>∃ xs x,hX K H a xs/\xs[i]?=some x,λi H x H'=>H'=H/\∀ xs,hX K H a xs->xs[i]?=some x,λi H=>∃ xs,hX K H a xs/\xs.length<=i⟩
def K2(lo:Int)(n:Nat):It:=⟨λi _=>i<n,λi H x H'=>H'=H/\x=.int (lo+i),λi _=>n<=i⟩
theorem zU{K:PySem.W.Frag}(a it:Addr):Turn P w K tg (Nm K a) [it] it (λi h=>h.IsListIter it a i) where
 mem:=by simp
 obj:=λi h st b hb=>by
  have e:b=it:=by simpa using hb
  subst e
  obtain⟨o,e,c,d⟩:=st
  exact⟨o,e,λv z=>by rw[d] at z;cases z⟩
 keep:=λi h h' st k=>st.at λo e=>k it (by simp) o e
 item:=by
  intro X hP hw hK hc i NX s σ H E I hf st hg
  subst hP hw hK
  obtain⟨xs,x,hq,hx⟩:=hg
  obtain⟨NZ,rv,p,hz⟩:=I.list hq
  obtain⟨u,hu,ru⟩:=rv.get hx
  obtain⟨f0,f1,f2,f3,f4,f5⟩:=hf it (by simp)
  refine wpAny_pyNext_list_item st p.isList (x:=u) (by simpa using hu) λh' OV sb=>?_
  have I1:Inv X NX σ H { s with heap:=h' }:=I.turned (t':=s.toks) (λb o hb e=>(sb.2 b hb).trans e) f0 f1 f3 f4 f5
  obtain⟨o,e,c,d⟩:=id OV
  exact⟨u,rfl,yd (s:={ s with heap:=h' }) e c d (by decide) ⟨x,H,I1,ru,⟨rfl,λys hy=>by rw[I.qw hy hq];exact hx⟩,OV,λb hb=>(hf b hb).1⟩⟩
 done:=by
  intro X hP hw hK hc i NX s σ H E I hf st hg
  subst hP hw hK
  obtain⟨xs,hq,hx⟩:=hg
  obtain⟨NZ,rv,p,hz⟩:=I.list hq
  obtain⟨f0,f1,f2,f3,f4,f5⟩:=hf it (by simp)
  have hl:=rv.length
  exact wpAny_pyNext_list_end (I.ok.hd hc) st p.isList (by simp;omega) λh' eb=>⟨rfl,I.turned (t':=s.toks) (λb o hb e=>eb b o hb e) f0 f1 f3 f4 f5⟩
 self:=λ_ _ _ _ _ st h=>wpAny_pyIter_listiter st h
theorem xi{K:PySem.W.Frag}(a it:Addr):Turn P w K tg (Nj K a) [it] it (λi h=>h.IsTupleIter it a i) where
 mem:=by simp
 obj:=λi h st b hb=>by
  have e:b=it:=by simpa using hb
  subst e
  obtain⟨o,e,c,d⟩:=st
  exact⟨o,e,λv z=>by rw[d] at z;cases z⟩
 keep:=λi h h' st k=>st.at λo e=>k it (by simp) o e
 item:=by
  intro X hP hw hK hc i NX s σ H E I hf st hg
  subst hP hw hK
  obtain⟨xs,x,hq,hx⟩:=hg
  obtain⟨NZ,rv,p,hz⟩:=I.tuple hq
  obtain⟨u,hu,ru⟩:=rv.get hx
  obtain⟨f0,f1,f2,f3,f4,f5⟩:=hf it (by simp)
  refine wpAny_pyNext_tuple_item st (show s.heap.IsTuple a NZ.toArray from p) (x:=u) (by simpa using hu) λh' OV sb=>?_
  have I1:Inv X NX σ H { s with heap:=h' }:=I.turned (t':=s.toks) (λb o hb e=>(sb.2 b hb).trans e) f0 f1 f3 f4 f5
  obtain⟨o,e,c,d⟩:=id OV
  exact⟨u,rfl,yd (s:={ s with heap:=h' }) e c d (by decide) ⟨x,H,I1,ru,⟨rfl,λys hy=>by rw[I.mK hy hq];exact hx⟩,OV,λb hb=>(hf b hb).1⟩⟩
 done:=by
  intro X hP hw hK hc i NX s σ H E I hf st hg
  subst hP hw hK
  obtain⟨xs,hq,hx⟩:=hg
  obtain⟨NZ,rv,p,hz⟩:=I.tuple hq
  obtain⟨f0,f1,f2,f3,f4,f5⟩:=hf it (by simp)
  have hl:=rv.length
  exact wpAny_pyNext_tuple_end (I.ok.hd hc) st (show s.heap.IsTuple a NZ.toArray from p) (by simp;omega) λh' eb=>⟨rfl,I.turned (t':=s.toks) (λb o hb e=>eb b o hb e) f0 f1 f3 f4 f5⟩
 self:=λ_ _ _ _ _ st h=>wpAny_pyIter_tupleiter st h
theorem xy{K:PySem.W.Frag}(it:Addr)(lo:Int)(n:Nat):Turn P w K tg (K2 lo n) [it] it (λi h=>IsRangeIter h it (lo+(i:Nat)*1) ((n:Int)-(i:Nat)) 1) where
 mem:=by simp
 obj:=λi h st b hb=>by
  have e:b=it:=by simpa using hb
  subst e
  exact⟨_,st,λv z=>by
   have z':Data.fields _=Data.cell v:=z
   cases z'⟩
 keep:=λi h h' st k=>k it (by simp) _ st
 item:=by
  intro X hP hw hK hc i NX s σ H E I hf st hg
  subst hP hw hK
  obtain⟨f0,f1,f2,f3,f4,f5⟩:=hf it (by simp)
  have W:=Walks.range (prog:=X.prog) (w:=X.w) (I.ok.hd hc) it lo 1 n
  refine W.item i s _ _ hg st λv h' tk hv OV kk=>?_
  obtain⟨t,rfl⟩:=hv
  have I1:Inv X NX σ H { s with heap:=h',toks:=tk }:=I.turned (λb o hb e=>kk b o (by simpa using hb) e) f0 f1 f3 f4 f5
  refine⟨_,rfl,yd (s:={ s with heap:=h',toks:=tk }) (n := "range_iterator") OV rfl rfl (by decide) ⟨.int (lo+i),H,I1,⟨t,?_⟩,⟨rfl,rfl⟩,OV,λb hb=>(hf b hb).1⟩⟩
  rw[Int.mul_one]
 done:=by
  intro X hP hw hK hc i NX s σ H E I hf st hg
  subst hP hw hK
  obtain⟨f0,f1,f2,f3,f4,f5⟩:=hf it (by simp)
  exact wpAny_pyNext_range_end (I.ok.hd hc) st (by have:n<=i:=hg;omega) λh' eb=>⟨rfl,I.turned (t':=s.toks) (λb o hb e=>eb b o hb e) f0 f1 f3 f4 f5⟩
 self:=λ_ _ _ _ _ st h=>wpAny_pyIter_rangeiter st h
variable{p:Pos}
variable{fp:List Addr}
theorem vU{R:It->Hp->Prop}{lo hi:Int}{t u v:Tok}{tk:Nat}(I:Inv X NX σ H s)(h1:-(2^62)<=lo)(h2:lo<2^62)(h3:-(2^62)<=hi)(h4:hi<2^62)
  (q:R (K2 lo (hi-lo).toNat) H):wpAny (model X.prog X.w) X.A (pyIter (.ref s.heap.objs.size)) (LX X NX σ tg R) E { s with heap:=s.heap.push { cls:=.type "range", data:=.fields #[.int lo t,.int hi u,.int 1 v] },toks:=tk }:=by
 refine wpAny_pyIter_range (IsRange.new ..) (small_one h1 h2 h3 h4) ?_
 have I1:Inv X NX σ H { s with heap:=s.heap.push { cls:=.type "range", data:=.fields #[.int lo t,.int hi u,.int 1 v] },toks:=tk }:=I.kept λb o e=>Heap.get?_push_of_some _ e
 refine⟨(s.heap.push { cls:=.type "range", data:=.fields #[.int lo t,.int hi u,.int 1 v] }).objs.size,[(s.heap.push { cls:=.type "range", data:=.fields #[.int lo t,.int hi u,.int 1 v] }).objs.size],_,_,H,rfl,
  I1.kept (t':=tk) λb o e=>Heap.get?_push_of_some _ e,xy _ lo (hi-lo).toNat,?_,λb hb=>?_,q⟩
 ·have e1:lo+((0:Nat):Int)*1=lo:=by simp
  have e2:(((hi-lo).toNat:Nat):Int)-((0:Nat):Int)=Builtin.Range.rangeSize lo hi 1:=by rw[rangeSize_one];split <;> omega
  show IsRangeIter _ _ (lo+((0:Nat):Int)*1) ((((hi-lo).toNat:Nat):Int)-((0:Nat):Int)) 1
  rw[e1,e2]
  exact Heap.get?_push_size _ rfl
 ·have e:b=(s.heap.push { cls:=.type "range", data:=.fields #[.int lo t,.int hi u,.int 1 v] }).objs.size:=by simpa using hb
  subst e
  exact I1.ux (Nat.le_refl _) (I1.bK.fresh (Nat.le_refl _))
def Gh(ta:TA):TI:=fun σ H R=>ta σ H λvs H1=>∃ j:Int,vs=[.int j]/\-(2^62)<=j/\j<2^62/\R (K2 0 j.toNat) H1
def FN(ta:TA):TI:=fun σ H R=>ta σ H λvs H1=>∃ i j:Int,vs=[.int i,.int j]/\(-(2^62)<=i/\i<2^62/\-(2^62)<=j/\j<2^62)/\R (K2 i (j-i).toNat) H1
theorem cA{a:Expr}{ta:TA}{pos:Pos}(hg:Gl X "range")(hm:X.mg "range" = none)(ha:PA X [a] ta)(hs:autoParam (starEach [a] X.env=[(false,eval a X.env)]) aR._auto_1):PI X tg (.Call (.Name "range" p) [a] [] pos) (Gh ta):=by
 intro NX s σ H R I h
 refine Call_ (ju I hg hm boot_range (PyProof.Rows.callWith_type1 (cG (ha pos NX s σ H _ I h) λus s1 ⟨vs,H1,I1,r1,q1⟩=>?_) hs rfl))
 obtain⟨j,e,q1,q2,q⟩:=q1
 subst e
 cases r1 with
 | cons r rr =>
  cases rr
  obtain⟨t,rfl⟩:=r
  exact call_range_1 (vU I1 (by omega) (by omega) q1 q2 (by simpa using q))
theorem zq{a b:Expr}{ta:TA}{pos:Pos}(hg:Gl X "range")(hm:X.mg "range" = none)(ha:PA X [a,b] ta)(hs:autoParam (starEach [a,b] X.env=[(false,eval a X.env),(false,eval b X.env)]) aR._auto_1)(Pn:autoParam (starEach [b] X.env=[(false,eval b X.env)]) aR._auto_1) :
  PI X tg (.Call (.Name "range" p) [a,b] [] pos) (FN ta):=by
 intro NX s σ H R I h
 refine Call_ (ju I hg hm boot_range (PyProof.Rows.callWith_type1 (cG (ha pos NX s σ H _ I h) λus s1 ⟨vs,H1,I1,r1,q1⟩=>?_) (by rw[hs,Pn]) (by rw[Pn];rfl)))
 obtain⟨i,j,e,⟨q1,q2,q3,q4⟩,q⟩:=q1
 subst e
 cases r1 with
 | cons r rr =>
  cases rr with
  | cons r' rr =>
   cases rr
   obtain⟨t,rfl⟩:=r
   obtain⟨t',rfl⟩:=r'
   exact call_range_2 (vU I1 q1 q2 q3 q4 q)
def Mf(wi:TI)(g:TG)(tb:TS):TS:=λD σ H=>wi σ H λJ H1=>∃ W:Nat->Nat->St->Hp->Prop,(∃ m,W 0 m σ H1)/\∀ i m σ H,W i m σ H ->
 (J.stop i H/\D.nx σ H)\/(J.go i H/\∃ N:St->Hp->Prop,(∀ σ' H',N σ' H'->∃ m',m'<m/\W (i+1) m' σ' H')/\∀ x H',J.tR i H x H'->g x σ H' fun σ2 H2=>tb { D with nx:=N,ct:=N,bk:=D.nx } σ2 H2)
def m9(fp:List Addr)(h:Heap):List (Addr×Obj):=fp.filterMap λb=>(h.get? b).map λo=>(b,o)
theorem jf(hb:b∈fp)(e:h.get? b=some o):(b,o)∈m9 fp h:=List.mem_filterMap.mpr ⟨b,hb,by rw[e];rfl⟩
theorem zY{p:Addr×Obj}(hp:p∈m9 fp h):p.1∈fp/\h.get? p.1=some p.2:=by
 obtain⟨b,hb,e⟩:=List.mem_filterMap.mp hp
 cases q:h.get? b with
 | none=>rw[q] at e;cases e
 | some o =>
  rw[q] at e
  have e':(b,o)=p:=Option.some.inj e
  subst e'
  exact⟨hb,q⟩
theorem Inv.pinned(I:Inv X NX σ H s)(hf:∀ b∈fp,mq X NX H b)(ho:∀ b∈fp,∃ o,s.heap.get? b=some o/\∀ v,o.data≠.cell v):Inv X (NX++m9 fp s.heap) σ H s :=
 I.yv λp hp=>(List.mem_append.mp hp).elim (λz=>I.pin p (List.mem_append_right _ z)) λz=>by
  obtain⟨hb,e⟩:=zY z
  obtain⟨f0,f1,f2,_⟩:=hf p.1 hb
  obtain⟨o,e',d⟩:=ho p.1 hb
  rw[e] at e';cases e'
  exact⟨e,f0,f1,f2,d⟩
theorem Inv.mh{pl:List (Addr×Obj)}(I:Inv X (NX++pl) σ H s):Inv X NX σ H s:=I.yv λp hp=>I.pin p (List.mem_append_right _ (List.mem_append_left _ hp))
theorem G1{iter:Expr}{wi:TI}{g:TG}{pos:Pos}(hp:PassesOwn (model X.prog X.w) X.A X.env X.xe)(hc:X.calm=true)(hi:PI X tg iter wi)(hg:PG X tg g)(hb:kq X body tb)
  (hs:autoParam (∀ x,foldedSetIterable iter X.env x=pure x) aI._auto_1):PS X (.For tg iter body [] pos) (Mf wi g tb):=by
 intro NX s σ H D I h
 refine wpAny_For (cG (hi NX s σ H _ I h) λv s1 h1=>cG h1 λitv s2 h2=>?_) hs
 obtain⟨it,fp,tn,J,H2,e,I2,T,Q1,f2,W,⟨m0,w0⟩,turn⟩:=h2
 subst e
 have P7:∀ {H':Hp},(∀ b∈fp,H' b=none)->∀ b∈fp,mq X NX H' b:=λhn b hb=>⟨hn b hb,(f2 b hb).2⟩
 refine codeAny_forLoop_any (λn s'=>∃ i σ' H',Inv X NX σ' H' s'/\tn i s'.heap/\(∀ b∈fp,H' b=none)/\W i n σ' H') ?_ m0 ⟨0,σ,H2,I2,Q1,λb hb=>(f2 b hb).1,w0⟩
 rintro n s3 ⟨i,σ3,H3,I3,st3,fr3,w3⟩
 rcases turn i n σ3 H3 w3 with ⟨stop,qn⟩ | ⟨go,N,hN,step⟩
 ·refine wpAny_passesOwn hp (cG (T.done X rfl rfl rfl hc i NX s3 σ3 H3 X.xe I3 (P7 fr3) st3 stop) λr s4 ⟨hr,I4⟩=>?_)
  subst hr
  exact wpAny_execs_nil ⟨σ3,H3,I4,qn⟩
 ·refine wpAny_passesOwn hp (cG (T.item X rfl rfl rfl hc i NX s3 σ3 H3 X.xe I3 (P7 fr3) st3 go) λr s4 ⟨u,hr,h4⟩=>?_)
  subst hr
  refine wpAny_passesOwn hp (cG h4 λ_ s5 ⟨x,H5,I5,r5,y5,st5,fr5⟩=>?_)
  have I5':=I5.pinned (P7 fr5) (T.obj _ _ st5)
  refine wpAny_passesOwn hp (cG (hg _ s5 σ3 H5 x u _ I5' r5 (step x H5 y5)) λ_ s6 ⟨σ6,H6,I6,q6⟩=>?_)
  refine wpAny_passesOwn hp (cG (hb _ s6 σ6 H6 _ I6 q6) λf s7 q7=>?_)
  have again:∀ {σ7:St} {H7:Hp},Inv X (NX++m9 fp s5.heap) σ7 H7 s7->N σ7 H7->∃ m,m<n/\∃ i σ' H',Inv X NX σ' H' s7/\tn i s7.heap/\(∀ b∈fp,H' b=none)/\W i m σ' H':=λ{σ7 H7} I7 n7=>by
   obtain⟨m',hm,w7⟩:=hN σ7 H7 n7
   refine⟨m',hm,i+1,σ7,H7,I7.mh,T.keep _ _ _ st5 λb hb o e=>(I7.pin (b,o) (List.mem_append_right _ (List.mem_append_right _ (jf hb e)))).1,λb hb=>?_,w7⟩
   obtain⟨o,e,d⟩:=T.obj _ _ st5 b hb
   exact(I7.pin (b,o) (List.mem_append_right _ (List.mem_append_right _ (jf hb e)))).2.1
  cases f with
  | next=>obtain⟨σ7,H7,I7,n7⟩:=q7;exact again I7 n7
  | cont=>obtain⟨σ7,H7,I7,n7⟩:=q7;exact again I7 n7
  | brk=>obtain⟨σ7,H7,I7,q7⟩:=q7;exact⟨σ7,H7,I7.mh,q7⟩
  | ret v=>obtain⟨x7,σ7,H7,I7,r7,q7⟩:=q7;exact⟨x7,σ7,H7,I7.mh,r7,q7⟩
abbrev R2:=V->V->Hp->VK->Prop
def f_(X:Cx)(f:Value->Value->Sem Value)(r:R2):Prop :=
 ∀ (NX:List (Addr×Obj)) (s:Shared) (σ:St) (H:Hp) (x y:V) (v u:Value) (Q:VK),Inv X NX σ H s->RelV x v->RelV y u->r x y H Q ->
  wpAny (model X.prog X.w) X.A (f v u) (EP X NX σ Q) X.xe s
def ME(X:Cx)(f:Value->Sem Value)(r:V->Hp->VK->Prop):Prop :=
 ∀ (NX:List (Addr×Obj)) (s:Shared) (σ:St) (H:Hp) (x:V) (v:Value) (Q:VK),Inv X NX σ H s->RelV x v->r x H Q ->
  wpAny (model X.prog X.w) X.A (f v) (EP X NX σ Q) X.xe s
def c6(X:Cx)(f:Value)(r:List V->Hp->VK->Prop):Prop :=
 ∀ (NX:List (Addr×Obj)) (s:Shared) (σ:St) (H:Hp) (xs:List V) (us:List Value) (Q:VK),Inv X NX σ H s->Vals xs us->r xs H Q ->
  wpAny (model X.prog X.w) X.A (call f us) (EP X NX σ Q) X.xe s
def KY(r:R2)(ta tb:TE):TE:=fun σ H Q=>ta σ H λx H1=>tb σ H1 λy H2=>r x y H2 Q
def Ni(r:V->Hp->VK->Prop)(ta:TE):TE:=fun σ H Q=>ta σ H λx H1=>r x H1 Q
def rI(C:Int->Int->Prop)(g:Int->Int->V):R2:=λx y H Q=>∃ i j,x=.int i/\y=.int j/\C i j/\Q (g i j) H
def wj(g:Int->Int->V):R2:=λx y H Q=>∃ i j,x=.int i/\y=.int j/\Q (g i j) H
def rU(g:Int->V):V->Hp->VK->Prop:=λx H Q=>∃ i,x=.int i/\Q (g i) H
variable{f:Value->Value->Sem Value}
variable{r:R2}
section
variable{a b:Expr}{tb tc:TE}{pos:Pos}
theorem HF(ha:PE X a ta)(hb:PE X b tb){R:V->V->Hp->Prop}(I:Inv X NX σ H s)
  (h:ta σ H λx H1=>tb σ H1 λy H2=>R x y H2)
  (hf:∀ v u s2 x y H2,Inv X NX σ H2 s2->RelV x v->RelV y u->R x y H2->wpAny (model X.prog X.w) X.A (f v u) Q X.xe s2) :
  wpAny (model X.prog X.w) X.A (eval a X.env) (λv s₁=>wpAny (model X.prog X.w) X.A (eval b X.env) (λu s₂=>wpAny (model X.prog X.w) X.A (f v u) Q X.xe s₂) X.xe s₁) X.xe s:=by
 refine cG (ha NX s σ H _ I h) λv s1 ⟨x,H1,I1,r1,q1⟩=>?_
 refine cG (hb NX s1 σ H1 _ I1 q1) λu s2 ⟨y,H2,I2,r2,q2⟩=>?_
 exact hf v u s2 x y H2 I2 r1 r2 q2
theorem Gj{op:Operator}(ho:f_ X (binaryOp op) r)(ha:PE X a ta)(hb:PE X b tb):PE X (.BinOp a op b pos) (KY r ta tb):=by
 intro NX s σ H Q I h
 exact wpAny_BinOp (HF ha hb I h λv u s2 x y H2 I2 rx ry q=>ho NX s2 σ H2 x y v u Q I2 rx ry q)
theorem Kh{op:UnaryOp}{r:V->Hp->VK->Prop}(ho:ME X (unaryOp op) r)(ha:PE X a ta):PE X (.UnaryOp op a pos) (Ni r ta):=by
 intro NX s σ H Q I h
 exact UnaryOp_ (cG (ha NX s σ H _ I h) λv s1 ⟨x,H1,I1,r1,q1⟩=>ho NX s1 σ H1 x v Q I1 r1 q1)
theorem Jz{C:Int->Int->Prop}{g:Int->Int->Int}
  (rule:∀ (i j:Int) (t u:Tok) (s:Shared) (Q:Value->Shared->Prop) (E:Value->Shared->Prop),C i j->Q (.int (g i j) s.toks) { s with toks:=s.toks+1 }->wpAny (model X.prog X.w) X.A (f (.int i t) (.int j u)) Q E s) :
  f_ X f (rI C λi j=>.int (g i j)):=by
 intro NX s σ H x y v u Q I rx ry h
 obtain⟨i,j,rfl,rfl,hc,q⟩:=h
 obtain⟨t,rfl⟩:=rx
 obtain⟨t',rfl⟩:=ry
 exact rule i j t t' s _ _ hc ⟨.int (g i j),H,I.tok _,⟨_,rfl⟩,q⟩
theorem Ij{g:Int->Int->Int}
  (rule:∀ (i j:Int) (t u:Tok) (s:Shared) (Q:Value->Shared->Prop) (E:Value->Shared->Prop),Q (.int (g i j) s.toks) { s with toks:=s.toks+1 }->wpAny (model X.prog X.w) X.A (f (.int i t) (.int j u)) Q E s) :
  f_ X f (wj λi j=>.int (g i j)):=by
 intro NX s σ H x y v u Q I rx ry h
 obtain⟨i,j,rfl,rfl,q⟩:=h
 obtain⟨t,rfl⟩:=rx
 obtain⟨t',rfl⟩:=ry
 exact rule i j t t' s _ _ ⟨.int (g i j),H,I.tok _,⟨_,rfl⟩,q⟩
theorem Ec{g:Int->Int->Bool}
  (rule:∀ (i j:Int) (t u:Tok) (s:Shared) (Q:Value->Shared->Prop) (E:Value->Shared->Prop),Q (.bool (g i j)) s->wpAny (model X.prog X.w) X.A (f (.int i t) (.int j u)) Q E s) :
  f_ X f (wj λi j=>.bl (g i j)):=by
 intro NX s σ H x y v u Q I rx ry h
 obtain⟨i,j,rfl,rfl,q⟩:=h
 obtain⟨t,rfl⟩:=rx
 obtain⟨t',rfl⟩:=ry
 exact rule i j t t' s _ _ ⟨.bl (g i j),H,I,rfl,q⟩
def By(i j:Int):Prop:=0<=j/\j<=1000000/\i.natAbs<2^64
theorem wz(k:Nat):(0:Int)<=2^k:=by
 rw[two_pow_cast]
 exact Int.natCast_nonneg _
theorem Ip:f_ X (binaryOp .Add) (wj λi j=>.int (i+j)):=Ij λ_ _ _ _ _ _ _ q=>add_int q
theorem Hj:f_ X (binaryOp .Sub) (wj λi j=>.int (i-j)):=Ij λ_ _ _ _ _ _ _ q=>sub_int q
theorem DU:f_ X (binaryOp .Mod) (rI (λ_ j=>j≠0) λi j=>.int (i.fmod j)):=Jz λ_ _ _ _ _ _ _ hc q=>mod_int' hc q
theorem Ic:f_ X (binaryOp .Pow) (rI By λi j=>.int (i^j.toNat)):=Jz λ_ _ _ _ _ _ _ hc q=>pow_int_small hc.1 hc.2.1 hc.2.2 q
theorem IX:f_ X (binaryOp .LShift) (rI By λi j=>.int (i*2^j.toNat)):=Jz λ_ _ _ _ _ _ _ hc q=>lshift_int_small hc.1 hc.2.1 hc.2.2 q
theorem G9:f_ X (binaryOp .RShift) (rI (λ_ j=>0<=j) λi j=>.int (i/2^j.toNat)):=Jz λi j _ _ _ _ _ hc q =>
 rshift_int hc (by rw[Int.fdiv_eq_ediv_of_nonneg i (wz _)];exact q)
theorem IT:f_ X (binaryOp .BitAnd) (wj λi j=>.int (Builtin.bitAnd i j)):=Ij λ_ _ _ _ _ _ _ q=>and_int q
theorem NT{f:Value->Sem Value}{g:Int->Int}
  (rule:∀ (i:Int) (t:Tok) (s:Shared) (Q:Value->Shared->Prop) (E:Value->Shared->Prop),Q (.int (g i) s.toks) { s with toks:=s.toks+1 }->wpAny (model X.prog X.w) X.A (f (.int i t)) Q E s) :
  ME X f (rU λi=>.int (g i)):=by
 intro NX s σ H x v Q I rx h
 obtain⟨i,rfl,q⟩:=h
 obtain⟨t,rfl⟩:=rx
 exact rule i t s _ _ ⟨.int (g i),H,I.tok _,⟨_,rfl⟩,q⟩
theorem GC:ME X (unaryOp .USub) (rU λi=>.int (-i)):=NT λ_ _ _ _ _ q=>neg_int q
end
variable{op:CmpOp}
variable{us:List Value}
section
variable{a b:Expr}{tb tc:TE}{pos:Pos}
theorem uB{Q:VK}{k k':Bool}(I:Inv X NX σ H s)(q:Q (.bl k) H)(e:k=k'):EP X NX σ Q (.bool k') s:=by
 subst e
 exact⟨.bl k,H,I,rfl,q⟩
theorem yr:f_ X (compareOp .Lt) (wj λi j=>.bl (decide (i<j))):=Ec λ_ _ _ _ _ _ _ q=>lt_int q
theorem rT:f_ X (compareOp .LtE) (wj λi j=>.bl (decide (i<=j))):=Ec λ_ _ _ _ _ _ _ q=>le_int q
theorem FR:f_ X (compareOp .Gt) (wj λi j=>.bl (decide (j<i))):=Ec λ_ _ _ _ _ _ _ q=>gt_int q
theorem Gm:f_ X (compareOp .GtE) (wj λi j=>.bl (decide (j<=i))):=Ec λ_ _ _ _ _ _ _ q=>ge_int q
theorem B5:f_ X (compareOp .Is) (λx y H Q=>y=.da/\Q (.bl (decide (x=.da))) H):=by
 intro NX s σ H x y v u Q I rx ry h
 obtain⟨rfl,q⟩:=h
 cases ry
 refine is_none_gen (uB I q ?_)
 cases x <;> first
  | (cases rx;rfl)
  | (obtain⟨t,rfl⟩:=rx;rfl)
theorem yF:f_ X (compareOp .IsNot) (λx y H Q=>y=.da/\Q (.bl (!decide (x=.da))) H):=by
 intro NX s σ H x y v u Q I rx ry h
 obtain⟨rfl,q⟩:=h
 cases ry
 refine isnot_none_gen (uB I q ?_)
 cases x <;> first
  | (cases rx;rfl)
  | (obtain⟨t,rfl⟩:=rx;rfl)
theorem f_.or{r':R2}(h:f_ X f r)(h':f_ X f r'):f_ X f (λx y H Q=>r x y H Q\/r' x y H Q):=by
 intro NX s σ H x y v u Q I rx ry q
 rcases q with q | q
 ·exact h NX s σ H x y v u Q I rx ry q
 ·exact h' NX s σ H x y v u Q I rx ry q
theorem dR(b:Expr)(h:autoParam (op≠.In) aD._auto_1)(h2:autoParam (op≠.NotIn) aD._auto_1):behindInMarks op b=false:=by
 have e1:(op==CmpOp.In)=false:=by cases op <;> first | rfl | exact absurd rfl h
 have e2:(op==CmpOp.NotIn)=false:=by cases op <;> first | rfl | exact absurd rfl h2
 cases b <;> simp[behindInMarks,e1,e2]
theorem Ep(ho:f_ X (compareOp op) r)(ha:PE X a ta)(hb:PE X b tb)(hm:behindInMarks op b=false):PE X (.Compare a [op] [b] pos) (KY r ta tb):=by
 intro NX s σ H Q I h
 exact wpAny_Compare1 (HF ha hb I h λv u s2 x y H2 I2 rx ry q=>ho NX s2 σ H2 x y v u Q I2 rx ry q) hm
def Ga(t:TE):TT:=fun σ H Q=>t σ H λx H'=>∃ k,x=.bl k/\Q k H'
theorem EA(ho:f_ X (compareOp op) r)(ha:PE X a ta)(hb:PE X b tb)(hm:behindInMarks op b=false):PT X (.Compare a [op] [b] pos) (Ga (KY r ta tb)):=by
 intro NX s σ H Q I h
 refine wpAny_isTrue_Compare1 (cG (ha NX s σ H _ I h) λv s1 ⟨x,H1,I1,r1,q1⟩=>cG (hb NX s1 σ H1 _ I1 q1) λu s2 ⟨y,H2,I2,r2,q2⟩ =>
  cG (ho NX s2 σ H2 x y v u _ I2 r1 r2 q2) λc s3 ⟨z,H3,I3,r3,k,e,q3⟩=>?_) hm
 subst e
 cases r3
 exact wpAny_truthy_bool ⟨H3,I3,q3⟩
def xB(r r':R2)(ta tb tc:TE):TE:=fun σ H Q=>ta σ H λx H1=>tb σ H1 λy H2=>r x y H2 λz H3=>∃ k,z=.bl k ∧
 (if k=true then tc σ H3 λw' H4=>r' y w' H4 Q else Q (.bl false) H3)
theorem AQ{P6:CmpOp}{r':R2}(ho:f_ X (compareOp op) r)(PN:f_ X (compareOp P6) r')(ha:PE X a ta)(hb:PE X b tb)(hc:PE X c tc)
  (hm:autoParam (lastMarks [op,P6] [b,c]=false) aU._auto_1):PE X (.Compare a [op,P6] [b,c] pos) (xB r r' ta tb tc):=by
 intro NX s σ H Q I h
 refine Compare_chain (cG (ha NX s σ H _ I h) λv s1 ⟨x,H1,I1,r1,q1⟩=>chain_link (cG (hb NX s1 σ H1 _ I1 q1) λu s2 ⟨y,H2,I2,r2,q2⟩ =>
  cG (ho NX s2 σ H2 x y v u _ I2 r1 r2 q2) λd s3 ⟨z,H3,I3,r3,k,e,q3⟩=>?_)) hm
 subst e
 cases r3
 refine wpAny_truthy_bool ?_
 cases k with
 | false=>exact ite_ff ⟨.bl false,H3,I3,rfl,q3⟩
 | true=>exact ite_tt (chain_last (cG (hc NX s3 σ H3 _ I3 q3) λw' s4 ⟨z',H4,I4,r4,q4⟩=>PN NX s4 σ H4 y z' u w' Q I4 r2 r4 q4))
theorem BO{P6:CmpOp}{r':R2}(ho:f_ X (compareOp op) r)(PN:f_ X (compareOp P6) r')(ha:PE X a ta)(hb:PE X b tb)(hc:PE X c tc)
  (hm:autoParam (lastMarks [op,P6] [b,c]=false) aU._auto_1):PT X (.Compare a [op,P6] [b,c] pos) (Ga (xB r r' ta tb tc)):=by
 intro NX s σ H Q I h
 refine isTrue_chain (cG (ha NX s σ H _ I h) λv s1 ⟨x,H1,I1,r1,q1⟩=>test_link (cG (hb NX s1 σ H1 _ I1 q1) λu s2 ⟨y,H2,I2,r2,q2⟩ =>
  cG (ho NX s2 σ H2 x y v u _ I2 r1 r2 q2) λd s3 ⟨z,H3,I3,r3,k,e,q3⟩=>?_)) hm
 subst e
 cases r3
 refine wpAny_truthy_bool ?_
 cases k with
 | false =>
  obtain⟨k',e',q'⟩:=q3
  cases e'
  exact ite_ff ⟨H3,I3,q'⟩
 | true =>
  refine ite_tt (test_last (cG (hc NX s3 σ H3 _ I3 q3) λw' s4 ⟨z',H4,I4,r4,q4⟩=>cG (PN NX s4 σ H4 y z' u w' _ I4 r2 r4 q4) λd' s5 ⟨z2,H5,I5,r5,k2,e2,q5⟩=>?_))
  subst e2
  cases r5
  exact wpAny_truthy_bool ⟨H5,I5,q5⟩
theorem mV:(sizeLine:Nat)<2^63:=by rw[sizeLine_eq];decide
theorem w9:f_ X (binaryOp .Add) (λx y H Q=>∃ i j,x=.str i/\y=.str j/\i.length+j.length<=sizeLine/\Q (.str (i++j)) H):=by
 intro NX s σ H x y v u Q I rx ry h
 obtain⟨i,j,rfl,rfl,hz,q⟩:=h
 obtain⟨t,rfl⟩:=rx
 obtain⟨t',rfl⟩:=ry
 exact add_str (λt' tk=>⟨.str (i++j),H,I.tok _,⟨_,rfl⟩,q⟩) hz
theorem vals1{x:V}(r:Vals [x] us):∃ u,us=[u]/\RelV x u:=by
 cases r with
 | cons r1 r2=>cases r2;exact⟨_,rfl,r1⟩
theorem vals2{x y:V}(r:Vals [x,y] us):∃ u w',us=[u,w']/\RelV x u/\RelV y w':=by
 cases r with
 | cons r1 r2 =>
  cases r2 with
  | cons r3 r4=>cases r4;exact⟨_,_,rfl,r1,r3⟩
theorem Ac(hc:X.calm=true):c6 X (.builtin "max") (λxs H Q=>∃ i j,xs=[.int i,.int j]/\Q (.int (if j>i then j else i)) H):=by
 intro NX s σ H xs us Q I r h
 obtain⟨i,j,rfl,q⟩:=h
 obtain⟨u,w',rfl,⟨t,rfl⟩,⟨t',rfl⟩⟩:=vals2 r
 refine max_two_ints (I.ok.hd hc) λh' tk k=>⟨_,H,I.kept k,?_,q⟩
 by_cases hj:j>i
 ·rw[if_pos hj,if_pos hj];exact⟨_,rfl⟩
 ·rw[if_neg hj,if_neg hj];exact⟨_,rfl⟩
theorem Aj(hc:X.calm=true):c6 X (.builtin "min") (λxs H Q=>∃ i j,xs=[.int i,.int j]/\Q (.int (if j<i then j else i)) H):=by
 intro NX s σ H xs us Q I r h
 obtain⟨i,j,rfl,q⟩:=h
 obtain⟨u,w',rfl,⟨t,rfl⟩,⟨t',rfl⟩⟩:=vals2 r
 refine min_two_ints (I.ok.hd hc) λh' tk k=>⟨_,H,I.kept k,?_,q⟩
 by_cases hj:j<i
 ·rw[if_pos hj,if_pos hj];exact⟨_,rfl⟩
 ·rw[if_neg hj,if_neg hj];exact⟨_,rfl⟩
end
structure xc (h:Heap) (x dx C:Addr) (mA:Str->Option Value):Prop where
 obj:h.get? x=some (PySem.W.instObj C dx)
 ns:h.Ns1 dx mA
 ne:dx≠x
variable{mA:Str->Option Value}{dx:Addr}
theorem m_(n:h.Ns1 dx mA):∃ od,h.get? dx=some od/\∀ name,PySem.W.lookIn name od=some (mA name):=by
 obtain⟨o,es,ep,ho,hd,hk,_,hm⟩:=n
 refine⟨o,ho,λname=>?_⟩
 have e:=hm name
 unfold nsFind findBy at e
 rw[← Array.find?_toList] at e
 unfold PySem.W.lookIn
 rw[hd]
 dsimp only
 split
 ·rename_i y q
  rw[q] at e
  exact congrArg some e
 ·rename_i q
  rw[q] at e
  have a:es.toList.any (·.refKey)=false:=by
   rw[List.any_eq_false]
   intro y hy
   obtain⟨z,t,hkey⟩:=hk y (Array.mem_toList_iff.mp hy)
   simp[DictEntry.refKey,hkey]
  have a':¬ es.toList.any (·.refKey)=true:=by rw[a];exact Bool.false_ne_true
  rw[if_neg a']
  exact congrArg some e
variable{C:Addr}
theorem xc.look{x:Addr}(I:xc h x dx C mA):∃ od,PySem.W.InstAt h x (PySem.W.instObj C dx) C (some od)/\∀ name,PySem.W.lookIn name od=some (mA name) :=
 let ⟨od,ho,hl⟩:=m_ I.ns
 ⟨od,⟨I.obj,rfl,rfl,ho⟩,hl⟩
variable{prog:Program}
variable{pl:Sem Bool}
variable{kw:List (Str×Value)}
section
variable{K:PySem.W.Frag}{x f:Addr}{name:Str}{v:Value}
theorem get_map{expr:Bool}(X:K.In s.heap)(I:xc s.heap x dx C mA)(hg:PySem.W.plainGet K C name=true)(hh:PySem.W.hasDictIn K C=true)
  (ha:PySem.W.findIn K (.ref C) name=some none) (hv:mA name=some v) (Q_:PySem.W.handedIn v=true) (h:Q v { s with toks:=s.toks+1 }) :
  wpAny (model prog w) A (getAttr (.ref x) name expr) Q E s:=by
 obtain⟨od,J,hl⟩:=I.look
 exact PySem.W.get_value X J (PySem.W.plainGet_of hg).1 (PySem.W.findObj_own hh ha rfl (by rw[hl,hv])) Q_ h
theorem BJ{Q:Value×List Value->Shared->Prop}(X:K.In s.heap)(I:xc s.heap x dx C mA)(hg:PySem.W.plainGet K C name=true)
  (hf:PySem.W.findIn K (.ref C) name=some (some (.ref f))) (ht:PySem.W.isFn K (.ref f)=true) (hv:mA name=none) (h:Q (.ref f,[.ref x]) s) :
  wpAny (model prog w) A (getMethod (.ref x) name pl) Q E s:=by
 obtain⟨od,J,hl⟩:=I.look
 exact PySem.W.method_fn X J (PySem.W.plainGet_of hg).1 (PySem.W.plainGet_of hg).2 hf (beq_iff_eq.mp ht) (by show (PySem.W.lookIn name od).map (·.isSome)=some false;rw[hl,hv];rfl) h
theorem E8{ns:List Str}{Q:Unit->Shared->Prop}(X:K.In s.heap)(I:xc s.heap x dx C mA)
  (hs:PySem.W.findIn K (.ref C) "__setattr__" = some (some (.builtin "object.__setattr__"))) (hp:PySem.W.plainOver K C=true) (ht:PySem.W.takerIn K C name=some none) (hh:PySem.W.hasDictIn K C=true)
  (hw:PySem.Within mA ns) (Pt:ns.length<=sizeLine)
  (h:∀ h',xc h' x dx C (λy=>if y=name then some v else mA y)->Heap.SameBut dx s.heap h'->Q () { s with heap:=h',toks:=s.toks+2 }) :
  wpAny (model prog w) A (setAttr (.ref x) name v) Q E s:=by
 obtain⟨od,J,hl⟩:=I.look
 refine PySem.W.set_plain X J hs (PySem.W.osa_open (s:={ s with toks:=s.toks+1 }) (r:=none) X J hp ht λb=>?_)
 obtain⟨cd,hc,Rr⟩:=PySem.W.any_some hh
 have hx:s.heap.get? x=some ⟨.ref C,some dx,.plain,#[]⟩:=I.obj
 refine wpAny_bind (wpAny_pure (wpAny_bind (wpAny_bind (wpAny_loadPart hx (wpAny_bind (PySem.W.Looks.here (s:={ s with toks:=s.toks+1 }) (PySem.W.looks_clsIn X hc) ?_))))))
 rw[Rr]
 refine wpAny_pure (a:=some dx) (wpAny_bind (wpAny_pure (wpAny_bind ?_)))
 refine wpAny_nsSet1 (s:={ s with toks:=s.toks+1 }) I.ns λh' QQ Pn=>?_
 obtain⟨oD,esD,epD,hoD,hdD,Qp⟩:=QQ.count (PySem.Within.cons name v hw)
 refine wpAny_bind (wpAny_lookBehind hoD (by rw[hdD];exact pastItsLine_dict (Nat.le_trans Qp (by rw[List.length_cons];omega))) ?_)
 exact wpAny_pure (h _ ⟨(Pn.2 _ (Ne.symm I.ne)).trans I.obj,QQ,I.ne⟩ Pn)
theorem BR{R:Result->Shared->Prop}{vs:List Value}(X:K.In s.heap)(hm:PySem.W.makesIn K C=true)
  (hi:PySem.W.findIn K (.ref C) "__init__" = some (some (.ref f))) (hf:PySem.W.typeIn K (.ref f)=some (.type "function"))
  (h:codeAny (model prog w) (A.under (.builtin "type.__call__" ⟨.ref C::vs,kw⟩)) (.call (.ref f) ⟨.ref (s.heap.objs.size+1)::vs,kw⟩) (PySem.W.InitBack (s.heap.objs.size+1) R)
   { s with heap:=(s.heap.push PySem.W.emptyDict).push (PySem.W.instObj C s.heap.objs.size) }) :
  codeAny (model prog w) A (.call (.ref C) ⟨vs,kw⟩) R s:=by
 obtain⟨hh,g,d,t,os⟩:=s
 exact PySem.W.make_core (PySem.W.makes_of X hm) (PySem.W.looks_findIn X hi) (λself=>PySem.W.bind_fn X self hf) (.inl rfl) h
end
def jW(f:Str)(v:V):List (Str×V)->List (Str×V)
 | []=>[(f,v)]
 | (g,x)::r=>if g=f then (g,v)::r else (g,x)::jW f v r
theorem nB(f g:Str)(v:V):∀ fs:List (Str×V),(jW f v fs).lookup g=if g=f then some v else fs.lookup g
 | []=>by
  show List.lookup g [(f,v)]=_
  by_cases h:g=f
  ·have hb:(g==f)=true:=beq_iff_eq.mpr h
   simp only[List.lookup,hb,if_pos h]
  ·have hb:(g==f)=false:=beq_eq_false_iff_ne.mpr h
   simp only[List.lookup,hb,if_neg h]
 | (k,x)::r=>by
  have ih:=nB f g v r
  rw[show jW f v ((k,x)::r)=(if k=f then (k,v)::r else (k,x)::jW f v r) from rfl]
  by_cases hk:k=f
  ·rw[if_pos hk]
   by_cases h:g=k
   ·have hb:(g==k)=true:=beq_iff_eq.mpr h
    simp only[List.lookup,hb,if_pos (h.trans hk)]
   ·have hb:(g==k)=false:=beq_eq_false_iff_ne.mpr h
    simp only[List.lookup,hb,if_neg (λe:g=f=>h (e.trans hk.symm))]
  ·rw[if_neg hk]
   by_cases h:g=k
   ·have hb:(g==k)=true:=beq_iff_eq.mpr h
    simp only[List.lookup,hb,if_neg (λe:g=f=>hk (h.symm.trans e))]
   ·have hb:(g==k)=false:=beq_eq_false_iff_ne.mpr h
    simp only[List.lookup,hb]
    exact ih
theorem mY(f:Str)(v:V):∀ fs:List (Str×V),f∈(jW f v fs).map (·.1)/\∀ g,g∈fs.map (·.1)->g∈(jW f v fs).map (·.1)
 | []=>⟨by simp[jW],λg h=>by simp at h⟩
 | (k,x)::r=>by
  obtain⟨i1,i2⟩:=mY f v r
  rw[show jW f v ((k,x)::r)=(if k=f then (k,v)::r else (k,x)::jW f v r) from rfl]
  by_cases hk:k=f
  ·rw[if_pos hk]
   subst hk
   exact⟨by simp,λg h=>by simpa using h⟩
  ·rw[if_neg hk]
   refine⟨?_,λg h=>?_⟩
   ·rw[List.map_cons]
    exact List.mem_cons_of_mem _ i1
   ·rw[List.map_cons] at h ⊢
    rcases List.mem_cons.mp h with e | e
    ·exact List.mem_cons.mpr (.inl e)
    ·exact List.mem_cons_of_mem _ (i2 g e)
theorem nv(f:Str)(v:V):∀ fs:List (Str×V),(jW f v fs).length<=fs.length+1
 | []=>by simp[jW]
 | (k,x)::r=>by
  have ih:=nv f v r
  rw[show jW f v ((k,x)::r)=(if k=f then (k,v)::r else (k,x)::jW f v r) from rfl]
  by_cases hk:k=f
  ·rw[if_pos hk,List.length_cons,List.length_cons];omega
  ·rw[if_neg hk,List.length_cons,List.length_cons];omega
theorem mQ.some_of{o:Option Value}(r:mQ (some v) o):∃ u,o=some u/\RelV v u:=by
 cases o with
 | none=>exact(show False from r).elim
 | some u=>exact⟨u,rfl,r⟩
theorem mQ.none_of{o:Option Value}(r:mQ none o):o=none:=by
 cases o with
 | none=>rfl
 | some u=>exact(show False from r).elim
theorem zp(r:RelV v u):PySem.W.handedIn u=true:=by
 cases v with
 | da=>cases (show u=Value.none from r);rfl
 | bl b=>cases (show u=Value.bool b from r);rfl
 | int i=>obtain⟨t,e⟩:=(show ∃ t,u=Value.int i t from r);cases e;rfl
 | str x=>obtain⟨t,e⟩:=(show ∃ t,u=Value.str x t from r);cases e;rfl
 | byt b=>obtain⟨t,e⟩:=(show ∃ t,u=Value.bytes b t from r);cases e;rfl
 | F2 b=>obtain⟨t,e⟩:=(show ∃ t,u=Value.float b t from r);cases e;rfl
 | ref a=>cases (show u=Value.ref a from r);rfl
 | ty n=>cases (show u=Value.type n from r);rfl
section
variable{fs QW:List (Str×V)}
theorem lW(bK:mH P w H h)(e:H a=some (.ins C dx fs)):∃ mA,xc h a dx C mA/\(∀ f,mQ (fs.lookup f) (mA f))/\PySem.Within mA (fs.map (·.1))/\fs.length<=1000/\H dx=some (.own a):=by
 obtain⟨d,z,ne,ob,mA,n,r,q⟩:=(show cu P w H h a (.ins C dx fs) from bK a _ e)
 exact⟨mA,⟨ob,n,ne⟩,r,q,z,d⟩
end
structure kP (K:PySem.W.Frag) (C:Addr):Prop where
 pg:PySem.W.plainGet K C Str.empty=true
 hd:PySem.W.hasDictIn K C=true
 po:PySem.W.plainOver K C=true
 sa:PySem.W.findIn K (.ref C) "__setattr__" = some (some (.builtin "object.__setattr__"))
theorem kP.get{K:PySem.W.Frag}(c:kP K C)(f:Str):PySem.W.plainGet K C f=true:=c.pg
def bN(K:PySem.W.Frag)(C:Addr)(f:Str):Prop:=PySem.W.findIn K (.ref C) f=some none
theorem bN.FX{K:PySem.W.Frag}{f:Str}(n:bN K C f):PySem.W.takerIn K C f=some none:=by
 unfold PySem.W.takerIn
 rw[show PySem.W.findIn K (.ref C) f=some none from n]
 rfl
structure Meth (K:PySem.W.Frag) (C:Addr) (m:Str) (f:Addr):Prop where
 at_:PySem.W.findIn K (.ref C) m=some (some (.ref f))
 fn:PySem.W.isFn K (.ref f)=true
 kp:PySem.W.keepIn K (.ref f)=true
variable{m:Str}
section
variable{fs:List (Str×V)}{f:Str}
theorem wR{b:Bool}(I:Inv X NX σ H s)(e:H a=some (.ins C dx fs))(c:kP X.K C)(n:bN X.K C f)(l:fs.lookup f=some v)
  (h:∀ u s',Inv X NX σ H s'->RelV v u->Q u s'):wpAny (model X.prog X.w) A (getAttr (.ref a) f b) Q E s:=by
 obtain⟨mA,O,r,_,_,_⟩:=lW I.bK e
 obtain⟨u,hu,ru⟩:=mQ.some_of (v:=v) (o:=mA f) (by rw[← l];exact r f)
 exact get_map I.jX O (c.get f) c.hd n hu (zp ru) (h u _ (I.tok _) ru)
theorem qB{g:Addr}{Q:Value×List Value->Shared->Prop}(I:Inv X NX σ H s)(e:H a=some (.ins C dx fs))(c:kP X.K C)(k:Meth X.K C m g)(l:fs.lookup m=none)
  (h:Q (.ref g,[.ref a]) s):wpAny (model X.prog X.w) A (getMethod (.ref a) m pl) Q E s:=by
 obtain⟨mA,O,r,_,_,_⟩:=lW I.bK e
 have hn:mA m=none:=mQ.none_of (by rw[← l];exact r m)
 exact BJ I.jX O (c.get m) k.at_ k.fn hn h
theorem wL{y:V}{Q:Unit->Shared->Prop}(I:Inv X NX σ H s)(e:H a=some (.ins C dx fs))(c:kP X.K C)(n:bN X.K C f)(hl:fs.length<1000)(ry:RelV y u)
  (h:∀ s',Inv X NX σ (upd H a (.ins C dx (jW f y fs))) s'->Q () s'):wpAny (model X.prog X.w) A (setAttr (.ref a) f u) Q E s:=by
 obtain⟨mA,O,r,wi,_,ho⟩:=lW I.bK e
 have hz:(fs.map (·.1)).length<=sizeLine:=by rw[List.length_map,sizeLine_eq];omega
 refine E8 I.jX O c.sa c.po n.FX c.hd wi hz λh' O' sb=>h _ ?_
 have hd:∃ o,h'.get? dx=some o:=let ⟨o,_,_,e',_⟩:=O'.ns;⟨o,e'⟩
 refine I.write (x:=a) (e:=dx) (by rw[e];exact True.intro) (.inr ho) (λb q hb z=>(sb.2 b hb).trans z) hd ?_
 refine⟨by rw[aw O.ne];exact ho,?_,O.ne,O'.obj,_,O'.ns,λg=>?_,λg hg=>?_⟩
 ·have:=nv f y fs;omega
 ·show mQ ((jW f y fs).lookup g) (if g=f then some u else mA g)
  rw[nB]
  by_cases q:g=f
  ·rw[if_pos q,if_pos q];exact ry
  ·rw[if_neg q,if_neg q];exact r g
 ·by_cases q:g=f
  ·rw[q];exact(mY f y fs).1
  ·refine(mY f y fs).2 g (wi g λz=>hg ?_)
   show (if g=f then some u else mA g)=none
   rw[if_neg q];exact z
theorem Inv.made(I:Inv X NX σ H s):Inv X NX σ (upd (upd H s.heap.objs.size (.own (s.heap.objs.size+1))) (s.heap.objs.size+1) (.ins C s.heap.objs.size []))
  { s with heap:=(s.heap.push PySem.W.emptyDict).push (PySem.W.instObj C s.heap.objs.size) }:=by
 have e1:(s.heap.push PySem.W.emptyDict).get? s.heap.objs.size=some PySem.W.emptyDict:=Heap.get?_push_size s.heap rfl
 have e2:((s.heap.push PySem.W.emptyDict).push (PySem.W.instObj C s.heap.objs.size)).get? (s.heap.objs.size+1)=some (PySem.W.instObj C s.heap.objs.size):=by
  have:=Heap.get?_push_size (s.heap.push PySem.W.emptyDict) (o:=PySem.W.instObj C s.heap.objs.size) rfl
  rwa [Heap.size_push] at this
 have e3:(s.heap.push PySem.W.emptyDict).Ns s.heap.objs.size (λ_=>none):=⟨PySem.W.emptyDict,#[],_,e1,rfl,(λe he=>absurd he (by simp)),λ_=>rfl⟩
 have I1:=I.laid (a:=s.heap.objs.size) (o:=.own (s.heap.objs.size+1)) (h':=s.heap.push PySem.W.emptyDict) (t':=s.toks) (λb u q=>Heap.get?_push_of_some _ q) (Nat.le_refl _) ⟨_,e1⟩
 refine I1.laid (a:=s.heap.objs.size+1) (o:=.ins C s.heap.objs.size []) (t':=s.toks) (λb u q=>Heap.get?_push_of_some _ q) (Nat.le_of_eq (Heap.size_push _ _)) ?_
 have ne:s.heap.objs.size≠s.heap.objs.size+1:=Nat.ne_of_lt (Nat.lt_succ_self _)
 refine⟨by rw[aw ne,aB],Nat.zero_le _,ne,e2,λ_=>none,(Heap.Ns1.of_empty e3).at λo q=>Heap.get?_push_of_some _ q,λ_=>True.intro,λy hy=>absurd rfl hy⟩
theorem EU{env:Env}{f:Str}{pos:Pos}(hb:attributeBase e f env (eval e env)=eval e env)
  (h:wpAny (model prog w) A (eval e env) (λo s₁=>wpAny (model prog w) A (getAttr o f true) Q E s₁) E s):wpAny (model prog w) A (eval (.Attribute e f pos) env) Q E s :=
 Attribute_any_ h (by rw[arm_eval_Attribute,hb])
end
def Nd(K:PySem.W.Frag)(ta:TE)(f:Str):TE:=fun σ H Q=>ta σ H λx H1=>∃ a C dx fs v,x=.ref a/\H1 a=some (.ins C dx fs)/\kP K C/\bN K C f/\fs.lookup f=some v/\Q v H1
def L8(K:PySem.W.Frag)(ta tv:TE)(f:Str):TS:=λD σ H=>tv σ H λy H1=>ta σ H1 λx H2=>∃ a C dx fs,x=.ref a/\H2 a=some (.ins C dx fs)/\kP K C/\bN K C f/\fs.length<1000 ∧
 D.nx σ (upd H2 a (.ins C dx (jW f y fs)))
section
variable{o value:Expr}{f:Str}{pos pos' tpos:Pos}{tv:TE}
theorem G7(he:PE X e ta)(hb:attributeBase e f X.env (eval e X.env)=eval e X.env):PE X (.Attribute e f pos) (Nd X.K ta f):=by
 intro NX s σ H Q I h
 refine EU hb (cG (he NX s σ H _ I h) λu s1 ⟨x,H1,I1,rx,a,C,dx,fs,v,ex,ea,c,n,l,q⟩=>?_)
 subst ex
 obtain rfl:u=Value.ref a:=rx
 exact wR I1 ea c n l λu' s2 I2 ru=>⟨v,H1,I2,ru,q⟩
theorem IQ(ha:PE X o ta)(hv:PE X value tv)(hs:swapsWith value (some (.Attribute o f pos')) pos.line X.env=pure false):PS X (.Assign [.Attribute o f pos'] value pos) (L8 X.K ta tv f):=by
 intro NX s σ H D I h
 refine plainObj_wpAny_Assign_Attribute (cG (hv NX s σ H _ I h) λu s1 ⟨y,H1,I1,ry,q⟩=>cG (ha NX s1 σ H1 _ I1 q) λov s2 ⟨x,H2,I2,rx,a,C,dx,fs,ex,ea,c,n,l,q2⟩=>?_) hs
 subst ex
 obtain rfl:ov=Value.ref a:=rx
 exact wL I2 ea c n l ry λs3 I3=>⟨σ,_,I3,q2⟩
end
section
variable{c:Value}{b:Bool}
inductive jT (K:PySem.W.Frag) (H:Hp):V->Value->Prop where
 | da:jT K H .da (.type "NoneType")
 | bl (x:Bool):jT K H (.bl x) (.type "bool")
 | int (i:Int):jT K H (.int i) (.type "int")
 | str (x:Str):jT K H (.str x) (.type "str")
 | F2 (x:UInt64):jT K H (.F2 x) (.type "float")
 | lst {a:Addr} {xs:List V} (e:H a=some (.lst xs)):jT K H (.ref a) (.type "list")
 | qK {a:Addr} {o:Obj} {xs:List V} (e:H a=some (.qK o (.lst xs))):jT K H (.ref a) (.type "list")
 | tup {a:Addr} {xs:List V} (e:H a=some (.tup xs)):jT K H (.ref a) (.type "tuple")
 | dK {a:Addr} {OL:List (Key×V)} (e:H a=some (.dK OL)):jT K H (.ref a) (.type "dict")
 | dT {a:Addr} {OL:List (List Key×V)} (e:H a=some (.dT OL)):jT K H (.ref a) (.type "dict")
 | ins {a C dx:Addr} {fs:List (Str×V)} (e:H a=some (.ins C dx fs)) (cl:kP K C) (ha:PySem.W.findIn K (.ref C) "__class__" = some (some (.builtin "object.__class__")))
   (hn:PySem.W.specialIn K (.builtin "object.__class__") "__get__" = some (some (.builtin "getset_descriptor.__get__"))) (Jr:PySem.W.takesIn K (.builtin "object.__class__")=some true)
   (hm:PySem.W.mroIn K C (.type "object")=some true):jT K H (.ref a) (.ref C)
theorem rX{x:V}{t:Value}(I:Inv X NX σ H s)(rx:RelV x u)(ty:jT X.K H x t)(e:PySem.W.kitOne X.K t c=some b)(h:∀ tk,Q (.bool b) { s with toks:=tk }) :
  wpAny (model X.prog X.w) A (call (.builtin "isinstance") [u,c]) Q E s:=by
 cases ty with
 | da=>cases (show u=Value.none from rx);exact PySem.W.kia_one PySem.W.kitx_none I.jX True.intro e (λz=>nomatch z) h
 | bl y=>cases (show u=Value.bool y from rx);exact PySem.W.kia_one PySem.W.kitx_bool I.jX True.intro e (λz=>nomatch z) h
 | int i=>obtain⟨t,q⟩:=(show ∃ t,u=Value.int i t from rx);cases q;exact PySem.W.kia_one PySem.W.kitx_int I.jX True.intro e (λz=>nomatch z) h
 | str y=>obtain⟨t,q⟩:=(show ∃ t,u=Value.str y t from rx);cases q;exact PySem.W.kia_one PySem.W.kitx_str I.jX True.intro e (λz=>nomatch z) h
 | F2 y=>obtain⟨t,q⟩:=(show ∃ t,u=Value.float y t from rx);cases q;exact PySem.W.kia_one PySem.W.kitx_float I.jX True.intro e (λz=>nomatch z) h
 | @lst a xs ea =>
  cases (show u=Value.ref a from rx)
  obtain⟨_,_,n,_,h1⟩:=(show cu X.prog X.w H s.heap a (.lst xs) from I.bK a _ ea)
  exact PySem.W.kia_one PySem.W.kitx_list I.jX ⟨_,h1,rfl⟩ e (λz=>nomatch z) h
 | @qK a ob xs ea =>
  cases (show u=Value.ref a from rx)
  obtain⟨_,_,_,n,_,h1⟩:=(show cu X.prog X.w H s.heap a (.qK ob (.lst xs)) from I.bK a _ ea)
  exact PySem.W.kia_one PySem.W.kitx_list I.jX ⟨_,h1,rfl⟩ e (λz=>nomatch z) h
 | @tup a xs ea =>
  cases (show u=Value.ref a from rx)
  obtain⟨_,_,_,p⟩:=(show cu X.prog X.w H s.heap a (.tup xs) from I.bK a _ ea)
  obtain⟨o,h1,h2,_⟩:=p
  exact PySem.W.kia_one PySem.W.kitx_tuple I.jX ⟨o,h1,h2⟩ e (λz=>nomatch z) h
 | @dK a OL ea =>
  cases (show u=Value.ref a from rx)
  obtain⟨_,_,vs,_,p⟩:=(show cu X.prog X.w H s.heap a (.dK OL) from I.bK a _ ea)
  obtain⟨o,es,ep,h1,h2,_⟩:=p
  exact PySem.W.kia_one PySem.W.kitx_dict I.jX ⟨o,h1,h2.1⟩ e (λz=>nomatch z) h
 | @dT a OL ea =>
  cases (show u=Value.ref a from rx)
  obtain⟨_,_,xs,_,o,es,ep,h1,h2,_⟩:=(show cu X.prog X.w H s.heap a (.dT OL) from I.bK a _ ea)
  exact PySem.W.kia_one PySem.W.kitx_dict I.jX ⟨o,h1,h2.1⟩ e (λz=>nomatch z) h
 | @ins a C dx fs ea cl ha hn Jr hm =>
  cases (show u=Value.ref a from rx)
  obtain⟨mA,O,_⟩:=lW I.bK ea
  obtain⟨od,J,_⟩:=O.look
  exact PySem.W.kia_one (PySem.W.kitx_own (cl.get _) cl.hd ha hn Jr hm) I.jX J e (λz=>nomatch z) h
end
structure cv (k:Nat) (A:Around):Prop where
 hd:A.handled=none
 dp:A.depth+3*k+5<recursionLimit
 un:A.units+16*k+200<cLine
theorem cv.mono{j:Nat}(r:cv k A)(h:j<=k):cv j A:=⟨r.hd,by have:=r.dp;omega,by have:=r.un;omega⟩
theorem cv.deeper{k:Nat}{A:Around}(r:cv (k+1) A)(env:Env):cv k (A.deeper env) :=
 ⟨r.hd,by have:=r.dp;show A.depth+1+3*k+5<_;omega,by have:=r.un;show A.units+3+16*k+200<_;omega⟩
theorem xj:(A.under (.builtin "type.__call__" ⟨.ref C::us,kw⟩)).depth=A.depth+1:=by
 first | rfl | simp[Around.under,Code.weight,Code.isCreation,Code.isGuard,Code.isCaller,Code.frames,Code.isFrame,guardIds]
theorem xn:(A.under (.builtin "type.__call__" ⟨.ref C::us,kw⟩)).units=A.units+1:=by
 first | rfl | simp[Around.under,Code.cUnits,Code.frames,Code.isFrame]
theorem cv.make(r:cv (k+1) A)(C:Addr)(us:List Value)(kw:List (Str×Value)):cv k (A.under (.builtin "type.__call__" ⟨.ref C::us,kw⟩)) :=
 ⟨r.hd,by have:=r.dp;rw[xj];omega,by have:=r.un;rw[xn];omega⟩
theorem cv.depth{k:Nat}{A:Around}(r:cv k A):A.depth<recursionLimit:=by have:=r.dp;omega
theorem cv.units{k:Nat}{A:Around}(r:cv k A):A.units+64<cLine:=by have:=r.un;omega
def Kt:TA:=λ_ H Q=>Q [] H
def Kz(ta:TE)(tr:TA):TA:=fun σ H Q=>ta σ H λx H1=>tr σ H1 λxs H2=>Q (x::xs) H2
variable{t:TA}
section
variable{pos:Pos}
theorem ko:PA X [] Kt:=λ_ _ _ _ H Q I h=>Calls.spliced_nil ⟨[],H,I,.nil,h⟩
theorem dM(ha:PE X e te)(hr:PA X es t)(hs:autoParam (starEach (e::es) X.env=(false,eval e X.env)::starEach es X.env) aR._auto_1):PA X (e::es) (Kz te t):=by
 intro pos NX s σ H Q I h
 rw[hs]
 show wpAny _ _ (spliced ((false,eval e X.env)::backTo pos (starEach es X.env))) _ _ s
 refine Calls.spliced_cons (cG (ha NX s σ H _ I h) λu s1 ⟨x,H1,I1,r1,q1⟩=>?_)
 exact cG (hr pos NX s1 σ H1 _ I1 q1) λus s2 ⟨xs,H2,I2,r2,q2⟩=>⟨x::xs,H2,I2,.cons r1 r2,q2⟩
def L_(t:TA):TE:=fun σ H Q=>t σ H λxs H1=>xs.length<=sizeLine/\∀ p,H1 p=none->Q (.ref p) (upd H1 p (.tup xs))
def M4(t:TA):TE:=fun σ H Q=>t σ H λxs H1=>xs.length<=sizeLine/\∀ p,H1 p=none->Q (.ref p) (upd H1 p (.lst xs))
theorem CV{x1}(h:PA X es t):PE X (.Tuple es x1 pos) (L_ t):=by
 intro NX s σ H Q I hq
 refine wpAny_Tuple_spliced (cG (h pos NX s σ H _ I hq) λus s1 ⟨xs,H1,I1,r,z,q⟩=>⟨by rw[← r.length];exact z,?_⟩)
 have hf:H1 s1.heap.objs.size=none:=I1.bK.fresh (Nat.le_refl _)
 refine⟨.ref s1.heap.objs.size,upd H1 s1.heap.objs.size (.tup xs),I1.laid (t':=s1.toks) (λb u e=>Heap.get?_push_of_some _ e) (Nat.le_refl _) ?_,rfl,q _ hf⟩
 exact⟨z,us,r,⟨_,Heap.get?_push_size _ rfl,rfl,_,rfl⟩⟩
theorem AI(h:PA X es t):PE X (.List es pos) (M4 t):=by
 intro NX s σ H Q I hq
 refine wpAny_List_spliced (cG (h pos NX s σ H _ I hq) λus s1 ⟨xs,H1,I1,r,z,q⟩=>⟨by rw[← r.length];exact z,?_⟩)
 have hf:H1 s1.heap.objs.size=none:=I1.bK.fresh (Nat.le_refl _)
 refine⟨.ref s1.heap.objs.size,upd H1 s1.heap.objs.size (.lst xs),I1.laid (t':=s1.toks) (λb u e=>Heap.get?_push_of_some _ e) (Nat.le_refl _) ?_,rfl,q _ hf⟩
 exact⟨z,us,0,r,Heap.get?_push_size _ rfl⟩
end
abbrev Sp:=List V->Hp->VK->XK->Prop
abbrev Ju:=List Env->Hp->Shared->XK->Value->Shared->Prop
structure wK (P:Program) (w:World) (K:PySem.W.Frag) (mg:Str->Option Value) (base:Heap) (A:Around) (outer:List Env) (s:Shared) (H:Hp):Prop where
 frames:A.frames=some outer
 mod:Mod K mg base
 bs:∀ b o,base.get? b=some o->s.heap.get? b=some o/\H b=none
 AY:base.objs.size<=s.heap.objs.size
 lG:s.heap.FunFrames base outer
 Du:∀ b∈wg outer,H b=none
 bK:mH P w H s.heap
 bare:AllBare s.gens
def CE(outer:List Env)(P:Program)(w:World)(H:Hp)(s:Shared)(Q:VK)(u:Value)(s':Shared):Prop :=
 ∃ v H',s'.os=s.os/\AllBare s'.gens/\Un (wg outer) [] H H' s.heap s'.heap/\mH P w H' s'.heap/\RelV v u/\Q v H'
def CR(CX:Ju)(outer:List Env)(P:Program)(w:World)(H:Hp)(s:Shared)(Q:VK)(E:XK)(r:Result)(s':Shared):Prop :=
 match r with
 | .ok (.ret u)=>CE outer P w H s Q u s'
 | .ok _=>False
 | .error e=>CX outer H s E e s'
structure aQ (P:Program) (w:World) (K:PySem.W.Frag) (mg:Str->Option Value) (base:Heap) (CX:Ju) (k:Nat) (f:Addr) (fd:FuncData) (ps:List Str) (sp:Sp):Prop where
 len:∀ vs H Q E,sp vs H Q E->vs.length=ps.length
 run:∀ (A:Around) (outer:List Env) (s:Shared) (H:Hp) (args:Args) (us:List Value) (vs:List V) (Q:VK) (E:XK),cv k A->wK P w K mg base A outer s H->BindsTo s fd args (ps.zip us)->Vals vs us->sp vs H Q E ->
  codeAny (model P w) A (.call (.ref f) args) (CR CX outer P w H s Q E) s
variable{outer:List Env}{base:Heap}{mg:Str->Option Value}
theorem wK.make{K:PySem.W.Frag}(e:wK P w K mg base A outer s H)(C:Addr)(us:List Value)(kw:List (Str×Value)) :
  wK P w K mg base (A.under (.builtin "type.__call__" ⟨.ref C::us,kw⟩)) outer s H:=⟨by first | exact e.frames | (simpa [Around.under,Code.envs,Code.isFrame,pushEnvs] using e.frames),e.mod,e.bs,e.AY,e.lG,e.Du,e.bK,e.bare⟩
section
variable{s':Shared}
theorem Inv.lA(I:Inv X NX σ H s):wK X.prog X.w X.K X.mg X.base X.A X.stack s H :=
 ⟨I.ok.frames,I.ok.mod,I.bs,Nat.le_trans I.ok.AY I.sz,I.stack,I.ug,I.bK,I.bare⟩
theorem Inv.after{Q:VK}(I:Inv X NX σ H s)(h:CE X.stack X.prog X.w H s Q u s'):EP X NX σ Q u s':=by
 obtain⟨v,H',os,bare,un,bK,r,q⟩:=h
 obtain⟨hh,g,d,t,os'⟩:=s'
 obtain rfl:os'=s.os:=os
 exact⟨v,H',I.call (h':=hh) (g':=g) (d':=d) (t':=t) (ch:=[]) un bK bare (λb z=>absurd z (by simp)),r,q⟩
end
def Binds(K:PySem.W.Frag)(fd:FuncData)(ps:List Str)(ds:List Value):Prop :=
 ∀ (s:Shared) (us:List Value),K.In s.heap->(us++ds).length=ps.length->BindsTo s fd ⟨us,[]⟩ (ps.zip (us++ds))
variable{ps:List Str}{fd:FuncData}
theorem Binds.all{K:PySem.W.Frag}(h:∀ us:List Value,us.length=ps.length->bindArgs fd ⟨us,[]⟩=pure (ps.zip us)):Binds K fd ps []:=λs us _ hl=>by
 rw[List.append_nil] at hl ⊢
 exact .of_eq (h us hl)
variable{sp:Sp}{CX:Ju}
section
variable{f:Addr}{OI:List V}{ds:List Value}{E:XK}{pos apos:Pos}{o:Expr}
structure Mk (K:PySem.W.Frag) (C f:Addr):Prop where
 makes:PySem.W.makesIn K C=true
 init:PySem.W.findIn K (.ref C) "__init__" = some (some (.ref f))
 fn:PySem.W.isFn K (.ref f)=true
 kp:PySem.W.keepIn K (.ref C)=true
end
section
variable{f:Addr}{ks:List Str}{E:XK}{pos apos kpos:Pos}{o:Expr}{kws:List Keyword}{tk:TA}{nm:Option Str}
variable{g:List Value->List Value->List Value}{gV:List V->List V->List V}
end
structure cx (N P:List Str) (sc:Scope):Prop where
 kind:sc.kind=.function
 co:sc.isCoroutine=false
 gen:sc.isGenerator=false
 nd:N.Nodup
 pre:N.take P.length=P
 par:∀ x∈P,sc.names.lookup x=some .local\/sc.names.lookup x=some .cell
 Ia:∀ y∈sc.names,y.2≠.free
theorem rP{kindOf:Str->Option NameKind}{x:Str}:∀ {binds:List (Str×Value)} {m:Str->Option Value},(∀ v,(x,v) ∉ binds)->bindL kindOf binds m x=m x
 | [],_,_=>rfl
 | (n,v)::r,m,h=>by
  unfold bindL
  rw[rP λw hw=>h w (List.mem_cons_of_mem _ hw)]
  split
  ·have:x≠n:=by rintro rfl;exact h v List.mem_cons_self
   simp[this]
  ·rfl
theorem sD{kindOf:Str->Option NameKind}{x:Str}:∀ {binds:List (Str×Value)} {m:Str->Option Value},(∀ v,(x,v) ∉ binds)->bindC kindOf binds m x=m x
 | [],_,_=>rfl
 | (n,v)::r,m,h=>by
  unfold bindC
  rw[sD λw hw=>h w (List.mem_cons_of_mem _ hw)]
  split
  ·rfl
  ·have:x≠n:=by rintro rfl;exact h v List.mem_cons_self
   simp[this]
theorem rV{kindOf:Str->Option NameKind}{x:Str}{v:Value}:∀ {P:List Str} {vs:List Value} {i:Nat} {m:Str->Option Value},P.Nodup->P[i]?=some x->vs[i]?=some v->kindOf x=some .local ->
  bindL kindOf (P.zip vs) m x=some v
 | [],_,_,_,_,h,_,_=>by simp at h
 | _::_,[],_,_,_,_,h,_=>by simp at h
 | p::P,w::vs,0,m,nd,h1,h2,hk=>by
  simp at h1 h2;subst h1;subst h2
  show bindL kindOf ((p,w)::P.zip vs) m p=_
  unfold bindL
  rw[rP λv hv=>(List.nodup_cons.mp nd).1 (List.of_mem_zip hv).1,if_pos hk]
  simp
 | p::P,w::vs,i+1,m,nd,h1,h2,hk=>by
  show bindL kindOf ((p,w)::P.zip vs) m x=_
  unfold bindL
  exact rV (i:=i) (List.nodup_cons.mp nd).2 (by simpa using h1) (by simpa using h2) hk
theorem rO{kindOf:Str->Option NameKind}{x:Str}{v:Value}:∀ {P:List Str} {vs:List Value} {i:Nat} {m:Str->Option Value},P.Nodup->P[i]?=some x->vs[i]?=some v->kindOf x≠some .local ->
  bindC kindOf (P.zip vs) m x=some v
 | [],_,_,_,_,h,_,_=>by simp at h
 | _::_,[],_,_,_,_,h,_=>by simp at h
 | p::P,w::vs,0,m,nd,h1,h2,hk=>by
  simp at h1 h2;subst h1;subst h2
  show bindC kindOf ((p,w)::P.zip vs) m p=_
  unfold bindC
  rw[sD λv hv=>(List.nodup_cons.mp nd).1 (List.of_mem_zip hv).1,if_neg hk]
  simp
 | p::P,w::vs,i+1,m,nd,h1,h2,hk=>by
  show bindC kindOf ((p,w)::P.zip vs) m x=_
  unfold bindC
  exact rO (i:=i) (List.nodup_cons.mp nd).2 (by simpa using h1) (by simpa using h2) hk
def start(N:List Str)(vs:List V):St:=vs.map some++List.replicate (N.length-vs.length) none
def lO(CX:Ju)(P:Program)(w:World)(K:PySem.W.Frag)(mg:Str->Option Value)(base:Heap)(N:List Str)(qual:Str)(scope:Scope)(f:Addr)(cd:Value)(A:Around)(outer:List Env)(s:Shared)(H:Hp)(E:XK):Cx where
 prog:=P
 w:=w
 K:=K
 mg:=mg
 base:=base
 A:=A.deeper (envOfC qual scope s.heap.objs.size f cd)
 N:=N
 s₀:=s
 H₀:=H
 env:=envOfC qual scope s.heap.objs.size f cd
 outer:=outer
 stack:=envOfC qual scope s.heap.objs.size f cd::outer
 ex:=[]
 calm:=true
 fn:=λ_=>true
 pn:=[]
 xe:=λe s'=>wpAny (model P w) (A.deeper (envOfC qual scope s.heap.objs.size f cd)) (leaving (envOfC qual scope s.heap.objs.size f cd) e) (λ_ RN=>CX outer H s E e RN) (λe' RN=>CX outer H s E e' RN) s'
theorem vX{sc:Scope}(h:sc.names.lookup x=some .cell):∃ c,(cellsFrom n sc.names []).lookup x=some c:=by
 have q:=PySem.W.cellsFrom_some sc.names n [] (.inl h)
 exact Option.isSome_iff_exists.mp q
variable{scope:Scope}
theorem z0{K:PySem.W.Frag}{qual:Str}{f:Addr}{cd:Value}{s1:Shared}{E:XK}{vs:List V}
  (S:cx N ps scope) (hd:A.handled=none) (e0:wK P w K mg base A outer s H) (hl:vs.length=ps.length) (r:Vals vs us)
  (x:InCallC s s.heap.objs.size (bindL (envOfC qual scope s.heap.objs.size f cd).kindOf (ps.zip us) λ_=>none) (cellsFrom (s.heap.objs.size+1) scope.names []) (bindC (envOfC qual scope s.heap.objs.size f cd).kindOf (ps.zip us) λ_=>none) s1) :
  Inv (lO CX P w K mg base N qual scope f cd A outer s H E) [] (start N vs) H s1:=by
 have Og:ps.length<=N.length:=by have:=congrArg List.length S.pre;rw[List.length_take] at this;omega
 obtain⟨h1,tk,rfl,hk⟩:=x.done
 have pH:∀ b:Addr,b ∉ (lO CX P w K mg base N qual scope f cd A outer s H E).ex:=λb z=>absurd (show b∈([]:List Addr) from z) (by simp)
 refine⟨⟨e0.mod,S.kind,rfl,rfl,Nat.le_refl _,λy z c h1 h2=>?_,λy hy=>?_,λy c _ h=>?_,λ_=>hd,Around.frames_deeper e0.frames,.inr ⟨rfl,rfl⟩,λb z=>absurd z (pH b),e0.bs,e0.AY,λb _ _=>pH b,λb z=>absurd z (pH b),e0.lG,e0.Du⟩,
  rfl,e0.bare,Un.kept hk,⟨_,x.toInCall.ns,λi y v h1 h2 h3=>?_⟩,λy c h=>⟨_,x.cell y c h⟩,e0.bK.fresh (Nat.le_refl _),λy c h=>?_,λp hp=>absurd (show p∈([]:List (Addr×Obj)) from hp) (by simp),e0.bK.kept hk,?_⟩
 ·exact name_of_addr x.apart (PySem.mem_of_lookup h1) (PySem.mem_of_lookup h2)
 ·have hy:scope.names.lookup y=some .cell\/scope.names.lookup y=some .free:=hy
  rcases hy with hy | hy
  ·exact vX hy
  ·exact absurd rfl (S.Ia _ (PySem.mem_of_lookup hy))
 ·exact Nat.le_of_lt (x.above y c (PySem.mem_of_lookup h))
 ·have hi:i<vs.length:=by
   unfold start at h2
   by_cases hi:i<vs.length
   ·exact hi
   ·rw[List.getElem?_append_right (by simpa using hi)] at h2
    rw[List.getElem?_replicate] at h2
    split at h2 <;> cases h2
  have ha:vs[i]?=some v:=by
   unfold start at h2
   rw[List.getElem?_append_left (by simpa using hi),List.getElem?_map] at h2
   cases e:vs[i]? with
   | none=>rw[e] at h2;cases h2
   | some a=>rw[e] at h2;cases h2;rfl
  obtain⟨u,hu,rv⟩:=r.get ha
  have hp:ps[i]?=some y:=by
   rw[← S.pre,List.getElem?_take_of_lt (by omega)];exact h1
  have ndP:ps.Nodup:=by rw[← S.pre];exact S.nd.sublist (List.take_sublist _ _)
  refine⟨u,rv,?_⟩
  rcases S.par y (List.mem_of_getElem? hp) with k | k
  ·exact .inl ⟨k,rV ndP hp hu k⟩
  ·obtain⟨c,e⟩:=vX (n:=s.heap.objs.size+1) k
   refine .inr ⟨.inl k,c,e,?_⟩
   have q:=x.cell y c e
   rw[rO ndP hp hu (by show scope.names.lookup y≠_;rw[k];decide)] at q
   exact q
 ·exact e0.bK.fresh (Nat.le_of_lt (x.above y c (PySem.mem_of_lookup h)))
 ·unfold start
  show _=N.length
  rw[List.length_append,List.length_map,List.length_replicate]
  omega
theorem J6{K:PySem.W.Frag}{f:Addr}{name qual:Str}{params:Arguments}{dV kV doc pm Oh ct oc:Value}{an od:Option Addr}
  {QG:Array (Option Value)} (lk:K.lookup f=some ⟨oc,od,.func (PySem.W.fnOf name qual params body scope dV kV doc pm an Oh ct),QG⟩) (OX:PySem.W.codeIn K Oh qual=true) (S:cx N ps scope)
  (len:∀ vs H Q E,sp vs H Q E->vs.length=ps.length)
  (Qo:∀ (A:Around) (outer:List Env) (s:Shared) (H:Hp) (vs:List V) (Q:VK) (E:XK),cv k (A.deeper (envOfC qual scope s.heap.objs.size f Oh))->sp vs H Q E ->
   ∃ t,kq (lO CX P w K mg base N qual scope f Oh A outer s H E) body t/\t { nx:=λ_ H'=>Q .da H',rt:=Q } (start N vs) H) :
  aQ P w K mg base CX (k+1) f (PySem.W.fnOf name qual params body scope dV kV doc pm an Oh ct) ps sp:=by
 refine⟨len,λA outer s H args us vs Q E hr e0 hb r hsp=>?_⟩
 have hl:=len _ _ _ _ hsp
 have KX:K.In s.heap:=e0.mod.Gf.keeps λb o e=>(e0.bs b o e).1
 have lim:s.heap.NoLimit:=e0.mod.nolimit.keeps λb o e=>(e0.bs b o e).1
 have Rw:∀ y∈ps.zip us,scope.names.lookup y.1=some .local\/(scope.names.lookup y.1=some .cell/\((cellsFrom (s.heap.objs.size+1) scope.names []).lookup y.1).isSome=true):=λ⟨n,v⟩ hy=>by
  rcases S.par n (List.of_mem_zip hy).1 with q | q
  ·exact .inl q
  ·exact .inr ⟨q,PySem.W.cellsFrom_some _ _ _ (.inl q)⟩
 refine codeAny_call_function hr.depth (KX _ _ lk) rfl S.co S.gen rfl (PySem.W.codeRec_of KX OX) (hb _ _ _ _ ?_)
 refine wpAny_newFunctionEnv_cells S.kind Rw λenv he s1 x=>?_
 subst he
 refine⟨lim.keeps x.toInCall.keep,codeAny_func ?_⟩
 obtain⟨t,ht,hq⟩:=Qo A outer s H vs Q E (hr.deeper _) hsp
 have I:Inv (lO CX P w K mg base N qual scope f Oh A outer s H E) [] (start N vs) H s1:=z0 S hr.hd e0 hl r x
 refine wpAny_mono (ht [] s1 (start N vs) H _ I hq) (λfl s' hs=>?_) λe s' hs=>hs
 have fin:∀ {σ':St} {H':Hp} {v:V} {u:Value},Inv (lO CX P w K mg base N qual scope f Oh A outer s H E) [] σ' H' s'->RelV v u->Q v H'->CE outer P w H s Q u s' :=
  λ{σ' H' v u} J rv q=>⟨v,H',J.os,J.bare,J.base,J.bK,rv,q⟩
 cases fl with
 | ret u =>
  obtain⟨v,σ',H',J,rv,q⟩:=hs
  exact fin J rv q
 | next =>
  obtain⟨σ',H',J,q⟩:=hs
  exact fin (v:=V.da) (u:=Value.none) J rfl q
 | brk =>
  obtain⟨_,_,_,q⟩:=hs
  exact False.elim q
 | cont =>
  obtain⟨_,_,_,q⟩:=hs
  exact False.elim q
section
variable{pos:Pos}{id T:String}{r:List V->Hp->VK->Prop}
def LZ(r:List V->Hp->VK->Prop)(t:TA):TE:=fun σ H Q=>t σ H λvs H1=>r vs H1 Q
theorem j7(hc:c6 X (.builtin id) r)(hg:Gl X x)(hm:X.mg x=none)(hv:bootBuiltins x=some (.builtin id))(ha:PA X (e::es) t)(hn:autoParam (x ≠ "__name__") aD._auto_1)(OU:autoParam ((x==("__debug__" : Str))=false) aD._auto_1)
  (he:autoParam (starEach (e::es) X.env=(false,eval e X.env)::starEach es X.env) aR._auto_1) (Og:autoParam ((backTo pos (starEach es X.env)).any (·.1)=false) aR._auto_1):PE X (.Call (.Name x p) (e::es) [] pos) (LZ r t):=by
 intro NX s σ H Q I h
 refine wpAny_Call_Name_kw (ju I hg hm hv ?_ hn OU)
 exact PyProof.Rows.callWith_builtin1 (cG (ha pos NX s σ H _ I h) λus s1 ⟨vs,H1,I1,r1,q1⟩=>hc NX s1 σ H1 vs us Q I1 r1 q1) he Og
theorem Ah(hc:c6 X (.type T) r)(hg:Gl X x)(hm:X.mg x=none)(hv:bootBuiltins x=some (.type T))(ha:PA X (e::es) t)(hn:autoParam (x ≠ "__name__") aD._auto_1)(OU:autoParam ((x==("__debug__" : Str))=false) aD._auto_1)
  (he:autoParam (starEach (e::es) X.env=(false,eval e X.env)::starEach es X.env) aR._auto_1) (Og:autoParam ((backTo pos (starEach es X.env)).any (·.1)=false) aR._auto_1):PE X (.Call (.Name x p) (e::es) [] pos) (LZ r t):=by
 intro NX s σ H Q I h
 refine wpAny_Call_Name_kw (ju I hg hm hv ?_ hn OU)
 exact PyProof.Rows.callWith_type1 (cG (ha pos NX s σ H _ I h) λus s1 ⟨vs,H1,I1,r1,q1⟩=>hc NX s1 σ H1 vs us Q I1 r1 q1) he Og
end
end L2
namespace HT
open PySem PyProof.Rows
section
open PySem.SeqAt
open PySem.AutoSeq1 (wpAny_loadPart')
open PySem.MeetsSeq PySem.MeetsSeq2 PySem.MeetsSeq3
end
variable{Q:Value->Shared->Prop}
section
variable{prog:Program}{w:World}{A:Around}{E:Value->Shared->Prop}{s:Shared}
theorem EV{t b:Addr}{vs ws:List Value}(ht:IsTup s.heap t vs.toArray)(hb:IsTup s.heap b ws.toArray)(hv:vs≠[])
  (h1:ws=[]->Q (.ref t) s) (h2:ws≠[]->Q (.ref s.heap.objs.size) { s with heap:=s.heap.push { cls:=.type "tuple", data:=.seq (vs++ws).toArray } })
  (Pt:vs.length+ws.length<=sizeLine):wpAny (model prog w) A (binaryOp .Add (.ref t) (.ref b)) Q E s:=by
 obtain⟨⟨cls,dd,data,sl⟩,ho,hc,n,hd⟩:=id ht
 obtain⟨⟨cls2,Rl,data2,sl2⟩,Qi,QO,n2,hd2⟩:=id hb
 simp only at hc hd QO hd2
 subst hc hd QO hd2
 have e:vs.toArray++ws.toArray=(vs++ws).toArray:=by simp
 by_cases hw:ws=[]
 ·exact concat_meets ⟨_,ho,rfl⟩ ⟨_,Qi,rfl⟩ noFill_tuple_add seq_tuple_add PySem.F.slot_tuple_add PySem.F.entry_tuple_add (PySem.F.args_tuple_add_2 _ _)
   (tuple_addW1 t b vs.toArray ws.toArray n n2 dd Rl sl sl2 (by simpa using hv) (by simp[hw])) ⟨ho,Qi,h1 hw⟩
 ·refine concat_meets ⟨_,ho,rfl⟩ ⟨_,Qi,rfl⟩ noFill_tuple_add seq_tuple_add PySem.F.slot_tuple_add PySem.F.entry_tuple_add (PySem.F.args_tuple_add_2 _ _)
   (tuple_addW2 t b vs.toArray ws.toArray n n2 dd Rl sl sl2 (by simpa using hv) (by simpa using hw) (by rw[List.size_toArray,List.size_toArray];exact Pt)) ⟨ho,Qi,?_⟩
  rw[e]
  exact h2 hw
def dI(n d:Nat):Option Int->Nat
 | none=>d
 | some v=>if v<0 then (v+(n:Int)).toNat else min v.toNat n
theorem HN(n d:Nat)(hd:d<=n)(o:Option Int):dI n d o<=n:=by
 cases o with
 | none=>exact hd
 | some v =>
  show (if v<0 then (v+(n:Int)).toNat else min v.toNat n)<=n
  by_cases hv:v<0
  ·rw[if_pos hv];omega
  ·rw[if_neg hv];exact Nat.min_le_right _ _
theorem ye(v:Int)(n d:Nat):(if v<0 then max (v+(n:Int)) 0 else min v (n:Int))=((dI n d (some v):Nat):Int):=by
 show (if v<0 then max (v+(n:Int)) 0 else min v (n:Int))=(((if v<0 then (v+(n:Int)).toNat else min v.toNat n):Nat):Int)
 by_cases hv:v<0
 ·simp only[if_pos hv];omega
 ·simp only[if_neg hv];omega
theorem xv(lo hi:Option Int)(n:Nat):Builtin.Slice.sliceAdjust lo hi 1 (n:Int)=(((dI n 0 lo:Nat):Int),((dI n n hi:Nat):Int)):=by
 have h1:¬ ((1:Int)<0):=by omega
 unfold Builtin.Slice.sliceAdjust
 simp only[h1,if_false]
 refine Prod.ext ?_ ?_
 ·cases lo with
  | none=>rfl
  | some v=>exact ye v n 0
 ·cases hi with
  | none=>rfl
  | some v=>exact ye v n n
theorem xM(i j:Nat):Builtin.Slice.slicePlaces (i:Int) (j:Int) 1=j-i:=by
 unfold Builtin.Slice.slicePlaces
 have h1:(1:Int)>0:=by omega
 simp only[h1,if_true,Int.ediv_one]
 split <;> omega
theorem p4{v:Value}{o:Option Int}{Q:Option Int->Shared->Prop}(p:IsPart v o)(h:Q o s):wpAny (model prog w) A (Builtin.Slice.slicePartIndex v) Q E s:=by
 cases p with
 | none=>exact slicePart_none h
 | int i t=>exact slicePart_int h
theorem i_{sl:Addr}{vl vu:Value}{lo hi:Option Int}{n:Nat}{Q:Int×Int×Nat->Shared->Prop}(hs:s.heap.IsSliceOf sl vl vu .none)(pl:IsPart vl lo)(pu:IsPart vu hi)
  (h:Q (((dI n 0 lo:Nat):Int),1,dI n n hi-dI n 0 lo) s):wpAny (model prog w) A (Builtin.Slice.sliceApplied (.ref sl) (pure (n:Int))) Q E s:=by
 obtain⟨os,Q8,hcs,Q3⟩:=id hs
 unfold Builtin.Slice.sliceApplied Builtin.Slice.sliceFields
 refine wpAny_bind (wpAny_bind (wpAny_field Q8 Q3 (x:=vl) rfl (wpAny_bind (wpAny_field Q8 Q3 (x:=vu) rfl (wpAny_bind (wpAny_field Q8 Q3 (x:=.none) rfl (wpAny_pure ?_)))))))
 refine wpAny_bind (slicePart_none ?_)
 show wpAny _ _ (if ((1:Int)==0)=true then _ else _) _ _ s
 rw[if_neg (by decide)]
 refine wpAny_bind (p4 pl (wpAny_bind (p4 pu (wpAny_bind (wpAny_pure ?_)))))
 show wpAny _ _ (match Builtin.Slice.sliceAdjust lo hi 1 (n:Int) with | (lo,hi)=>pure (lo,(1:Int),Builtin.Slice.slicePlaces lo hi 1)) _ _ s
 rw[xv lo hi n]
 show wpAny _ _ (pure (((dI n 0 lo:Nat):Int),(1:Int),Builtin.Slice.slicePlaces ((dI n 0 lo:Nat):Int) ((dI n n hi:Nat):Int) 1)) _ _ s
 rw[xM]
 exact wpAny_pure h
theorem CQ(xs:Array Value)(i k:Nat):((List.range k).filterMap λ(m:Nat)=>xs[((i:Int)+(m:Int)*1).toNat]?).toArray=((xs.toList.drop i).take k).toArray:=by
 have e:(λ(m:Nat)=>xs[((i:Int)+(m:Int)*1).toNat]?)=λm=>xs[i+m]?:=by
  funext m
  have:((i:Int)+(m:Int)*1).toNat=i+m:=by omega
  rw[this]
 rw[e]
 have:=pick_run xs i k
 rw[List.filterMap_map] at this
 have e2:((λx=>xs[x]?)∘λx=>i+x)=λm=>xs[i+m]?:=rfl
 rw[e2] at this
 rw[this]
theorem l5{t sl:Addr}{items:Array Value}{vl vu:Value}{lo hi:Option Int}(ht:IsTup s.heap t items)(hs:s.heap.IsSliceOf sl vl vu .none)(pl:IsPart vl lo)(pu:IsPart vu hi)
  (hw:¬ (dI items.size 0 lo=0/\dI items.size items.size hi=items.size))
  (h:Q (.ref s.heap.objs.size) { s with heap:=s.heap.push { cls:=.type "tuple", data:=.seq ((items.toList.drop (dI items.size 0 lo)).take (dI items.size items.size hi-dI items.size 0 lo)).toArray } })
  (Pt:items.size<=sizeLine):wpAny (model prog w) A (getItem (.ref t) (.ref sl)) Q E s:=by
 have Qc:sizeOk (.seq ((items.toList.drop (dI items.size 0 lo)).take (dI items.size items.size hi-dI items.size 0 lo)).toArray):=by
  show ((items.toList.drop (dI items.size 0 lo)).take (dI items.size items.size hi-dI items.size 0 lo)).toArray.size<=sizeLine
  rw[List.size_toArray,List.length_take,List.length_drop,Array.length_toList]
  omega
 have hj:dI items.size items.size hi<=items.size:=HN _ _ (Nat.le_refl _) hi
 obtain⟨os,Q8,hcs,Q3⟩:=id hs
 have hTs:s.TypeIs (.ref sl) "slice" := ⟨os,Q8,hcs⟩
 unfold getItem
 try with_reducible refine wpAny_holding ?_
 first | refine wpAny_bind (wpAny_pure ?_) | skip
 refine wpAny_bind (wpAny_sequenceKey ht.typeIs (by decide) ?_)
 refine wpAny_bind (wpAny_callSpecial?_slot (name:=Str.ofString "__getitem__") ht.typeIs PyProof.Rows.slot_tuple_getitem
  (wpAny_call_entry PyProof.Rows.slot_tuple_getitem ht.typeIs entry_tuple_getitem ?_ (args_tuple_getitem _ _)))
 show wpAny _ _ (Builtin.Tuple.tupleItemsOf (.ref t) >>= _) _ _ s
 refine wpAny_bind (tupleItemsOf_ ht ?_)
 refine wpAny_bind (wpAny_typeOf hTs ?_)
 rw[if_pos (by decide)]
 refine wpAny_bind (i_ hs pl pu ?_)
 have hno:¬ ((((dI items.size 0 lo:Nat):Int)==0&&(1:Int)==1&&(dI items.size items.size hi-dI items.size 0 lo)==items.size)=true):=by
  intro q
  rw[Bool.and_eq_true,Bool.and_eq_true] at q
  have q1:((dI items.size 0 lo:Nat):Int)=0:=eq_of_beq q.1.1
  have q2:dI items.size items.size hi-dI items.size 0 lo=items.size:=eq_of_beq q.2
  exact hw ⟨by omega,by omega⟩
 show wpAny _ _ (if (((dI items.size 0 lo:Nat):Int)==0&&(1:Int)==1&&(dI items.size items.size hi-dI items.size 0 lo)==items.size)=true then _ else _) _ _ s
 rw[if_neg hno,CQ]
 first
  | exact wpAny_bind (m:=Builtin.Tuple.tupleExact _) (wpAny_newObj_type (wpAny_pure ⟨_,rfl,wpAny_pure h⟩) Qc)
  | exact wpAny_bind (m:=Builtin.Tuple.tupleExact _) (wpAny_newObj_type (wpAny_bind (wpAny_pure (wpAny_pure ⟨_,rfl,wpAny_pure h⟩))) Qc)
  | exact wpAny_bind (wpAny_bind (m:=Builtin.Tuple.tupleExact _) (wpAny_newObj_type (wpAny_pure (wpAny_pure ⟨_,rfl,wpAny_pure h⟩)) Qc))
  | exact wpAny_bind (wpAny_bind (m:=Builtin.Tuple.tupleExact _) (wpAny_newObj_type (wpAny_pure ⟨_,rfl,wpAny_pure h⟩) Qc))
end
end HT
namespace L2
open PySem PySem.Spec PyProof.Rows
abbrev TO:=St->Hp->(Option Int->Hp->Prop)->Prop
def PO(X:Cx)(e:Option Expr)(t:TO):Prop :=
 ∀ (NX:List (Addr×Obj)) (s:Shared) (σ:St) (H:Hp) (Q:Option Int->Hp->Prop),Inv X NX σ H s->t σ H Q ->
  wpAny (model X.prog X.w) X.A (evalPart e X.env) (λu s'=>∃ o H',Inv X NX σ H' s'/\IsPart u o/\Q o H') X.xe s
def JP(t:TE):TO:=fun σ H Q=>t σ H λx H1=>∃ i,x=.int i/\Q (some i) H1
theorem intsAre_of{ns:List Int}:∀ {us:List Value},Vals (ns.map V.int) us->IntsAre us ns:=by
 induction ns with
 | nil=>intro us r;rw[List.map_nil] at r;cases r;exact .nil
 | cons n ns ih =>
  intro us r
  rw[List.map_cons] at r
  cases r with
  | cons r1 r2 =>
   obtain⟨t,e⟩:=r1
   subst e
   exact .cons n t (ih r2)
variable{e:Expr}{X:Cx}
variable{r:V->Option Int->Option Int->Hp->VK->Prop}
variable{xs:List V}
section
variable{te:TE}{lo hi:Option Expr}{tl th:TO}{pos p2:Pos}
theorem D7(h:PE X e te):PO X (some e) (JP te):=by
 intro NX s σ H Q I hw
 rw[evalPart_some]
 refine cG (h NX s σ H _ I hw) λu s1 ⟨x,H1,I1,r1,q1⟩=>?_
 obtain⟨i,rfl,q⟩:=q1
 obtain⟨t,rfl⟩:=r1
 exact⟨some i,H1,I1,.int i t,q⟩
def Dx(X:Cx)(r:V->Option Int->Option Int->Hp->VK->Prop):Prop :=
 ∀ (NX:List (Addr×Obj)) (s:Shared) (σ:St) (H:Hp) (x:V) (v vl vu:Value) (lo hi:Option Int) (sl:Addr) (Q:VK),Inv X NX σ H s->RelV x v->s.heap.IsSliceOf sl vl vu .none->IsPart vl lo->IsPart vu hi->r x lo hi H Q ->
  ∃ T id,typeLookup (.type T) "__getitem__" = pure (some (.builtin id))/\s.TypeIs v T/\wpAny (model X.prog X.w) X.A (getItem v (.ref sl)) (EP X NX σ Q) X.xe s
theorem Dx.or{r':V->Option Int->Option Int->Hp->VK->Prop}(h:Dx X r)(h':Dx X r'):Dx X (λx lo hi H Q=>r x lo hi H Q\/r' x lo hi H Q):=by
 intro NX s σ H x v vl vu lo hi sl Q I rx hs pl pu q
 rcases q with q | q
 ·exact h NX s σ H x v vl vu lo hi sl Q I rx hs pl pu q
 ·exact h' NX s σ H x v vl vu lo hi sl Q I rx hs pl pu q
def NJ(r:V->Option Int->Option Int->Hp->VK->Prop)(te:TE)(tl th:TO):TE:=fun σ H Q=>te σ H λx H1=>tl σ H1 λl H2=>th σ H2 λu H3=>r x l u H3 Q
theorem BB(hr:Dx X r)(he:PE X e te)(hl:PO X lo tl)(hu:PO X hi th):PE X (.Subscript e (.Slice lo hi none p2) pos) (NJ r te tl th):=by
 intro NX s σ H Q I h
 refine Subscript_ (cG (he NX s σ H _ I h) λv s1 ⟨x,H1,I1,r1,q1⟩=>?_)
 refine wpAny_Slice (cG (hl NX s1 σ H1 _ I1 q1) λvl s2 ⟨l,H2,I2,pl,q2⟩=>cG (hu NX s2 σ H2 _ I2 q2) λvu s3 ⟨u,H3,I3,pu,q3⟩=>?_)
 rw[evalPart_none]
 refine wpAny_pure ?_
 have I4:Inv X NX σ H3 { s3 with heap:=s3.heap.push { cls:=.type "slice", data:=.fields #[vl,vu,.none] } }:=I3.kept (t':=s3.toks) λb ob q=>Heap.get?_push_of_some _ q
 obtain⟨T,id,hT,ht,hg⟩:=hr NX { s3 with heap:=s3.heap.push { cls:=.type "slice", data:=.fields #[vl,vu,.none] } } σ H3 x v vl vu l u s3.heap.objs.size Q I4 r1 (Heap.IsSliceOf.new ..) pl pu q3
 show wpAny (model X.prog X.w) X.A (subscriptTail e (.Slice lo hi none p2) v (.ref s3.heap.objs.size)) (EP X NX σ Q) X.xe { s3 with heap:=s3.heap.push { cls:=.type "slice", data:=.fields #[vl,vu,.none] } }
 exact tail_any (ops:=[.ref s3.heap.objs.size,v]) ht hT hg (by with_unfolding_all rfl)
def uU(xs:List V)(lo hi:Option Int):List V:=(xs.drop (HT.dI xs.length 0 lo)).take (HT.dI xs.length xs.length hi-HT.dI xs.length 0 lo)
theorem nK(xs:List V)(lo hi:Option Int):(uU xs lo hi).length<=xs.length:=by
 unfold uU
 rw[List.length_take,List.length_drop]
 omega
def Nb(K:PySem.W.Frag):V->Option Int->Option Int->Hp->VK->Prop:=λx lo hi H Q=>∃ a xs,x=.ref a/\hX K H a xs ∧
 ¬ (HT.dI xs.length 0 lo=0/\HT.dI xs.length xs.length hi=xs.length)/\∀ p,H p=none->Q (.ref p) (upd H p (.tup (uU xs lo hi)))
theorem Gr:Dx X (Nb X.K):=by
 intro NX s σ H x v vl vu lo hi sl Q I rx hs pl pu h
 obtain⟨a,xs,rfl,hx,hw,q⟩:=h
 cases rx
 obtain⟨NZ,r,ht,hz⟩:=I.tuple hx
 have hlen:NZ.toArray.size=xs.length:=by rw[List.size_toArray];exact r.length.symm
 refine⟨"tuple", _,PyProof.Rows.slot_tuple_getitem.lookup,ht.typeIs,?_⟩
 refine HT.l5 ht hs pl pu (by rw[hlen];exact hw) ?_ (by rw[hlen];exact hz)
 rw[hlen]
 refine⟨.ref s.heap.objs.size,_,I.laid (t':=s.toks) (o:=.tup (uU xs lo hi)) (λb ob q=>Heap.get?_push_of_some _ q) (Nat.le_refl _) ?_,rfl,q _ (I.bK.fresh (Nat.le_refl _))⟩
 exact⟨Nat.le_trans (nK xs lo hi) hz,_,(r.drop (HT.dI xs.length 0 lo)).take (HT.dI xs.length xs.length hi-HT.dI xs.length 0 lo),IsTup.new _ _⟩
def F9(K:PySem.W.Frag):R2:=λx y H Q=>∃ a b xs ys,x=.ref a/\y=.ref b/\hX K H a xs/\hX K H b ys/\xs≠[]/\xs.length+ys.length<=sizeLine ∧
 (ys=[]->Q (.ref a) H)/\(ys≠[]->∀ p,H p=none->Q (.ref p) (upd H p (.tup (xs++ys))))
theorem Vals.lV{us:List Value}(r:Vals xs us):us=[] ↔ xs=[]:=by
 cases r with
 | nil=>simp
 | cons _ _=>simp
theorem Fu:f_ X (binaryOp .Add) (F9 X.K):=by
 intro NX s σ H x y v u Q I rx ry h
 obtain⟨a,b,xs,ys,rfl,rfl,ha,hb,hx,hz,q1,q2⟩:=h
 cases rx
 cases ry
 obtain⟨NZ,r1,p1,_⟩:=I.tuple ha
 obtain⟨PK,r2,p2,_⟩:=I.tuple hb
 refine HT.EV p1 p2 (λz=>hx (r1.lV.mp z)) (λz=>⟨.ref a,H,I,rfl,q1 (r2.lV.mp z)⟩) (λz=>?_) (by rw[← r1.length,← r2.length];exact hz)
 refine⟨.ref s.heap.objs.size,_,I.laid (t':=s.toks) (o:=.tup (xs++ys)) (λb ob q=>Heap.get?_push_of_some _ q) (Nat.le_refl _) ?_,rfl,q2 (λw=>z (r2.lV.mpr w)) _ (I.bK.fresh (Nat.le_refl _))⟩
 exact⟨by rw[List.length_append];exact hz,_,r1.append r2,IsTup.new _ _⟩
end
def An(n:Nat)(i:Int):Option Nat:=if 0<=i then (if i<n then some i.toNat else none) else if -(n:Int)<=i then some (i+n).toNat else none
variable{α:Type}
def rN(xs:List α)(i:Int):Option α:=(An xs.length i).bind λj=>xs[j]?
variable{j n:Nat}{i:Int}
theorem yh(h:An n i=some j):seqIndex? i n=some j/\j<n/\-(n:Int)<=i/\i<n:=by
 unfold An at h
 by_cases h0:0<=i
 ·rw[if_pos h0] at h
  by_cases h1:i<n
  ·rw[if_pos h1] at h
   have e:i.toNat=j:=Option.some.inj h
   exact⟨by rw[seqIndex_of h0 h1,e],by omega,by omega,h1⟩
  ·rw[if_neg h1] at h;cases h
 ·rw[if_neg h0] at h
  by_cases h1:-(n:Int)<=i
  ·rw[if_pos h1] at h
   have e:(i+n).toNat=j:=Option.some.inj h
   exact⟨by rw[seqIndex_neg (by omega) h1,e],by omega,h1,by omega⟩
  ·rw[if_neg h1] at h;cases h
theorem ub{xs:List α}{v:α}(h:rN xs i=some v):∃ j,seqIndex? i xs.length=some j/\xs[j]?=some v/\j<xs.length/\-(xs.length:Int)<=i/\i<xs.length:=by
 unfold rN at h
 cases e:An xs.length i with
 | none=>rw[e] at h;cases h
 | some j =>
  rw[e] at h
  obtain⟨h1,h2,h3,h4⟩:=yh e
  exact⟨j,h1,h,h2,h3,h4⟩
theorem sW{xs:List α}{v:α}(h:xs[j]?=some v):rN xs (j:Int)=some v:=by
 have hj:j<xs.length:=(List.getElem?_eq_some_iff.mp h).1
 have e:An xs.length (j:Int)=some j:=by
  unfold An
  rw[if_pos (by omega),if_pos (by omega)];simp
 unfold rN;rw[e];exact h
def oJ(b:Expr):Prop:=∀ o i,subscripted b false o i=operate [o,i] (getItem o i)
def Fg(X:Cx)(r:R2):Prop :=
 ∀ (value slice:Expr) (NX:List (Addr×Obj)) (s:Shared) (σ:St) (H:Hp) (x y:V) (v u:Value) (Q:VK),Inv X NX σ H s->RelV x v->RelV y u->r x y H Q ->
  subscripted slice false v u=operate [v,u] (getItem v u)->wpAny (model X.prog X.w) X.A (subscriptTail value slice v u) (EP X NX σ Q) X.xe s
def Lz(X:Cx)(id:String)(r:V->List V->Hp->VK->Prop):Prop :=
 ∀ (NX:List (Addr×Obj)) (s:Shared) (σ:St) (H:Hp) (x:V) (xs:List V) (v:Value) (us:List Value) (Q:VK),Inv X NX σ H s->RelV x v->Vals xs us->r x xs H Q ->
  wpAny (model X.prog X.w) X.A (call (.builtin id) (v::us)) (EP X NX σ Q) X.xe s
variable{NZ:List Value}{s:Shared}{H:Hp}{σ:St}{NX:List (Addr×Obj)}
section
variable{a b:Expr}{ta tb:TE}{pos:Pos}
theorem Fg.or{r r':R2}(h:Fg X r)(h':Fg X r'):Fg X (λx y H Q=>r x y H Q\/r' x y H Q):=by
 intro value slice NX s σ H x y v u Q I rx ry q hs
 rcases q with q | q
 ·exact h value slice NX s σ H x y v u Q I rx ry q hs
 ·exact h' value slice NX s σ H x y v u Q I rx ry q hs
theorem Gk{r:R2}(hr:Fg X r)(ha:PE X a ta)(hb:PE X b tb)(hs:oJ b):PE X (.Subscript a b pos) (KY r ta tb):=by
 intro NX s σ H Q I h
 exact Subscript_ (HF ha hb I h λv u s2 x y H2 I2 rx ry q=>hr a b NX s2 σ H2 x y v u Q I2 rx ry q (hs _ _))
def Kj(K:PySem.W.Frag):R2:=λx y H Q=>∃ p xs i v,x=.ref p/\y=.int i/\gS K H p xs/\rN xs i=some v/\Q v H
def JU(K:PySem.W.Frag):R2:=λx y H Q=>∃ p xs i v,x=.ref p/\y=.int i/\hX K H p xs/\rN xs i=some v/\Q v H
def KW:R2:=λx y H Q=>∃ z i c,x=.str z/\y=.int i/\z.length<=sizeLine/\rN z.cps.toList i=some c/\Q (.str ⟨#[c]⟩) H
theorem EB:Fg X (Kj X.K):=by
 intro value slice NX s σ H x y v u Q I rx ry h hs
 obtain⟨p,xs,i,z,rfl,rfl,hq,he,q⟩:=h
 cases rx
 obtain⟨t,rfl⟩:=ry
 obtain⟨NZ,r,pl,hz⟩:=I.list hq
 obtain⟨j,h1,h2,h3,h4,h5⟩:=ub he
 obtain⟨w,ew,PM⟩:=r.get h2
 have hl:=r.length
 have hn:=mV
 have fin:EP X NX σ Q w s:=⟨z,H,I,PM,q⟩
 by_cases h0:0<=i
 ·have hj:i.toNat=j:=by
   rw[seqIndex_of h0 h5] at h1
   exact Option.some.inj h1
  exact item_listR pl.isList h0 (by omega) (by rw[hj];simpa using ew) fin hs
 ·have hj:(i+(NZ.toArray.size:Int)).toNat=j:=by
   rw[seqIndex_neg (by omega) h4] at h1
   rw[List.size_toArray,← hl]
   exact Option.some.inj h1
  exact subscriptTail_builtinR (x:=w) pl.isList.typeIs slot_list_getitem.lookup
   (wpAny_getItem_list_neg (Q:=λr s'=>r=w/\EP X NX σ Q r s') pl.isList (by omega) (by rw[List.size_toArray] <;> omega) (by omega) (by rw[hj];simpa using ew) ⟨rfl,fin⟩) hs
theorem Ho:Fg X (JU X.K):=by
 intro value slice NX s σ H x y v u Q I rx ry h hs
 obtain⟨p,xs,i,z,rfl,rfl,hq,he,q⟩:=h
 cases rx
 obtain⟨t,rfl⟩:=ry
 obtain⟨NZ,r,pl,hz⟩:=I.tuple hq
 obtain⟨j,h1,h2,h3,h4,h5⟩:=ub he
 obtain⟨w,ew,PM⟩:=r.get h2
 have hl:=r.length
 have hn:=mV
 have fin:EP X NX σ Q w s:=⟨z,H,I,PM,q⟩
 exact subscriptTail_builtinR (x:=w) pl.typeIs slot_tuple_getitem.lookup
  (getItem_tuple (j:=j) (Q:=λr s'=>r=w/\EP X NX σ Q r s') pl (by omega) (by omega) (by rw[List.size_toArray,← hl];exact h1) (by simpa using ew) ⟨rfl,fin⟩) hs
theorem G_:Fg X KW:=by
 intro value slice NX s σ H x y v u Q I rx ry h hs
 obtain⟨z,i,c,rfl,rfl,hz,he,q⟩:=h
 obtain⟨t,rfl⟩:=rx
 obtain⟨t',rfl⟩:=ry
 obtain⟨j,h1,h2,h3,h4,h5⟩:=ub he
 have hl:z.cps.toList.length=z.length:=by simp[Str.length]
 rw[hl] at h1 h4 h5
 have hn:=mV
 exact tail_any (typeIs_str s z t) slot_str_getitem.lookup (getItem_str (c:=c) (by
  have e1:decide (i < -(2^63:Int))=false:=decide_eq_false (by omega)
  have e2:decide (i>=2^63)=false:=decide_eq_false (by omega)
  rw[e1,e2,Bool.or_false]) (by rw[h1];simpa using h2) ⟨.str ⟨#[c]⟩,H,I.tok _,⟨_,rfl⟩,q⟩) hs
def Np(K:PySem.W.Frag):R2:=λx y H Q=>Kj K x y H Q\/JU K x y H Q\/KW x y H Q
theorem CP:Fg X (Np X.K):=EB.or (Ho.or G_)
theorem wt(NZ:List Value)(n j:Nat)(u:Value):Obj.mapSeq (·.setIfInBounds j u) { cls:=.type "list", data:=.seq NZ.toArray n }={ cls:=.type "list", data:=.seq (NZ.set j u).toArray n }:=by
 simp[Obj.mapSeq]
theorem Inv.lst{NX:List (Addr×Obj)}{σ:St}{H:Hp}{s:Shared}{p:Addr}{xs:List V}(I:Inv X NX σ H s)(h:H p=some (.lst xs)) :
  ∃ (NZ:List Value) (n:Nat),Vals xs NZ/\s.heap.get? p=some { cls:=.type "list", data:=.seq NZ.toArray n }/\xs.length<=sizeLine:=by
 obtain⟨z,NZ,n,r,e⟩:=I.bK p _ h
 exact⟨NZ,n,r,e,z⟩
theorem Inv.IL{p:Addr}{ys:List V}{its':List Value}{n':Nat}{f:Obj->Obj}(I:Inv X NX σ H s)(h:H p=some (.lst xs))
  (ho:s.heap.get? p=some { cls:=.type "list", data:=.seq NZ.toArray n }) (hf:f { cls:=.type "list", data:=.seq NZ.toArray n }={ cls:=.type "list", data:=.seq its'.toArray n' }) (r:Vals ys its') (hz:ys.length<=sizeLine) (t:Nat) :
  Inv X NX σ (upd H p (.lst ys)) { s with heap:=s.heap.update p f,toks:=t }:=by
 have e:(s.heap.update p f).get? p=some { cls:=.type "list", data:=.seq its'.toArray n' }:=by
  rw[Heap.get?_update_self f ho (by rw[hf] <;> rfl),hf]
 refine I.write (x:=p) (e:=p) (by rw[h];trivial) (.inl rfl) (λb u hb q=>(Heap.get?_update_other _ _ (Ne.symm hb)).trans q) ⟨_,e⟩ ?_
 exact⟨hz,its',n',r,e⟩
def JE:V->V->V->Hp->(Hp->Prop)->Prop:=λo i v H Q=>∃ p xs k j,o=.ref p/\i=.int k/\H p=some (.lst xs)/\An xs.length k=some j/\Q (upd H p (.lst (xs.set j v)))
theorem set_list:Ko X JE:=by
 intro NX s σ H o i v ov iv u Q I ro ri rv h
 obtain⟨p,xs,k,j,rfl,rfl,hp,hj,q⟩:=h
 cases ro
 obtain⟨t,rfl⟩:=ri
 obtain⟨NZ,n,r,ho,hz⟩:=I.lst hp
 obtain⟨h1,h2,h3,h4⟩:=yh hj
 have hl:=r.length
 have hn:=mV
 have I':Inv X NX σ (upd H p (.lst (xs.set j v))) { s with heap:=s.heap.update p (Obj.mapSeq (·.setIfInBounds j u)) } :=
  I.IL hp ho (wt NZ n j u) (r.set rv j) (by rw[List.length_set];exact hz) s.toks
 by_cases h0:0<=k
 ·have hk:k.toNat=j:=by
   rw[seqIndex_of h0 h4] at h1
   exact Option.some.inj h1
  exact PySem.W.ki_setAt ho h0 (by omega) (by rw[List.size_toArray,← hl];exact h4) (by rw[hk];exact⟨_,I',q⟩)
 ·have hk:(k+(NZ.toArray.size:Int)).toNat=j:=by
   rw[seqIndex_neg (by omega) h3] at h1
   rw[List.size_toArray,← hl]
   exact Option.some.inj h1
  exact PySem.W.ki_setBack ho (by omega) (by rw[List.size_toArray,← hl];exact h3) (by omega) (by rw[hk];exact⟨_,I',q⟩)
theorem sH(lo hi:Option Int)(n:Nat):(sliceBounds lo hi none n).1=((HT.dI n 0 lo:Nat):Int)/\(sliceBounds lo hi none n).2.1=((HT.dI n n hi:Nat):Int)/\(sliceBounds lo hi none n).2.2=1:=by
 refine⟨?_,?_,rfl⟩
 ·cases lo with
  | none=>simp[sliceBounds,HT.dI]
  | some i =>
   simp only[sliceBounds,HT.dI,Option.getD_none,show (1:Int)>0 by decide,if_true]
   by_cases h:i<0
   ·simp only[h,if_true] <;> omega
   ·simp only[h,if_false] <;> omega
 ·cases hi with
  | none=>simp[sliceBounds,HT.dI]
  | some i =>
   simp only[sliceBounds,HT.dI,Option.getD_none,show (1:Int)>0 by decide,if_true]
   by_cases h:i<0
   ·simp only[h,if_true] <;> omega
   ·simp only[h,if_false] <;> omega
theorem qV(NZ:List Value)(lo hi:Option Int):slicePick NZ.toArray lo hi none=((NZ.drop (HT.dI NZ.length 0 lo)).take (HT.dI NZ.length NZ.length hi-HT.dI NZ.length 0 lo)).toArray:=by
 obtain⟨h1,h2,h3⟩:=sH lo hi NZ.toArray.size
 unfold slicePick
 rw[h1,h2,h3]
 simp only[sliceRange_one,pick_run,List.size_toArray] <;> rfl
def M6(K:PySem.W.Frag):V->Option Int->Option Int->Hp->VK->Prop:=λx lo hi H Q=>∃ a xs,x=.ref a/\gS K H a xs/\∀ p,H p=none->Q (.ref p) (upd H p (.lst (uU xs lo hi)))
theorem D4:Dx X (M6 X.K):=by
 intro NX s σ H x v vl vu lo hi sl Q I rx hs pl pu h
 obtain⟨a,xs,rfl,hx,q⟩:=h
 cases rx
 obtain⟨NZ,r,ht,hz⟩:=I.list hx
 have hlen:=r.length
 refine⟨"list", _,slot_list_getitem.lookup,ht.isList.typeIs,?_⟩
 refine wpAny_getItem_list_slice ht.isList hs pl pu .none (by simp) ?_ (by rw[List.size_toArray] <;> omega)
 rw[qV,← hlen]
 refine⟨.ref s.heap.objs.size,_,I.laid (t':=s.toks) (o:=.lst (uU xs lo hi)) (λb ob q=>Heap.get?_push_of_some _ q) (Nat.le_refl _) ?_,rfl,q _ (I.bK.fresh (Nat.le_refl _))⟩
 exact⟨Nat.le_trans (nK xs lo hi) hz,_,0,(r.drop (HT.dI xs.length 0 lo)).take (HT.dI xs.length xs.length hi-HT.dI xs.length 0 lo),Heap.get?_push_size _ rfl⟩
theorem sG:c6 X (.builtin "len") (λxs H Q=>∃ p ys,xs=[.ref p]/\(gS X.K H p ys\/hX X.K H p ys)/\Q (.int ys.length) H):=by
 intro NX s σ H xs us Q I r h
 obtain⟨p,ys,rfl,hq,q⟩:=h
 obtain⟨u,rfl,rx⟩:=vals1 r
 cases rx
 have hn:=mV
 rcases hq with hq | hq
 ·obtain⟨NZ,r',pl,hz⟩:=I.list hq
  have hlen:=r'.length
  exact Calls.call_len_list pl.isList (by simp only[List.size_toArray] <;> omega) ⟨.int ys.length,H,I.tok _,⟨s.toks+1,by rw[List.size_toArray,hlen]⟩,q⟩
 ·obtain⟨NZ,r',pl,hz⟩:=I.tuple hq
  have hlen:=r'.length
  exact len_tuple pl (by simp only[List.size_toArray] <;> omega) ⟨.int ys.length,H,I.tok _,⟨s.toks+1,by rw[List.size_toArray,hlen]⟩,q⟩
theorem tD:c6 X (.builtin "len") (λxs H Q=>∃ z,xs=[.str z]/\z.length<=sizeLine/\Q (.int z.length) H):=by
 intro NX s σ H xs us Q I r h
 obtain⟨z,rfl,hz,q⟩:=h
 obtain⟨u,rfl,t,rfl⟩:=vals1 r
 have hn:=mV
 exact len_str (by omega) ⟨.int z.length,H,I.tok _,⟨_,rfl⟩,q⟩
theorem c6.or{f:Value}{r r':List V->Hp->VK->Prop}(h:c6 X f r)(h':c6 X f r'):c6 X f (λxs H Q=>r xs H Q\/r' xs H Q):=by
 intro NX s σ H xs us Q I rs q
 rcases q with q | q
 ·exact h NX s σ H xs us Q I rs q
 ·exact h' NX s σ H xs us Q I rs q
theorem sV:c6 X (.type "list") (λxs H Q=>∃ p ys,xs=[.ref p]/\(gS X.K H p ys\/hX X.K H p ys)/\∀ l,H l=none->Q (.ref l) (upd H l (.lst ys))):=by
 intro NX s σ H xs us Q I r h
 obtain⟨p,ys,rfl,hq,q⟩:=h
 obtain⟨u,rfl,rx⟩:=vals1 r
 cases rx
 have fin:∀ (NZ:List Value),Vals ys NZ->ys.length<=sizeLine->∀ (h':Heap) (c':Nat),(∀ b o',s.heap.get? b=some o'->h'.get? b=some o') ->
   h'.get? s.heap.objs.size=some { cls:=.type "list", dict:=none,data:=.seq NZ.toArray c',slots:=#[] }->EP X NX σ Q (.ref s.heap.objs.size) { s with heap:=h' }:=λNZ r' hz h' c' kp e =>
  ⟨.ref s.heap.objs.size,_,I.laid (t':=s.toks) kp (Nat.le_refl _) (show cu X.prog X.w _ h' _ (.lst ys) from ⟨hz,NZ,c',r',e⟩),rfl,q _ (I.bK.fresh (Nat.le_refl _))⟩
 rcases hq with hq | hq
 ·obtain⟨NZ,r',pl,hz⟩:=I.list hq
  have hlen:=r'.length
  obtain⟨o,ho,hc,n,hd⟩:=pl.isList
  exact call_list_seq p (.inl rfl) ho hc hd (λh' c' kp e=>fin NZ r' hz h' c' kp e) (by simp only[List.size_toArray] <;> omega)
 ·obtain⟨NZ,r',pl,hz⟩:=I.tuple hq
  have hlen:=r'.length
  obtain⟨o,ho,hc,n,hd⟩:=pl
  exact call_list_seq p (.inr rfl) ho hc hd (λh' c' kp e=>fin NZ r' hz h' c' kp e) (by simp only[List.size_toArray] <;> omega)
theorem rD:c6 X (.type "tuple") (λxs H Q=>∃ p ys,xs=[.ref p]/\((gS X.K H p ys/\∀ l,H l=none->Q (.ref l) (upd H l (.tup ys)))\/(hX X.K H p ys/\Q (.ref p) H))):=by
 intro NX s σ H xs us Q I r h
 obtain⟨p,ys,rfl,h⟩:=h
 obtain⟨u,rfl,rx⟩:=vals1 r
 cases rx
 rcases h with ⟨hq,q⟩ | ⟨hq,q⟩
 ·obtain⟨NZ,r',pl,hz⟩:=I.list hq
  have hlen:=r'.length
  refine call_tuple_list pl.isList (λh' kp=>?_) (by simp only[List.size_toArray] <;> omega)
  have I1:Inv X NX σ H { s with heap:=h' }:=I.kept (t':=s.toks) kp
  have I2:Inv X NX σ (upd H h'.objs.size (.tup ys)) { s with heap:=h'.push { cls:=.type "tuple", data:=.seq NZ.toArray } } :=
   I1.laid (t':=s.toks) (λb o e=>Heap.get?_push_of_some _ e) (Nat.le_refl _) (show cu X.prog X.w _ _ _ (.tup ys) from ⟨hz,NZ,r',IsTup.new _ _⟩)
  exact⟨.ref h'.objs.size,_,I2,rfl,q _ (I1.bK.fresh (Nat.le_refl _))⟩
 ·obtain⟨NZ,r',pl,hz⟩:=I.tuple hq
  exact call_tuple_same pl ⟨.ref p,H,I,rfl,q⟩
def Lg(K:PySem.W.Frag)(T:String)(x:V)(H:Hp):Prop:=match x with
 | .str _=>T = "str"
 | .int _=>T = "int"
 | .ref p=>(T = "list" /\ ∃ xs,gS K H p xs)\/(T = "tuple" /\ ∃ o,K.lookup p=some o/\o.cls=.type "tuple" /\ o.dict=none) ∨
   (T = "dict" /\ ((∃ OL,H p=some (.dK OL))\/∃ OL,H p=some (.dT OL)))\/(T = "set" /\ ∃ S n,H p=some (.set S n))
 | _=>False
theorem CZ{T:String}{x:V}{v:Value}(I:Inv X NX σ H s)(r:RelV x v)(ty:Lg X.K T x H) :
  s.TypeIs v T/\∀ a,v=.ref a->∃ ob,s.heap.get? a=some ob/\ob.dict=none:=by
 cases x with
 | str z =>
  obtain⟨t,rfl⟩:=r
  cases (show T = "str" from ty)
  exact⟨typeIs_str s z t,λ_ e=>nomatch e⟩
 | int i =>
  obtain⟨t,rfl⟩:=r
  cases (show T = "int" from ty)
  exact⟨typeIs_int s i t,λ_ e=>nomatch e⟩
 | ref p =>
  cases r
  rcases ty with ⟨rfl,xs,hq⟩ | ⟨rfl,o,hk,hc,hd⟩ | ⟨rfl,hk⟩ | ⟨rfl,S,n,hk⟩
  ·obtain⟨NZ,_,pl,_⟩:=I.list hq
   refine⟨pl.isList.typeIs,λa e=>?_⟩
   cases e
   obtain⟨o,n,e,c,hd,_⟩:=pl
   exact⟨o,e,hd⟩
  ·refine⟨⟨o,I.jX p o hk,hc⟩,λa e=>?_⟩
   cases e
   exact⟨o,I.jX _ o hk,hd⟩
  ·have z:∃ o,s.heap.get? p=some o/\o.ExactDict:=by
    rcases hk with ⟨OL,hk⟩ | ⟨OL,hk⟩
    ·obtain⟨_,_,_,_,o,_,_,e,ex,_⟩:=I.bK p _ hk
     exact⟨o,e,ex⟩
    ·obtain⟨_,_,_,_,o,_,_,e,ex,_⟩:=I.bK p _ hk
     exact⟨o,e,ex⟩
   obtain⟨o,e,ex⟩:=z
   refine⟨⟨o,e,ex.1⟩,λa e2=>?_⟩
   cases e2
   exact⟨o,e,ex.2.1⟩
  ·obtain⟨o,_,_,_,e,ex,_⟩:=I.bK p _ hk
   refine⟨⟨o,e,ex.1⟩,λa e2=>?_⟩
   cases e2
   exact⟨o,e,ex.2.1⟩
 | _=>exact False.elim ty
def LK(K:PySem.W.Frag)(T:String)(r:V->List V->Hp->VK->Prop)(to:TE):TE:=fun σ H Q=>to σ H λx H1=>Lg K T x H1/\r x [] H1 Q
def NV(K:PySem.W.Frag)(T:String)(r:V->List V->Hp->VK->Prop)(to:TE)(t:TA):TE:=fun σ H Q=>to σ H λx H1=>Lg K T x H1/\t σ H1 λxs H2=>r x xs H2 Q
variable{o:Expr}{es:List Expr}{to:TE}{t:TA}{name:Str}{apos Oa:Pos}{T id:String}{r:V->List V->Hp->VK->Prop}
theorem G2(pa:PlainAttrs T)(slot:Slot T name id)(hty:typeOf (.builtin id)=pure (.type "method_descriptor"))(hm:Lz X id r)(ho:PE X o to)
  (OW:autoParam (attributeBase o name X.env (eval o X.env)=eval o X.env) aR._auto_1) (OY:autoParam ((apos.endLine==Oa.line)=true) aR._auto_1):PE X (.Call (.Attribute o name apos) [] [] Oa) (LK X.K T r to):=by
 intro NX s σ H Q I h
 refine wpAny_Call_method0_late OW OY (cG (ho NX s σ H _ I h) λv s1 ⟨x,H1,I1,r1,ty,q1⟩=>?_)
 obtain⟨h1,h2⟩:=CZ I1 r1 ty
 exact⟨T,id,pa,slot,hty,h1,h2,Calls.callWith_builtin rfl (PySem.evalArgs_none (hm NX s1 σ H1 x [] v [] Q I1 r1 .nil q1))⟩
theorem FZ(pa:PlainAttrs T)(slot:Slot T name id)(hty:typeOf (.builtin id)=pure (.type "method_descriptor"))(hm:Lz X id r)(ho:PE X o to)(ha:PA X (e::es) t)
  (OW:autoParam (attributeBase o name X.env (eval o X.env)=eval o X.env) aR._auto_1)
  (Qs:autoParam (((backTo Oa (starEach (e::es) X.env)).all (λx=>!x.1)&&(backToKw Oa (keywordEach [] X.env)).all (λx=>x.1.isSome)
   && decide ((e::es).length+([]:List Keyword).length+(if ([]:List Keyword).isEmpty then 0 else 1)<30))=true) aR._auto_1)
  (OY:autoParam ((apos.endLine==Oa.line)=true) aR._auto_1) (hs:autoParam (starEach (e::es) X.env=(false,eval e X.env)::starEach es X.env) aR._auto_1) (Pr:autoParam ((backTo Oa (starEach es X.env)).any (·.1)=false) aR._auto_1) :
  PE X (.Call (.Attribute o name apos) (e::es) [] Oa) (NV X.K T r to t):=by
 intro NX s σ H Q I h
 refine wpAny_Call_method_late OW Qs OY rfl (cG (ho NX s σ H _ I h) λv s1 ⟨x,H1,I1,r1,ty,q1⟩=>?_)
 obtain⟨h1,h2⟩:=CZ I1 r1 ty
 refine⟨T,id,pa,slot,hty,h1,h2,?_⟩
 have hA:=ha Oa NX s1 σ H1 _ I1 q1
 rw[hs] at hA ⊢
 refine Calls.callWith_builtin (by show (false||(backTo Oa (starEach es X.env)).any (·.1))=false;rw[Pr] <;> rfl) (Calls.evalArgs_plain ?_)
 exact cG hA λus s2 ⟨vs,H2,I2,r2,q2⟩=>hm NX s2 σ H2 x vs v us Q I2 r1 r2 q2
end
def NP(X:Cx)(id:String)(r:V->List V->Hp->VK->Prop):Prop :=
 ∀ (NX:List (Addr×Obj)) (s:Shared) (σ:St) (H:Hp) (x:V) (xs:List V) (v:Value) (us:List Value) (Q:VK),Inv X NX σ H s->RelV x v->Vals xs us->r x xs H Q ->
  wpAny (model X.prog X.w) X.A (call (.builtin id) (v::us)) (EP X NX σ Q) X.xe s
theorem Vals.one:∀ {x:V} {us:List Value},Vals [x] us->∃ u,us=[u]/\RelV x u
 | _,_,.cons r .nil=>⟨_,rfl,r⟩
theorem Vals.rep{xs:List V}{us:List Value}(h:Vals xs us):∀ k:Nat,Vals (List.replicate k xs).flatten (List.replicate k us).flatten
 | 0=>.nil
 | k+1=>by
  rw[List.replicate_succ,List.replicate_succ,List.flatten_cons,List.flatten_cons]
  exact Vals.append h (Vals.rep h k)
theorem foldl_rep(NZ:List Value):∀ (k:Nat) (acc:List Value),
  List.foldl (λx1 x2=>x1++x2) acc.toArray (List.replicate k NZ.toArray)=(acc++(List.replicate k NZ).flatten).toArray
 | 0,acc=>by simp
 | k+1,acc=>by
  have e:acc.toArray++NZ.toArray=(acc++NZ).toArray:=by simp
  have e2:(acc++NZ)++(List.replicate k NZ).flatten=acc++(List.replicate (k+1) NZ).flatten:=by
   rw[List.replicate_succ,List.flatten_cons,List.append_assoc]
  rw[← e2,← foldl_rep NZ k (acc++NZ),← e,List.replicate_succ,List.foldl_cons]
variable{t':Nat}
section
variable{l b:Addr}{ys zs:List V}
theorem Inv.LR{its':List Value}{f:Array Value->Array Value}(I:Inv X NX σ H s)(hH:H l=some (.lst xs))
  (e:s.heap.get? l=some { cls:=.type "list", data:=.seq NZ.toArray n }) (hf:f NZ.toArray=its'.toArray) (hv:Vals ys its') (hz:ys.length<=sizeLine) :
  Inv X NX σ (upd H l (.lst ys)) { s with heap:=s.heap.update l (Obj.mapSeq f),toks:=t' }:=by
 have q:=PySem.IsL.update e f
 rw[hf] at q
 refine I.write (x:=l) (e:=l) (by rw[hH];exact trivial) (.inl rfl) (λb' u hb hu=>(Heap.get?_update_other s.heap (Obj.mapSeq f) (Ne.symm hb)).trans hu) ⟨_,q⟩ ?_
 exact⟨hz,its',_,hv,q⟩
theorem Inv.KC(I:Inv X NX σ H s)(hv:Vals ys NZ)(hz:ys.length<=sizeLine) :
  Inv X NX σ (upd H s.heap.objs.size (.lst ys)) { s with heap:=s.heap.push { cls:=.type "list", data:=.seq NZ.toArray },toks:=t' } :=
 I.laid (λ_ _ q=>Heap.get?_push_of_some _ q) (Nat.le_refl _) ⟨hz,NZ,0,hv,Heap.get?_push_size _ rfl⟩
theorem Inv.fresh(I:Inv X NX σ H s):H s.heap.objs.size=none:=I.bK.fresh (Nat.le_refl _)
theorem Inv.D6(I:Inv X NX σ H s)(hH:H l=some (.lst xs)):xs.length<=sizeLine/\∃ (NZ:List Value) (n:Nat),Vals xs NZ/\xs.length=NZ.length/\s.heap.get? l=some { cls:=.type "list", data:=.seq NZ.toArray n }:=by
 obtain⟨z,NZ,n,r,e⟩:=I.bK l _ hH
 exact⟨z,NZ,n,r,r.length,e⟩
theorem B0(h:n<=sizeLine):Builtin.List.listTooLong n=false:=by
 unfold Builtin.List.listTooLong
 exact decide_eq_false (by omega)
end
def DL:V->List V->Hp->VK->Prop:=λx vs H Q=>∃ l xs y,x=.ref l/\vs=[y]/\H l=some (.lst xs)/\xs.length<sizeLine/\Q .da (upd H l (.lst (xs++[y])))
theorem rK:NP X "list.append" DL:=by
 intro NX s σ H x vs v us Q I rx rv h
 obtain⟨l,xs,y,rfl,rfl,hH,hz,q⟩:=h
 cases rx
 obtain⟨u,rfl,ru⟩:=rv.one
 obtain⟨z,NZ,n,r,hl,e⟩:=I.D6 hH
 refine call_meets F.slot_list_append ⟨_,e,rfl⟩ F.entry_list_append (F.args_list_append_2 _ _) (PySem.list_append l NZ.toArray n u (by rw[List.size_toArray];omega)) ⟨e,?_⟩
 refine⟨.da,_,I.LR (its':=NZ++[u]) hH e (by simp) (r.append (.cons ru .nil)) ?_,rfl,q⟩
 rw[List.length_append,List.length_singleton]
 omega
def JO:R2:=λx y H Q=>∃ l b xs zs,x=.ref l/\y=.ref b/\H l=some (.lst xs)/\H b=some (.lst zs)/\xs.length+zs.length<=sizeLine/\∀ p,H p=none->Q (.ref p) (upd H p (.lst (xs++zs)))
theorem G6:f_ X (binaryOp .Add) JO:=by
 intro NX s σ H x y v u Q I rx ry h
 obtain⟨l,b,xs,zs,rfl,rfl,hH,hB,hz,q⟩:=h
 cases rx
 cases ry
 obtain⟨z,NZ,n,r,hl,e⟩:=I.D6 hH
 obtain⟨z2,PK,n2,r2,Pl,e2⟩:=I.D6 hB
 refine PySem.P.add_list e e2 ?_ (by rw[List.size_toArray,List.size_toArray];omega)
 have ea:NZ.toArray++PK.toArray=(NZ++PK).toArray:=by simp
 rw[ea]
 exact⟨.ref _,_,I.KC (t':=s.toks) (r.append r2) (by rw[List.length_append];omega),rfl,q _ I.fresh⟩
def JR:R2:=λx y H Q=>∃ l k xs,x=.ref l/\y=.int k/\H l=some (.lst xs)/\-(2^63)<=k/\k<2^63/\xs.length*k.toNat<=sizeLine ∧
 ∀ p,H p=none->Q (.ref p) (upd H p (.lst (List.replicate k.toNat xs).flatten))
theorem len_rep(xs:List α)(k:Nat):(List.replicate k xs).flatten.length=k*xs.length:=by
 induction k with
 | zero=>simp
 | succ k ih=>rw[List.replicate_succ,List.flatten_cons,List.length_append,ih,Nat.succ_mul,Nat.add_comm]
theorem Ca:f_ X (binaryOp .Mult) JR:=by
 intro NX s σ H x y v u Q I rx ry h
 obtain⟨l,k,xs,rfl,rfl,hH,h1,h2,hz,q⟩:=h
 cases rx
 obtain⟨t,rfl⟩:=ry
 obtain⟨z,NZ,n,r,hl,e⟩:=I.D6 hH
 have hlen:NZ.toArray.size*k.toNat<=sizeLine:=by rw[List.size_toArray,← hl];exact hz
 have hcap:¬ NZ.toArray.size*k.toNat>(2^63-1)/8:=by
  have:(sizeLine:Nat)<=(2^63-1)/8:=by decide
  omega
 have hfit:¬ (!Builtin.List.listFitsIndex k)=true:=by
  rw[fitsIndex_both h1 h2]
  exact Bool.false_ne_true
 have Rx:¬ Builtin.List.listTooLong (NZ.toArray.size*k.toNat)=true:=by
  rw[B0 hlen]
  exact Bool.false_ne_true
 have Pm:List.foldl (λx1 x2=>x1++x2) #[] (List.replicate (if NZ.toArray.isEmpty=true then 0 else k.toNat) NZ.toArray)=(List.replicate k.toNat NZ).flatten.toArray:=by
  have f0:∀ m:Nat,List.foldl (λx1 x2=>x1++x2) #[] (List.replicate m NZ.toArray)=(List.replicate m NZ).flatten.toArray:=λm=>by
   have:=foldl_rep NZ m []
   rw[List.nil_append] at this
   exact this
  rw[f0]
  cases NZ with
  | nil=>simp
  | cons a r'=>rw[if_neg (by simp)]
 refine wpAny_binaryOp_repeat_ref (T := "list") (U := "int") (by decide) ⟨_,e,rfl⟩ (λs'=>typeIs_int s' k t) noFill_list_mul F.fills_int_mul F.slot_int_rmul repeat_list F.slot_int_index.lookup
  (call_meets F.slot_int_rmul (typeIs_int s k t) F.entry_int_rmul (F.args_int_rmul_2 _ _) (int___rmul___int_list k t l NZ.toArray n)
   ⟨e,rfl,⟨_,e,rfl⟩,call_meets F.slot_list_mul ⟨_,e,rfl⟩ F.entry_list_mul (F.args_list_mul_2 _ _) (AutoListH.list___mul___list_int_3 l NZ.toArray n k t hfit hcap Rx) ⟨e,?_⟩⟩)
 rw[Pm]
 exact⟨.ref _,_,I.KC (t':=s.toks) (r.rep k.toNat) (by rw[len_rep,Nat.mul_comm];exact hz),rfl,q _ I.fresh⟩
variable{E:Value->Shared->Prop}{A:Around}{w:World}
section
variable{prog:Program}
end
section
variable{κ:Type}[DecidableEq κ]
end
variable{a:Addr}
section
variable{P:Program}{h:Heap}
end
variable{o:Option V}{u:Value}
section
variable{y v:V}{r:Value}
end
variable{OL:List (Key×V)}
section
variable{k:Key}
end
section
variable{o i value:Expr}{pos pos' tpos:Pos}{td ty tv:TE}
end
section
variable{pos:Pos}
end
section
variable{y d:V}{r:Value}
end
section
variable{o f:Expr}{apos Oa:Pos}{td ty tx:TE}
end
section
variable{y:V}
end
end L2
namespace Att
open PySem PySem.W PySem.Calls PyProof.Rows
variable{h:Heap}{P:Params}
theorem nQ:∀ (ns:List Int) (vs:List Value),WellAll P h vs (ns.map WData.int)->IntsAre vs ns:=by
 intro ns
 induction ns with
 | nil =>
  intro vs w
  rw[List.map_nil] at w
  cases w
  exact .nil
 | cons n ns ih =>
  intro vs w
  rw[List.map_cons] at w
  cases w with
  | cons a b =>
   cases a
   exact .cons _ _ (ih _ b)
theorem zK{l:OpenLaw}{n:Nat}(hn:l.most=some n){args:List WData}{vals:List Value}
  (zV:l.row.toRowW.claim.pre args=true) (hwl:WellAll P h vals args) :
  ∃ a vs ns,vals=[Value.ref a]/\args=[WData.list (ns.map WData.int)]/\h.get? a=some { cls:=.type "list", data:=.seq vs.toArray }/\IntsAre vs ns/\ns.length<=n:=by
 have hsh:WShape.hasAll [] args [.list .int]=true:=(pre_splitW zV).1
 have hc:l.pre.holds [] { args:=args }=true:=(pre_splitW zV).2
 obtain⟨d,r,rfl,h1,h2⟩:=hasAllW_cons hsh
 obtain rfl:=hasAllW_nil h2
 obtain⟨xs,rfl,h3⟩:=hasW_list h1
 obtain⟨ns,rfl⟩:=items_int h3
 have hlen:ns.length<=n:=by
  unfold OpenLaw.pre at hc
  have h4:(WTm.not (.lt (.lit (.int (n:Int))) (.len (.arg 0)))).holds [] { args:=[.list (ns.map .int)] }=true:=by
   have h4:=(holds_andW hc).1
   rw[hn] at h4
   exact h4
  have h5:=condW_of h4 (w_not (w_lt w_lit (w_len_list (w_arg rfl))))
  rw[List.length_map] at h5
  refine Nat.le_of_not_lt λq=>?_
  have q':(n:Int)<((ns.length:Nat):Int):=by omega
  first
   | (rw[decide_eq_true q'] at h5;exact absurd h5 (by decide))
   | (simp at h5;omega)
 cases hwl with
 | cons w1 w2 =>
  cases w2
  cases w1 with
  | list ho hall=>exact⟨_,_,ns,rfl,rfl,ho,nQ ns _ hall,hlen⟩
theorem Ab(l:OpenLaw)(args:List WData):l.row.toRowW.claim.post args (.bool true) args=true :=
 postW_of (r:=l.row.toRowW) (X:=(true==true))
  (show WShape.has [] (.bool true) .bool=true by first | rfl | decide | simp[WShape.has,WShape.arms,WShape.armsAll])
  (show (WTm.eq .res (.lit (.bool true))).value [] { args:=args,res:=some (.bool true),after:=args }=some (.bool (true==true)) from w_eq_bool (w_res rfl) w_lit) rfl
section
variable{prog:Program}{w:World}{A:Around}{E:Value->Shared->Prop}{s:Shared}{K:Frag}
end
end Att
namespace L2
open PySem PySem.Spec PyProof.Rows
theorem rE:∀ {vs:List Value} {ns:List Int},IntsAre vs ns->Vals (ns.map V.int) vs
 | _,_,.nil=>.nil
 | _,_,.cons n t h=>.cons ⟨t,rfl⟩ (rE h)
def JD(H:Hp):Prop:=∀ b,H b=none\/∃ o xs,H b=some (.qK o (.lst xs))
variable{sp:Sp}{x:Str}{fd:FuncData}{a:Addr}{k:Nat}{mg:Str->Option Value}{w:World}{P:Program}
theorem A7{K:PySem.W.Frag}{mb:Str->Option Value}{CX:Ju}{fa:Addr}{s₁:Shared}{vs:List Value}{ns:List Int}
  (KX:K.In s₁.heap) (hns:s₁.heap.Ns mainGlobals mg) (hb:s₁.heap.Ns builtinsNs mb) (hbb:∀ x:Str,x ≠ "__name__" -> mb x=bootBuiltins x) (hlim:s₁.heap.NoLimit) (hg:s₁.gens=#[])
  (ha:s₁.heap.get? a=some { cls:=.type "list", data:=.seq vs.toArray }) (hi:IntsAre vs ns) (hl:ns.length<=sizeLine) (hr:cv k callerA)
  (F:∀ base:Heap,K.In base->base.Ns mainGlobals mg->aQ P w K mg base CX k fa fd [x] sp) (Rp:∀ (s:Shared) (u:Value),BindsTo s fd ⟨[u],[]⟩ [(x,u)])
  (hsp:∀ H:Hp,JD H->gS K H a (ns.map V.int)->sp [.ref a] H (λv _=>v=.bl true) λ_ _ _=>False)
  (hCX:∀ H e s',CX [] H s₁ (λ_ _ _=>False) e s'->False) :
  codeAny (model P w) callerA (.call (.ref fa) ⟨[.ref a],[]⟩) (λr s'=>r=.ok (.ret (.bool true))/\OldK s₁.heap s'.heap/\s'.os=s₁.os/\AllBare s'.gens) s₁:=by
 have rv:=rE hi
 have lenV:=hi.length
 have core:∀ H:Hp,JD H->gS K H a (ns.map V.int)->mH P w H s₁.heap->(∀ b,H b≠none->b=a)->(H a≠none->K.lookup a=none) ->
   codeAny (model P w) callerA (.call (.ref fa) ⟨[.ref a],[]⟩) (λr s'=>r=.ok (.ret (.bool true))/\OldK s₁.heap s'.heap/\s'.os=s₁.os/\AllBare s'.gens) s₁:=by
  intro H hO hS bK hA hK
  have P8:∀ {b:Addr} {o:Obj},s₁.heap.get? b=some o->H b=none->(sE s₁.heap H).get? b=some o:=λe n=>AB e n
  have pH:∀ {b:Addr} {o:Obj} {es:Array DictEntry} {ep:Nat},s₁.heap.get? b=some o->o.data=.dict es ep->H b=none:=λ{b o es ep} e d=>by
   cases q:H b with
   | none=>rfl
   | some u =>
    have e':b=a:=hA b (by rw[q];simp)
    subst e'
    rw[ha] at e;cases e
    have d':Data.seq vs.toArray _=Data.dict es ep:=d
    cases d'
  have nsK:∀ {b:Addr} {m:Str->Option Value},s₁.heap.Ns b m->(sE s₁.heap H).Ns b m:=λ{b m} ⟨o,es,ep,e,d,r⟩=>⟨o,es,ep,P8 e (pH e d),d,r⟩
  have hKb:K.In (sE s₁.heap H):=λb o e=>P8 (KX b o e) (by
   cases q:H b with
   | none=>rfl
   | some u =>
    have e':b=a:=hA b (by rw[q];simp)
    subst e'
    rw[hK (by rw[q];simp)] at e;cases e)
  have hM:Mod K mg (sE s₁.heap H):=⟨hKb,nsK hns,⟨mb,nsK hb,hbb⟩,let ⟨mc,h1,h2⟩:=hlim;⟨mc,nsK h1,h2⟩⟩
  have e0:wK P w K mg (sE s₁.heap H) callerA [] s₁ H:=⟨rfl,hM,λb o e=>Fs e,Nat.le_of_eq (yY _ _),trivial,λb hb=>absurd (show b∈([]:List Addr) from hb) (by simp),bK,.of_eq hg⟩
  refine codeAny_mono ((F _ hKb (nsK hns)).run callerA [] s₁ H ⟨[.ref a],[]⟩ [.ref a] [.ref a] _ _ hr e0 (Rp s₁ (.ref a)) (.cons rfl .nil) (hsp H hO hS)) λr s' h=>?_
  cases r with
  | error e=>exact(hCX H e s' h).elim
  | ok fl =>
   cases fl with
   | next=>exact False.elim h
   | brk=>exact False.elim h
   | cont=>exact False.elim h
   | ret u =>
    obtain⟨v,H',os,bare,un,hok',r',q⟩:=h
    have q':v=.bl true:=q
    subst q'
    obtain rfl:u=Value.bool true:=r'
    refine⟨rfl,OldK.of_keep λb o e=>?_,os,bare⟩
    cases q:H b with
    | none=>exact un.keep b o e q (by intro z;exact absurd (show b∈([]:List Addr) from z) (by simp)) (by simp)
    | some u =>
     rcases hO b with z | ⟨ob,xs,z⟩
     ·rw[q] at z;cases z
     ·have z2:=un.lE b ob _ z
      obtain⟨e1,_⟩:=bK b _ z
      obtain⟨e2,_⟩:=hok' b _ z2
      rw[e] at e1;cases e1
      exact e2
 cases hk:K.lookup a with
 | some o =>
  have e:=KX a o hk
  rw[ha] at e
  cases e
  refine core (λ_=>none) (λ_=>.inl rfl) (.inr ⟨_,vs.toArray,_,hk,rfl,rfl,rfl,by rw[List.size_toArray,lenV];exact hl,by simpa using rv⟩) (λb u z=>by have z':(none:Option HO)=some u:=z;cases z') (λb z=>absurd rfl z) λz=>absurd rfl z
 | none =>
  refine core (λb=>if b=a then some (.qK { cls:=.type "list", data:=.seq vs.toArray } (.lst (ns.map V.int))) else none) (λb=>?_) (.inl (.inr ⟨{ cls:=.type "list", data:=.seq vs.toArray },if_pos rfl⟩)) (λb u z=>?_) (λb z=>?_) λ_=>hk
  ·by_cases hb:b=a
   ·exact .inr ⟨_,_,if_pos hb⟩
   ·exact .inl (if_neg hb)
  ·by_cases hb:b=a
   ·have z':=(if_pos hb).symm.trans z
    cases z'
    subst hb
    exact⟨ha,by rw[List.length_map];exact hl,vs,_,rv,ha⟩
   ·have z':=(if_neg hb).symm.trans z
    cases z'
  ·by_cases hb:b=a
   ·exact hb
   ·exact absurd (if_neg hb) z
def inClass(s:Stmt)(j:Nat):Stmt:=match s with
 | .ClassDef _ _ _ body _ _ _ _ _ _ _=>body.getD j (.Pass ⟨0,0,0,0⟩)
 | _=>.Pass ⟨0,0,0,0⟩
def ic(s:Stmt):Arguments:=match s with
 | .FunctionDef _ a _ _ _ _ _ _ _ _=>a
 | _=>{ posonlyargs:=[],args:=[],vararg:=none,kwonlyargs:=[],kw_defaults:=[],kwarg:=none,defaults:=[] }
def eU(s:Stmt):List Stmt:=match s with
 | .FunctionDef _ _ b _ _ _ _ _ _ _=>b
 | _=>[]
def aZ(s:Stmt):Scope:=match s with
 | .FunctionDef _ _ _ _ _ _ sc _ _ _=>sc
 | _=>{ kind:=.function,names:=[],isGenerator:=false,isCoroutine:=false }
abbrev E0:XK:=λ_ _ _=>False
variable{base:Heap}
section
variable{K:PySem.W.Frag}
end
variable{n:Nat}
theorem mM(h:n<=1000):n<sizeLine:=Nat.lt_of_le_of_lt h (by decide)
variable{X:Cx}
def bB(H H':Hp):Prop:=∀ b o,H b=some o->H' b=some o
def A_(_ j:Int):Prop:=j≠0/\j.natAbs.log2<9000
theorem AO:f_ X (binaryOp .FloorDiv) (rI A_ λi j=>.int (i.fdiv j)):=Jz λ_ _ _ _ _ _ _ hc q=>floordiv_int hc.1 q (.inl (PyProof.noPylong_of_log2 hc.2))
theorem EW:f_ X (binaryOp .Mult) (rI (λi j=>IntMulOk i j) λi j=>.int (i*j)):=Jz λ_ _ _ _ _ _ _ hc q=>mul_int q hc
theorem Co{a b:Int}{m:Nat}(ha:a.natAbs<2^m)(hb:b.natAbs<2^n)(h:m+n<=134217728):IntMulOk a b:=IntMulOk.of_le (intBits_le_iff.mpr ha) (intBits_le_iff.mpr hb) h
theorem yi{x:Int}{m:Nat}(h:x.natAbs<2^m)(hm:m<=n):Builtin.Int.intBits x<=n:=Nat.le_trans (intBits_le_iff.mpr h) hm
theorem tq:bootBuiltins "isinstance" = some (.builtin "isinstance"):=by decide +kernel
theorem CW:bootBuiltins "int" = some (.type "int"):=by decide +kernel
theorem yK:bootBuiltins "bool" = some (.type "bool"):=by decide +kernel
theorem lL:bootBuiltins "tuple" = some (.type "tuple"):=by decide +kernel
theorem sU:bootBuiltins "list" = some (.type "list"):=by decide +kernel
theorem IA:bootBuiltins "sum" = some (.builtin "sum"):=by decide +kernel
def Na(K:PySem.W.Frag):List V->Hp->VK->Prop:=λxs H Q=>∃ x T t b,xs=[x,.ty T]/\jT K H x t/\PySem.W.kitOne K t (.type T)=some b/\Q (.bl b) H
def MI(K:PySem.W.Frag):List V->Hp->VK->Prop:=λxs H Q=>∃ x C t b,xs=[x,.ref C]/\jT K H x t/\PySem.W.kitOne K t (.ref C)=some b/\Q (.bl b) H
theorem uH:c6 X (.builtin "isinstance") (Na X.K):=by
 intro NX s σ H xs us Q I r h
 obtain⟨x,T,t,b,rfl,ty,e,q⟩:=h
 cases r with
 | cons r1 r2 =>
  cases r2 with
  | cons r3 r4 =>
   cases r4
   cases (show _=Value.type T from r3)
   exact rX I r1 ty e λtk=>⟨.bl b,H,I.tok tk,rfl,q⟩
theorem Cf:c6 X (.builtin "isinstance") (MI X.K):=by
 intro NX s σ H xs us Q I r h
 obtain⟨x,C,t,b,rfl,ty,e,q⟩:=h
 cases r with
 | cons r1 r2 =>
  cases r2 with
  | cons r3 r4 =>
   cases r4
   cases (show _=Value.ref C from r3)
   exact rX I r1 ty e λtk=>⟨.bl b,H,I.tok tk,rfl,q⟩
section
variable(K:PySem.W.Frag)
end
variable{ch:List Addr}{t':Nat}{h':Heap}{s:Shared}{H:Hp}{σ:St}{NX:List (Addr×Obj)}
variable{x1:Nat}{elts:List Expr}
theorem Inv.kM{o:HO}(I:Inv X NX σ H s)(k:∀ b u,b ∉ ch->s.heap.get? b=some u->h'.get? b=some u)
  (PY:∀ b∈ch,mq X NX H b) (hp:s.heap.objs.size<=a) (hl:∀ b∈ch,∃ u,s.heap.get? b=some u) (new:cu X.prog X.w (upd H a o) h' a o):Inv X NX σ (upd H a o) { s with heap:=h',toks:=t' }:=by
 have ne:∀ b u,s.heap.get? b=some u->b≠a:=λb u e=>Nat.ne_of_lt (Nat.lt_of_lt_of_le (Heap.lt_size e) hp)
 have Qt:H a=none:=I.bK.fresh hp
 have QE:∀ b u,H b=some u->b ∉ ch:=λb u e z=>by rw[(PY b z).1] at e;cases e
 have QD:∀ b u,H b=some u->b≠a:=λb u e z=>by rw[z,Qt] at e;cases e
 refine I.step (g':=s.gens) (d':=s.drawn) (ch:=ch) (λb hb=>?_) (λb u _ _ hc e _=>k b u hc e) (λb u _ _ hc e _=>⟨u.slots,k b u hc e⟩)
  (λb u _ e n=>by rw[aw (ne b u e)];exact n) (λb u hc e=>⟨u,k b u hc e⟩)
  (λb xs e=>by rw[aw (QD b _ e)];exact e) (λb ob u e=>by rw[aw (QD b _ e)];exact e) (λb ps e=>⟨#[],by rw[aw (QD b _ e),e];simp⟩) (λm hm=>?_) (λb u e=>?_) I.bare
 ·obtain⟨_,f1,_,f3,f4,f5⟩:=PY b hb
  exact⟨f3,f1,f4,f5⟩
 ·obtain⟨ob,es,ep,ho,r⟩:=hm
  exact⟨ob,es,ep,k _ ob (λz=>(PY _ z).2.1 rfl) ho,r⟩
 ·by_cases z:b=a
  ·subst z
   rw[aB] at e
   cases e
   exact new
  ·rw[aw z] at e
   refine(I.bK b u e).mf (λc v hc q=>k c v ?_ q) (λc q=>?_) λc ys q=>?_
   ·rcases hc with z' | z'
    ·rw[z'];exact QE b u e
    ·exact QE c _ z'
   ·rw[aw (QD c _ q)];exact q
   ·rw[aw (QD c _ q)];exact q
def GZ (K : PySem.W.Frag) (a : Addr) : It :=
  ⟨λi H => ∃ xs x, gS K H a xs /\ xs[i]? = some x,
   λi H y H' => ∃ p x, H p = none /\ y = .ref p /\ H' = upd H p (.tup [.int i, x]) /\ ∀ xs, gS K H a xs -> xs[i]? = some x,
   λi H => ∃ xs, gS K H a xs /\ xs.length <= i⟩
theorem yU{K:PySem.W.Frag}{tp:Pos}(a e it:Addr)(P1:e≠it):Turn P w K (.Tuple elts x1 tp) (GZ K a) [e,it] e (λi h=>(∃ old,IsEnum h e it i old)/\h.IsListIter it a i) where
 mem:=by simp
 obj:=λi h st b hb=>by
  obtain⟨⟨old,he⟩,⟨o,e1,c,d⟩⟩:=st
  rcases List.mem_cons.mp hb with z | z
  ·subst z
   exact⟨_,he,λv z=>by cases z⟩
  ·have z':b=it:=by simpa using z
   subst z'
   exact⟨o,e1,λv z=>by rw[d] at z;cases z⟩
 keep:=λi h h' st k=>by
  obtain⟨⟨old,he⟩,hit⟩:=st
  exact⟨⟨old,k e (by simp) _ he⟩,hit.at λo x=>k it (by simp) o x⟩
 item:=by
  intro X hP hw hK hc i NX s σ H E I hf st hg
  subst hP hw hK
  obtain⟨xs,x,hq,hx⟩:=hg
  obtain⟨NZ,rv,p,hz⟩:=I.list hq
  obtain⟨u,hu,ru⟩:=rv.get hx
  obtain⟨⟨old,he⟩,hit⟩:=st
  have Qr:e<s.heap.objs.size:=Heap.lt_size he
  have Q4:it<s.heap.objs.size:=by obtain⟨_,z,_⟩:=hit;exact Heap.lt_size z
  refine wpAny_pyNext_enum_item he hit p.isList (x:=u) (by simpa using hu) P1 λh' ho Q5 hT Pt hk=>⟨_,rfl,?_⟩
  refine wpAny_letOwnedTupleGo_enum (s:={ s with heap:=h',toks:=s.toks+1 }) ho λh2 he2 Pn=>?_
  have QB:∀ b o,b ∉ [e,it]->s.heap.get? b=some o->h2.get? b=some o:=λb o hb q=>by
   have n1:b≠e:=λz=>hb (by simp[z])
   have n2:b≠it:=λz=>hb (by simp[z])
   exact(Pn.2 b n1).trans (hk b o n1 n2 q)
  have QL:h2.get? s.heap.objs.size=some { cls:=.type "tuple", data:=.seq #[.int i s.toks,u] }:=(Pn.2 _ (Nat.ne_of_gt Qr)).trans hT
  have I2:Inv X NX σ (upd H s.heap.objs.size (.tup [.int i,x])) { s with heap:=h2,toks:=s.toks+1 } :=
   I.kM (ch:=[e,it]) QB hf (Nat.le_refl _) (λb hb=>by
    rcases List.mem_cons.mp hb with z | z
    ·subst z;exact⟨_,he⟩
    ·have z':b=it:=by simpa using z
     subst z'
     obtain⟨o,z,_⟩:=hit
     exact⟨o,z⟩)
    ⟨by show 2<=sizeLine;decide,[.int i s.toks,u],.cons ⟨_,rfl⟩ (.cons ru .nil),⟨_,QL,rfl,_,rfl⟩⟩
  have Pm:H s.heap.objs.size=none:=I.bK.fresh (Nat.le_refl _)
  refine⟨.ref s.heap.objs.size,_,I2,rfl,⟨_,x,Pm,rfl,rfl,λys hy=>by rw[I.qw hy hq];exact hx⟩,⟨⟨u,by simpa using he2⟩,Q5.at λo z=>(Pn.2 it (Ne.symm P1)).trans z⟩,λb hb=>?_⟩
  have nb:b≠s.heap.objs.size:=by
   rcases List.mem_cons.mp hb with z | z
   ·rw[z];exact Nat.ne_of_lt Qr
   ·have z':b=it:=by simpa using z
    rw[z'];exact Nat.ne_of_lt Q4
  rw[aw nb]
  exact(hf b hb).1
 done:=by
  intro X hP hw hK hc i NX s σ H E I hf st hg
  subst hP hw hK
  obtain⟨xs,hq,hx⟩:=hg
  obtain⟨NZ,rv,p,hz⟩:=I.list hq
  have hl:=rv.length
  obtain⟨⟨old,he⟩,hit⟩:=st
  obtain⟨f0,f1,f2,f3,f4,f5⟩:=hf it (by simp)
  exact wpAny_pyNext_enum_end (I.ok.hd hc) he hit p.isList (by simp;omega) λh' eb=>⟨rfl,I.turned (t':=s.toks) (λb o hb e=>eb b o hb e) f0 f1 f3 f4 f5⟩
 self:=λ_ _ _ _ _ st h=>by
  obtain⟨⟨old,he⟩,_⟩:=st
  exact wpAny_pyIter_enum he h
variable{A:Around}{prog:Program}
variable{scope:Scope}{ifs:List Expr}{elt iter:Expr}
section
variable{R:Result->Shared->Prop}
theorem zI{target:Expr}{pos:Pos}{it acc:Value}{env:Env}(I:Nat->Shared->Prop)
  (turn:∀ n s,I n s->wpAny (model prog w) A (pyNext it) (λr s₁=>match r with
   | none=>R (.ok .next) s₁
   | some v=>wpAny (model prog w) A (letOwnedTupleGo target it v) (λ_ s₂=>wpAny (model prog w) A (assign target env v) (λ_ s₃ =>
     wpAny (model prog w) A (forIn ifs true λc r=>if r=true then do let ok ← isTrue c env (eval c env);pure (ForInStep.yield ok) else pure (ForInStep.yield r)) (λok s₄ =>
      if ok=true then wpAny (model prog w) A (eval elt env) (λx s₅ =>
       wpAny (model prog w) A (call (.builtin "list.append") [acc,x]) (λ_ s₆=>∃ m,m<n/\I m s₆) (λ_ _=>False) s₅) (λ_ _=>False) s₄
      else ∃ m,m<n/\I m s₄) (λ_ _=>False) s₃) (λ_ _=>False) s₂) (λ_ _=>False) s₁) (λ_ _=>False) s)
  (n:Nat) (h:I n s) :
  codeAny (model prog w) A (.compLoop (.ListComp elt [⟨target,iter,ifs,0⟩] scope pos) 0 it acc env) R s:=by
 refine codeAny_loop rfl I (λn s hI=>?_) n h
 show wpAny _ A ((compTurn (.ListComp elt [⟨target,iter,ifs,0⟩] scope pos) 0 it acc env).onRaise (λx=>do noteFrame x env;theTreesLotGoes x)) _ _ s
 refine wpAny_noted ?_
 rw[compTurn_list]
 refine wpAny_bind (wpAny_standAt (wpAny_bind (wpAny_mono (turn n s hI) (λr s₁ h₁=>?_) λ_ _ h'=>h'.elim)))
 cases r with
 | none=>exact wpAny_pure h₁
 | some v =>
  refine wpAny_bind (wpAny_mono h₁ (λ_ s₂ h₂=>wpAny_bind (wpAny_mono h₂ (λ_ s₃ h₃=>wpAny_bind (wpAny_mono h₃ (λok s₄ h₄=>?_) λ_ _ h'=>h'.elim)) λ_ _ h'=>h'.elim)) λ_ _ h'=>h'.elim)
  cases ok with
  | false=>exact wpAny_pure ⟨rfl,h₄⟩
  | true =>
   exact wpAny_bind (wpAny_bind (wpAny_mono h₄ (λx s₅ h₅=>wpAny_bind (wpAny_mono h₅ (λ_ s₆ h₆=>wpAny_pure (wpAny_pure ⟨rfl,h₆⟩)) λ_ _ h'=>h'.elim)) λ_ _ h'=>h'.elim))
end
def mw(X:Cx)(scope:Scope)(cl:List (Str×Addr))(N:List Str)(C:Addr)(s₀:Shared)(H₀:Hp)(ex:List Addr)(NX:List (Addr×Obj)):Cx :=
 { X with N:=N,s₀:=s₀,H₀:=H₀,env:=compEnvC scope cl C X.env,outer:=X.stack,stack:=X.stack,ex:=ex,fn:=λ_=>false,pn:=X.pn++NX,xe:=λ_ _=>False }
inductive g9 (X:Cx) (sc:Scope) (cl:List (Str×Addr)):List Str->List Nat->Prop where
 | nil:g9 X sc cl [] []
 | cons {x:Str} {j:Nat} {c:Addr} {fs:List Str} {js:List Nat} (hN:X.N[j]?=some x) (hf:sc.names.lookup x=some .free) (hv:X.env.kindOf x=some .cell\/X.env.kindOf x=some .free) (hc:X.env.cells.lookup x=some c) (hl:cl.lookup x=some c) (r:g9 X sc cl fs js):g9 X sc cl (x::fs) (j::js)
inductive dP (X:Cx):List (Str×Addr)->Prop where
 | nil:dP X []
 | cons {x:Str} {c:Addr} {r:List (Str×Addr)} (h:X.env.cells.lookup x=some c) (t:dP X r):dP X ((x,c)::r)
theorem dP.at{X:Cx}:∀ {cl:List (Str×Addr)},dP X cl->∀ x c,cl.lookup x=some c->X.env.cells.lookup x=some c
 | _,.nil,_,_,e=>by simp at e
 | _,.cons (x:=y) (c:=d) h t,x,c,e=>by
  rw[List.lookup_cons] at e
  cases q:x==y with
  | true =>
   rw[q] at e
   have e':d=c:=Option.some.inj e
   have q':x=y:=by simpa using q
   rw[q',← e'];exact h
  | false =>
   rw[q] at e
   exact dP.at t x c e
def fN(cl:List (Str×Addr))(names:List (Str×NameKind)):Bool:=names.all λy=>y.2 != .free||(cl.lookup y.1).isSome
def eQ(names:List (Str×NameKind)):Bool:=names.all λy=>y.2 != .cell
def fK(names:List (Str×NameKind)):Bool:=names.all λy=>y.2 != .local||(names.lookup y.1==some .local)
def fL(ts:List Str)(js:List Nat)(σ:St):St:=ts.map (λ_=>none)++js.map λj=>(σ[j]?).join
def ya(wi:TI)(g:TG)(tt:Option TT)(te:TE)(ts:List Str)(js:List Nat):TE:=fun σ H Q=>wi σ H λJ H1=>∀ D,H1 D=none ->
 ∃ W:Nat->Nat->St->Hp->Prop,(∃ m,W 0 m (fL ts js σ) (upd H1 D (.lst [])))/\∀ i m σ' H',W i m σ' H' ->
  (J.stop i H'/\Q (.ref D) H')\/(J.go i H'/\∃ N:St->Hp->Prop,(∀ σ'' H'',N σ'' H''->∃ m',m'<m/\W (i+1) m' σ'' H'') ∧
   ∀ x H2,J.tR i H' x H2->g x σ' H2 fun σ2 H3=>match tt with
    | none=>te σ2 H3 λy H4=>∃ ys,H4 D=some (.lst ys)/\ys.length<sizeLine/\N σ2 (upd H4 D (.lst (ys++[y])))
    | some t=>t σ2 H3 λb Rk=>if b=true then te σ2 Rk λy H4=>∃ ys,H4 D=some (.lst ys)/\ys.length<sizeLine/\N σ2 (upd H4 D (.lst (ys++[y]))) else N σ2 Rk)
variable{C:Addr}
theorem oR {cl : List (Str × Addr)} {env : Env} (h : (compEnvC scope cl C env).kindOf x = some .cell \/ (compEnvC scope cl C env).kindOf x = some .free) (nc : eQ scope.names = true) : scope.names.lookup x = some .free := by
  have key : ∀ (names : List (Str × NameKind)), eQ names = true ->
      ((names.map λ(n, k) => if (k == NameKind.free && env.scope.kind == .function && env.kindOf n == some .cell) then (n, NameKind.cell) else (n, k)).lookup x = some .cell ∨
       (names.map λ(n, k) => if (k == NameKind.free && env.scope.kind == .function && env.kindOf n == some .cell) then (n, NameKind.cell) else (n, k)).lookup x = some .free) -> names.lookup x = some .free := by
    intro names
    induction names with
    | nil => intro _ h; simp at h
    | cons p r ih =>
      obtain ⟨n, k⟩ := p
      intro nc h
      have nc' : (k != .cell) = true /\ eQ r = true := by
        unfold eQ at nc
        rw [List.all_cons, Bool.and_eq_true] at nc
        exact nc
      rw [List.map_cons] at h
      dsimp only at h
      by_cases hc : (k == NameKind.free && env.scope.kind == .function && env.kindOf n == some .cell) = true
      · rw [if_pos hc] at h
        rw [List.lookup_cons] at h ⊢
        cases q : x == n with
        | true =>
          have : k = .free := by
            rw [Bool.and_eq_true, Bool.and_eq_true] at hc
            simpa using hc.1.1
          rw [this]
        | false =>
          rw [q] at h
          exact ih nc'.2 h
      · rw [if_neg hc] at h
        rw [List.lookup_cons] at h ⊢
        cases q : x == n with
        | true =>
          rw [q] at h
          have nk : k ≠ .cell := by simpa using nc'.1
          rcases h with h | h
          · exact absurd (Option.some.inj h) nk
          · exact h
        | false =>
          rw [q] at h
          exact ih nc'.2 h
  exact key scope.names nc h
variable{js:List Nat}{ts:List Str}{te:TE}{tt:Option TT}{Oa:Pos}{tg:Expr}
theorem qy{cl:List (Str×Addr)}{pos:Pos}{wi:TI}{g:TG}{fs:List Str}(N4:X.calm=true)
  (Oc:closureFor scope X.env=pure cl) (hk:scope.kind=.function) (nc:eQ scope.names=true) (lo:fK scope.names=true) (fh:fN cl scope.names=true) (ag:dP X cl) (fr:g9 X scope cl fs js)
  (hi:PI X tg iter wi) (hg:∀ C s₀ H₀ ex NX,PG (mw X scope cl (ts++fs) C s₀ H₀ ex NX) tg g)
  (ht:∀ C s₀ H₀ ex NX,match ifs,tt with | [],none=>True | [c],some t=>PT (mw X scope cl (ts++fs) C s₀ H₀ ex NX) c t | _,_=>False)
  (he:∀ C s₀ H₀ ex NX,PE (mw X scope cl (ts++fs) C s₀ H₀ ex NX) elt te)
  (hs:∀ x,foldedSetIterable iter X.env x=pure x) {Q:VK} (I:Inv X NX σ H s) (h:ya wi g tt te ts js σ H Q)
  (use:Option (Value->Sem Unit)) (Qv:Value->Shared->Prop)
  (G4:∀ (D:Addr) (H':Hp) (s':Shared) (C:Addr),Inv X NX σ H' s'->Q (.ref D) H'->(∃ m,s'.heap.Ns C m)->mq X NX H' C->compPost (model X.prog X.w) X.A X.xe use Qv (.ref D) C (.ok .next) s') :
  wpAny (model X.prog X.w) X.A (comprehension (.ListComp elt [⟨tg,iter,ifs,0⟩] scope pos) scope X.env Oa (newList []) false (eval iter X.env) use) Qv X.xe s:=by
 have P_:∀ y∈scope.names,y.2≠.cell:=λy hy=>by
  have:=List.all_eq_true.mp nc y hy
  simpa using this
 have Q7:∀ y∈scope.names,y.2=.local->scope.names.lookup y.1=some .local:=λy hy hl=>by
  have:=List.all_eq_true.mp lo y hy
  rw[hl] at this
  simpa using this
 refine wpAny_comprehension_free (use:=use) rfl hs Oc hk Q7 (cG (hi NX s σ H _ I h) λv s1 h1=>cG h1 λitv s2 h2=>?_)
 obtain⟨it,fp,tn,J,H1,e,I2,T,Q1,f2,hJ⟩:=h2
 subst e
 refine wpAny_newObj_type (wpAny_newFunctionEnv P_ (by intro y hy;simp at hy) (λh₁ hns1 hsb1=>?_) hk)
 dsimp only at hns1 hsb1 ⊢
 generalize hH2:s2.heap.push { cls:=.type "list", dict:=none,data:=.seq ([]:List Value).toArray }=G at hns1 hsb1 ⊢
 have hC:G.objs.size=s2.heap.objs.size+1:=by rw[← hH2,Heap.size_push]
 have old:∀ b o,s2.heap.get? b=some o->h₁.get? b=some o:=λb o e=>by
  have hb:=Heap.lt_size e
  refine hsb1.extBut b o (Nat.ne_of_lt (Nat.lt_of_lt_of_le hb (Nat.le_of_lt (by rw[hC];exact Nat.lt_succ_self _)))) (Heap.get?_push_of_some _ ?_)
  rw[← hH2]
  exact Heap.get?_push_of_some _ e
 have hacc:h₁.get? s2.heap.objs.size=some { cls:=.type "list", dict:=none,data:=.seq #[] }:=by
  refine hsb1.extBut _ _ (Nat.ne_of_lt (by rw[hC];exact Nat.lt_succ_self _)) (Heap.get?_push_of_some _ ?_)
  rw[← hH2]
  exact Heap.get?_push_size _ rfl
 have nD:H1 s2.heap.objs.size=none:=I2.bK.fresh (Nat.le_refl _)
 have nC:H1 G.objs.size=none:=I2.bK.fresh (by omega)
 obtain⟨W,⟨m0,w0⟩,turn⟩:=hJ _ nD
 have Rt:∀ b∈fp,b<s2.heap.objs.size:=λb hb=>by
  obtain⟨o,e,_⟩:=T.obj _ _ Q1 b hb
  exact Heap.lt_size e
 have ltk:∀ (x:Str) (c:Addr),cl.lookup x=some c->c<s2.heap.objs.size/\H1 c=none/\(∃ v,s2.heap.IsCell c v):=λx c e=>by
  have e':=ag.at x c e
  obtain⟨v,q⟩:=I2.cell x c e'
  exact⟨q.lt,I2.gk x c e',v,q⟩
 let X':=mw X scope cl (ts++fs) G.objs.size s2 H1 fp NX
 have okX:X'.Ok:=by
  refine⟨I2.ok.mod,hk,I2.ok.glob,I2.ok.blt,by show s2.heap.objs.size<=G.objs.size;omega,λx y c e1 e2=>I2.ok.inj x y c (ag.at x c e1) (ag.at y c e2),λx hx=>?_,λx c hf _=>(nomatch (show (false:Bool)=true from hf)),I2.ok.hd,I2.ok.frames,.inl rfl,λb hb=>⟨?_,λx c e z=>?_⟩,λb o e=>I2.bs b o e,Nat.le_trans I2.ok.AY I2.sz,λb o e hb=>?_,λb hb hz=>?_,I2.stack,λb hb=>I2.ug b hb⟩
  ·have Qa:=oR (env:=X.env) hx nc
   have hm:∃ y∈scope.names,y.1=x/\y.2=.free:=by
    have:∀ (l:List (Str×NameKind)),l.lookup x=some .free->∃ y∈l,y.1=x/\y.2=.free:=by
     intro l
     induction l with
     | nil=>intro h;simp at h
     | cons p r ih =>
      intro h
      rw[List.lookup_cons] at h
      cases q:x==p.1 with
      | true =>
       rw[q] at h
       exact⟨p,List.mem_cons_self,(by simpa using q:x=p.1).symm,Option.some.inj h⟩
      | false =>
       rw[q] at h
       obtain⟨y,hy,r1,r2⟩:=ih h
       exact⟨y,List.mem_cons_of_mem _ hy,r1,r2⟩
    exact this _ Qa
   obtain⟨y,hy,r1,r2⟩:=hm
   have:=List.all_eq_true.mp fh y hy
   rw[r2] at this
   have h':(cl.lookup y.1).isSome=true:=by simpa using this
   rw[r1] at h'
   exact Option.isSome_iff_exists.mp h'
  ·exact Nat.ne_of_lt (Nat.lt_of_lt_of_le (Rt b hb) (by show s2.heap.objs.size<=G.objs.size;omega))
  ·exact(f2 b hb).2.2.2.2.1 x c (ag.at x c e) z
  ·obtain⟨_,_,_,f3,_,_⟩:=f2 b hb
   rcases f3 with z | z
   ·exact I2.ok.tX b o e z
   ·exact absurd (Nat.lt_of_lt_of_le (Heap.lt_size (I2.ok.bs b o e).1) z) (Nat.lt_irrefl _)
  ·rcases List.mem_cons.mp (I2.tQ b hz) with z | z
   ·exact(f2 b hb).2.1 z
   ·exact(f2 b hb).2.2.1 z
 have keepB:∀ b o,s2.heap.get? b=some o->h₁.get? b=some o:=old
 have I3:Inv X' [] (fL ts js σ) (upd H1 s2.heap.objs.size (.lst [])) { s2 with heap:=h₁,toks:=s2.toks+([]:List (Str×Value)).length }:=by
  have neD:∀ b o,s2.heap.get? b=some o->b≠s2.heap.objs.size:=λb o e=>Nat.ne_of_lt (Heap.lt_size e)
  refine⟨okX,rfl,I2.bare,⟨λb o e n hb hx=>old b o e,λb o e n hb hx=>⟨o.slots,old b o e⟩,λb o e n hx=>by rw[aw (neD b o e)];exact n,λb o e hx=>⟨o,old b o e⟩,λb xs e=>?_,λb o u e=>?_,λb ps e=>?_⟩,⟨_,hns1,λi x v e1 e2 e3=>?_⟩,λx c e=>?_,?_,λx c e=>?_,λp hp=>?_,?_,?_⟩
  ·rw[aw (bY e nD)];exact e
  ·rw[aw (bY e nD)];exact e
  ·exact⟨#[],by rw[aw (bY e nD)];exact Eq.trans e (by simp)⟩
  ·
   have hlen:(ts.map (λ_=>(none:Option V))).length=ts.length:=List.length_map _
   unfold fL at e2
   by_cases Oy:i<ts.length
   ·rw[List.getElem?_append_left (by rw[hlen];exact Oy),List.getElem?_map] at e2
    cases q:ts[i]? <;> rw[q] at e2 <;> cases e2
   ·rw[List.getElem?_append_right (by rw[hlen];omega),hlen] at e2
    have e1':fs[i-ts.length]?=some x:=by
     have e1':(ts++fs)[i]?=some x:=e1
     rw[List.getElem?_append_right (by omega)] at e1'
     exact e1'
    have all:∀ {fs:List Str} {js:List Nat},g9 X scope cl fs js->∀ k:Nat,fs[k]?=some x->(js.map λj=>(σ[j]?).join)[k]?=some (some v) ->
      ∃ (j:Nat) (c:Addr),X.N[j]?=some x/\σ[j]?=some (some v)/\(X.env.kindOf x=some .cell\/X.env.kindOf x=some .free)/\X.env.cells.lookup x=some c/\cl.lookup x=some c/\scope.names.lookup x=some .free:=by
     intro fs js r
     induction r with
     | nil=>intro k e;simp at e
     | @cons y j c fs js hN hf hv hc hl r ih =>
      intro k e e'
      cases k with
      | zero =>
       have e0:y=x:=by simpa using e
       subst e0
       have Rm:(σ[j]?).join=some v:=by simpa using e'
       refine⟨j,c,hN,?_,hv,hc,hl,hf⟩
       cases q:σ[j]? with
       | none=>rw[q] at Rm;cases Rm
       | some z=>rw[q] at Rm;cases z with
        | none=>cases Rm
        | some z =>
         have:z=v:=by simpa using Rm
         rw[this]
      | succ k=>exact ih k (by simpa using e) (by simpa using e')
    obtain⟨j,c,q1,q2,q3,q4,q5,q6⟩:=all fr (i-ts.length) e1' e2
    obtain⟨m,hn,hl⟩:=I2.loc
    have vis:A0 X.env.scope x:=by
     rcases q3 with z | z
     ·exact .inr (.inl z)
     ·exact .inr (.inr z)
    obtain⟨u,ru,lk⟩:=hl j x v q1 q2 vis
    refine⟨u,ru,.inr ⟨?_,c,q5,?_⟩⟩
    ·rcases e3 with z | z | z
     ·exfalso
      have key:∀ (l:List (Str×NameKind)),(l.map λ(n,k)=>if (k==NameKind.free&&X.env.scope.kind==.function&&X.env.kindOf n==some .cell) then (n,NameKind.cell) else (n,k)).lookup x=some .local->l.lookup x=some .local:=by
       intro l
       induction l with
       | nil=>intro h;simp at h
       | cons p r ih =>
        obtain⟨n,k⟩:=p
        intro h
        rw[List.map_cons] at h
        dsimp only at h
        by_cases hc:(k==NameKind.free&&X.env.scope.kind==.function&&X.env.kindOf n==some .cell)=true
        ·rw[if_pos hc] at h
         rw[List.lookup_cons] at h ⊢
         cases q:x==n with
         | true=>rw[q] at h;cases h
         | false=>rw[q] at h;exact ih h
        ·rw[if_neg hc] at h
         rw[List.lookup_cons] at h ⊢
         cases q:x==n with
         | true=>rw[q] at h;exact h
         | false=>rw[q] at h;exact ih h
      have:=key _ z
      rw[q6] at this
      cases this
     ·exact .inl z
     ·exact .inr z
    ·rcases lk with ⟨k,_⟩ | ⟨_,c',e4,z⟩
     ·rcases q3 with z | z <;> rw[z] at k <;> cases k
     ·rw[q4] at e4
      cases e4
      obtain⟨o,ho,hd⟩:=z
      exact⟨o,old c o ho,hd⟩
  ·obtain⟨_,_,v,o,ho,hd⟩:=ltk x c e
   exact⟨v,o,old c o ho,hd⟩
  ·show upd H1 s2.heap.objs.size (.lst []) G.objs.size=none
   rw[aw (Nat.ne_of_gt (by rw[hC];exact Nat.lt_succ_self _))];exact nC
  ·obtain⟨q1,q2,_⟩:=ltk x c e
   rw[aw (Nat.ne_of_lt q1)];exact q2
  ·have Q0:p∈X.pn++NX:=by
    have:p∈(X.pn++NX)++[]:=hp
    rwa [List.append_nil] at this
   obtain⟨e,n,ne,nf,d⟩:=I2.pin p Q0
   have Oy:=Heap.lt_size e
   refine⟨old _ _ e,by rw[aw (Nat.ne_of_lt Oy)];exact n,?_,λhz=>?_,d⟩
   ·show p.1≠G.objs.size
    exact Nat.ne_of_lt (Nat.lt_trans Oy (by rw[hC];exact Nat.lt_succ_self _))
   ·rcases List.mem_cons.mp (I2.tQ _ hz) with z | z
    ·exact ne z
    ·exact nf z
  ·exact I2.bK.laid old (Nat.le_refl _) ⟨Nat.zero_le _,[],0,.nil,hacc⟩
  ·show (fL ts js σ).length=(ts++fs).length
   have frl:∀ {fs:List Str} {js:List Nat},g9 X scope cl fs js->fs.length=js.length:=by
    intro fs js r
    induction r with
    | nil=>rfl
    | cons _ _ _ _ _ _ ih=>rw[List.length_cons,List.length_cons,ih]
   unfold fL
   rw[List.length_append,List.length_append,List.length_map,List.length_map,frl fr]
 have P7:∀ {H':Hp},(∀ b∈fp,H' b=none)->∀ b∈fp,mq X' [] H' b:=λ{H'} hn b hb=>by
  obtain⟨_,f1,f3,_,f4,f5⟩:=f2 b hb
  refine⟨hn b hb,okX.Jn b hb |>.1,okX.u4 b hb,.inl hb,λx c e=>f4 x c (ag.at x c e),λp hp=>f5 p ?_⟩
  have:p∈(X.pn++NX)++[]:=hp
  rwa [List.append_nil] at this
 have fin:∀ {σ':St} {H':Hp} {s':Shared},Inv X' [] σ' H' s'->Q (.ref s2.heap.objs.size) H' ->
   compPost (model X.prog X.w) X.A X.xe use Qv (.ref s2.heap.objs.size) G.objs.size (.ok .next) s':=by
  intro σ' H' s' I4 q
  obtain⟨m,hn,_⟩:=I4.loc
  have fC:H' G.objs.size=none:=I4.free
  have Io:Inv X NX σ H' s':=by
   refine I2.CU (s':=s') (ch:=fp) I4.os ⟨λb o e n hb hx=>?_,λb o e n hb hx=>?_,λb o e n hx=>I4.base.free b o e n hx,λb o e hx=>?_,I4.base.qg,I4.base.lE,I4.base.oX⟩ I4.bK I4.bare λb hb=>?_
   ·exact I4.base.keep b o e n hb hx
   ·exact I4.base.slot b o e n hb hx
   ·exact I4.base.there b o e hx
   ·obtain⟨_,f1,_,f3,f4,f5⟩:=f2 b hb
    exact⟨f3,f1,f4,f5⟩
  have hCl:s2.heap.objs.size<=G.objs.size:=by rw[hC];exact Nat.le_succ _
  exact G4 _ H' s' _ Io q ⟨m,hn⟩ (I2.ux hCl fC)
 have loop:∀ s3:Shared,s3={ s2 with heap:=h₁,toks:=s2.toks+([]:List (Str×Value)).length } ->
   codeAny (model X.prog X.w) X.A (.compLoop (.ListComp elt [⟨tg,iter,ifs,0⟩] scope pos) 0 (.ref it) (.ref s2.heap.objs.size) (compEnvC scope cl G.objs.size X.env))
    (compPost (model X.prog X.w) X.A X.xe use Qv (.ref s2.heap.objs.size) G.objs.size) s3:=by
  rintro s3 rfl
  refine zI (λn s'=>∃ i σ' H',Inv X' [] σ' H' s'/\tn i s'.heap/\(∀ b∈fp,H' b=none)/\W i n σ' H') ?_ m0 ⟨0,_,_,I3,T.keep _ _ _ Q1 λb _ o e=>old b o e,λb hb=>?_,w0⟩
  ·rintro n s3 ⟨i,σ3,H3,I3,st3,fr3,w3⟩
   rcases turn i n σ3 H3 w3 with ⟨stop,qn⟩ | ⟨go,N,hN,step⟩
   ·refine cG (T.done X' rfl rfl rfl N4 i [] s3 σ3 H3 _ I3 (P7 fr3) st3 stop) λr s4 ⟨hr,I4⟩=>?_
    subst hr
    exact fin I4 qn
   ·refine cG (T.item X' rfl rfl rfl N4 i [] s3 σ3 H3 _ I3 (P7 fr3) st3 go) λr s4 ⟨u,hr,h4⟩=>?_
    subst hr
    refine cG h4 λ_ s5 ⟨x,H5,I5,r5,y5,st5,fr5⟩=>?_
    have I5':=I5.pinned (P7 fr5) (T.obj _ _ st5)
    refine cG (hg _ _ _ _ _ _ s5 σ3 H5 x u _ I5' r5 (step x H5 y5)) λ_ s6 ⟨σ6,H6,I6,q6⟩=>?_
    have again:∀ {σ7:St} {H7:Hp} {s7:Shared},Inv X' ([]++m9 fp s5.heap) σ7 H7 s7->N σ7 H7->∃ m,m<n/\∃ i σ' H',Inv X' [] σ' H' s7/\tn i s7.heap/\(∀ b∈fp,H' b=none)/\W i m σ' H':=λ{σ7 H7 s7} I7 n7=>by
     obtain⟨m',hm,w7⟩:=hN σ7 H7 n7
     refine⟨m',hm,i+1,σ7,H7,I7.mh,T.keep _ _ _ st5 λb hb o e=>(I7.pin (b,o) (List.mem_append_right _ (List.mem_append_right _ (jf hb e)))).1,λb hb=>?_,w7⟩
     obtain⟨o,e,d⟩:=T.obj _ _ st5 b hb
     exact(I7.pin (b,o) (List.mem_append_right _ (List.mem_append_right _ (jf hb e)))).2.1
    have tail:∀ {H7:Hp} {s7:Shared},Inv X' ([]++m9 fp s5.heap) σ6 H7 s7->(te σ6 H7 λy H4=>∃ ys,H4 s2.heap.objs.size=some (.lst ys)/\ys.length<sizeLine/\N σ6 (upd H4 s2.heap.objs.size (.lst (ys++[y])))) ->
      wpAny (model X.prog X.w) X.A (eval elt (compEnvC scope cl G.objs.size X.env)) (λx s₅=>wpAny (model X.prog X.w) X.A (call (.builtin "list.append") [.ref s2.heap.objs.size,x])
       (λ_ s₆=>∃ m,m<n/\∃ i σ' H',Inv X' [] σ' H' s₆/\tn i s₆.heap/\(∀ b∈fp,H' b=none)/\W i m σ' H') (λ_ _=>False) s₅) (λ_ _=>False) s7:=by
     intro H7 s7 I7 q7
     refine cG (he _ _ _ _ _ _ s7 σ6 H7 _ I7 q7) λuy s8 ⟨y,H8,I8,ry,ys,hy,hl,q8⟩=>?_
     refine cG (rK (X:=X') _ s8 σ6 H8 (.ref s2.heap.objs.size) [y] (.ref s2.heap.objs.size) [uy] (λ_ H9=>N σ6 H9) I8 rfl (.cons ry .nil) ⟨_,ys,y,rfl,rfl,hy,hl,q8⟩) λ_ s9 ⟨_,H9,I9,_,q9⟩=>?_
     exact again I9 q9
    cases ifs with
    | nil =>
     cases tt with
     | none=>exact wpAny_tests_nil (tail I6 q6)
     | some t=>exact(ht 0 s2 H1 [] []).elim
    | cons c r =>
     cases r with
     | nil =>
      cases tt with
      | none=>exact(ht 0 s2 H1 [] []).elim
      | some t =>
       refine wpAny_tests_one (cG (ht G.objs.size s2 H1 fp NX _ s6 σ6 H6 _ I6 q6) λb s7 ⟨H7,I7,q7⟩=>?_)
       cases b with
       | true =>
        rw[if_pos rfl] at q7 ⊢
        exact tail I7 q7
       | false =>
        rw[if_neg Bool.false_ne_true] at q7 ⊢
        exact again I7 q7
     | cons _ _=>cases tt <;> exact(ht 0 s2 H1 [] []).elim
  ·rw[aw (Nat.ne_of_lt (Rt b hb))]
   exact(f2 b hb).1
 exact codeAny_compStart_list (loop _ rfl) (T.self _ 0 _ _ _ (T.keep _ _ _ Q1 λb _ o e=>old b o e) (loop _ rfl))
theorem Inv.other(I:Inv X NX σ H s)(f:mq X NX H C)(hs:Heap.SameBut C s.heap h'):Inv X NX σ H { s with heap:=h' }:=by
 obtain⟨f0,f1,_,f3,f4,f5⟩:=f
 refine I.CU (s':={ s with heap:=h' }) (ch:=[C]) rfl ⟨λb o e n hb hx=>?_,λb o e n hb hx=>?_,λb o e n hx=>n,λb o e hx=>?_,λ_ _ q=>q,λ_ _ _ q=>q,λb ps q=>⟨#[],by rw[q];simp⟩⟩ (λb u e=>?_) I.bare λb hb=>?_
 ·exact(hs.2 b (λz=>hx (by rw[z];exact List.mem_singleton.mpr rfl))).trans e
 ·exact⟨o.slots,(hs.2 b (λz=>hx (by rw[z];exact List.mem_singleton.mpr rfl))).trans e⟩
 ·exact⟨o,(hs.2 b (λz=>hx (by rw[z];exact List.mem_singleton.mpr rfl))).trans e⟩
 ·refine(I.bK b u e).mf (λc v hc q=>(hs.2 c ?_).trans q) (λ_ q=>q) λ_ _ q=>q
  rcases hc with z | z
  ·rw[z];exact bY e f0
  ·exact bY z f0
 ·rw[List.mem_singleton.mp hb]
  exact⟨f3,f1,f4,f5⟩
theorem yn{cl:List (Str×Addr)}{pos:Pos}{wi:TI}{g:TG}{fs:List Str}(N4:X.calm=true)
  (Oc:closureFor scope X.env=pure cl) (hk:scope.kind=.function) (nc:eQ scope.names=true) (lo:fK scope.names=true) (fh:fN cl scope.names=true) (ag:dP X cl) (fr:g9 X scope cl fs js)
  (hi:PI X tg iter wi) (hg:∀ C s₀ H₀ ex NX,PG (mw X scope cl (ts++fs) C s₀ H₀ ex NX) tg g)
  (ht:∀ C s₀ H₀ ex NX,match ifs,tt with | [],none=>True | [c],some t=>PT (mw X scope cl (ts++fs) C s₀ H₀ ex NX) c t | _,_=>False)
  (he:∀ C s₀ H₀ ex NX,PE (mw X scope cl (ts++fs) C s₀ H₀ ex NX) elt te)
  (hs:autoParam (∀ x,foldedSetIterable iter X.env x=pure x) aI._auto_1) :
  PE X (.ListComp elt [⟨tg,iter,ifs,0⟩] scope pos) (ya wi g tt te ts js):=by
 intro NX s σ H Q I h
 rw[eval_ListComp]
 refine qy N4 Oc hk nc lo fh ag fr hi hg ht he hs I h none _ λD H' s' C Io q hm f=>?_
 obtain⟨m,hn⟩:=hm
 exact⟨m,hn,λh' QR=>⟨.ref D,H',Io.other f QR,rfl,q⟩⟩
def wu(wi:TI)(g:TG)(te:TE)(ts:List Str)(js:List Nat):TE:=fun σ H Q=>wi σ H λJ H1=>∀ D,H1 D=none ->
 ∃ W:Nat->Nat->St->Hp->Prop,(∃ m,W 0 m (fL ts js σ) (upd H1 D (.lst [])))/\∀ i m σ' H',W i m σ' H' ->
  (J.stop i H'/\Q (.ref D) H')\/(J.go i H'/\∃ N:St->Hp->Prop,(∀ σ'' H'',N σ'' H''->∃ m',m'<m/\W (i+1) m' σ'' H'') ∧
   ∀ x H2,J.tR i H' x H2->g x σ' H2 fun σ2 H3=>te σ2 H3 λy H4=>∃ ys,H4 D=some (.lst ys)/\ys.length<sizeLine/\N σ2 (upd H4 D (.lst (ys++[y]))))
def wW(wi:TI)(g:TG)(t:TT)(te:TE)(ts:List Str)(js:List Nat):TE:=fun σ H Q=>wi σ H λJ H1=>∀ D,H1 D=none ->
 ∃ W:Nat->Nat->St->Hp->Prop,(∃ m,W 0 m (fL ts js σ) (upd H1 D (.lst [])))/\∀ i m σ' H',W i m σ' H' ->
  (J.stop i H'/\Q (.ref D) H')\/(J.go i H'/\∃ N:St->Hp->Prop,(∀ σ'' H'',N σ'' H''->∃ m',m'<m/\W (i+1) m' σ'' H'') ∧
   ∀ x H2,J.tR i H' x H2->g x σ' H2 fun σ2 H3=>t σ2 H3 λb Rk=>if b=true then te σ2 Rk λy H4=>∃ ys,H4 D=some (.lst ys)/\ys.length<sizeLine/\N σ2 (upd H4 D (.lst (ys++[y]))) else N σ2 Rk)
theorem Cs{cl:List (Str×Addr)}{pos:Pos}{wi:TI}{g:TG}{fs:List Str}(N4:X.calm=true)
  (Oc:closureFor scope X.env=pure cl) (hk:scope.kind=.function) (nc:eQ scope.names=true) (lo:fK scope.names=true) (fh:fN cl scope.names=true) (ag:dP X cl) (fr:g9 X scope cl fs js)
  (hi:PI X tg iter wi) (hg:∀ C s₀ H₀ ex NX,PG (mw X scope cl (ts++fs) C s₀ H₀ ex NX) tg g) (he:∀ C s₀ H₀ ex NX,PE (mw X scope cl (ts++fs) C s₀ H₀ ex NX) elt te)
  (hs:autoParam (∀ x,foldedSetIterable iter X.env x=pure x) aI._auto_1):PE X (.ListComp elt [⟨tg,iter,[],0⟩] scope pos) (wu wi g te ts js) :=
 yn (tt:=none) N4 Oc hk nc lo fh ag fr hi hg (λ_ _ _ _ _=>trivial) he hs
variable{c:Expr}
theorem CC{cl:List (Str×Addr)}{pos:Pos}{wi:TI}{g:TG}{t:TT}{fs:List Str}(N4:X.calm=true)
  (Oc:closureFor scope X.env=pure cl) (hk:scope.kind=.function) (nc:eQ scope.names=true) (lo:fK scope.names=true) (fh:fN cl scope.names=true) (ag:dP X cl) (fr:g9 X scope cl fs js)
  (hi:PI X tg iter wi) (hg:∀ C s₀ H₀ ex NX,PG (mw X scope cl (ts++fs) C s₀ H₀ ex NX) tg g) (ht:∀ C s₀ H₀ ex NX,PT (mw X scope cl (ts++fs) C s₀ H₀ ex NX) c t) (he:∀ C s₀ H₀ ex NX,PE (mw X scope cl (ts++fs) C s₀ H₀ ex NX) elt te)
  (hs:autoParam (∀ x,foldedSetIterable iter X.env x=pure x) aI._auto_1):PE X (.ListComp elt [⟨tg,iter,[c],0⟩] scope pos) (wW wi g t te ts js) :=
 yn (tt:=some t) N4 Oc hk nc lo fh ag fr hi hg ht he hs
def gj(h:Heap)(b:Bool)(l:Addr)(xs:Array Value):Prop:=match b with
 | true=>h.IsList l xs
 | false=>h.IsTuple l xs
def eI(h:Heap)(b:Bool)(it l:Addr)(i:Nat):Prop:=match b with
 | true=>h.IsListIter it l i
 | false=>h.IsTupleIter it l i
variable{l:Addr}{b:Bool}{h:Heap}
theorem gj.at{xs:Array Value}(x:gj h b l xs)(k:∀ o,h.get? l=some o->h'.get? l=some o):gj h' b l xs:=by
 cases b with
 | true=>obtain⟨o,ho,r⟩:=(show h.IsList l xs from x);exact(show h'.IsList l xs from ⟨o,k o ho,r⟩)
 | false=>obtain⟨o,ho,r⟩:=(show h.IsTuple l xs from x);exact(show h'.IsTuple l xs from ⟨o,k o ho,r⟩)
variable{i:Nat}{it:Addr}
theorem eI.at(x:eI h b it l i)(k:∀ o,h.get? it=some o->h'.get? it=some o):eI h' b it l i:=by
 cases b with
 | true=>obtain⟨o,ho,r⟩:=(show h.IsListIter it l i from x);exact(show h'.IsListIter it l i from ⟨o,k o ho,r⟩)
 | false=>obtain⟨o,ho,r⟩:=(show h.IsTupleIter it l i from x);exact(show h'.IsTupleIter it l i from ⟨o,k o ho,r⟩)
theorem eI.obj(x:eI h b it l i):∃ o vs,h.get? it=some o/\o.data=.fields vs:=by
 cases b with
 | true=>obtain⟨o,ho,_,hd⟩:=(show h.IsListIter it l i from x);exact⟨o,_,ho,hd⟩
 | false=>obtain⟨o,ho,_,hd⟩:=(show h.IsTupleIter it l i from x);exact⟨o,_,ho,hd⟩
theorem gj.obj{xs:Array Value}(x:gj h b l xs):∃ o n,h.get? l=some o/\o.data=.seq xs n:=by
 cases b with
 | true=>obtain⟨o,ho,_,n,hd⟩:=(show h.IsList l xs from x);exact⟨o,n,ho,hd⟩
 | false=>obtain⟨o,ho,_,n,hd⟩:=(show h.IsTuple l xs from x);exact⟨o,n,ho,hd⟩
variable{Q:Value->Shared->Prop}{items:Array Value}
variable{ys:Array Value}{k1 k2:Nat}{l1 l2:Addr}
section
variable{E:Value->Shared->Prop}
theorem ip{t:Addr}{x:Value}(hit:s.heap.IsTupleIter it t i)
  (ht:s.heap.IsTuple t items) (hx:items[i]?=some x)
  (hQ:∀ h',h'.IsTupleIter it t (i+1)->Heap.SameBut it s.heap h'->Q x { s with heap:=h' }) :
  wpAny (model prog w) A (Builtin.SmallTypes.nextOf (.ref it)) Q E s:=by
 obtain⟨o,ho,hc,hd⟩:=id hit
 obtain⟨ol,hol,_,nl,hdl⟩:=ht
 unfold Builtin.SmallTypes.nextOf
 refine wpAny_bind (wpAny_callSpecial?_slot (name:=Str.ofString "__next__") hit.typeIs F.slot_tuple_iterator_next
  (wpAny_call_entry F.slot_tuple_iterator_next hit.typeIs F.entry_tuple_iterator_next ?_ (F.args_tuple_iterator_next_1 _)))
 show wpAny _ _ (field (.ref it) 0 >>= _) _ _ s
 refine wpAny_bind (wpAny_field ho hd (x:=.ref t) rfl ?_)
 show wpAny _ _ (if (Value.ref t==Value.none)=true then _ else _) _ _ s
 rw[if_neg (show ¬ ((Value.ref t==Value.none)=true) from Bool.false_ne_true)]
 show wpAny _ _ (field (.ref it) 1 >>= _) _ _ s
 refine wpAny_bind (wpAny_field ho hd (x:=.int i 0) rfl ?_)
 show wpAny _ _ (seqItems? (.ref t) >>= _) _ _ s
 refine wpAny_bind (wpAny_seqItems hol hdl ?_)
 simp only[Int.toNat_natCast,hx]
 refine wpAny_bind (wpAny_setField ho hd (by simp) (wpAny_pure ⟨x,rfl,wpAny_pure (hQ _ ?_ (Heap.SameBut.update ..))⟩))
 exact⟨_,Heap.get?_update_self _ ho (Obj.isFreed_of_fields (Obj.data_mapFields hd _)),(Obj.cls_mapFields ..).trans hc,by
  rw[Obj.data_mapFields hd];simp[rawInt]⟩
theorem ff{t:Addr}(hh:A.handled=none)
  (hit:s.heap.IsTupleIter it t i) (ht:s.heap.IsTuple t items) (hx:items[i]?=none)
  (hE:∀ h' e,Heap.ExtBut it s.heap h'->(∃ o,h'.get? e=some o/\o.cls=.type "StopIteration")->E (.ref e) { s with heap:=h' }) :
  wpAny (model prog w) A (Builtin.SmallTypes.nextOf (.ref it)) Q E s:=by
 obtain⟨o,ho,hc,hd⟩:=id hit
 obtain⟨ol,hol,_,nl,hdl⟩:=ht
 unfold Builtin.SmallTypes.nextOf
 refine wpAny_bind (wpAny_callSpecial?_slot (name:=Str.ofString "__next__") hit.typeIs F.slot_tuple_iterator_next
  (wpAny_call_entry F.slot_tuple_iterator_next hit.typeIs F.entry_tuple_iterator_next ?_ (F.args_tuple_iterator_next_1 _)))
 show wpAny _ _ (field (.ref it) 0 >>= _) _ _ s
 refine wpAny_bind (wpAny_field ho hd (x:=.ref t) rfl ?_)
 show wpAny _ _ (if (Value.ref t==Value.none)=true then _ else _) _ _ s
 rw[if_neg (show ¬ ((Value.ref t==Value.none)=true) from Bool.false_ne_true)]
 show wpAny _ _ (field (.ref it) 1 >>= _) _ _ s
 refine wpAny_bind (wpAny_field ho hd (x:=.int i 0) rfl ?_)
 show wpAny _ _ (seqItems? (.ref t) >>= _) _ _ s
 refine wpAny_bind (wpAny_seqItems hol hdl ?_)
 simp only[Int.toNat_natCast,hx]
 refine wpAny_bind (wpAny_rule (wpAny_bind (wpAny_setField ho hd (by simp) ?_)))
 show wpAny _ _ (newExc (.type "StopIteration") [] >>= _) _ _ _
 refine wpAny_bind ?_
 simp only[newExc,newTuple]
 refine wpAny_bind (wpAny_newObj_type ?_ (by size_fits))
 refine wpAny_bind (m:=firstArgMember _ _) (wpAny_of_eq (a:=Value.none) (by first | rfl | (simp only[firstArgMember];rfl)) ?_)
 refine wpAny_newObj_type ?_ (by size_fits)
 simp only[raiseNew]
 refine wpAny_bind (wpAny_handled ?_)
 first | rw[show A.in1.handled=none from hh] | rw[hh]
 refine wpAny_bind (wpAny_pure (wpAny_throw ?_))
 exact hE _ _ (((Heap.SameBut.update ..).extBut.push _).push _) ⟨_,Heap.get?_push_size _ rfl,rfl⟩
theorem cS{x:Value}(hit:eI s.heap b it l i)(hl:gj s.heap b l items)(hx:items[i]?=some x)
  (hQ:∀ h',eI h' b it l (i+1)->Heap.SameBut it s.heap h'->Q x { s with heap:=h' }):wpAny (model prog w) A (Builtin.SmallTypes.nextOf (.ref it)) Q E s:=by
 cases b with
 | true=>exact wpAny_nextOf_list_item hit hl hx hQ
 | false=>exact ip hit hl hx hQ
theorem hU(hh:A.handled=none)(hit:eI s.heap b it l i)(hl:gj s.heap b l items)(hx:items[i]?=none)
  (hE:∀ h' e,Heap.ExtBut it s.heap h'->(∃ o,h'.get? e=some o/\o.cls=.type "StopIteration")->E (.ref e) { s with heap:=h' }):wpAny (model prog w) A (Builtin.SmallTypes.nextOf (.ref it)) Q E s:=by
 cases b with
 | true=>exact wpAny_nextOf_list_end hh hit hl hx hE
 | false=>exact ff hh hit hl hx hE
theorem y0{b1 b2:Bool}{z TI TO i1 i2:Addr}{xs:Array Value}{x y a b:Value}(D:ZipApart z TI TO i1 i2 l1 l2)
  (hz:IsZip s.heap z TI TO .none) (OC:IsPair s.heap TI (.ref i1) (.ref i2)) (OE:IsPair s.heap TO a b)
  (h1:eI s.heap b1 i1 l1 k1) (h2:eI s.heap b2 i2 l2 k2) (Pj:gj s.heap b1 l1 xs) (Pl:gj s.heap b2 l2 ys) (hx:xs[k1]?=some x) (hy:ys[k2]?=some y)
  (hQ:∀ h',IsZip h' z TI TO (rawInt s.heap.objs.size)->IsPair h' TO x y->eI h' b1 i1 l1 (k1+1)->eI h' b2 i2 l2 (k2+1)->IsPair h' s.heap.objs.size x y->h'.objs.size=s.heap.objs.size+1 ->
   (∀ c o,c≠z->c≠TO->c≠i1->c≠i2->s.heap.get? c=some o->h'.get? c=some o)->Q (.ref s.heap.objs.size) { s with heap:=h' }) :
  wpAny (model prog w) A (Builtin.«zip.__next__» ⟨[.ref z],[]⟩) (λfin s'=>∃ v,fin=.done (.ret v)/\Q v s') E s:=by
 show wpAny _ _ (field (.ref z) 2 >>= _) _ _ _
 refine wpAny_bind (wpAny_field hz rfl (x:=.bool false) rfl ?_)
 show wpAny _ _ (field (.ref z) 3 >>= _) _ _ _
 refine wpAny_bind (wpAny_field hz rfl (x:=.ref TI) rfl ?_)
 refine wpAny_bind (wpAny_seqItems OC rfl ?_)
 show wpAny _ _ (Builtin.SmallTypes.ownedTupleIsFree (.ref z) >>= _) _ _ _
 refine wpAny_bind ?_
 unfold Builtin.SmallTypes.ownedTupleIsFree
 refine wpAny_bind (wpAny_field hz rfl (x:=.none) rfl (wpAny_pure ?_))
 simp only[if_true]
 refine wpAny_bind (wpAny_rule ?_)
 refine wpAny_bind (wpAny_field hz rfl (x:=.ref TO) rfl ?_)
 refine wpAny_bind (wpAny_setField_rec hz (by simp) λh₁ hz1 hs1=>?_)
 replace hz1:IsZip h₁ z TI TO .ellipsis:=hz1
 refine wpAny_bind ?_
 simp only[List.zipIdx_cons,List.zipIdx_nil,List.forIn_cons,List.forIn_nil]
 refine wpAny_bind (wpAny_bind (wpAny_onRaise ?_))
 show wpAny _ _ (Builtin.SmallTypes.nextOf (.ref i1) >>= _) _ _ _
 refine wpAny_bind (cS (h1.at λo e=>hs1.extBut _ _ D.i1z e) (Pj.at λo e=>hs1.extBut _ _ D.l1z e) hx λh₂ h1₂ hs2=>wpAny_pure ?_)
 have hTO2:IsPair h₂ TO a b:=hs2.extBut _ _ D.TOi1 (hs1.extBut _ _ D.TOz OE)
 refine wpAny_bind (wpAny_seqItems hTO2 rfl ?_)
 refine wpAny_bind (wpAny_updateSeq_pair hTO2 λh₃ hTO3 hs3=>?_)
 replace hTO3:IsPair h₃ TO x b:=hTO3
 refine wpAny_bind (wpAny_letGo (wpAny_pure ?_))
 refine wpAny_bind (wpAny_bind (wpAny_onRaise ?_))
 show wpAny _ _ (Builtin.SmallTypes.nextOf (.ref i2) >>= _) _ _ _
 refine wpAny_bind (cS (h2.at λo e=>hs3.extBut _ _ D.TOi2.symm (hs2.extBut _ _ D.i12.symm (hs1.extBut _ _ D.i2z e)))
  (Pl.at λo e=>hs3.extBut _ _ D.l2TO (hs2.extBut _ _ D.l2i1 (hs1.extBut _ _ D.l2z e))) hy λh₄ h2₄ hs4=>wpAny_pure ?_)
 have hTO4:IsPair h₄ TO x b:=hs4.extBut _ _ D.TOi2 hTO3
 refine wpAny_bind (wpAny_seqItems hTO4 rfl ?_)
 refine wpAny_bind (wpAny_updateSeq_pair hTO4 λh₅ hTO5 hs5=>?_)
 replace hTO5:IsPair h₅ TO x y:=hTO5
 refine wpAny_bind (wpAny_letGo (wpAny_pure (wpAny_pure ?_)))
 refine wpAny_bind (wpAny_seqItems hTO5 rfl ?_)
 refine wpAny_bind (wpAny_newTuple ?_)
 have Pt:h₅.objs.size=s.heap.objs.size:=by rw[hs5.1,hs4.1,hs3.1,hs2.1,hs1.1]
 have hz5:IsZip h₅ z TI TO .ellipsis:=hs5.extBut _ _ D.TOz.symm (hs4.extBut _ _ D.i2z.symm (hs3.extBut _ _ D.TOz.symm (hs2.extBut _ _ D.i1z.symm hz1)))
 have hk5:∀ c o,c≠z->c≠TO->c≠i1->c≠i2->s.heap.get? c=some o->h₅.get? c=some o:=λc o c1 c2 c3 c4 e =>
  hs5.extBut _ _ c2 (hs4.extBut _ _ c4 (hs3.extBut _ _ c2 (hs2.extBut _ _ c3 (hs1.extBut _ _ c1 e))))
 have h1₅:eI h₅ b1 i1 l1 (k1+1):=h1₂.at λo e=>hs5.extBut _ _ D.TOi1.symm (hs4.extBut _ _ D.i12 (hs3.extBut _ _ D.TOi1.symm e))
 have h2₅:eI h₅ b2 i2 l2 (k2+1):=h2₄.at λo e=>hs5.extBut _ _ D.TOi2.symm e
 have Qz:z<h₅.objs.size:=Heap.lt_size hz5
 show wpAny _ _ (Builtin.SmallTypes.ownedTupleHandOut (.ref z) (.ref h₅.objs.size) >>= _) _ _ _
 refine wpAny_bind ?_
 unfold Builtin.SmallTypes.ownedTupleHandOut
 have hz6:IsZip (h₅.push { cls:=.type "tuple", data:=.seq #[x,y] }) z TI TO .ellipsis:=Heap.get?_push_of_some _ hz5
 refine wpAny_bind (wpAny_setField_rec hz6 (by simp) λh₇ hz7 hs7=>?_)
 replace hz7:IsZip h₇ z TI TO (rawInt h₅.objs.size):=hz7
 refine wpAny_setField_rec hz7 (by simp) λh₈ hz₈ hs8=>?_
 replace hz₈:IsZip h₈ z TI TO (rawInt h₅.objs.size):=hz₈
 have up:∀ c o,c≠z->h₅.get? c=some o->h₈.get? c=some o:=λc o c1 e=>hs8.extBut _ _ c1 (hs7.extBut _ _ c1 (Heap.get?_push_of_some _ e))
 have hT8:IsPair h₈ h₅.objs.size x y:=hs8.extBut _ _ (Nat.ne_of_gt Qz) (hs7.extBut _ _ (Nat.ne_of_gt Qz) (Heap.get?_push_size _ rfl))
 have hz8:h₈.objs.size=h₅.objs.size+1:=by rw[hs8.1,hs7.1,Heap.size_push]
 rw[Pt] at hz₈ hT8 hz8
 refine wpAny_pure ⟨_,rfl,?_⟩
 show Q (.ref h₅.objs.size) _
 rw[Pt]
 exact hQ h₈ hz₈ (up _ _ D.TOz hTO5) (h1₅.at λo e=>up _ o D.i1z e) (h2₅.at λo e=>up _ o D.i2z e) hT8 hz8 λc o c1 c2 c3 c4 e=>up c o c1 (hk5 c o c1 c2 c3 c4 e)
theorem C1{b1 b2:Bool}{z TI TO i1 i2:Addr}{xs:Array Value}{a b:Value}{Q:Fin->Shared->Prop}(hh:A.handled=none)(D:ZipApart z TI TO i1 i2 l1 l2)
  (hz:IsZip s.heap z TI TO .none) (OC:IsPair s.heap TI (.ref i1) (.ref i2)) (OE:IsPair s.heap TO a b)
  (h1:eI s.heap b1 i1 l1 k1) (h2:eI s.heap b2 i2 l2 k2) (Pj:gj s.heap b1 l1 xs) (Pl:gj s.heap b2 l2 ys) (Pq:xs[k1]?=none\/ys[k2]?=none)
  (hE:∀ h' e,(∀ c o,c≠z->c≠TO->c≠i1->c≠i2->s.heap.get? c=some o->h'.get? c=some o)->(∃ o,h'.get? e=some o/\o.cls=.type "StopIteration")->E (.ref e) { s with heap:=h' }) :
  wpAny (model prog w) A (Builtin.«zip.__next__» ⟨[.ref z],[]⟩) Q E s:=by
 show wpAny _ _ (field (.ref z) 2 >>= _) _ _ _
 refine wpAny_bind (wpAny_field hz rfl (x:=.bool false) rfl ?_)
 show wpAny _ _ (field (.ref z) 3 >>= _) _ _ _
 refine wpAny_bind (wpAny_field hz rfl (x:=.ref TI) rfl ?_)
 refine wpAny_bind (wpAny_seqItems OC rfl ?_)
 show wpAny _ _ (Builtin.SmallTypes.ownedTupleIsFree (.ref z) >>= _) _ _ _
 refine wpAny_bind ?_
 unfold Builtin.SmallTypes.ownedTupleIsFree
 refine wpAny_bind (wpAny_field hz rfl (x:=.none) rfl (wpAny_pure ?_))
 simp only[if_true]
 refine wpAny_bind (wpAny_rule ?_)
 refine wpAny_bind (wpAny_field hz rfl (x:=.ref TO) rfl ?_)
 refine wpAny_bind (wpAny_setField_rec hz (by simp) λh₁ hz1 hs1=>?_)
 replace hz1:IsZip h₁ z TI TO .ellipsis:=hz1
 refine wpAny_bind ?_
 simp only[List.zipIdx_cons,List.zipIdx_nil,List.forIn_cons,List.forIn_nil]
 refine wpAny_bind (wpAny_bind (wpAny_onRaise ?_))
 show wpAny _ _ (Builtin.SmallTypes.nextOf (.ref i1) >>= _) _ _ _
 cases hx:xs[k1]? with
 | none =>
  refine wpAny_bind (hU hh (h1.at λo e=>hs1.extBut _ _ D.i1z e) (Pj.at λo e=>hs1.extBut _ _ D.l1z e) hx λh₂ e hs2 he=>?_)
  obtain⟨oe,Pd,P9⟩:=he
  have hz2:IsZip h₂ z TI TO .ellipsis:=hs2 _ _ D.i1z.symm hz1
  have QP:e≠z:=λx=>by subst x;rw[hz2] at Pd;cases Pd;simp at P9
  refine wpAny_setField_rec hz2 (by simp) λh₃ _ hs3=>hE h₃ e (λc o c1 _ c3 _ x=>hs3.extBut _ _ c1 (hs2 _ _ c3 (hs1.extBut _ _ c1 x))) ⟨oe,hs3.extBut _ _ QP Pd,P9⟩
 | some x =>
  have hy:ys[k2]?=none:=by rcases Pq with h | h;rw[hx] at h;cases h;exact h
  refine wpAny_bind (cS (h1.at λo e=>hs1.extBut _ _ D.i1z e) (Pj.at λo e=>hs1.extBut _ _ D.l1z e) hx λh₂ h1₂ hs2=>wpAny_pure ?_)
  have hTO2:IsPair h₂ TO a b:=hs2.extBut _ _ D.TOi1 (hs1.extBut _ _ D.TOz OE)
  refine wpAny_bind (wpAny_seqItems hTO2 rfl ?_)
  refine wpAny_bind (wpAny_updateSeq_pair hTO2 λh₃ hTO3 hs3=>?_)
  refine wpAny_bind (wpAny_letGo (wpAny_pure ?_))
  refine wpAny_bind (wpAny_bind (wpAny_onRaise ?_))
  show wpAny _ _ (Builtin.SmallTypes.nextOf (.ref i2) >>= _) _ _ _
  refine wpAny_bind (hU hh (h2.at λo e=>hs3.extBut _ _ D.TOi2.symm (hs2.extBut _ _ D.i12.symm (hs1.extBut _ _ D.i2z e)))
   (Pl.at λo e=>hs3.extBut _ _ D.l2TO (hs2.extBut _ _ D.l2i1 (hs1.extBut _ _ D.l2z e))) hy λh₄ e hs4 he=>?_)
  obtain⟨oe,Pd,P9⟩:=he
  have hz4:IsZip h₄ z TI TO .ellipsis:=hs4 _ _ D.i2z.symm (hs3.extBut _ _ D.TOz.symm (hs2.extBut _ _ D.i1z.symm hz1))
  have QP:e≠z:=λx=>by subst x;rw[hz4] at Pd;cases Pd;simp at P9
  refine wpAny_setField_rec hz4 (by simp) λh₅ _ hs5=>hE h₅ e (λc o c1 c2 c3 c4 x=>hs5.extBut _ _ c1 (hs4 _ _ c4 (hs3.extBut _ _ c2 (hs2.extBut _ _ c3 (hs1.extBut _ _ c1 x))))) ⟨oe,hs5.extBut _ _ QP Pd,P9⟩
theorem uJ(hl:gj s.heap b l items)
  (h:∀ o,o=({ cls:=.type (if b then "list_iterator" else "tuple_iterator"),data:=.fields #[.ref l,.int 0 0] }:Obj)->Q (.ref s.heap.objs.size) { s with heap:=s.heap.push o }):wpAny (model prog w) A (pyIter (.ref l)) Q E s:=by
 cases b with
 | true=>exact wpAny_pyIter_list hl (h _ rfl)
 | false=>exact wpAny_pyIter_tuple hl (h _ rfl)
theorem mX{b1 b2:Bool}{z TI TO i1 i2:Addr}{xs:Array Value}{x y a b:Value}{Q:Option Value->Shared->Prop}(D:ZipApart z TI TO i1 i2 l1 l2)
  (hz:IsZip s.heap z TI TO .none) (OC:IsPair s.heap TI (.ref i1) (.ref i2)) (OE:IsPair s.heap TO a b)
  (h1:eI s.heap b1 i1 l1 k1) (h2:eI s.heap b2 i2 l2 k2) (Pj:gj s.heap b1 l1 xs) (Pl:gj s.heap b2 l2 ys) (hx:xs[k1]?=some x) (hy:ys[k2]?=some y)
  (hQ:∀ h',IsZip h' z TI TO (rawInt s.heap.objs.size)->IsPair h' TO x y->eI h' b1 i1 l1 (k1+1)->eI h' b2 i2 l2 (k2+1)->IsPair h' s.heap.objs.size x y->h'.objs.size=s.heap.objs.size+1 ->
   (∀ c o,c≠z->c≠TO->c≠i1->c≠i2->s.heap.get? c=some o->h'.get? c=some o)->Q (some (.ref s.heap.objs.size)) { s with heap:=h' }) :
  wpAny (model prog w) A (pyNext (.ref z)) Q E s:=by
 have hT:s.TypeIs (.ref z) "zip" := ⟨_,hz,rfl⟩
 unfold pyNext
 exact wpAny_bind (wpAny_attempt (wpAny_callSpecial?_slot (name:=Str.ofString "__next__") hT F.slot_zip_next
  (wpAny_call_entry F.slot_zip_next hT F.entry_zip_next
   (y0 D hz OC OE h1 h2 Pj Pl hx hy λh' a1 a2 a3 a4 a5 a6 a7=>wpAny_pure (hQ h' a1 a2 a3 a4 a5 a6 a7)) (F.args_zip_next_1 _))))
theorem nM{b1 b2:Bool}{z TI TO i1 i2:Addr}{xs:Array Value}{a b:Value}{Q:Option Value->Shared->Prop}(hh:A.handled=none)(D:ZipApart z TI TO i1 i2 l1 l2)
  (hz:IsZip s.heap z TI TO .none) (OC:IsPair s.heap TI (.ref i1) (.ref i2)) (OE:IsPair s.heap TO a b)
  (h1:eI s.heap b1 i1 l1 k1) (h2:eI s.heap b2 i2 l2 k2) (Pj:gj s.heap b1 l1 xs) (Pl:gj s.heap b2 l2 ys) (Pq:xs[k1]?=none\/ys[k2]?=none)
  (hQ:∀ h',(∀ c o,c≠z->c≠TO->c≠i1->c≠i2->s.heap.get? c=some o->h'.get? c=some o)->Q none { s with heap:=h' }):wpAny (model prog w) A (pyNext (.ref z)) Q E s:=by
 have hT:s.TypeIs (.ref z) "zip" := ⟨_,hz,rfl⟩
 unfold pyNext
 refine wpAny_bind (wpAny_attempt (wpAny_callSpecial?_slot (name:=Str.ofString "__next__") hT F.slot_zip_next
  (wpAny_call_entry F.slot_zip_next hT F.entry_zip_next (C1 hh D hz OC OE h1 h2 Pj Pl Pq λh' e hk he=>?_) (F.args_zip_next_1 _))))
 obtain⟨o,ho,hc⟩:=he
 refine wpAny_bind (wpAny_isInstance (T := "StopIteration") (b:=true) ⟨o,ho,hc⟩ isSubtype_stop ?_)
 exact wpAny_pure (hQ _ hk)
abbrev Fc(b:Bool)(l:Addr):Obj:={ cls:=.type (if b then "list_iterator" else "tuple_iterator"),data:=.fields #[.ref l,.int 0 0] }
abbrev HI(h:Heap)(b1:Bool)(l1:Addr):Heap:=h.push (Fc b1 l1)
abbrev F5(h:Heap)(b1 b2:Bool)(l1 l2:Addr):Heap:=(HI h b1 l1).push (Fc b2 l2)
abbrev Lw(h:Heap)(b1 b2:Bool)(l1 l2:Addr):Heap:=(F5 h b1 b2 l1 l2).push { cls:=.type "tuple", data:=.seq #[.ref h.objs.size,.ref (HI h b1 l1).objs.size] }
abbrev Lx(h:Heap)(b1 b2:Bool)(l1 l2:Addr):Heap:=(Lw h b1 b2 l1 l2).push { cls:=.type "tuple", data:=.seq #[.none,.none] }
abbrev Jk(h:Heap)(b1 b2:Bool)(l1 l2:Addr):Heap:=(Lx h b1 b2 l1 l2).push { cls:=.type "zip", data:=.fields #[.none,.bool false,.bool false,.ref (F5 h b1 b2 l1 l2).objs.size,.ref (Lw h b1 b2 l1 l2).objs.size] }
end
theorem fZ{E:Value->Shared->Prop}(hl:gj s.heap b l items)
  (h:Q (.ref s.heap.objs.size) { s with heap:=s.heap.push (Fc b l) }):wpAny (model prog w) A (pyIter (.ref l)) Q E s:=uJ hl λo e=>by subst e;exact h
theorem gj.push{h:Heap}{b:Bool}{l:Addr}{xs:Array Value}(x:gj h b l xs)(o:Obj):gj (h.push o) b l xs:=x.at λ_ e=>Heap.get?_push_of_some _ e
theorem p6(b1 b2:Bool)(l1 l2:Addr)(xs ys:Array Value) :
  Meets (Builtin.«zip.__new__» ⟨[.type "zip", .ref l1,.ref l2],[]⟩) (λ_ R s=>gj s.heap b1 l1 xs/\gj s.heap b2 l2 ys ∧
   R (.ok (.ret (.ref (Lx s.heap b1 b2 l1 l2).objs.size))) { s with heap:=Jk s.heap b1 b2 l1 l2 }) :=
 .of_wp λprog w A R s h=>by
  obtain⟨hp,g,d,tk,os⟩:=s;obtain⟨Pj,Pl,h⟩:=h
  have RC:=sub_zip
  have hL1:gj (Shared.heap ⟨hp,g,d,tk,os⟩) b1 l1 xs:=Pj
  have hL2:gj (Shared.heap ⟨hp.push (Fc b1 l1),g,d,tk,os⟩) b2 l2 ys:=gj.push Pl _
  wp_walk using fZ hL1,fZ hL2
  exact⟨_,rfl,h⟩
section
variable{E:Value->Shared->Prop}
theorem eI.new(h:Heap)(b:Bool)(it l:Addr)(e:h.get? it=some (Fc b l)):eI h b it l 0:=by
 cases b with
 | true=>exact⟨_,e,rfl,rfl⟩
 | false=>exact⟨_,e,rfl,rfl⟩
theorem zj{b1 b2:Bool}{xs:Array Value}(Pj:gj s.heap b1 l1 xs)(Pl:gj s.heap b2 l2 ys)
  (h:∀ h',IsZip h' (s.heap.objs.size+4) (s.heap.objs.size+2) (s.heap.objs.size+3) .none->IsPair h' (s.heap.objs.size+2) (.ref s.heap.objs.size) (.ref (s.heap.objs.size+1)) ->
   IsPair h' (s.heap.objs.size+3) .none .none->eI h' b1 s.heap.objs.size l1 0->eI h' b2 (s.heap.objs.size+1) l2 0->h'.objs.size=s.heap.objs.size+5 ->
   (∀ c o,s.heap.get? c=some o->h'.get? c=some o)->Q (.ref (s.heap.objs.size+4)) { s with heap:=h' }) :
  wpAny (model prog w) A (call (.type "zip") [.ref l1,.ref l2]) Q E s:=by
 refine callType_new F.called_zip (by decide) (F.typeCall_zip_2 _ _) (F.newCall_zip_2 _ _) (λobj=>F.args_object_init_3 obj _ _) F.entry_zip_new
  (p6 b1 b2 l1 l2 xs ys) ⟨Pj,Pl,?_⟩
 have z1:(HI s.heap b1 l1).objs.size=s.heap.objs.size+1:=Heap.size_push ..
 have z2:(F5 s.heap b1 b2 l1 l2).objs.size=s.heap.objs.size+2:=by rw[Heap.size_push,z1]
 have z3:(Lw s.heap b1 b2 l1 l2).objs.size=s.heap.objs.size+3:=by rw[Heap.size_push,z2]
 have z4:(Lx s.heap b1 b2 l1 l2).objs.size=s.heap.objs.size+4:=by rw[Heap.size_push,z3]
 have z5:(Jk s.heap b1 b2 l1 l2).objs.size=s.heap.objs.size+5:=by rw[Heap.size_push,z4]
 have g5:(Jk s.heap b1 b2 l1 l2).get? (Lx s.heap b1 b2 l1 l2).objs.size=some _:=Heap.get?_push_size _ rfl
 have g4:(Jk s.heap b1 b2 l1 l2).get? (Lw s.heap b1 b2 l1 l2).objs.size=some _:=Heap.get?_push_of_some _ (Heap.get?_push_size _ rfl)
 have g3:(Jk s.heap b1 b2 l1 l2).get? (F5 s.heap b1 b2 l1 l2).objs.size=some _:=Heap.get?_push_of_some _ (Heap.get?_push_of_some _ (Heap.get?_push_size _ rfl))
 have g2:(Jk s.heap b1 b2 l1 l2).get? (HI s.heap b1 l1).objs.size=some _:=Heap.get?_push_of_some _ (Heap.get?_push_of_some _ (Heap.get?_push_of_some _ (Heap.get?_push_size _ rfl)))
 have g1:(Jk s.heap b1 b2 l1 l2).get? s.heap.objs.size=some _:=Heap.get?_push_of_some _ (Heap.get?_push_of_some _ (Heap.get?_push_of_some _ (Heap.get?_push_of_some _ (Heap.get?_push_size _ rfl))))
 show _/\_
 rw[z2,z3,z4] at g5
 rw[z1,z2] at g3
 rw[z3] at g4
 rw[z1] at g2
 rw[z4]
 exact⟨⟨_,g5,rfl⟩,h _ g5 g3 g4 (eI.new _ b1 _ _ g1) (eI.new _ b2 _ _ g2) z5 λc o x =>
  Heap.get?_push_of_some _ (Heap.get?_push_of_some _ (Heap.get?_push_of_some _ (Heap.get?_push_of_some _ (Heap.get?_push_of_some _ x))))⟩
end
def k4(K:PySem.W.Frag)(H:Hp)(b:Bool)(a:Addr)(xs:List V):Prop:=match b with
 | true=>gS K H a xs
 | false=>hX K H a xs
variable{tl:TA}
theorem Inv.row{xs:List V}(I:Inv X NX σ H s)(h:k4 X.K H b a xs):∃ NZ:List Value,Vals xs NZ/\gj s.heap b a NZ.toArray/\xs.length<=sizeLine:=by
 cases b with
 | true =>
  obtain⟨NZ,r,p,z⟩:=I.list h
  exact⟨NZ,r,p.isList,z⟩
 | false =>
  obtain⟨NZ,r,p,z⟩:=I.tuple h
  exact⟨NZ,r,p,z⟩
theorem Inv.mr{xs ys:List V}(I:Inv X NX σ H s)(h:k4 X.K H b a xs)(h':k4 X.K H b a ys):xs=ys:=by
 cases b with
 | true=>exact I.qw h h'
 | false=>exact I.mK h h'
theorem Inv.yB(I:Inv X NX σ H s)(k:∀ b u,b ∉ ch->s.heap.get? b=some u->h'.get? b=some u)
  (PY:∀ b∈ch,mq X NX H b):Inv X NX σ H { s with heap:=h',toks:=t' }:=by
 have QE:∀ b u,H b=some u->b ∉ ch:=λb u e z=>by rw[(PY b z).1] at e;cases e
 refine I.step (g':=s.gens) (d':=s.drawn) (ch:=ch) (λb hb=>?_) (λb u _ _ hc e _=>k b u hc e) (λb u _ _ hc e _=>⟨u.slots,k b u hc e⟩)
  (λb u _ e n=>n) (λb u hc e=>⟨u,k b u hc e⟩) (λb xs e=>e) (λb ob u e=>e) (λb ps e=>⟨#[],by rw[e];simp⟩) (λm hm=>?_) (λb u e=>?_) I.bare
 ·obtain⟨_,f1,_,f3,f4,f5⟩:=PY b hb
  exact⟨f3,f1,f4,f5⟩
 ·obtain⟨ob,es,ep,ho,r⟩:=hm
  exact⟨ob,es,ep,k _ ob (λz=>(PY _ z).2.1 rfl) ho,r⟩
 ·refine(I.bK b u e).mf (λc v hc q=>k c v ?_ q) (λc q=>q) λc ys q=>q
  rcases hc with z' | z'
  ·rw[z'];exact QE b u e
  ·exact QE c _ z'
theorem cD{c:Addr}{xs:List V}(I:Inv X NX σ H s)(h:k4 X.K H b a xs)(f:mq X NX H c):a≠c:=by
 have rd:∀ {u:HO},Rd H a u->a≠c:=λ{u} r=>by
  rcases r with r | ⟨o,r⟩
  ·exact bY r f.1
  ·exact bY r f.1
 have mk:∀ {o:Obj},X.K.lookup a=some o->a≠c:=λ{o} e z=>by
  subst z
  have e':=I.ok.mod.Gf _ _ e
  rcases f.2.2.2.1 with q | q
  ·exact I.ok.tX _ _ e' q
  ·exact absurd (Nat.lt_of_lt_of_le (Heap.lt_size (I.ok.bs _ _ e').1) q) (Nat.lt_irrefl _)
 cases b with
 | true =>
  rcases(show gS X.K H a xs from h) with r | ⟨o,NZ,n,e,_⟩
  ·exact rd r
  ·exact mk e
 | false =>
  rcases(show hX X.K H a xs from h) with r | ⟨o,NZ,n,e,_⟩
  ·exact rd r
  ·exact mk e
def M0 (K : PySem.W.Frag) (b1 b2 : Bool) (a1 a2 : Addr) : It :=
  ⟨λi H => ∃ xs ys x y, k4 K H b1 a1 xs /\ k4 K H b2 a2 ys /\ xs[i]? = some x /\ ys[i]? = some y,
   λi H v H' => ∃ p x y, H p = none /\ v = .ref p /\ H' = upd H p (.tup [x, y]) /\ (∀ xs, k4 K H b1 a1 xs -> xs[i]? = some x) /\ (∀ ys, k4 K H b2 a2 ys -> ys[i]? = some y),
   λi H => ∃ xs ys, k4 K H b1 a1 xs /\ k4 K H b2 a2 ys /\ (xs.length <= i \/ ys.length <= i)⟩
theorem AF{K:PySem.W.Frag}{tp:Pos}(b1 b2:Bool)(a1 a2 z TI TO i1 i2:Addr)(D:TI≠z/\TO≠z/\i1≠z/\i2≠z/\TI≠TO/\TI≠i1/\TI≠i2/\TO≠i1/\TO≠i2/\i1≠i2) :
  Turn P w K (.Tuple elts x1 tp) (M0 K b1 b2 a1 a2) [z,TO,i1,i2,TI] z (λi h=>IsZip h z TI TO .none/\IsPair h TI (.ref i1) (.ref i2)/\(∃ a b,IsPair h TO a b)/\eI h b1 i1 a1 i/\eI h b2 i2 a2 i) where
 mem:=by simp
 obj:=λi h st b hb=>by
  obtain⟨hz,OC,⟨a,c,OE⟩,h1,h2⟩:=st
  simp only[List.mem_cons,List.mem_nil_iff,or_false] at hb
  rcases hb with q | q | q | q | q <;> subst q
  ·exact⟨_,hz,λv z=>by cases z⟩
  ·exact⟨_,OE,λv z=>by cases z⟩
  ·obtain⟨o,vs,e,d⟩:=h1.obj
   exact⟨o,e,λv z=>by rw[d] at z;cases z⟩
  ·obtain⟨o,vs,e,d⟩:=h2.obj
   exact⟨o,e,λv z=>by rw[d] at z;cases z⟩
  ·exact⟨_,OC,λv z=>by cases z⟩
 keep:=λi h h' st k=>by
  obtain⟨hz,OC,⟨a,c,OE⟩,h1,h2⟩:=st
  exact⟨k z (by simp) _ hz,k TI (by simp) _ OC,⟨a,c,k TO (by simp) _ OE⟩,h1.at λo e=>k i1 (by simp) o e,h2.at λo e=>k i2 (by simp) o e⟩
 item:=by
  intro X hP hw hK hc i NX s σ H E I hf st hg
  subst hP hw hK
  obtain⟨xs,ys,x,y,OD,Ou,hx,hy⟩:=hg
  obtain⟨QA,QU,p1,RE⟩:=I.row OD
  obtain⟨PK,QV,p2,RF⟩:=I.row Ou
  obtain⟨u1,hu1,ru1⟩:=QU.get hx
  obtain⟨u2,hu2,ru2⟩:=QV.get hy
  obtain⟨hz,OC,⟨a,c,OE⟩,h1,h2⟩:=st
  obtain⟨d1,d2,d3,d4,d5,d6,d7,d8,d9,d10⟩:=D
  obtain⟨o1,n1,e1,dd1⟩:=p1.obj
  obtain⟨o2,n2,e2,Rl⟩:=p2.obj
  obtain⟨oi1,vs1,Rn,di1⟩:=h1.obj
  obtain⟨oi2,vs2,Ro,di2⟩:=h2.obj
  have D:ZipApart z TI TO i1 i2 a1 a2:=⟨d1,d2,d3,d4,d5,d6,d7,d8,d9,d10,cD I OD (hf z (by simp)),cD I OD (hf TO (by simp)),cD I OD (hf i1 (by simp)),cD I OD (hf i2 (by simp)),
   cD I Ou (hf z (by simp)),cD I Ou (hf TO (by simp)),cD I Ou (hf i1 (by simp)),cD I Ou (hf i2 (by simp))⟩
  refine mX D hz OC OE h1 h2 p1 p2 (x:=u1) (y:=u2) (by simpa using hu1) (by simpa using hu2) λh' g1 g2 g3 g4 g5 g6 g7=>⟨_,rfl,?_⟩
  refine wpAny_letOwnedTupleGo_zip (s:={ s with heap:=h' }) g1 λh3 hz3 Qb=>?_
  have Pm:H s.heap.objs.size=none:=I.bK.fresh (Nat.le_refl _)
  have lt:∀ {c:Addr} {o:Obj},s.heap.get? c=some o->c≠s.heap.objs.size:=λe=>Nat.ne_of_lt (Heap.lt_size e)
  have QC:∀ b o,b ∉ [z,TO,i1,i2,TI]->s.heap.get? b=some o->h3.get? b=some o:=λb o hb q=>by
   simp only[List.mem_cons,List.mem_nil_iff,or_false,not_or] at hb
   exact(Qb.2 b hb.1).trans (g7 b o hb.1 hb.2.1 hb.2.2.1 hb.2.2.2.1 q)
  have hT3:h3.get? s.heap.objs.size=some { cls:=.type "tuple", data:=.seq #[u1,u2] }:=(Qb.2 _ (lt hz).symm).trans g5
  have I3:Inv X NX σ (upd H s.heap.objs.size (.tup [x,y])) { s with heap:=h3,toks:=s.toks } :=
   I.kM (ch:=[z,TO,i1,i2,TI]) QC hf (Nat.le_refl _) (λb hb=>by
    simp only[List.mem_cons,List.mem_nil_iff,or_false] at hb
    rcases hb with q | q | q | q | q <;> subst q
    ·exact⟨_,hz⟩
    ·exact⟨_,OE⟩
    ·exact⟨_,Rn⟩
    ·exact⟨_,Ro⟩
    ·exact⟨_,OC⟩)
    ⟨by show 2<=sizeLine;decide,[u1,u2],.cons ru1 (.cons ru2 .nil),⟨_,hT3,rfl,_,rfl⟩⟩
  refine⟨.ref s.heap.objs.size,_,I3,rfl,⟨_,x,y,Pm,rfl,rfl,λzs QT=>by rw[I.mr QT OD];exact hx,λzs QT=>by rw[I.mr QT Ou];exact hy⟩,
   ⟨hz3,(Qb.2 TI d1).trans (g7 TI _ d1 d5 d6 d7 OC),⟨_,_,(Qb.2 TO d2).trans g2⟩,g3.at λo e=>(Qb.2 i1 d3).trans e,g4.at λo e=>(Qb.2 i2 d4).trans e⟩,λb hb=>?_⟩
  have nb:b≠s.heap.objs.size:=by
   simp only[List.mem_cons,List.mem_nil_iff,or_false] at hb
   rcases hb with q | q | q | q | q <;> subst q
   ·exact lt hz
   ·exact lt OE
   ·exact lt Rn
   ·exact lt Ro
   ·exact lt OC
  rw[aw nb]
  exact(hf b hb).1
 done:=by
  intro X hP hw hK hc i NX s σ H E I hf st hg
  subst hP hw hK
  obtain⟨xs,ys,OD,Ou,Pq⟩:=hg
  obtain⟨QA,QU,p1,RE⟩:=I.row OD
  obtain⟨PK,QV,p2,RF⟩:=I.row Ou
  obtain⟨hz,OC,⟨a,c,OE⟩,h1,h2⟩:=st
  obtain⟨d1,d2,d3,d4,d5,d6,d7,d8,d9,d10⟩:=D
  have D:ZipApart z TI TO i1 i2 a1 a2:=⟨d1,d2,d3,d4,d5,d6,d7,d8,d9,d10,cD I OD (hf z (by simp)),cD I OD (hf TO (by simp)),cD I OD (hf i1 (by simp)),cD I OD (hf i2 (by simp)),
   cD I Ou (hf z (by simp)),cD I Ou (hf TO (by simp)),cD I Ou (hf i1 (by simp)),cD I Ou (hf i2 (by simp))⟩
  have l1:=QU.length
  have l2:=QV.length
  refine nM (I.ok.hd hc) D hz OC OE h1 h2 p1 p2 ?_ λh' k=>⟨rfl,?_⟩
  ·rcases Pq with q | q
   ·exact .inl (by simp;omega)
   ·exact .inr (by simp;omega)
  ·exact I.yB (t':=s.toks) (ch:=[z,TO,i1,i2,TI]) (λb u hb e=>by
    simp only[List.mem_cons,List.mem_nil_iff,or_false,not_or] at hb
    exact k b u hb.1 hb.2.1 hb.2.2.1 hb.2.2.2.1 e) hf
 self:=λ_ _ _ _ _ st h=>by
  obtain⟨hz,_⟩:=st
  exact wpAny_pyIter_zip hz h
theorem GV(n:Nat):n+2≠n+4/\n+3≠n+4/\n≠n+4/\n+1≠n+4/\n+2≠n+3/\n+2≠n/\n+2≠n+1/\n+3≠n/\n+3≠n+1/\n≠n+1:=by
 refine⟨?_,?_,?_,?_,?_,?_,?_,?_,?_,?_⟩ <;> omega
def KU(K:PySem.W.Frag)(tl:TA):TI:=fun σ H R=>tl σ H λvs H1=>∃ b1 b2 a1 a2,vs=[.ref a1,.ref a2]/\(∃ xs,k4 K H1 b1 a1 xs)/\(∃ ys,k4 K H1 b2 a2 ys)/\R (M0 K b1 b2 a1 a2) H1
theorem iK{tp:Pos}{l1 l2:Expr}{p pos:Pos}(hg:Gl X "zip")(hm:X.mg "zip" = none)(hl:PA X [l1,l2] tl)(hs:autoParam (starEach [l1,l2] X.env=[(false,eval l1 X.env),(false,eval l2 X.env)]) aR._auto_1)(Pn:autoParam (starEach [l2] X.env=[(false,eval l2 X.env)]) aR._auto_1) :
  PI X (.Tuple elts x1 tp) (.Call (.Name "zip" p) [l1,l2] [] pos) (KU X.K tl):=by
 intro NX s σ H R I h
 refine Call_ (ju I hg hm PyProof.Rows.boot_zip (PyProof.Rows.callWith_type1 (cG (hl pos NX s σ H _ I h) λus s1 ⟨vs,H1,I1,r1,q1⟩=>?_) (by rw[hs,Pn]) (by rw[Pn];rfl)))
 obtain⟨b1,b2,a1,a2,e,⟨xs,OD⟩,⟨ys,Ou⟩,q⟩:=q1
 subst e
 cases r1 with
 | cons r rr =>
  cases rr with
  | cons r' rr =>
   cases rr
   cases (show _=Value.ref a1 from r)
   cases (show _=Value.ref a2 from r')
   obtain⟨QA,QU,p1,RE⟩:=I1.row OD
   obtain⟨PK,QV,p2,RF⟩:=I1.row Ou
   refine zj p1 p2 λh' g1 g2 g3 g4 g5 g6 g7=>?_
   have I2:Inv X NX σ H1 { s1 with heap:=h' }:=I1.kept (t':=s1.toks) g7
   refine wpAny_pyIter_zip (s:={ s1 with heap:=h' }) g1 ?_
   refine⟨s1.heap.objs.size+4,[s1.heap.objs.size+4,s1.heap.objs.size+3,s1.heap.objs.size,s1.heap.objs.size+1,s1.heap.objs.size+2],_,_,H1,rfl,I2,
    AF b1 b2 a1 a2 _ _ _ _ _ (GV s1.heap.objs.size),⟨g1,g2,⟨_,_,g3⟩,g4,g5⟩,λb hb=>?_,q⟩
   have hle:s1.heap.objs.size<=b:=by
    simp only[List.mem_cons,List.mem_nil_iff,or_false] at hb
    rcases hb with q | q | q | q | q
    ·rw[q];exact Nat.le_add_right _ 4
    ·rw[q];exact Nat.le_add_right _ 3
    ·rw[q];exact Nat.le_refl _
    ·rw[q];exact Nat.le_add_right _ 1
    ·rw[q];exact Nat.le_add_right _ 2
   exact I1.ux hle (I1.bK.fresh hle)
def MW(K:PySem.W.Frag)(b:Bool)(a:Addr):It:=match b with
 | true=>Nm K a
 | false=>Nj K a
def KP(K:PySem.W.Frag)(tl:TE):TI:=fun σ H R=>tl σ H λx H1=>∃ b a,x=.ref a/\(∃ xs,k4 K H1 b a xs)/\R (MW K b a) H1
theorem cM{l:Expr}{tl:TE}(hl:PE X l tl):PI X tg l (KP X.K tl):=by
 intro NX s σ H R I h
 refine cG (hl NX s σ H _ I h) λv s1 ⟨x,H1,I1,r1,q1⟩=>?_
 obtain⟨b,a,e,⟨xs,hq⟩,q⟩:=q1
 subst e
 cases r1
 cases b with
 | true =>
  obtain⟨NZ,rv,p,hz⟩:=I1.list hq
  refine wpAny_pyIter_list p.isList ?_
  refine⟨s1.heap.objs.size,[s1.heap.objs.size],_,_,H1,rfl,I1.kept (t':=s1.toks) λb o e=>Heap.get?_push_of_some _ e,zU a _,⟨_,Heap.get?_push_size _ rfl,rfl,rfl⟩,λb hb=>?_,q⟩
  have e:b=s1.heap.objs.size:=by simpa using hb
  subst e
  exact I1.ux (Nat.le_refl _) (I1.bK.fresh (Nat.le_refl _))
 | false =>
  obtain⟨NZ,rv,p,hz⟩:=I1.tuple hq
  refine wpAny_pyIter_tuple (show s1.heap.IsTuple a NZ.toArray from p) ?_
  refine⟨s1.heap.objs.size,[s1.heap.objs.size],_,_,H1,rfl,I1.kept (t':=s1.toks) λb o e=>Heap.get?_push_of_some _ e,xi a _,⟨_,Heap.get?_push_size _ rfl,rfl,rfl⟩,λb hb=>?_,q⟩
  have e:b=s1.heap.objs.size:=by simpa using hb
  subst e
  exact I1.ux (Nat.le_refl _) (I1.bK.fresh (Nat.le_refl _))
theorem zA(hc:X.calm=true):c6 X (.builtin "sum") (λxs H Q=>∃ (a:Addr) (ns:List Int),xs=[.ref a]/\gS X.K H a (ns.map V.int)/\Q (.int ns.sum) H):=by
 intro NX s σ H xs us Q I r h
 obtain⟨a,ns,rfl,hq,q⟩:=h
 cases r with
 | cons r1 r2 =>
  cases r2
  cases (show _=Value.ref a from r1)
  obtain⟨NZ,rv,p,hz⟩:=I.list hq
  have hi:=intsAre_of rv
  obtain⟨xs',e⟩:=hi.allInts.items
  have e3:numsOf (intItems xs').toList=ns:=by rw[← e];exact hi.numsOf
  rw[nums_intItems] at e3
  refine sum_intListG (I.ok.hd hc) (by rw[← e];exact p.isList) λh' tk t' hk=>⟨.int ns.sum,H,I.kept (t':=tk) hk,⟨t',?_⟩,q⟩
  rw[preSum_eq,List.take_of_length_le (by simp),e3]
structure f9 (K:PySem.W.Frag) (C:Addr):Prop where
 ga:PySem.W.findIn K (.ref C) "__getattribute__" = some (some (.builtin "BaseException.__getattribute__"))
 gn:PySem.W.findIn K (.ref C) "__getattr__" = some none
 hd:PySem.W.hasDictIn K C=true
 sa:PySem.W.findIn K (.ref C) "__setattr__" = some (some (.builtin "object.__setattr__"))
 mb:PySem.W.mroIn K C (.type "BaseException")=some true
 mo:PySem.W.mroIn K C (.type "object")=some true
 ca:PySem.W.findIn K (.ref C) "__class__" = some (some (.builtin "object.__class__"))
 cg:PySem.W.specialIn K (.builtin "object.__class__") "__get__" = some (some (.builtin "getset_descriptor.__get__"))
 ct:PySem.W.takesIn K (.builtin "object.__class__")=some true
variable{name:Str}{ox:Obj}
section
variable{E:Value->Shared->Prop}{K:PySem.W.Frag}{x:Addr}{od:Option Obj}
theorem BD:builtinKind "BaseException.__getattribute__" = some .slot:=by decide +kernel
theorem zv:splitId "BaseException.__getattribute__" = some ("BaseException", "__getattribute__"):=by decide +kernel
theorem Gx{tk:Tok}{fill expr:Bool}(c:f9 K C)(X:K.In s.heap)(I:PySem.W.InstAt s.heap x ox C od)
  (h:wpAny (model prog w) A.in1 (Builtin.«object.__getattribute__» ⟨[.ref x,.str name tk],[]⟩)
   (λfin s'=>match fin with | .done (.ret v)=>wpAny (model prog w) A (handedOut v) Q E s' | _=>False) (λ_ _=>False) s) :
  wpAny (model prog w) A (getAttrBy (.ref x) (.str name tk) fill expr) Q E s:=by
 have Pu:(Value.builtin "BaseException.__getattribute__" == Value.builtin "object.__getattribute__")=false:=by decide +kernel
 have Rj:(onTheHeap (Value.ref C)&&Value.builtin "BaseException.__getattribute__" == Value.builtin "object.__getattribute__")=false:=by rw[Pu];rfl
 have hx0:(expr&&onTheHeap (Value.builtin "BaseException.__getattribute__"))=false:=by cases expr <;> rfl
 have sub:PySem.W.Looks (model prog w) s.heap (isInstance (.ref x) (.type "BaseException")) true:=I.type.andThen (PySem.W.looks_mroIn X c.mb)
 unfold getAttrBy
 refine wpAny_holding (wpAny_bind (I.type.here (wpAny_bind ((PySem.W.looks_findIn X c.ga).here ?_))))
 dsimp only
 rw[Rj,if_neg Bool.false_ne_true]
 unfold getAttrByItsOwn hookBefore
 refine wpAny_bind ?_
 show wpAny _ _ (typeLookup (.ref C) "__getattr__") _ _ _
 refine(PySem.W.looks_findIn X c.gn).here ?_
 refine wpAny_bind (wpAny_attempt (wpAny_holding ?_))
 unfold callGetattribute
 rw[hx0,if_neg Bool.false_ne_true]
 unfold boundAndCalled
 refine wpAny_bind (wpAny_of_eq (PySem.F.attr_ValueError.ga.bind _) ?_)
 refine wpAny_call (codeAny_call_builtin PySem.F.attr_ValueError.ga.plain PySem.F.entry_bexc_ga (@PySem.W.check_slot (model prog w) _ _ s "BaseException.__getattribute__" "BaseException" "__getattribute__" (.ref x) [.str name tk] [] _ BD zv sub (PySem.F.args_bexc_ga _ _) ?_))
 refine wpAny_mono h (λfin s' z=>?_) (λ_ _ z=>z.elim)
 rcases fin with (v | _ | _ | _) | _ <;> first | exact z | exact z.elim
end
variable{newId:String}{dd:Option Addr}
variable{f:Addr}
section
open PySem.Builtin.ObjectAttr (storeInOwnDict storeTaker? setByDescriptor)
abbrev fe:List Value:=[.type "ValueError", .type "Exception", .type "BaseException", .type "object"]
def gR:List Value->Bool
 | .ref _::r=>gR r
 | l=>l==fe
theorem ql(self:Value):refuseLoop self "__setattr__" fe=pure ():=by kernel_rfl
theorem nr(self:Value):∀ {l:List Value},gR l=true->refuseLoop self "__setattr__" l=pure ()
 | .ref c::r,e=>by rw[PySem.refuseLoop_ref];exact nr self e
 | [],e=>by cases (show false=true from e)
 | .type n::r,e=>by rw[show Value.type n::r=fe from beq_iff_eq.mp e];exact ql self
 | .none::r,e=>by rw[show Value.none::r=fe from beq_iff_eq.mp e];exact ql self
section
variable{E:Value->Shared->Prop}{K:PySem.W.Frag}{x:Addr}{od:Option Obj}
theorem qO{a g:Value}(hc:(PySem.W.clsIn K C).isSome=true)(ha:PySem.W.findIn K (.ref C) name=some (some a))(hg:PySem.W.specialIn K a "__get__" = some (some g))(ht:PySem.W.takesIn K a=some true):PySem.W.findObj K C od name=some (.bind g a):=by
 obtain⟨cd,hc⟩:=Option.isSome_iff_exists.mp hc
 unfold PySem.W.findObj
 rw[hc,Option.bind_some,ha,Option.bind_some]
 simp[hg,ht]
theorem zW{Q:Option Value->Shared->Prop}(c:f9 K C)(X:K.In s.heap)(I:PySem.W.InstAt s.heap x ox C od)(h:Q (some (.ref C)) { s with toks:=s.toks+1 }):wpAny (model prog w) A (getAttr? (.ref x) "__class__") Q E s:=by
 have hc:(PySem.W.clsIn K C).isSome=true:=by obtain⟨cd,hc,_⟩:=PySem.W.any_some c.hd;rw[hc];rfl
 have hf:PySem.W.findObj K C od "__class__" = some (.bind (.builtin "getset_descriptor.__get__") (.builtin "object.__class__")):=qO hc c.ca c.cg c.ct
 unfold getAttr? getAttrBy?
 refine wpAny_bind (wpAny_mkText (wpAny_bind (wpAny_attempt ?_)))
 refine Gx (s:={ s with toks:=s.toks+1 }) c X I ?_
 unfold Builtin.«object.__getattribute__»
 refine wpAny_bind (wpAny_pure ?_)
 dsimp only
 refine wpAny_bind (wpAny_pure ?_)
 refine wpAny_bind (I.type.here (s:={ s with toks:=s.toks+1 }) (wpAny_bind ((PySem.W.looks_find X I hf).here (s:={ s with toks:=s.toks+1 }) ?_)))
 show wpAny _ _ (holding [.builtin "object.__class__"] (call (.builtin "getset_descriptor.__get__") [.builtin "object.__class__", .ref x,.ref C]) >>= ret) _ _ _
 refine wpAny_bind (wpAny_holding (wpAny_call (PySem.W.class_get (s:={ s with toks:=s.toks+1 }) (ox:=ox) (od:=od) X I c.mo ?_)))
 refine wpAny_pure ?_
 exact PySem.W.handed_on rfl (wpAny_pure h)
theorem uN(c:f9 K C):PySem.W.KitX K (.ref x) (.ref C) (λh=>PySem.W.InstAt h x ox C od) where
 ty:=λ_ _ _ I=>I.type
 it:=λ_ _ X _=>by
  obtain⟨cdD,Qp,_⟩:=PySem.W.any_some c.hd
  unfold PySem.W.clsIn at Qp
  split at Qp
  ·rename_i c' d' cd' sl' ho
   intro A' Q' E' s' k q
   unfold isType loadHead
   exact wpAny_bind (wpAny_loadPart (k _ _ (X _ _ ho)) (wpAny_pure q))
  ·cases Qp
 ne:=λh tp dd NZ n sl X htp=>by
  obtain⟨cdD,Qp,_⟩:=PySem.W.any_some c.hd
  refine Bool.eq_false_iff.mpr λq=>?_
  have e:C=tp:=Value.ref.inj (beq_iff_eq.mp q)
  subst e
  unfold PySem.W.clsIn at Qp
  split at Qp
  ·rename_i c' d' cd' sl' ho
   have z:=(X _ _ ho).symm.trans htp
   cases z
  ·cases Qp
 ca:=λX I k=>zW c X I k
theorem E9{tk:Tok}{v:Value}{R:Result->Shared->Prop}(po:((PySem.W.clsIn K C).any λcd=>gR cd.mro)=true)(c:f9 K C)(X:K.In s.heap)(I:PySem.W.InstAt s.heap x ox C od)(ht:PySem.W.takerIn K C name=some none)
  (h:∀ b,wpAny (model prog w) A.in1 (storeInOwnDict (.ref x) (.ref C) (.str name tk) name v b)
   (λfin s'=>match fin with | .done f=>R (.ok f) s' | .again c'=>c'.quiet=true/\codeAny (model prog w) A c' R s') (λe s'=>R (.error e) s') s) :
  codeAny (model prog w) A (.call (.builtin "object.__setattr__") ⟨[.ref x,.str name tk,v],[]⟩) R s:=by
 have SF:=PySem.F.store_object
 obtain⟨cd,hc,ho⟩:=PySem.W.any_some po
 have sub:PySem.W.Looks (model prog w) s.heap (isInstance (.ref x) (.type "object")) true:=I.type.andThen (PySem.W.looks_mroIn X c.mo)
 refine codeAny_call_builtin SF.slot.plain SF.entry (@PySem.W.check_slot (model prog w) _ _ s "object.__setattr__" "object" "__setattr__" (.ref x) [.str name tk,v] [] _ SF.kind SF.split sub (SF.args (.ref x) (.str name tk) v) ?_)
 obtain⟨attr,ha,hr⟩:=Option.bind_eq_some_iff.mp ht
 have hm:PySem.W.Looks (model prog w) s.heap (mroOf (.ref C)) cd.mro:=(PySem.W.looks_clsIn X hc).andThen .now
 have L3:PySem.W.Looks (model prog w) s.heap (storeTaker? attr) none:=by
  cases attr with
  | none=>cases hr;exact .now
  | some a =>
   obtain⟨b,hb,e⟩:=Option.map_eq_some_iff.mp hr
   refine(PySem.W.looks_takesIn X hb).andThen ?_
   cases b with
   | true=>cases e
   | false=>exact .now
 rw[PySem.W.osa_eq,PySem.refuse_eq]
 refine wpAny_bind (wpAny_bind (I.type.here (wpAny_bind (hm.here ?_))))
 rw[nr _ ho]
 refine wpAny_pure (wpAny_bind (I.type.here (wpAny_bind ((PySem.W.looks_findIn X ha).here (wpAny_bind (L3.here ?_))))))
 exact h _
theorem Cq{vs:Array Value}{v:Value}{Q:Unit->Shared->Prop}(po:((PySem.W.clsIn K C).any λcd=>gR cd.mro)=true)(c:f9 K C)(X:K.In s.heap)(hx:s.heap.get? x=some ⟨.ref C,none,.fields vs,#[]⟩)(ht:PySem.W.takerIn K C name=some none)
  (h:∀ h' tk d,h'.get? x=some ⟨.ref C,some d,.fields vs,#[]⟩->s.heap.get? d=none->h'.Ns1 d (λy=>if y=name then some v else none)->(∀ b o,b≠x->s.heap.get? b=some o->h'.get? b=some o)->Q () { s with heap:=h',toks:=tk }) :
  wpAny (model prog w) A (setAttr (.ref x) name v) Q E s:=by
 have I:PySem.W.InstAt s.heap x ⟨.ref C,none,.fields vs,#[]⟩ C none:=⟨hx,rfl,rfl,trivial⟩
 refine PySem.W.set_plain X I c.sa (E9 (s:={ s with toks:=s.toks+1 }) po c X I ht λb=>?_)
 obtain⟨cd,hc,Rr⟩:=PySem.W.any_some c.hd
 have Oy:=Heap.lt_size hx
 refine wpAny_bind (wpAny_pure (wpAny_bind (wpAny_bind (wpAny_loadPart hx (wpAny_bind (PySem.W.Looks.here (s:={ s with toks:=s.toks+1 }) (PySem.W.looks_clsIn X hc) ?_))))))
 rw[Rr]
 refine wpAny_bind (wpAny_alloc ?_)
 have Rj:(s.heap.push { cls:=.type "dict", data:=.dict #[] }).get? x=some ⟨.ref C,none,.fields vs,#[]⟩:=Heap.get?_push_of_some _ hx
 refine wpAny_bind (wpAny_update Rj ?_)
 refine wpAny_pure (a:=some s.heap.objs.size) (wpAny_bind (wpAny_pure (wpAny_bind ?_)))
 have Pu:((s.heap.push { cls:=.type "dict", data:=.dict #[] }).update x λo=>{ o with dict:=some s.heap.objs.size }).get? x=some ⟨.ref C,some s.heap.objs.size,.fields vs,#[]⟩:=Heap.get?_update_self _ Rj rfl
 have e1:(s.heap.push { cls:=.type "dict", data:=.dict #[] }).get? s.heap.objs.size=some { cls:=.type "dict", data:=.dict #[] }:=Heap.get?_push_size s.heap rfl
 have nxd:s.heap.objs.size≠x:=Nat.ne_of_gt Oy
 have e2:((s.heap.push { cls:=.type "dict", data:=.dict #[] }).update x λo=>{ o with dict:=some s.heap.objs.size }).get? s.heap.objs.size=some { cls:=.type "dict", data:=.dict #[] }:=by
  rw[Heap.get?_update_other _ _ (Ne.symm nxd)]
  exact e1
 have e3:((s.heap.push { cls:=.type "dict", data:=.dict #[] }).update x λo=>{ o with dict:=some s.heap.objs.size }).Ns s.heap.objs.size (λ_=>none):=⟨_,#[],_,e2,rfl,(λe he=>absurd he (by simp)),λ_=>rfl⟩
 refine wpAny_nsSet1 (s:={ s with heap:=(s.heap.push { cls:=.type "dict", data:=.dict #[] }).update x λo=>{ o with dict:=some s.heap.objs.size },toks:=s.toks+1 }) (Heap.Ns1.of_empty e3) λh' QQ Pn=>?_
 obtain⟨oD,esD,epD,hoD,hdD,Qp⟩:=QQ.count (PySem.Within.cons (ns:=[]) name v (λy hy=>absurd rfl hy))
 refine wpAny_bind (wpAny_lookBehind hoD (by rw[hdD];exact pastItsLine_dict (Nat.le_trans Qp (by show 1<=sizeLine+1;exact Nat.le_add_left _ _))) ?_)
 refine wpAny_pure (h h' _ s.heap.objs.size ((Pn.2 x (Ne.symm nxd)).trans Pu) (Heap.get?_none_of_le (Nat.le_refl _)) QQ λb o hb e=>?_)
 refine(Pn.2 b (Nat.ne_of_lt (Heap.lt_size e))).trans ?_
 rw[Heap.get?_update_other _ _ (Ne.symm hb)]
 exact Heap.get?_push_of_some _ e
end
def qf(K:PySem.W.Frag)(C:Addr)(newId:String)(f:Addr):Bool:=match K.lookup C with
 | some ⟨.type "type", _,.cls cd,sl⟩=>(match cd.mro,sl.toList with
  | .ref C'::bm,[_,_,_,_,some (.builtin n),_]=>C'==C&&n==newId&&!cd.hasDel&&PySem.W.tailIn K fe bm&&PySem.W.nsOkIn K cd.ns&&PySem.W.nsIn K cd.ns "__init__" == some (some (.ref f))
  | _,_=>false)
 | _=>false
section
variable{E:Value->Shared->Prop}{g:Array GenState}{d:Drawn}{t:Nat}{os:OsState}
variable{nm q:Str}{N:Addr}{bs bm:List Value}{P2:Bool}{sn:List Str}{sub:List Value}{ab:Bool}{col:Option Bool}{k0 k1 k2 k3 k5:Option Value}{Ra:String}
theorem qC(F:ExcBaseFacts "ValueError" newId Ra fe)(T:OwnTail h fe bm){mN:Str->Option Value}{rest:List Value}{Q:Fin->Shared->Prop}
  (hC:h.get? C=some (excClassObj nm q C N bs bm P2 sn sub ab col dd k0 k1 k2 k3 k5 newId)) (hn:h.Ns N mN) (Qh:mN "__init__" = some (.ref f))
  (hb:∀ h':Heap,(∀ b o,h.get? b=some o->h'.get? b=some o)->∀ self,PySem.W.Looks (model prog w) h' (bindSpecial (.ref f) self) (.ref f,[self]))
  (hq:∀ h':Heap,(∀ b o,h.get? b=some o->h'.get? b=some o)->h'.get? h.objs.size=some { cls:=.type "tuple", data:=.seq rest.toArray } ->
   h'.get? (h.objs.size+1)=some { cls:=.ref C,data:=.fields #[.ref h.objs.size,.none,.none,.none,.bool false,.none] }->h'.objs.size=h.objs.size+2 ->
   wpAny (model prog w) A (call (.ref f) (.ref (h.objs.size+1)::rest)) (λv s'=>v=.none/\Q (.done (.ret (.ref (h.objs.size+1)))) s') E ⟨h',g,d,t,os⟩) (Cu:rest.length<=sizeLine:=by size_fits) :
  wpAny (model prog w) A (Builtin.«type.__call__» ⟨.ref C::rest,[]⟩) Q E ⟨h,g,d,t,os⟩:=by
 repeat (first | with_reducible refine wpAny_loadPart_at hC ?_ | with_reducible refine wpAny_madeBy_exc hC ?_ | wp_step)
 refine codeAny_call_builtin_code (Code.quiet_builtin _ F.quiet) (wpAny_check_new_subT F T hC ?_)
 refine codeAny_exc_new_subT F T hC ?_ Cu
 show wpAny _ _ _ _ _ _
 have kp:∀ b o,h.get? b=some o->((h.push { cls:=.type "tuple", data:=.seq rest.toArray }).push { cls:=.ref C,data:=.fields #[.ref h.objs.size,.none,.none,.none,.bool false,.none] }).get? b=some o:=λb o e=>Heap.get?_push_of_some _ (Heap.get?_push_of_some _ e)
 have hC1:=kp _ _ hC
 have hn₁:((h.push { cls:=.type "tuple", data:=.seq rest.toArray }).push { cls:=.ref C,data:=.fields #[.ref h.objs.size,.none,.none,.none,.bool false,.none] }).Ns N mN:=hn.keeps kp
 have Ru:((h.push { cls:=.type "tuple", data:=.seq rest.toArray }).push
   { cls:=.ref C,data:=.fields #[.ref h.objs.size,.none,.none,.none,.bool false,.none] }).get? (h.objs.size+1)=some
   { cls:=.ref C,data:=.fields #[.ref h.objs.size,.none,.none,.none,.bool false,.none] }:=by heap_get
 have htup:((h.push { cls:=.type "tuple", data:=.seq rest.toArray }).push
   { cls:=.ref C,data:=.fields #[.ref h.objs.size,.none,.none,.none,.bool false,.none] }).get? h.objs.size=some { cls:=.type "tuple", data:=.seq rest.toArray }:=Heap.get?_push_of_some _ (Heap.get?_push_size _ rfl)
 have Pt:((h.push { cls:=.type "tuple", data:=.seq rest.toArray }).push { cls:=.ref C,data:=.fields #[.ref h.objs.size,.none,.none,.none,.bool false,.none] }).objs.size=h.objs.size+2:=by rw[Heap.size_push,Heap.size_push]
 have hcC:(Value.ref C::bm).contains (.ref C)=true:=by simp
 have T1:=T.keeps kp
 have hb₁:=hb _ kp (.ref (h.objs.size+1))
 have fin:=hq _ kp htup Ru Pt
 generalize ((h.push { cls:=.type "tuple", data:=.seq rest.toArray }).push { cls:=.ref C,data:=.fields #[.ref h.objs.size,.none,.none,.none,.bool false,.none] })=h1 at *
 unfold isInstance
 repeat (first | with_reducible refine wpAny_loadPart_at Ru ?_ | (with_reducible refine wpAny_isSubtype_exc hC1 ?_;rw[hcC]) | wp_step)
 show wpAny _ _ (typeLookup (.ref C) _) _ _ _
 refine wpAny_typeLookup_tail hC1 hn₁ T1 F.mroIs F.init.lookup ?_
 rw[Qh]
 refine wpAny_holding (wpAny_bind (hb₁.here ?_))
 refine wpAny_bind (wpAny_mono fin (λv s' z=>?_) λ_ _ z=>z)
 obtain⟨rfl,z⟩:=z
 wp_walk
 exact z
end
end
def h_(C:Addr)(dd:Option Addr)(e:Addr):HO:=.ext λh=>∃ vs,h.get? e=some ⟨.ref C,dd,.fields vs,#[]⟩
theorem E5{e:Addr}{vs:Array Value}(he:h.get? e=some ⟨.ref C,dd,.fields vs,#[]⟩):cu P w H h e (h_ C dd e) :=
 ⟨⟨vs,he⟩,⟨_,he⟩,λ_ _ ⟨vs,q⟩ k=>⟨vs,k _ q⟩⟩
def ExcAt(H:Hp)(e C:Addr)(fo:Option (List (Str×V))):Prop:=match fo with
 | none=>H e=some (h_ C none e)
 | some fs=>∃ d,H e=some (h_ C (some d) e)/\H d=some (.xd fs)
theorem Inv.pz(I:Inv X NX σ H s){e:Addr}(he:H e=some (h_ C dd e)):∃ vs,s.heap.get? e=some ⟨.ref C,dd,.fields vs,#[]⟩:=(I.bK e _ he).1
theorem Inv.Eg(I:Inv X NX σ H s){e:Addr}{fo:Option (List (Str×V))}(h:ExcAt H e C fo):∃ ox od,PySem.W.InstAt s.heap e ox C od/\(fo=none->od=none) ∧
  ∀ fs,fo=some fs->∃ (o:Obj) (mA:Str->Option Value),od=some o/\(∀ n,PySem.W.lookIn n o=some (mA n))/\∀ f,mQ (fs.lookup f) (mA f):=by
 cases fo with
 | none =>
  obtain⟨vs,q⟩:=I.pz h
  exact⟨_,none,⟨q,rfl,rfl,trivial⟩,λ_=>rfl,λfs z=>(by cases z)⟩
 | some fs =>
  obtain⟨d,h1,h2⟩:=h
  obtain⟨vs,q⟩:=I.pz h1
  obtain⟨mA,n,r⟩:=(show ∃ mA,s.heap.Ns1 d mA/\∀ f,mQ (fs.lookup f) (mA f) from I.bK d _ h2)
  obtain⟨o,ho,hl⟩:=m_ n
  refine⟨_,some o,⟨q,rfl,rfl,ho⟩,λz=>(by cases z),λQW z=>?_⟩
  cases z
  exact⟨o,mA,rfl,hl,r⟩
theorem Inv.sL(I:Inv X NX σ H s)(hn:s.heap.get? a=none):H a=none:=by
 cases q:H a with
 | none=>rfl
 | some u =>
  exfalso
  have:∀ (u:HO),cu X.prog X.w H s.heap a u->∃ ob,s.heap.get? a=some ob:=by
   intro u
   induction u with
   | lst xs=>intro ⟨_,_,_,_,e⟩;exact⟨_,e⟩
   | tup xs=>intro ⟨_,_,_,p⟩;obtain⟨ob,e,_⟩:=p;exact⟨ob,e⟩
   | dK OL=>intro ⟨_,_,_,_,p⟩;obtain⟨ob,_,_,e,_⟩:=p;exact⟨ob,e⟩
   | dT OL=>intro ⟨_,_,_,_,ob,_,_,e,_⟩;exact⟨ob,e⟩
   | set S n=>intro p;obtain⟨es,ob,xs,ep,e,_⟩:=p;exact⟨_,e⟩
   | ins C dx fs=>intro ⟨_,_,_,e,_⟩;exact⟨_,e⟩
   | own x=>intro ⟨ob,e⟩;exact⟨ob,e⟩
   | xd fs=>intro ⟨mA,n,_⟩;obtain⟨ob,e,_⟩:=m_ n;exact⟨ob,e⟩
   | met f x=>intro e;exact⟨_,e⟩
   | jg lo hi=>intro ⟨_,_,_,e⟩;exact⟨_,e⟩
   | qK o u _=>intro ⟨e,_⟩;exact⟨_,e⟩
   | FL ps=>intro e;exact⟨_,e⟩
   | ext φ=>intro ⟨_,⟨ob,e⟩,_⟩;exact⟨ob,e⟩
  obtain⟨ob,e⟩:=this u (I.bK a u q)
  rw[hn] at e;cases e
theorem Inv.FD{o:HO}(I:Inv X NX σ H s)(k:∀ b u,s.heap.get? b=some u->h'.get? b=some u)(hn:s.heap.get? a=none)(new:cu X.prog X.w (upd H a o) h' a o) :
  Inv X NX σ (upd H a o) { s with heap:=h',toks:=t' }:=by
 have ne:∀ b u,s.heap.get? b=some u->b≠a:=λb u e z=>by rw[z,hn] at e;cases e
 have Qt:H a=none:=I.sL hn
 have QD:∀ b u,H b=some u->b≠a:=λb u e z=>by rw[z,Qt] at e;cases e
 refine I.un ⟨λb u e _ _ _=>k b u e,λb u e _ _ _=>⟨u.slots,k b u e⟩,λb u e n _=>by rw[aw (ne b u e)];exact n,λb u e _=>⟨u,k b u e⟩,
  λb xs e=>by rw[aw (QD b _ e)];exact e,λb ob u e=>by rw[aw (QD b _ e)];exact e,λb ps e=>⟨#[],by rw[aw (QD b _ e),e];simp⟩⟩ λb u e=>?_
 by_cases z:b=a
 ·subst z
  rw[aB] at e
  cases e
  exact new
 ·rw[aw z] at e
  refine(I.bK b u e).mf (λc v _ q=>k c v q) (λc q=>?_) λc ys q=>?_
  ·rw[aw (QD c _ q)];exact q
  ·rw[aw (QD c _ q)];exact q
variable{apos:Pos}{m:Str}{ta:TE}{o:Expr}
section
variable{f:Str}{pos:Pos}
def Mn(K:PySem.W.Frag):List V->Hp->VK->Prop:=λxs H Q=>∃ e C fo b,f9 K C/\ExcAt H e C fo ∧
 ((∃ T,xs=[.ref e,.ty T]/\PySem.W.kitOne K (.ref C) (.type T)=some b)\/(∃ D,xs=[.ref e,.ref D]/\PySem.W.kitOne K (.ref C) (.ref D)=some b))/\Q (.bl b) H
theorem pD:c6 X (.builtin "isinstance") (Mn X.K):=by
 intro NX s σ H xs us Q I r h
 obtain⟨e,C,fo,b,c,ha,hc,q⟩:=h
 obtain⟨ox,od,J,_⟩:=I.Eg ha
 rcases hc with ⟨T,rfl,hk⟩ | ⟨D,rfl,hk⟩
 ·cases r with
  | cons r1 r2 =>
   cases r2 with
   | cons r3 r4 =>
    cases r4
    cases (show _=Value.ref e from r1)
    cases (show _=Value.type T from r3)
    exact PySem.W.kia_one (uN c) I.jX J hk (λz=>nomatch z) λtk=>⟨.bl b,H,I.tok tk,rfl,q⟩
 ·cases r with
  | cons r1 r2 =>
   cases r2 with
   | cons r3 r4 =>
    cases r4
    cases (show _=Value.ref e from r1)
    cases (show _=Value.ref D from r3)
    exact PySem.W.kia_one (uN c) I.jX J hk (λz=>nomatch z) λtk=>⟨.bl b,H,I.tok tk,rfl,q⟩
end
theorem wI{K:PySem.W.Frag}{N:Addr}{n:Str}{v:Value}(X:K.In h)(G:h.Ns N mg)(e:PySem.W.nsIn K N n=some (some v)):mg n=some v:=by
 obtain⟨o,es,ep,ho,hd,_,hf⟩:=G
 unfold PySem.W.nsIn at e
 split at e
 ·rename_i c d es' n' sl q
  have:=X _ _ q
  rw[ho] at this
  cases this
  cases hd
  split at e
  ·rename_i en he
   cases e
   rw[← hf]
   unfold nsFind findBy
   rw[← Array.find?_toList,he]
   rfl
  ·split at e <;> cases e
 ·cases e
theorem Ee{K:PySem.W.Frag}(X:K.In h)(q:PySem.W.excIn K C fe newId=true) :
  ∃ bm N nm qn bs P2 sn sub ab col dd k0 k1 k2 k3 k5 mN,h.get? C=some (excClassObj nm qn C N bs bm P2 sn sub ab col dd k0 k1 k2 k3 k5 newId)/\h.Ns N mN/\mN "__init__" = none/\OwnTail h fe bm:=by
 unfold PySem.W.excIn at q
 split at q
 ·rename_i dd cd sl ho
  split at q
  ·rename_i C' bm k0 k1 k2 k3 n k5 hm hs
   simp only[Bool.and_eq_true,beq_iff_eq,Bool.not_eq_true'] at q
   obtain⟨⟨⟨⟨⟨rfl,rfl⟩,Qq⟩,ht⟩,bK⟩,Qh⟩:=q
   obtain⟨nm,bs,mro,ns,qn,hd,sn,sub,ab,col,del⟩:=cd
   dsimp only at hm Qq bK Qh
   subst hm Qq
   have hsl:sl=#[k0,k1,k2,k3,some (.builtin n),k5]:=by
    obtain⟨l⟩:=sl
    simp only at hs
    rw[hs]
   subst hsl
   exact⟨bm,ns,nm,qn,bs,hd,sn,sub,ab,col,dd,k0,k1,k2,k3,k5,_,X _ _ ho,.of_isNs (PySem.W.isNs_of_in X bK),PySem.W.nsMap_none_of_in X bK Qh,PySem.W.tail_of_in X ht⟩
  ·cases q
 ·cases q
theorem Cp{K:PySem.W.Frag}(X:K.In h)(q:qf K C newId f=true) :
  ∃ bm N nm qn bs P2 sn sub ab col dd k0 k1 k2 k3 k5 mN,h.get? C=some (excClassObj nm qn C N bs bm P2 sn sub ab col dd k0 k1 k2 k3 k5 newId)/\h.Ns N mN/\mN "__init__" = some (.ref f)/\OwnTail h fe bm:=by
 unfold qf at q
 split at q
 ·rename_i dd cd sl ho
  split at q
  ·rename_i C' bm k0 k1 k2 k3 n k5 hm hs
   simp only[Bool.and_eq_true,beq_iff_eq,Bool.not_eq_true'] at q
   obtain⟨⟨⟨⟨⟨rfl,rfl⟩,Qq⟩,ht⟩,bK⟩,Qh⟩:=q
   obtain⟨nm,bs,mro,ns,qn,hd,sn,sub,ab,col,del⟩:=cd
   dsimp only at hm Qq bK Qh
   subst hm Qq
   have hsl:sl=#[k0,k1,k2,k3,some (.builtin n),k5]:=by
    obtain⟨l⟩:=sl
    simp only at hs
    rw[hs]
   subst hsl
   have hN:=Heap.Ns.of_isNs (PySem.W.isNs_of_in X bK)
   exact⟨bm,ns,nm,qn,bs,hd,sn,sub,ab,col,dd,k0,k1,k2,k3,k5,_,X _ _ ho,hN,wI X hN Qh,PySem.W.tail_of_in X ht⟩
  ·cases q
 ·cases q
variable{t:TA}{es:List Expr}{e:Expr}{ps:List Str}
section
variable{p pos:Pos}
end
section
open PySem.SeqAt (shaped noMix noMixAll)
end
section
open PySem.SeqAt (shaped noMix noMixAll)
theorem Eo{x:V}{u t:Value}(I:Inv X NX σ H s)(rx:RelV x u)(ty:jT X.K H x t):∃ HH:Heap->Prop,PySem.W.KitX X.K u t HH/\HH s.heap/\u≠.builtin "__main__.__loader__#opaque" := by
 cases ty with
 | da=>cases (show u=Value.none from rx);exact⟨_,PySem.W.kitx_none,True.intro,λz=>nomatch z⟩
 | bl y=>cases (show u=Value.bool y from rx);exact⟨_,PySem.W.kitx_bool,True.intro,λz=>nomatch z⟩
 | int i=>obtain⟨t,q⟩:=(show ∃ t,u=Value.int i t from rx);cases q;exact⟨_,PySem.W.kitx_int,True.intro,λz=>nomatch z⟩
 | str y=>obtain⟨t,q⟩:=(show ∃ t,u=Value.str y t from rx);cases q;exact⟨_,PySem.W.kitx_str,True.intro,λz=>nomatch z⟩
 | F2 y=>obtain⟨t,q⟩:=(show ∃ t,u=Value.float y t from rx);cases q;exact⟨_,PySem.W.kitx_float,True.intro,λz=>nomatch z⟩
 | @lst a xs ea =>
  cases (show u=Value.ref a from rx)
  obtain⟨_,_,n,_,h1⟩:=(show cu X.prog X.w H s.heap a (.lst xs) from I.bK a _ ea)
  exact⟨_,PySem.W.kitx_list,⟨_,h1,rfl⟩,λz=>nomatch z⟩
 | @qK a ob xs ea =>
  cases (show u=Value.ref a from rx)
  obtain⟨_,_,_,n,_,h1⟩:=(show cu X.prog X.w H s.heap a (.qK ob (.lst xs)) from I.bK a _ ea)
  exact⟨_,PySem.W.kitx_list,⟨_,h1,rfl⟩,λz=>nomatch z⟩
 | @tup a xs ea =>
  cases (show u=Value.ref a from rx)
  obtain⟨_,_,_,o,h1,h2,_⟩:=(show cu X.prog X.w H s.heap a (.tup xs) from I.bK a _ ea)
  exact⟨_,PySem.W.kitx_tuple,⟨o,h1,h2⟩,λz=>nomatch z⟩
 | @dK a OL ea =>
  cases (show u=Value.ref a from rx)
  obtain⟨_,_,vs,_,o,es,ep,h1,h2,_⟩:=(show cu X.prog X.w H s.heap a (.dK OL) from I.bK a _ ea)
  exact⟨_,PySem.W.kitx_dict,⟨o,h1,h2.1⟩,λz=>nomatch z⟩
 | @dT a OL ea =>
  cases (show u=Value.ref a from rx)
  obtain⟨_,_,xs,_,o,es,ep,h1,h2,_⟩:=(show cu X.prog X.w H s.heap a (.dT OL) from I.bK a _ ea)
  exact⟨_,PySem.W.kitx_dict,⟨o,h1,h2.1⟩,λz=>nomatch z⟩
 | @ins a C dx fs ea cl ha hn Jr hm =>
  cases (show u=Value.ref a from rx)
  obtain⟨mA,O,_⟩:=lW I.bK ea
  obtain⟨od,J,_⟩:=O.look
  exact⟨_,PySem.W.kitx_own (cl.get _) cl.hd ha hn Jr hm,J,λz=>nomatch z⟩
def Kv(K:PySem.W.Frag):List V->Hp->VK->Prop:=λxs H Q=>∃ (x:V) (tp:Addr) (Ts:List String) (t:Value) (b:Bool),xs=[x,.ref tp]/\H tp=some (.tup (Ts.map V.ty))/\jT K H x t/\PySem.W.kitAny K t (Ts.map Value.type)=some b/\Q (.bl b) H
theorem yt:∀ {Ts:List String} {us:List Value},Vals (Ts.map V.ty) us->us=Ts.map Value.type
 | [],us,r=>by rw[List.map_nil] at r;cases r;rfl
 | T::Ts,us,r=>by
  rw[List.map_cons] at r
  cases r with
  | cons r1 r2 =>
   cases (show _=Value.type T from r1)
   rw[yt r2]
   rfl
theorem Ak:c6 X (.builtin "isinstance") (Kv X.K):=by
 intro NX s σ H xs us Q I r h
 obtain⟨x,tp,Ts,t,b,rfl,htp,ty,e,q⟩:=h
 cases r with
 | cons r1 r2 =>
  cases r2 with
  | cons r3 r4 =>
   cases r4
   cases (show _=Value.ref tp from r3)
   obtain⟨HH,Z,p,ne⟩:=Eo I r1 ty
   obtain⟨_,NZ,rv,o,h1,h2,n,h3⟩:=(show cu X.prog X.w H s.heap tp (.tup (Ts.map V.ty)) from I.bK tp _ htp)
   have ei:=yt rv
   subst ei
   obtain⟨cls,dd,data,sl⟩:=o
   dsimp only at h2 h3
   subst h2 h3
   exact PySem.W.kia_tup Z I.jX p h1 e ne λtk=>⟨.bl b,H,I.tok tk,rfl,q⟩
theorem xY:∀ {bs:List Bool} {us:List Value},Vals (bs.map V.bl) us->us=bs.map Value.bool
 | [],us,r=>by rw[List.map_nil] at r;cases r;rfl
 | b::bs,us,r=>by
  rw[List.map_cons] at r
  cases r with
  | cons r1 r2 =>
   cases (show _=Value.bool b from r1)
   rw[xY r2]
   rfl
theorem Ja:bootBuiltins "all" = some (.builtin "all"):=by decide +kernel
theorem Ae(hc:X.calm=true):c6 X (.builtin "all") (λxs H Q=>∃ (a:Addr) (bs:List Bool),xs=[.ref a]/\gS X.K H a (bs.map V.bl)/\Q (.bl (bs.all id)) H):=by
 intro NX s σ H xs us Q I r h
 obtain⟨a,bs,rfl,hq,q⟩:=h
 cases r with
 | cons r1 r2 =>
  cases r2
  cases (show _=Value.ref a from r1)
  obtain⟨NZ,rv,p,hz⟩:=I.list hq
  have ei:=xY rv
  subst ei
  have hl:=p.isList
  have Oy:a<s.heap.objs.size:=by obtain⟨_,e,_⟩:=hl;exact Heap.lt_size e
  refine call_all_walk (wpAny_pyIter_list hl ?_)
  refine⟨s.heap.objs.size,[s.heap.objs.size,a],[s.heap.objs.size],(bs.map Value.bool).toArray.size,_,_,λi=>(bs[i]?).getD true,rfl,Walks.list (A:=X.A.in1) (I.ok.hd hc) _ a (Nat.ne_of_lt Oy) (bs.map Value.bool).toArray,
   ⟨⟨_,Heap.get?_push_size _ rfl,rfl,rfl⟩,hl.push _⟩,λi v s' Q' E' hP hQ=>?_,λh' tk hk=>?_⟩
  ·have hP':(bs.map Value.bool)[i]?=some v:=by simpa using hP
   rw[List.getElem?_map] at hP'
   obtain⟨b,e1,e2⟩:=Option.map_eq_some_iff.mp hP'
   subst e2
   simp only[e1,Option.getD_some] at hQ
   exact wpAny_truthy_bool hQ
  ·have e:((List.range (bs.map Value.bool).toArray.size).all λi=>(bs[i]?).getD true)=bs.all id:=by
    rw[List.size_toArray,List.length_map]
    rw[Bool.eq_iff_iff,List.all_eq_true,List.all_eq_true]
    constructor
    ·intro h b hb
     obtain⟨i,hi,e⟩:=List.getElem_of_mem hb
     have:=h i (List.mem_range.mpr hi)
     simp only[List.getElem?_eq_getElem hi,Option.getD_some,e] at this
     exact this
    ·intro h i hi
     have Ql:=List.mem_range.mp hi
     simp only[List.getElem?_eq_getElem Ql,Option.getD_some]
     exact h _ (List.getElem_mem Ql)
   rw[e]
   refine⟨.bl _,H,I.kept (t':=tk) (λb x e=>?_),rfl,q⟩
   exact hk b x (λhm=>by rw[List.mem_singleton.mp hm] at e;exact Nat.lt_irrefl _ (Heap.lt_size e)) (Heap.get?_push_of_some _ e)
end
section
open PySem.MeetsSeq PySem.MeetsSeq2 PySem.MeetsSeq3
theorem mL:fillsNumberSlot (.type "tuple") "mul" = pure false :=
 PySem.fillsNumberSlot_seq (id := "tuple.__mul__") (r:=some (.builtin "tuple.__rmul__")) F.slot_tuple_mul.lookup (by decide +kernel) F.slot_tuple_rmul.lookup (by decide +kernel)
theorem tN:seqRepeat? (.type "tuple")=pure (some (.builtin "tuple.__mul__")):=by
 unfold seqRepeat?
 rw[PySem.seqSlot_of (T := "tuple") (name := "__mul__") (id := "tuple.__mul__") F.slot_tuple_mul.lookup (by decide +kernel),PySem.seqSlot_of (T := "tuple") (name := "__rmul__") (id := "tuple.__rmul__") F.slot_tuple_rmul.lookup (by decide +kernel)]
 rfl
theorem tM(a:Int)(t:Tok)(l:Addr)(items:Array Value)(n:Nat)(dd:Option Addr)(sl:Array (Option Value)) :
  Meets (Builtin.«int.__rmul__» ⟨[.int a t,.ref l],[]⟩) (λ_ R s=>s.heap.get? l=some ⟨.type "tuple", dd,.seq items n,sl⟩/\R (.ok (.ret Value.notImplemented)) s) :=
 .of_wp λprog w A R s h=>by obtain⟨hp,g,d,tk,os⟩:=s;obtain⟨hl,h⟩:=h;wp_walk;exact⟨_,rfl,h⟩
theorem zo(l:Addr)(items:Array Value)(n:Nat)(dd:Option Addr)(sl:Array (Option Value))(u:Tok) :
  Meets (Builtin.«tuple.__mul__» ⟨[.ref l,.int 1 u],[]⟩) (λ_ R s=>s.heap.get? l=some ⟨.type "tuple", dd,.seq items n,sl⟩/\R (.ok (.ret (.ref l))) s) :=
 .of_wp λprog w A R s h=>by
  obtain⟨hp,g,d,tk,os⟩:=s;obtain⟨hl,h⟩:=h;have f1:=AutoSeq1.idx_int;have f2:=AutoSeq1.sub_tuple_tuple
  wp_walk using AutoSeq1.wpAny_loadPart' hl
  exact⟨_,rfl,h⟩
theorem ze(l:Addr)(items:Array Value)(n:Nat)(dd:Option Addr)(sl:Array (Option Value))(x:Int)(u:Tok)(c0:¬ (decide (x < -2^63)||decide (x>=2^63))=true)(c1:¬ (items.isEmpty||x==1)=true)(c2:¬ (decide (x<=0)||items.isEmpty)=true)
  (c3:¬ (items.size:Int)*x>(2^63-1)/8) (c4:¬ Builtin.Tuple.tupleTooMany ((items.size:Int)*x)=true) (Pt:(List.foldl (λx1 x2=>x1++x2) #[] (List.replicate x.toNat items)).size<=sizeLine) :
  Meets (Builtin.«tuple.__mul__» ⟨[.ref l,.int x u],[]⟩) (λ_ R s=>s.heap.get? l=some ⟨.type "tuple", dd,.seq items n,sl⟩/\R (.ok (.ret (.ref s.heap.objs.size))) { s with heap:=s.heap.push { cls:=.type "tuple", data:=.seq (List.foldl (λx1 x2=>x1++x2) #[] (List.replicate x.toNat items)) },toks:=s.toks }) :=
 .of_wp λprog w A R s h=>by
  obtain⟨hp,g,d,tk,os⟩:=s;obtain⟨hl,h⟩:=h;have f1:=AutoSeq1.idx_int;have f2:=AutoSeq1.sub_tuple_tuple
  wp_walk using AutoSeq1.wpAny_loadPart' hl
  refine wpAny_ite_false (decide_eq_false c0) ?_;wp_walk using AutoSeq1.wpAny_loadPart' hl
  refine wpAny_ite_false (decide_eq_false c3) ?_;wp_walk using AutoSeq1.wpAny_loadPart' hl
  exact⟨_,rfl,h⟩
theorem yZ(l:Addr)(items:Array Value)(n:Nat)(dd:Option Addr)(sl:Array (Option Value))(x:Int)(u:Tok)(c0:¬ (decide (x < -2^63)||decide (x>=2^63))=true)(c1:¬ (items.isEmpty||x==1)=true)(c2:(decide (x<=0)||items.isEmpty)=true) :
  Meets (Builtin.«tuple.__mul__» ⟨[.ref l,.int x u],[]⟩) (λ_ R s=>s.heap.get? l=some ⟨.type "tuple", dd,.seq items n,sl⟩/\R (.ok (.ret (.ref s.heap.objs.size))) { s with heap:=s.heap.push { cls:=.type "tuple", data:=.seq #[] },toks:=s.toks }) :=
 .of_wp λprog w A R s h=>by
  obtain⟨hp,g,d,tk,os⟩:=s;obtain⟨hl,h⟩:=h;have f1:=AutoSeq1.idx_int;have f2:=AutoSeq1.sub_tuple_tuple
  wp_walk using AutoSeq1.wpAny_loadPart' hl
  refine wpAny_ite_false (decide_eq_false c0) ?_;wp_walk using AutoSeq1.wpAny_loadPart' hl
  exact⟨_,rfl,h⟩
def Gb(K:PySem.W.Frag):R2:=λx y H Q=>∃ a k xs,x=.ref a/\y=.int k/\hX K H a xs/\xs≠[]/\-(2^63)<=k/\k<2^63/\xs.length*k.toNat<=sizeLine/\(k=1->Q (.ref a) H)/\(k≠1->∀ p,H p=none->Q (.ref p) (upd H p (.tup (List.replicate k.toNat xs).flatten)))
theorem EE:f_ X (binaryOp .Mult) (Gb X.K):=by
 intro NX s σ H x y v u Q I rx ry h
 obtain⟨a,k,xs,rfl,rfl,hq,P1,h1,h2,hz,q1,q2⟩:=h
 cases rx
 obtain⟨t,rfl⟩:=ry
 obtain⟨NZ,r,⟨o,e,hc,n,hd⟩,_⟩:=I.tuple hq
 obtain⟨cls,dd,data,sl⟩:=o
 dsimp only at hc hd
 subst hc hd
 have hl:=r.length
 refine wpAny_binaryOp_repeat_ref (T := "tuple") (U := "int") (by decide) ⟨_,e,rfl⟩ (λs'=>typeIs_int s' k t) mL F.fills_int_mul F.slot_int_rmul tN F.slot_int_index.lookup
  (call_meets F.slot_int_rmul (typeIs_int s k t) F.entry_int_rmul (F.args_int_rmul_2 _ _) (tM k t a NZ.toArray n dd sl) ⟨e,rfl,⟨_,e,rfl⟩,?_⟩)
 by_cases hk1:k=1
 ·subst hk1
  exact call_meets F.slot_tuple_mul ⟨_,e,rfl⟩ F.entry_tuple_mul (F.args_tuple_mul_2 _ _) (zo a NZ.toArray n dd sl t) ⟨e,⟨.ref a,H,I,rfl,q1 rfl⟩⟩
 ·have hb1:(k==1)=false:=by simpa using hk1
  have Qh:NZ≠[]:=λz=>P1 (r.lV.mp z)
  have hie:NZ.toArray.isEmpty=false:=by cases NZ with | nil=>exact absurd rfl Qh | cons _ _=>rfl
  have c0:¬ (decide (k < -2^63)||decide (k>=2^63))=true:=by simp;omega
  have c1:¬ (NZ.toArray.isEmpty||k==1)=true:=by rw[hie,hb1];simp
  have fin:∀ ys,ys=(List.replicate k.toNat NZ).flatten.toArray->EP X NX σ Q (.ref s.heap.objs.size) { s with heap:=s.heap.push { cls:=.type "tuple", data:=.seq ys },toks:=s.toks }:=λys ey=>by
   subst ey
   refine⟨.ref s.heap.objs.size,_,I.laid (t':=s.toks) (o:=.tup (List.replicate k.toNat xs).flatten) (λb ob q=>Heap.get?_push_of_some _ q) (Nat.le_refl _) ?_,rfl,q2 hk1 _ (I.bK.fresh (Nat.le_refl _))⟩
   exact⟨by rw[len_rep,Nat.mul_comm];exact hz,_,r.rep k.toNat,IsTup.new _ _⟩
  have Pm:List.foldl (λx1 x2=>x1++x2) #[] (List.replicate k.toNat NZ.toArray)=(List.replicate k.toNat NZ).flatten.toArray:=by
   have:=foldl_rep NZ k.toNat []
   rw[List.nil_append] at this
   exact this
  by_cases hk0:k<=0
  ·have c2:(decide (k<=0)||NZ.toArray.isEmpty)=true:=by rw[decide_eq_true hk0];rfl
   refine call_meets F.slot_tuple_mul ⟨_,e,rfl⟩ F.entry_tuple_mul (F.args_tuple_mul_2 _ _) (yZ a NZ.toArray n dd sl k t c0 c1 c2) ⟨e,fin _ ?_⟩
   rw[show k.toNat=0 by omega]
   rfl
  ·have c2:¬ (decide (k<=0)||NZ.toArray.isEmpty)=true:=by rw[decide_eq_false hk0,hie];simp
   have em:((NZ.toArray.size:Nat):Int)*k=((xs.length*k.toNat:Nat):Int):=by
    rw[List.size_toArray,← hl,Int.natCast_mul,Int.toNat_of_nonneg (by omega)]
   have hs:(sizeLine:Int)<=(2^63-1)/8:=by decide
   refine call_meets F.slot_tuple_mul ⟨_,e,rfl⟩ F.entry_tuple_mul (F.args_tuple_mul_2 _ _) (ze a NZ.toArray n dd sl k t c0 c1 c2 ?_ ?_ ?_) ⟨e,fin _ Pm⟩
   ·rw[em];omega
   ·rw[em]
    unfold Builtin.Tuple.tupleTooMany
    simp only[decide_eq_true_eq]
    omega
   ·rw[Pm,List.size_toArray,len_rep,Nat.mul_comm,← hl]
    exact hz
end
structure bc (K:PySem.W.Frag) (x qual:Str) (st:Stmt) (dv:Value) (f:Addr) (fd:FuncData):Prop where
 ex:∃ (oc:Value) (od:Option Addr) (kV doc pm:Value) (an:Option Addr) (Oh ct:Value) (QG:Array (Option Value)),
  fd=PySem.W.fnOf x qual (ic st) (eU st) (aZ st) dv kV doc pm an Oh ct/\K.lookup f=some ⟨oc,od,.func fd,QG⟩/\PySem.W.codeIn K Oh qual=true
 kp:PySem.W.keepIn K (.ref f)=true
variable{ds:List Value}{T:Addr}{qual:Str}
section
variable{K:PySem.W.Frag}
theorem bc.binds{st:Stmt}{o:Obj}(F:bc K x qual st (.ref T) f fd)(ho:K.lookup T=some o)(hs:o.data=.seq items n)
  (h:∀ (kV doc pm:Value) (an:Option Addr) (Oh ct:Value) (us:List Value),(us++ds).length=ps.length->∃ k,bindArgs (PySem.W.fnOf x qual (ic st) (eU st) (aZ st) (.ref T) kV doc pm an Oh ct) ⟨us,[]⟩=seqItems? (.ref T) >>= k/\k (some items)=pure (ps.zip (us++ds))):Binds K fd ps ds:=by
 obtain⟨oc,od,kV,doc,pm,an,Oh,ct,QG,rfl,lk,OX⟩:=F.ex
 intro s us X hl
 obtain⟨k,h1,h2⟩:=h kV doc pm an Oh ct us hl
 exact BindsTo.of_defaults rfl (X _ _ ho) hs h1 h2
end
variable{v:V}
theorem K5{pos:Pos}(hg:Gl X x)(hm:∃ u,X.mg x=some u/\RelV v u)(hd:autoParam ((x==("__debug__" : Str))=false) aD._auto_1):PE X (.Name x pos) (tC v):=by
 obtain⟨u,h1,h2⟩:=hm
 exact xX hg h1 h2 hd
theorem G8:bootBuiltins "max" = some (.builtin "max"):=by decide +kernel
theorem IP:bootBuiltins "min" = some (.builtin "min"):=by decide +kernel
variable{y:Str}
theorem DH{cl:List (Str×Addr)}{pos Po py:Pos}{wi:TI}{g:TG}{fs:List Str}(hN:X.N.Nodup)(Q6:X.N[i]?=some y)(hy:Loc X.env.scope y)(N4:X.calm=true)
  (Oc:closureFor scope X.env=pure cl) (hk:scope.kind=.function) (nc:eQ scope.names=true) (lo:fK scope.names=true) (fh:fN cl scope.names=true) (ag:dP X cl) (fr:g9 X scope cl fs js)
  (hi:PI X tg iter wi) (hg:∀ C s₀ H₀ ex NX,PG (mw X scope cl (ts++fs) C s₀ H₀ ex NX) tg g) (he:∀ C s₀ H₀ ex NX,PE (mw X scope cl (ts++fs) C s₀ H₀ ex NX) elt te)
  (hs:autoParam (∀ x,foldedSetIterable iter X.env x=pure x) aI._auto_1) (QS:autoParam (swapsWith (.ListComp elt [⟨tg,iter,[],0⟩] scope pos) (some (.Name y py)) Po.line X.env=pure true) aR._auto_1)
  (hf:autoParam (X.fn y=true\/X.env.scope.names.lookup y=some .local) aF._auto_1) :
  PS X (.Assign [.Name y py] (.ListComp elt [⟨tg,iter,[],0⟩] scope pos) Po) (Ff (wu wi g te ts js) (aC i)):=by
 intro NX s σ H D I h
 rw[exec_Assign_Name_used _ _ _ _ QS]
 refine wpAny_bind (wpAny_standAt (wpAny_bind ?_))
 show wpAny _ X.A (do let _ ← comprehension (.ListComp elt [⟨tg,iter,[],0⟩] scope pos) scope X.env _ (newList []) false (eval iter X.env) (some (assign (.Name y py) X.env))) _ _ s
 refine wpAny_bind (wpAny_mono (qy (tt:=none) N4 Oc hk nc lo fh ag fr hi hg (λ_ _ _ _ _=>trivial) he hs I (show ya wi g none te ts js σ H (λx H1=>D.nx (σ.set i (some x)) H1) from h) (some (assign (.Name y py) X.env)) (λ_ s'=>SP X NX D .next s') λDd H' s' C Io q hm f=>?_) (λ_ s' hq=>wpAny_pure (wpAny_pure hq)) λ_ _ e=>e)
 show wpAny _ X.A (assign (.Name y py) X.env (.ref Dd)) _ _ s'
 refine wpAny_assign_Name (nh Io hN Q6 hy (v:=.ref Dd) rfl (λRN I'' ⟨a,sb,ha⟩=>?_) hf)
 obtain⟨m,hn⟩:=hm
 obtain⟨f0,f1,f2,f3,f4,f5⟩:=f
 have naC:a≠C:=by
  rcases ha with z | z
  ·rw[z];exact λw=>f1 w.symm
  ·exact f4 y a z
 refine⟨m,hn.sameBut sb (Ne.symm naC),λh' QR=>?_⟩
 exact⟨_,H',I''.other ⟨f0,f1,f2,f3,f4,f5⟩ QR,q⟩
theorem pe(a b c:Value):checkTypeCall "zip" ⟨[a,b,c],[]⟩=pure ():=by kernel_rfl
theorem qU(a b c:Value):checkBuiltinCall "zip.__new__" ⟨[.type "zip", a,b,c],[]⟩=pure ():=by kernel_rfl
abbrev bO(h:Heap)(T:Addr)(a b c:Value):Prop:=h.get? T=some { cls:=.type "tuple", data:=.seq #[a,b,c] }
structure Z3 (z TI TO i1 i2 i3:Addr):Prop where
 TIz:TI≠z
 TOz:TO≠z
 i1z:i1≠z
 i2z:i2≠z
 Jy:i3≠z
 TITO:TI≠TO
 TIi1:TI≠i1
 TIi2:TI≠i2
 Mo:TI≠i3
 TOi1:TO≠i1
 TOi2:TO≠i2
 D8:TO≠i3
 i12:i1≠i2
 Nf:i1≠i3
 Mz:i2≠i3
structure L3 (z TO i1 i2 i3 l:Addr):Prop where
 z:l≠z
 o:l≠TO
 i1:l≠i1
 i2:l≠i2
 i3:l≠i3
section
variable{E:Value->Shared->Prop}
theorem dy{a b c x:Value}{Q:Unit->Shared->Prop}(hT:bO s.heap T a b c)
  (h:∀ h',h'.get? T=some { cls:=.type "tuple", data:=.seq ((#[a,b,c]:Array Value).setIfInBounds k x) }->Heap.SameBut T s.heap h'->Q () { s with heap:=h' }) :
  wpAny (model prog w) A (updateSeq T (·.setIfInBounds k x)) Q E s:=by
 refine wpAny_updateSeq hT rfl (h _ ?_ (Heap.SameBut.update ..))
 rw[Heap.get?_update_self _ hT rfl]
 simp[Obj.mapSeq]
variable{b1 b2 b3:Bool}{z TI TO i1 i2 i3 l3:Addr}{k3:Nat}{xs zs:Array Value}{x y v a b c:Value}
theorem zN(D:Z3 z TI TO i1 i2 i3)(D1:L3 z TO i1 i2 i3 l1)(D2:L3 z TO i1 i2 i3 l2)(D3:L3 z TO i1 i2 i3 l3)
  (hz:IsZip s.heap z TI TO .none) (OC:bO s.heap TI (.ref i1) (.ref i2) (.ref i3)) (OE:bO s.heap TO a b c)
  (h1:eI s.heap b1 i1 l1 k1) (h2:eI s.heap b2 i2 l2 k2) (h3:eI s.heap b3 i3 l3 k3) (Pj:gj s.heap b1 l1 xs) (Pl:gj s.heap b2 l2 ys) (Qu:gj s.heap b3 l3 zs) (hx:xs[k1]?=some x) (hy:ys[k2]?=some y) (hv:zs[k3]?=some v)
  (hQ:∀ h',IsZip h' z TI TO (rawInt s.heap.objs.size)->bO h' TO x y v->eI h' b1 i1 l1 (k1+1)->eI h' b2 i2 l2 (k2+1)->eI h' b3 i3 l3 (k3+1)->bO h' s.heap.objs.size x y v->h'.objs.size=s.heap.objs.size+1 ->
   (∀ c o,c≠z->c≠TO->c≠i1->c≠i2->c≠i3->s.heap.get? c=some o->h'.get? c=some o)->Q (.ref s.heap.objs.size) { s with heap:=h' }) :
  wpAny (model prog w) A (Builtin.«zip.__next__» ⟨[.ref z],[]⟩) (λfin s'=>∃ v,fin=.done (.ret v)/\Q v s') E s:=by
 show wpAny _ _ (field (.ref z) 2 >>= _) _ _ _
 refine wpAny_bind (wpAny_field hz rfl (x:=.bool false) rfl ?_)
 show wpAny _ _ (field (.ref z) 3 >>= _) _ _ _
 refine wpAny_bind (wpAny_field hz rfl (x:=.ref TI) rfl ?_)
 refine wpAny_bind (wpAny_seqItems OC rfl ?_)
 show wpAny _ _ (Builtin.SmallTypes.ownedTupleIsFree (.ref z) >>= _) _ _ _
 refine wpAny_bind ?_
 unfold Builtin.SmallTypes.ownedTupleIsFree
 refine wpAny_bind (wpAny_field hz rfl (x:=.none) rfl (wpAny_pure ?_))
 simp only[if_true]
 refine wpAny_bind (wpAny_rule ?_)
 refine wpAny_bind (wpAny_field hz rfl (x:=.ref TO) rfl ?_)
 refine wpAny_bind (wpAny_setField_rec hz (by simp) λh₁ hz1 hs1=>?_)
 replace hz1:IsZip h₁ z TI TO .ellipsis:=hz1
 refine wpAny_bind ?_
 simp only[List.zipIdx_cons,List.zipIdx_nil,List.forIn_cons,List.forIn_nil]
 refine wpAny_bind (wpAny_bind (wpAny_onRaise ?_))
 show wpAny _ _ (Builtin.SmallTypes.nextOf (.ref i1) >>= _) _ _ _
 refine wpAny_bind (cS (h1.at λo e=>hs1.extBut _ _ D.i1z e) (Pj.at λo e=>hs1.extBut _ _ D1.z e) hx λh₂ h1₂ hs2=>wpAny_pure ?_)
 have hTO2:bO h₂ TO a b c:=hs2.extBut _ _ D.TOi1 (hs1.extBut _ _ D.TOz OE)
 refine wpAny_bind (wpAny_seqItems hTO2 rfl ?_)
 refine wpAny_bind (dy hTO2 λh₃ hTO3 hs3=>?_)
 replace hTO3:bO h₃ TO x b c:=hTO3
 refine wpAny_bind (wpAny_letGo (wpAny_pure ?_))
 have QJ:∀ q o,q≠z->q≠TO->q≠i1->s.heap.get? q=some o->h₃.get? q=some o:=λq o c1 c2 c3 e=>hs3.extBut _ _ c2 (hs2.extBut _ _ c3 (hs1.extBut _ _ c1 e))
 refine wpAny_bind (wpAny_bind (wpAny_onRaise ?_))
 show wpAny _ _ (Builtin.SmallTypes.nextOf (.ref i2) >>= _) _ _ _
 refine wpAny_bind (cS (h2.at λo e=>QJ _ o D.i2z D.TOi2.symm D.i12.symm e) (Pl.at λo e=>QJ _ o D2.z D2.o D2.i1 e) hy λh₄ h2₄ hs4=>wpAny_pure ?_)
 have hTO4:bO h₄ TO x b c:=hs4.extBut _ _ D.TOi2 hTO3
 refine wpAny_bind (wpAny_seqItems hTO4 rfl ?_)
 refine wpAny_bind (dy hTO4 λh₅ hTO5 hs5=>?_)
 replace hTO5:bO h₅ TO x y c:=hTO5
 refine wpAny_bind (wpAny_letGo (wpAny_pure ?_))
 have k5:∀ q o,q≠z->q≠TO->q≠i1->q≠i2->s.heap.get? q=some o->h₅.get? q=some o:=λq o c1 c2 c3 c4 e=>hs5.extBut _ _ c2 (hs4.extBut _ _ c4 (QJ q o c1 c2 c3 e))
 refine wpAny_bind (wpAny_bind (wpAny_onRaise ?_))
 show wpAny _ _ (Builtin.SmallTypes.nextOf (.ref i3) >>= _) _ _ _
 refine wpAny_bind (cS (h3.at λo e=>k5 _ o D.Jy D.D8.symm D.Nf.symm D.Mz.symm e) (Qu.at λo e=>k5 _ o D3.z D3.o D3.i1 D3.i2 e) hv λh₆ h3₆ hs6=>wpAny_pure ?_)
 have hTO6:bO h₆ TO x y c:=hs6.extBut _ _ D.D8 hTO5
 refine wpAny_bind (wpAny_seqItems hTO6 rfl ?_)
 refine wpAny_bind (dy hTO6 λh₇ hTO7 hs7=>?_)
 replace hTO7:bO h₇ TO x y v:=hTO7
 refine wpAny_bind (wpAny_letGo (wpAny_pure (wpAny_pure ?_)))
 refine wpAny_bind (wpAny_seqItems hTO7 rfl ?_)
 refine wpAny_bind (wpAny_newTuple ?_)
 have Pt:h₇.objs.size=s.heap.objs.size:=by rw[hs7.1,hs6.1,hs5.1,hs4.1,hs3.1,hs2.1,hs1.1]
 have hz₃:IsZip h₃ z TI TO .ellipsis:=hs3.extBut _ _ D.TOz.symm (hs2.extBut _ _ D.i1z.symm hz1)
 have hz5:IsZip h₅ z TI TO .ellipsis:=hs5.extBut _ _ D.TOz.symm (hs4.extBut _ _ D.i2z.symm hz₃)
 have hz7:IsZip h₇ z TI TO .ellipsis:=hs7.extBut _ _ D.TOz.symm (hs6.extBut _ _ D.Jy.symm hz5)
 have k7:∀ q o,q≠z->q≠TO->q≠i1->q≠i2->q≠i3->s.heap.get? q=some o->h₇.get? q=some o:=λq o c1 c2 c3 c4 c5 e=>hs7.extBut _ _ c2 (hs6.extBut _ _ c5 (k5 q o c1 c2 c3 c4 e))
 have h1₇:eI h₇ b1 i1 l1 (k1+1):=h1₂.at λo e=>hs7.extBut _ _ D.TOi1.symm (hs6.extBut _ _ D.Nf (hs5.extBut _ _ D.TOi1.symm (hs4.extBut _ _ D.i12 (hs3.extBut _ _ D.TOi1.symm e))))
 have h2₇:eI h₇ b2 i2 l2 (k2+1):=h2₄.at λo e=>hs7.extBut _ _ D.TOi2.symm (hs6.extBut _ _ D.Mz (hs5.extBut _ _ D.TOi2.symm e))
 have h3₇:eI h₇ b3 i3 l3 (k3+1):=h3₆.at λo e=>hs7.extBut _ _ D.D8.symm e
 have Qz:z<h₇.objs.size:=Heap.lt_size hz7
 show wpAny _ _ (Builtin.SmallTypes.ownedTupleHandOut (.ref z) (.ref h₇.objs.size) >>= _) _ _ _
 refine wpAny_bind ?_
 unfold Builtin.SmallTypes.ownedTupleHandOut
 have hz₈:IsZip (h₇.push { cls:=.type "tuple", data:=.seq #[x,y,v] }) z TI TO .ellipsis:=Heap.get?_push_of_some _ hz7
 refine wpAny_bind (wpAny_setField_rec hz₈ (by simp) λh₉ hz9 hs9=>?_)
 replace hz9:IsZip h₉ z TI TO (rawInt h₇.objs.size):=hz9
 refine wpAny_setField_rec hz9 (by simp) λhA hzA hsA=>?_
 replace hzA:IsZip hA z TI TO (rawInt h₇.objs.size):=hzA
 have up:∀ c o,c≠z->h₇.get? c=some o->hA.get? c=some o:=λc o c1 e=>hsA.extBut _ _ c1 (hs9.extBut _ _ c1 (Heap.get?_push_of_some _ e))
 have hTA:bO hA h₇.objs.size x y v:=hsA.extBut _ _ (Nat.ne_of_gt Qz) (hs9.extBut _ _ (Nat.ne_of_gt Qz) (Heap.get?_push_size _ rfl))
 have RG:hA.objs.size=h₇.objs.size+1:=by rw[hsA.1,hs9.1,Heap.size_push]
 rw[Pt] at hzA hTA RG
 refine wpAny_pure ⟨_,rfl,?_⟩
 show Q (.ref h₇.objs.size) _
 rw[Pt]
 exact hQ hA hzA (up _ _ D.TOz hTO7) (h1₇.at λo e=>up _ o D.i1z e) (h2₇.at λo e=>up _ o D.i2z e) (h3₇.at λo e=>up _ o D.Jy e) hTA RG λc o c1 c2 c3 c4 c5 e=>up c o c1 (k7 c o c1 c2 c3 c4 c5 e)
theorem Cz{Q:Fin->Shared->Prop}(hh:A.handled=none)(D:Z3 z TI TO i1 i2 i3)(D1:L3 z TO i1 i2 i3 l1)(D2:L3 z TO i1 i2 i3 l2)(D3:L3 z TO i1 i2 i3 l3)
  (hz:IsZip s.heap z TI TO .none) (OC:bO s.heap TI (.ref i1) (.ref i2) (.ref i3)) (OE:bO s.heap TO a b c)
  (h1:eI s.heap b1 i1 l1 k1) (h2:eI s.heap b2 i2 l2 k2) (h3:eI s.heap b3 i3 l3 k3) (Pj:gj s.heap b1 l1 xs) (Pl:gj s.heap b2 l2 ys) (Qu:gj s.heap b3 l3 zs) (Pq:xs[k1]?=none\/ys[k2]?=none\/zs[k3]?=none)
  (hE:∀ h' e,(∀ c o,c≠z->c≠TO->c≠i1->c≠i2->c≠i3->s.heap.get? c=some o->h'.get? c=some o)->(∃ o,h'.get? e=some o/\o.cls=.type "StopIteration")->E (.ref e) { s with heap:=h' }) :
  wpAny (model prog w) A (Builtin.«zip.__next__» ⟨[.ref z],[]⟩) Q E s:=by
 show wpAny _ _ (field (.ref z) 2 >>= _) _ _ _
 refine wpAny_bind (wpAny_field hz rfl (x:=.bool false) rfl ?_)
 show wpAny _ _ (field (.ref z) 3 >>= _) _ _ _
 refine wpAny_bind (wpAny_field hz rfl (x:=.ref TI) rfl ?_)
 refine wpAny_bind (wpAny_seqItems OC rfl ?_)
 show wpAny _ _ (Builtin.SmallTypes.ownedTupleIsFree (.ref z) >>= _) _ _ _
 refine wpAny_bind ?_
 unfold Builtin.SmallTypes.ownedTupleIsFree
 refine wpAny_bind (wpAny_field hz rfl (x:=.none) rfl (wpAny_pure ?_))
 simp only[if_true]
 refine wpAny_bind (wpAny_rule ?_)
 refine wpAny_bind (wpAny_field hz rfl (x:=.ref TO) rfl ?_)
 refine wpAny_bind (wpAny_setField_rec hz (by simp) λh₁ hz1 hs1=>?_)
 replace hz1:IsZip h₁ z TI TO .ellipsis:=hz1
 refine wpAny_bind ?_
 simp only[List.zipIdx_cons,List.zipIdx_nil,List.forIn_cons,List.forIn_nil]
 refine wpAny_bind (wpAny_bind (wpAny_onRaise ?_))
 show wpAny _ _ (Builtin.SmallTypes.nextOf (.ref i1) >>= _) _ _ _
 cases hx:xs[k1]? with
 | none =>
  refine wpAny_bind (hU hh (h1.at λo e=>hs1.extBut _ _ D.i1z e) (Pj.at λo e=>hs1.extBut _ _ D1.z e) hx λh₂ e hs2 he=>?_)
  obtain⟨oe,Pd,P9⟩:=he
  have hz2:IsZip h₂ z TI TO .ellipsis:=hs2 _ _ D.i1z.symm hz1
  have QP:e≠z:=λx=>by subst x;rw[hz2] at Pd;cases Pd;simp at P9
  refine wpAny_setField_rec hz2 (by simp) λh₃ _ hs3=>hE h₃ e (λc o c1 _ c3 _ _ x=>hs3.extBut _ _ c1 (hs2 _ _ c3 (hs1.extBut _ _ c1 x))) ⟨oe,hs3.extBut _ _ QP Pd,P9⟩
 | some x =>
  refine wpAny_bind (cS (h1.at λo e=>hs1.extBut _ _ D.i1z e) (Pj.at λo e=>hs1.extBut _ _ D1.z e) hx λh₂ h1₂ hs2=>wpAny_pure ?_)
  have hTO2:bO h₂ TO a b c:=hs2.extBut _ _ D.TOi1 (hs1.extBut _ _ D.TOz OE)
  refine wpAny_bind (wpAny_seqItems hTO2 rfl ?_)
  refine wpAny_bind (dy hTO2 λh₃ hTO3 hs3=>?_)
  replace hTO3:bO h₃ TO x b c:=hTO3
  refine wpAny_bind (wpAny_letGo (wpAny_pure ?_))
  have QJ:∀ q o,q≠z->q≠TO->q≠i1->s.heap.get? q=some o->h₃.get? q=some o:=λq o c1 c2 c3 e=>hs3.extBut _ _ c2 (hs2.extBut _ _ c3 (hs1.extBut _ _ c1 e))
  have hz₃:IsZip h₃ z TI TO .ellipsis:=hs3.extBut _ _ D.TOz.symm (hs2.extBut _ _ D.i1z.symm hz1)
  refine wpAny_bind (wpAny_bind (wpAny_onRaise ?_))
  show wpAny _ _ (Builtin.SmallTypes.nextOf (.ref i2) >>= _) _ _ _
  cases hy:ys[k2]? with
  | none =>
   refine wpAny_bind (hU hh (h2.at λo e=>QJ _ o D.i2z D.TOi2.symm D.i12.symm e) (Pl.at λo e=>QJ _ o D2.z D2.o D2.i1 e) hy λh₄ e hs4 he=>?_)
   obtain⟨oe,Pd,P9⟩:=he
   have hz4:IsZip h₄ z TI TO .ellipsis:=hs4 _ _ D.i2z.symm hz₃
   have QP:e≠z:=λx=>by subst x;rw[hz4] at Pd;cases Pd;simp at P9
   refine wpAny_setField_rec hz4 (by simp) λh₅ _ hs5=>hE h₅ e (λc o c1 c2 c3 c4 _ x=>hs5.extBut _ _ c1 (hs4 _ _ c4 (QJ c o c1 c2 c3 x))) ⟨oe,hs5.extBut _ _ QP Pd,P9⟩
  | some y =>
   have hv:zs[k3]?=none:=by
    rcases Pq with h | h | h
    ·rw[hx] at h;cases h
    ·rw[hy] at h;cases h
    ·exact h
   refine wpAny_bind (cS (h2.at λo e=>QJ _ o D.i2z D.TOi2.symm D.i12.symm e) (Pl.at λo e=>QJ _ o D2.z D2.o D2.i1 e) hy λh₄ h2₄ hs4=>wpAny_pure ?_)
   have hTO4:bO h₄ TO x b c:=hs4.extBut _ _ D.TOi2 hTO3
   refine wpAny_bind (wpAny_seqItems hTO4 rfl ?_)
   refine wpAny_bind (dy hTO4 λh₅ hTO5 hs5=>?_)
   refine wpAny_bind (wpAny_letGo (wpAny_pure ?_))
   have k5:∀ q o,q≠z->q≠TO->q≠i1->q≠i2->s.heap.get? q=some o->h₅.get? q=some o:=λq o c1 c2 c3 c4 e=>hs5.extBut _ _ c2 (hs4.extBut _ _ c4 (QJ q o c1 c2 c3 e))
   have hz5:IsZip h₅ z TI TO .ellipsis:=hs5.extBut _ _ D.TOz.symm (hs4.extBut _ _ D.i2z.symm hz₃)
   refine wpAny_bind (wpAny_bind (wpAny_onRaise ?_))
   show wpAny _ _ (Builtin.SmallTypes.nextOf (.ref i3) >>= _) _ _ _
   refine wpAny_bind (hU hh (h3.at λo e=>k5 _ o D.Jy D.D8.symm D.Nf.symm D.Mz.symm e) (Qu.at λo e=>k5 _ o D3.z D3.o D3.i1 D3.i2 e) hv λh₆ e hs6 he=>?_)
   obtain⟨oe,Pd,P9⟩:=he
   have hz6:IsZip h₆ z TI TO .ellipsis:=hs6 _ _ D.Jy.symm hz5
   have QP:e≠z:=λx=>by subst x;rw[hz6] at Pd;cases Pd;simp at P9
   refine wpAny_setField_rec hz6 (by simp) λh₇ _ hs7=>hE h₇ e (λc o c1 c2 c3 c4 c5 x=>hs7.extBut _ _ c1 (hs6 _ _ c5 (k5 c o c1 c2 c3 c4 x))) ⟨oe,hs7.extBut _ _ QP Pd,P9⟩
end
section
variable{E:Value->Shared->Prop}
variable{b1 b2 b3:Bool}{z TI TO i1 i2 i3 l3:Addr}{k3:Nat}{xs zs:Array Value}{x y v a b c:Value}
theorem mI{Q:Option Value->Shared->Prop}(D:Z3 z TI TO i1 i2 i3)(D1:L3 z TO i1 i2 i3 l1)(D2:L3 z TO i1 i2 i3 l2)(D3:L3 z TO i1 i2 i3 l3)
  (hz:IsZip s.heap z TI TO .none) (OC:bO s.heap TI (.ref i1) (.ref i2) (.ref i3)) (OE:bO s.heap TO a b c)
  (h1:eI s.heap b1 i1 l1 k1) (h2:eI s.heap b2 i2 l2 k2) (h3:eI s.heap b3 i3 l3 k3) (Pj:gj s.heap b1 l1 xs) (Pl:gj s.heap b2 l2 ys) (Qu:gj s.heap b3 l3 zs) (hx:xs[k1]?=some x) (hy:ys[k2]?=some y) (hv:zs[k3]?=some v)
  (hQ:∀ h',IsZip h' z TI TO (rawInt s.heap.objs.size)->bO h' TO x y v->eI h' b1 i1 l1 (k1+1)->eI h' b2 i2 l2 (k2+1)->eI h' b3 i3 l3 (k3+1)->bO h' s.heap.objs.size x y v->h'.objs.size=s.heap.objs.size+1 ->
   (∀ c o,c≠z->c≠TO->c≠i1->c≠i2->c≠i3->s.heap.get? c=some o->h'.get? c=some o)->Q (some (.ref s.heap.objs.size)) { s with heap:=h' }) :
  wpAny (model prog w) A (pyNext (.ref z)) Q E s:=by
 have hT:s.TypeIs (.ref z) "zip" := ⟨_,hz,rfl⟩
 unfold pyNext
 exact wpAny_bind (wpAny_attempt (wpAny_callSpecial?_slot (name:=Str.ofString "__next__") hT F.slot_zip_next
  (wpAny_call_entry F.slot_zip_next hT F.entry_zip_next
   (zN D D1 D2 D3 hz OC OE h1 h2 h3 Pj Pl Qu hx hy hv λh' a1 a2 a3 a4 a5 a6 a7 a8=>wpAny_pure (hQ h' a1 a2 a3 a4 a5 a6 a7 a8)) (F.args_zip_next_1 _))))
theorem nN{Q:Option Value->Shared->Prop}(hh:A.handled=none)(D:Z3 z TI TO i1 i2 i3)(D1:L3 z TO i1 i2 i3 l1)(D2:L3 z TO i1 i2 i3 l2)(D3:L3 z TO i1 i2 i3 l3)
  (hz:IsZip s.heap z TI TO .none) (OC:bO s.heap TI (.ref i1) (.ref i2) (.ref i3)) (OE:bO s.heap TO a b c)
  (h1:eI s.heap b1 i1 l1 k1) (h2:eI s.heap b2 i2 l2 k2) (h3:eI s.heap b3 i3 l3 k3) (Pj:gj s.heap b1 l1 xs) (Pl:gj s.heap b2 l2 ys) (Qu:gj s.heap b3 l3 zs) (Pq:xs[k1]?=none\/ys[k2]?=none\/zs[k3]?=none)
  (hQ:∀ h',(∀ c o,c≠z->c≠TO->c≠i1->c≠i2->c≠i3->s.heap.get? c=some o->h'.get? c=some o)->Q none { s with heap:=h' }):wpAny (model prog w) A (pyNext (.ref z)) Q E s:=by
 have hT:s.TypeIs (.ref z) "zip" := ⟨_,hz,rfl⟩
 unfold pyNext
 refine wpAny_bind (wpAny_attempt (wpAny_callSpecial?_slot (name:=Str.ofString "__next__") hT F.slot_zip_next
  (wpAny_call_entry F.slot_zip_next hT F.entry_zip_next (Cz hh D D1 D2 D3 hz OC OE h1 h2 h3 Pj Pl Qu Pq λh' e hk he=>?_) (F.args_zip_next_1 _))))
 obtain⟨o,ho,hc⟩:=he
 refine wpAny_bind (wpAny_isInstance (T := "StopIteration") (b:=true) ⟨o,ho,hc⟩ isSubtype_stop ?_)
 exact wpAny_pure (hQ _ hk)
end
abbrev Ll(h:Heap)(b1 b2 b3:Bool)(l1 l2 l3:Addr):Heap:=(F5 h b1 b2 l1 l2).push (Fc b3 l3)
abbrev Lk(h:Heap)(b1 b2 b3:Bool)(l1 l2 l3:Addr):Heap:=(Ll h b1 b2 b3 l1 l2 l3).push { cls:=.type "tuple", data:=.seq #[.ref h.objs.size,.ref (HI h b1 l1).objs.size,.ref (F5 h b1 b2 l1 l2).objs.size] }
abbrev Ln(h:Heap)(b1 b2 b3:Bool)(l1 l2 l3:Addr):Heap:=(Lk h b1 b2 b3 l1 l2 l3).push { cls:=.type "tuple", data:=.seq #[.none,.none,.none] }
abbrev GN(h:Heap)(b1 b2 b3:Bool)(l1 l2 l3:Addr):Heap:=(Ln h b1 b2 b3 l1 l2 l3).push { cls:=.type "zip", data:=.fields #[.none,.bool false,.bool false,.ref (Ll h b1 b2 b3 l1 l2 l3).objs.size,.ref (Lk h b1 b2 b3 l1 l2 l3).objs.size] }
theorem oU(b1 b2 b3:Bool)(l1 l2 l3:Addr)(xs ys zs:Array Value) :
  Meets (Builtin.«zip.__new__» ⟨[.type "zip", .ref l1,.ref l2,.ref l3],[]⟩) (λ_ R s=>gj s.heap b1 l1 xs/\gj s.heap b2 l2 ys/\gj s.heap b3 l3 zs ∧
   R (.ok (.ret (.ref (Ln s.heap b1 b2 b3 l1 l2 l3).objs.size))) { s with heap:=GN s.heap b1 b2 b3 l1 l2 l3 }) :=
 .of_wp λprog w A R s h=>by
  obtain⟨hp,g,d,tk,os⟩:=s;obtain⟨Pj,Pl,Qu,h⟩:=h
  have RC:=sub_zip
  have hL1:gj (Shared.heap ⟨hp,g,d,tk,os⟩) b1 l1 xs:=Pj
  have hL2:gj (Shared.heap ⟨hp.push (Fc b1 l1),g,d,tk,os⟩) b2 l2 ys:=gj.push Pl _
  have hL3:gj (Shared.heap ⟨(hp.push (Fc b1 l1)).push (Fc b2 l2),g,d,tk,os⟩) b3 l3 zs:=gj.push (gj.push Qu _) _
  wp_walk using fZ hL1,fZ hL2,fZ hL3
  exact⟨_,rfl,h⟩
section
variable{E:Value->Shared->Prop}
theorem zu{b1 b2 b3:Bool}{l3:Addr}{xs zs:Array Value}(Pj:gj s.heap b1 l1 xs)(Pl:gj s.heap b2 l2 ys)(Qu:gj s.heap b3 l3 zs)
  (h:∀ h',IsZip h' (s.heap.objs.size+5) (s.heap.objs.size+3) (s.heap.objs.size+4) .none->bO h' (s.heap.objs.size+3) (.ref s.heap.objs.size) (.ref (s.heap.objs.size+1)) (.ref (s.heap.objs.size+2)) ->
   bO h' (s.heap.objs.size+4) .none .none .none->eI h' b1 s.heap.objs.size l1 0->eI h' b2 (s.heap.objs.size+1) l2 0->eI h' b3 (s.heap.objs.size+2) l3 0 ->
   (∀ c o,s.heap.get? c=some o->h'.get? c=some o)->Q (.ref (s.heap.objs.size+5)) { s with heap:=h' }) :
  wpAny (model prog w) A (call (.type "zip") [.ref l1,.ref l2,.ref l3]) Q E s:=by
 refine callType_new F.called_zip (by decide) (pe _ _ _) (qU _ _ _) (λobj=>F.initArgs_range_3 obj _ _ _) F.entry_zip_new
  (oU b1 b2 b3 l1 l2 l3 xs ys zs) ⟨Pj,Pl,Qu,?_⟩
 have z1:(HI s.heap b1 l1).objs.size=s.heap.objs.size+1:=Heap.size_push ..
 have z2:(F5 s.heap b1 b2 l1 l2).objs.size=s.heap.objs.size+2:=by rw[Heap.size_push,z1]
 have z3:(Ll s.heap b1 b2 b3 l1 l2 l3).objs.size=s.heap.objs.size+3:=by rw[Heap.size_push,z2]
 have z4:(Lk s.heap b1 b2 b3 l1 l2 l3).objs.size=s.heap.objs.size+4:=by rw[Heap.size_push,z3]
 have z5:(Ln s.heap b1 b2 b3 l1 l2 l3).objs.size=s.heap.objs.size+5:=by rw[Heap.size_push,z4]
 have g6:(GN s.heap b1 b2 b3 l1 l2 l3).get? (Ln s.heap b1 b2 b3 l1 l2 l3).objs.size=some _:=Heap.get?_push_size _ rfl
 have g5:(GN s.heap b1 b2 b3 l1 l2 l3).get? (Lk s.heap b1 b2 b3 l1 l2 l3).objs.size=some _:=Heap.get?_push_of_some _ (Heap.get?_push_size _ rfl)
 have g4:(GN s.heap b1 b2 b3 l1 l2 l3).get? (Ll s.heap b1 b2 b3 l1 l2 l3).objs.size=some _:=Heap.get?_push_of_some _ (Heap.get?_push_of_some _ (Heap.get?_push_size _ rfl))
 have g3:(GN s.heap b1 b2 b3 l1 l2 l3).get? (F5 s.heap b1 b2 l1 l2).objs.size=some _:=Heap.get?_push_of_some _ (Heap.get?_push_of_some _ (Heap.get?_push_of_some _ (Heap.get?_push_size _ rfl)))
 have g2:(GN s.heap b1 b2 b3 l1 l2 l3).get? (HI s.heap b1 l1).objs.size=some _:=Heap.get?_push_of_some _ (Heap.get?_push_of_some _ (Heap.get?_push_of_some _ (Heap.get?_push_of_some _ (Heap.get?_push_size _ rfl))))
 have g1:(GN s.heap b1 b2 b3 l1 l2 l3).get? s.heap.objs.size=some _:=Heap.get?_push_of_some _ (Heap.get?_push_of_some _ (Heap.get?_push_of_some _ (Heap.get?_push_of_some _ (Heap.get?_push_of_some _ (Heap.get?_push_size _ rfl)))))
 show _/\_
 rw[z3,z4,z5] at g6
 rw[z1,z2,z3] at g4
 rw[z4] at g5
 rw[z2] at g3
 rw[z1] at g2
 rw[z5]
 exact⟨⟨_,g6,rfl⟩,h _ g6 g4 g5 (eI.new _ b1 _ _ g1) (eI.new _ b2 _ _ g2) (eI.new _ b3 _ _ g3) λc o x =>
  Heap.get?_push_of_some _ (Heap.get?_push_of_some _ (Heap.get?_push_of_some _ (Heap.get?_push_of_some _ (Heap.get?_push_of_some _ (Heap.get?_push_of_some _ x)))))⟩
end
def Md (K : PySem.W.Frag) (b1 b2 b3 : Bool) (a1 a2 a3 : Addr) : It :=
  ⟨λi H => ∃ xs ys zs x y v, k4 K H b1 a1 xs /\ k4 K H b2 a2 ys /\ k4 K H b3 a3 zs /\ xs[i]? = some x /\ ys[i]? = some y /\ zs[i]? = some v,
   λi H r H' => ∃ p x y v, H p = none /\ r = .ref p /\ H' = upd H p (.tup [x, y, v]) /\ (∀ xs, k4 K H b1 a1 xs -> xs[i]? = some x) /\ (∀ ys, k4 K H b2 a2 ys -> ys[i]? = some y) /\ (∀ zs, k4 K H b3 a3 zs -> zs[i]? = some v),
   λi H => ∃ xs ys zs, k4 K H b1 a1 xs /\ k4 K H b2 a2 ys /\ k4 K H b3 a3 zs /\ (xs.length <= i \/ ys.length <= i \/ zs.length <= i)⟩
theorem rL{z TI TO i1 i2 i3:Addr}{xs:List V}(I:Inv X NX σ H s)(h:k4 X.K H b a xs)(hf:∀ b∈[z,TO,i1,i2,i3,TI],mq X NX H b):L3 z TO i1 i2 i3 a :=
 ⟨cD I h (hf z (by simp)),cD I h (hf TO (by simp)),cD I h (hf i1 (by simp)),cD I h (hf i2 (by simp)),cD I h (hf i3 (by simp))⟩
theorem za{K:PySem.W.Frag}{tp:Pos}(b1 b2 b3:Bool)(a1 a2 a3 z TI TO i1 i2 i3:Addr)(D:Z3 z TI TO i1 i2 i3) :
  Turn P w K (.Tuple elts x1 tp) (Md K b1 b2 b3 a1 a2 a3) [z,TO,i1,i2,i3,TI] z (λi h=>IsZip h z TI TO .none/\bO h TI (.ref i1) (.ref i2) (.ref i3)/\(∃ a b c,bO h TO a b c)/\eI h b1 i1 a1 i/\eI h b2 i2 a2 i/\eI h b3 i3 a3 i) where
 mem:=by simp
 obj:=λi h st b hb=>by
  obtain⟨hz,OC,⟨a,c,d,OE⟩,h1,h2,h3⟩:=st
  simp only[List.mem_cons,List.mem_nil_iff,or_false] at hb
  rcases hb with q | q | q | q | q | q <;> subst q
  ·exact⟨_,hz,λv z=>by cases z⟩
  ·exact⟨_,OE,λv z=>by cases z⟩
  ·obtain⟨o,vs,e,d⟩:=h1.obj
   exact⟨o,e,λv z=>by rw[d] at z;cases z⟩
  ·obtain⟨o,vs,e,d⟩:=h2.obj
   exact⟨o,e,λv z=>by rw[d] at z;cases z⟩
  ·obtain⟨o,vs,e,d⟩:=h3.obj
   exact⟨o,e,λv z=>by rw[d] at z;cases z⟩
  ·exact⟨_,OC,λv z=>by cases z⟩
 keep:=λi h h' st k=>by
  obtain⟨hz,OC,⟨a,c,d,OE⟩,h1,h2,h3⟩:=st
  exact⟨k z (by simp) _ hz,k TI (by simp) _ OC,⟨a,c,d,k TO (by simp) _ OE⟩,h1.at λo e=>k i1 (by simp) o e,h2.at λo e=>k i2 (by simp) o e,h3.at λo e=>k i3 (by simp) o e⟩
 item:=by
  intro X hP hw hK hc i NX s σ H E I hf st hg
  subst hP hw hK
  obtain⟨xs,ys,zs,x,y,v,OD,Ou,P5,hx,hy,hv⟩:=hg
  obtain⟨QA,QU,p1,RE⟩:=I.row OD
  obtain⟨PK,QV,p2,RF⟩:=I.row Ou
  obtain⟨RI,rv3,p3,hz3'⟩:=I.row P5
  obtain⟨u1,hu1,ru1⟩:=QU.get hx
  obtain⟨u2,hu2,ru2⟩:=QV.get hy
  obtain⟨u3,hu3,ru3⟩:=rv3.get hv
  obtain⟨hz,OC,⟨a,c,d,OE⟩,h1,h2,h3⟩:=st
  obtain⟨oi1,vs1,Rn,di1⟩:=h1.obj
  obtain⟨oi2,vs2,Ro,di2⟩:=h2.obj
  obtain⟨oi3,vs3,ei3,di3⟩:=h3.obj
  refine mI D (rL I OD hf) (rL I Ou hf) (rL I P5 hf) hz OC OE h1 h2 h3 p1 p2 p3 (x:=u1) (y:=u2) (v:=u3) (by simpa using hu1) (by simpa using hu2) (by simpa using hu3) λh' g1 g2 g3 g4 g4' g5 g6 g7=>⟨_,rfl,?_⟩
  refine wpAny_letOwnedTupleGo_zip (s:={ s with heap:=h' }) g1 λhN hz3 Qb=>?_
  have Pm:H s.heap.objs.size=none:=I.bK.fresh (Nat.le_refl _)
  have lt:∀ {c:Addr} {o:Obj},s.heap.get? c=some o->c≠s.heap.objs.size:=λe=>Nat.ne_of_lt (Heap.lt_size e)
  have QC:∀ b o,b ∉ [z,TO,i1,i2,i3,TI]->s.heap.get? b=some o->hN.get? b=some o:=λb o hb q=>by
   simp only[List.mem_cons,List.mem_nil_iff,or_false,not_or] at hb
   exact(Qb.2 b hb.1).trans (g7 b o hb.1 hb.2.1 hb.2.2.1 hb.2.2.2.1 hb.2.2.2.2.1 q)
  have hT3:hN.get? s.heap.objs.size=some { cls:=.type "tuple", data:=.seq #[u1,u2,u3] }:=(Qb.2 _ (lt hz).symm).trans g5
  have I3:Inv X NX σ (upd H s.heap.objs.size (.tup [x,y,v])) { s with heap:=hN,toks:=s.toks } :=
   I.kM (ch:=[z,TO,i1,i2,i3,TI]) QC hf (Nat.le_refl _) (λb hb=>by
    simp only[List.mem_cons,List.mem_nil_iff,or_false] at hb
    rcases hb with q | q | q | q | q | q <;> subst q
    ·exact⟨_,hz⟩
    ·exact⟨_,OE⟩
    ·exact⟨_,Rn⟩
    ·exact⟨_,Ro⟩
    ·exact⟨_,ei3⟩
    ·exact⟨_,OC⟩)
    ⟨by show 3<=sizeLine;decide,[u1,u2,u3],.cons ru1 (.cons ru2 (.cons ru3 .nil)),⟨_,hT3,rfl,_,rfl⟩⟩
  refine⟨.ref s.heap.objs.size,_,I3,rfl,⟨_,x,y,v,Pm,rfl,rfl,λzs' QT=>by rw[I.mr QT OD];exact hx,λzs' QT=>by rw[I.mr QT Ou];exact hy,λzs' QT=>by rw[I.mr QT P5];exact hv⟩,
   ⟨hz3,(Qb.2 TI D.TIz).trans (g7 TI _ D.TIz D.TITO D.TIi1 D.TIi2 D.Mo OC),⟨_,_,_,(Qb.2 TO D.TOz).trans g2⟩,g3.at λo e=>(Qb.2 i1 D.i1z).trans e,g4.at λo e=>(Qb.2 i2 D.i2z).trans e,g4'.at λo e=>(Qb.2 i3 D.Jy).trans e⟩,λb hb=>?_⟩
  have nb:b≠s.heap.objs.size:=by
   simp only[List.mem_cons,List.mem_nil_iff,or_false] at hb
   rcases hb with q | q | q | q | q | q <;> subst q
   ·exact lt hz
   ·exact lt OE
   ·exact lt Rn
   ·exact lt Ro
   ·exact lt ei3
   ·exact lt OC
  rw[aw nb]
  exact(hf b hb).1
 done:=by
  intro X hP hw hK hc i NX s σ H E I hf st hg
  subst hP hw hK
  obtain⟨xs,ys,zs,OD,Ou,P5,Pq⟩:=hg
  obtain⟨QA,QU,p1,RE⟩:=I.row OD
  obtain⟨PK,QV,p2,RF⟩:=I.row Ou
  obtain⟨RI,rv3,p3,hz3'⟩:=I.row P5
  obtain⟨hz,OC,⟨a,c,d,OE⟩,h1,h2,h3⟩:=st
  have l1:=QU.length
  have l2:=QV.length
  have l3:=rv3.length
  refine nN (I.ok.hd hc) D (rL I OD hf) (rL I Ou hf) (rL I P5 hf) hz OC OE h1 h2 h3 p1 p2 p3 ?_ λh' k=>⟨rfl,?_⟩
  ·rcases Pq with q | q | q
   ·exact .inl (by simp;omega)
   ·exact .inr (.inl (by simp;omega))
   ·exact .inr (.inr (by simp;omega))
  ·exact I.yB (t':=s.toks) (ch:=[z,TO,i1,i2,i3,TI]) (λb u hb e=>by
    simp only[List.mem_cons,List.mem_nil_iff,or_false,not_or] at hb
    exact k b u hb.1 hb.2.1 hb.2.2.1 hb.2.2.2.1 hb.2.2.2.2.1 e) hf
 self:=λ_ _ _ _ _ st h=>by
  obtain⟨hz,_⟩:=st
  exact wpAny_pyIter_zip hz h
theorem EC(n:Nat):Z3 (n+5) (n+3) (n+4) n (n+1) (n+2):=by
 refine⟨?_,?_,?_,?_,?_,?_,?_,?_,?_,?_,?_,?_,?_,?_,?_⟩ <;> (show @Ne Nat _ _;omega)
def F3(K:PySem.W.Frag)(tl:TA):TI:=fun σ H R=>tl σ H λvs H1=>∃ b1 b2 b3 a1 a2 a3,vs=[.ref a1,.ref a2,.ref a3]/\(∃ xs,k4 K H1 b1 a1 xs)/\(∃ ys,k4 K H1 b2 a2 ys)/\(∃ zs,k4 K H1 b3 a3 zs)/\R (Md K b1 b2 b3 a1 a2 a3) H1
theorem xT{tp:Pos}{l1 l2 l3:Expr}{p pos:Pos}(hg:Gl X "zip")(hm:X.mg "zip" = none)(hl:PA X [l1,l2,l3] tl)(hs:autoParam (starEach [l1,l2,l3] X.env=[(false,eval l1 X.env),(false,eval l2 X.env),(false,eval l3 X.env)]) aR._auto_1)(Pn:autoParam (starEach [l2,l3] X.env=[(false,eval l2 X.env),(false,eval l3 X.env)]) aR._auto_1) :
  PI X (.Tuple elts x1 tp) (.Call (.Name "zip" p) [l1,l2,l3] [] pos) (F3 X.K tl):=by
 intro NX s σ H R I h
 refine Call_ (ju I hg hm PyProof.Rows.boot_zip (PyProof.Rows.callWith_type1 (cG (hl pos NX s σ H _ I h) λus s1 ⟨vs,H1,I1,r1,q1⟩=>?_) (by rw[hs,Pn]) (by rw[Pn];rfl)))
 obtain⟨b1,b2,b3,a1,a2,a3,e,⟨xs,OD⟩,⟨ys,Ou⟩,⟨zs,P5⟩,q⟩:=q1
 subst e
 cases r1 with
 | cons r rr =>
  cases rr with
  | cons r' rr =>
   cases rr with
   | cons RM rr =>
    cases rr
    cases (show _=Value.ref a1 from r)
    cases (show _=Value.ref a2 from r')
    cases (show _=Value.ref a3 from RM)
    obtain⟨QA,QU,p1,RE⟩:=I1.row OD
    obtain⟨PK,QV,p2,RF⟩:=I1.row Ou
    obtain⟨RI,rv3,p3,hz3⟩:=I1.row P5
    refine zu p1 p2 p3 λh' g1 g2 g3 g4 g5 g6 g7=>?_
    have I2:Inv X NX σ H1 { s1 with heap:=h' }:=I1.kept (t':=s1.toks) g7
    refine wpAny_pyIter_zip (s:={ s1 with heap:=h' }) g1 ?_
    refine⟨s1.heap.objs.size+5,[s1.heap.objs.size+5,s1.heap.objs.size+4,s1.heap.objs.size,s1.heap.objs.size+1,s1.heap.objs.size+2,s1.heap.objs.size+3],_,_,H1,rfl,I2,
     za b1 b2 b3 a1 a2 a3 _ _ _ _ _ _ (EC s1.heap.objs.size),⟨g1,g2,⟨_,_,_,g3⟩,g4,g5,g6⟩,λb hb=>?_,q⟩
    have hle:s1.heap.objs.size<=b:=by
     simp only[List.mem_cons,List.mem_nil_iff,or_false] at hb
     rcases hb with q | q | q | q | q | q
     ·rw[q];exact Nat.le_add_right _ 5
     ·rw[q];exact Nat.le_add_right _ 4
     ·rw[q];exact Nat.le_refl _
     ·rw[q];exact Nat.le_add_right _ 1
     ·rw[q];exact Nat.le_add_right _ 2
     ·rw[q];exact Nat.le_add_right _ 3
    exact I1.ux hle (I1.bK.fresh hle)
variable{oe:Obj}{outer:List Env}
variable{to:Option Addr}
section
variable{M:Model}{E:Value->Shared->Prop}
theorem rS{env:Env}{L e:Addr}{vs:Array Value}{head:Value}{QM:Bool}{Q:Unit->Shared->Prop}
  (Qt:A.frames=some (env::outer)) (hl:s.heap.FunFrames base (env::outer)) (hf:env.frame=some L)
  (he:s.heap.get? e=some oe) (hd:oe.data=.fields vs) (Pt:1<vs.size)
  (h:∀ h' T oT ts,h'.get? e=some (Obj.mapFields (·.setIfInBounds 1 (.ref T)) oe)->s.heap.objs.size<=T->T≠e->h'.get? T=some oT->oT.data=.fields ts->ts[3]?=some (rawInt L) ->
   (∀ b o,b≠e->b ∉ wg (env::outer)->s.heap.get? b=some o->h'.get? b=some o)->(∀ b o,b≠e->s.heap.get? b=some o->∃ sl,h'.get? b=some { o with slots:=sl })->Q () { s with heap:=h' }) :
  wpAny M A (do let a ← frameOf env;let pl ← entryPlaceOf L QM;let b ← EntryCells.newEntry head a .none (rawInt L) .none pl;setField (.ref e) 1 b) Q E s:=by
 have hene:e ∉ (env::outer).filterMap (·.frame):=λhm=>by
  obtain⟨_,o,ho,Rz⟩:=hl.mem hm
  rw[he] at ho;injection ho with ho;subst ho;exact Rz vs hd
 refine wpAny_bind (wpAny_frameOf_fun Qt hl hf λh₁ hs1=>?_)
 refine wpAny_bind (wpAny_entryPlaceOf λpl Og=>?_)
 unfold EntryCells.newEntry newFields
 refine wpAny_bind (wpAny_newObj_type ?_ (Og.sizeOk5 _ _ _ _ _))
 have he1:h₁.get? e=some oe:=(hs1.2.1 e hene).trans he
 have he₂:=Heap.get?_push_of_some (h:=h₁) { cls:=.type "traceback", dict:=none,data:=.fields ([head,.ref L,.none,rawInt L,.none]++(if pl.isEmpty then List.replicate 6 Value.none else pl)).toArray } he1
 have hTe:h₁.objs.size≠e:=Nat.ne_of_gt (Heap.lt_size he1)
 have hd3:=Obj.data_mapFields hd (·.setIfInBounds 1 (Value.ref h₁.objs.size))
 have he3:=Heap.get?_update_self (Obj.mapFields (·.setIfInBounds 1 (Value.ref h₁.objs.size))) he₂ (Obj.isFreed_of_fields hd3)
 have hT₃:=(Heap.get?_update_other (h₁.push { cls:=.type "traceback", dict:=none,data:=.fields ([head,.ref L,.none,rawInt L,.none]++(if pl.isEmpty then List.replicate 6 Value.none else pl)).toArray })
  (Obj.mapFields (·.setIfInBounds 1 (Value.ref h₁.objs.size))) (Ne.symm hTe)).trans (Heap.get?_push_size h₁ rfl)
 have keep:∀ b o,b≠e->h₁.get? b=some o ->
   ((h₁.push { cls:=.type "traceback", dict:=none,data:=.fields ([head,.ref L,.none,rawInt L,.none]++(if pl.isEmpty then List.replicate 6 Value.none else pl)).toArray }).update e (Obj.mapFields (·.setIfInBounds 1 (Value.ref h₁.objs.size)))).get? b=some o:=λb o Qg hb=>by
  rw[Heap.get?_update_other _ _ (Ne.symm Qg)]
  exact Heap.get?_push_of_some _ hb
 refine wpAny_setField he₂ hd Pt (h _ h₁.objs.size _ _ he3 ?_ hTe hT₃ rfl (by first | (simp;done) | (rcases Og with rfl | ⟨_,_,_,_,_,_,_,rfl⟩ <;> simp)) ?_ ?_)
 ·exact Nat.le_of_eq hs1.1.symm
 ·intro b o Qg hbf hb
  exact keep b o Qg ((hs1.2.1 b hbf).trans hb)
 ·intro b o Qg hb
  obtain⟨sl,hs⟩:=hs1.2.2 b o hb
  exact⟨sl,keep b _ Qg hs⟩
def Lies(h:Heap)(e:Addr)(vs:Array Value)(to:Option Addr):Prop:=match to with
 | none=>vs[1]?=some .none
 | some T=>vs[1]?=some (.ref T)/\T≠e/\∃ oT ts,h.get? T=some oT/\oT.data=.fields ts/\ts[3]?=some .none
theorem zC{env:Env}{L e:Addr}{vs:Array Value}{Q:Unit->Shared->Prop}
  (Qt:A.frames=some (env::outer)) (hl:s.heap.FunFrames base (env::outer)) (hf:env.frame=some L)
  (he:s.heap.get? e=some oe) (hd:oe.data=.fields vs) (hto:Lies s.heap e vs to)
  (h:∀ h' T oT ts,h'.get? e=some (Obj.mapFields (·.setIfInBounds 1 (.ref T)) oe)->s.heap.objs.size<=T->T≠e->h'.get? T=some oT->oT.data=.fields ts->ts[3]?=some (rawInt L) ->
   (∀ b o,b≠e->(∀ T,to=some T->b≠T)->b ∉ wg (env::outer)->s.heap.get? b=some o->h'.get? b=some o) ->
   (∀ b o,b≠e->(∀ T,to=some T->b≠T)->s.heap.get? b=some o->∃ sl,h'.get? b=some { o with slots:=sl })->(∀ b o,s.heap.get? b=some o->∃ o',h'.get? b=some o')->Q () { s with heap:=h' }) :
  wpAny M A (noteFrame (.ref e) env) Q E s:=by
 unfold noteFrame
 simp only[hf]
 cases to with
 | none =>
  have h1:vs[1]?=some .none:=hto
  refine wpAny_bind (wpAny_field he hd h1 ?_)
  rw[if_neg (by decide)]
  refine rS Qt hl hf he hd (Array.getElem?_eq_some_iff.mp h1).1 λh' T oT ts a1 a2 a3 a4 a5 a6 a7 a8=>?_
  refine h h' T oT ts a1 a2 a3 a4 a5 a6 (λb o n1 _ n2 q=>a7 b o n1 n2 q) (λb o n1 _ q=>a8 b o n1 q) λb o q=>?_
  by_cases z:b=e
  ·subst z;exact⟨_,a1⟩
  ·obtain⟨sl,r⟩:=a8 b o z q;exact⟨_,r⟩
 | some T0 =>
  obtain⟨h1,hTe,oT,ts,hT,hdT,h3⟩:=hto
  refine wpAny_bind (wpAny_field he hd h1 ?_)
  rw[if_pos (show (Value.ref T0 != Value.none)=true from by simp)]
  refine wpAny_bind (wpAny_field hT hdT h3 ?_)
  rw[if_neg (show ¬ ((Value.none==rawInt L)=true) from by simp[rawInt])]
  refine wpAny_bind (wpAny_setField hT hdT (Array.getElem?_eq_some_iff.mp h3).1 ?_)
  have other:∀ b,b≠T0->(s.heap.update T0 (Obj.mapFields (·.setIfInBounds 3 Value.none))).get? b=s.heap.get? b:=λb hb=>Heap.get?_update_other _ _ (Ne.symm hb)
  have QF:∀ b o,s.heap.get? b=some o->(∀ vs,o.data≠.fields vs)->b≠T0:=λb o hb Rz q=>by
   rw[q,hT] at hb;injection hb with hb;subst hb;exact Rz ts hdT
  have QL:=Heap.get?_update_self (Obj.mapFields (·.setIfInBounds 3 Value.none)) hT (Obj.isFreed_of_fields (Obj.data_mapFields hdT _))
  refine rS Qt (hl.of_keeps λb o hb Rz=>⟨o,(other b (QF b o hb Rz)).trans hb,rfl⟩) hf ((other e (Ne.symm hTe)).trans he) hd (Array.getElem?_eq_some_iff.mp h1).1 λh' T oT' ts' a1 a2 a3 a4 a5 a6 a7 a8=>?_
  refine h h' T oT' ts' a1 (by simpa [Heap.update] using a2) a3 a4 a5 a6 (λb o n1 n2 n3 q=>a7 b o n1 n3 ((other b (n2 T0 rfl)).trans q)) (λb o n1 n2 q=>a8 b o n1 ((other b (n2 T0 rfl)).trans q)) λb o q=>?_
  by_cases z:b=e
  ·subst z;exact⟨_,a1⟩
  ·by_cases z2:b=T0
   ·subst z2
    obtain⟨sl,r⟩:=a8 b _ z QL;exact⟨_,r⟩
   ·obtain⟨sl,r⟩:=a8 b o z ((other b z2).trans q);exact⟨_,r⟩
end
def k6(C:Addr)(dd:Option Addr)(e:Addr):HO:=.ext λh=>∃ t,h.get? e=some ⟨.ref C,dd,.fields #[.ref t,.none,.none,.none,.bool false,.none],#[]⟩
def KA(C:Addr)(dd:Option Addr)(e T:Addr):HO:=.ext λh=>∃ vs,h.get? e=some ⟨.ref C,dd,.fields vs,#[]⟩/\vs[1]?=some (.ref T)
def Nn(fl:Value)(T:Addr):HO:=.ext λh=>∃ oT ts,h.get? T=some oT/\oT.data=.fields ts/\ts[3]?=some fl
def mG(Hc:Hp)(e T C:Addr)(dd:Option Addr)(fl:Value):Hp:=upd (upd Hc T (Nn fl T)) e (KA C dd e T)
variable{fl:Value}{Hc:Hp}
theorem oQ{e:Addr}:mG Hc e T C dd fl e=some (KA C dd e T):=aB
theorem qr{e:Addr}(n:T≠e):mG Hc e T C dd fl T=some (Nn fl T):=by unfold mG;rw[aw n,aB]
theorem jb{e b:Addr}(n:b≠e)(n2:b≠T):mG Hc e T C dd fl b=Hc b:=by unfold mG;rw[aw n,aw n2]
theorem Inv.note{e:Addr}{vs:Array Value}{φ:Heap->Prop}{Q:Unit->Shared->Prop}{E:Value->Shared->Prop}(I:Inv X NX σ H s)(Ol:X.stack=X.env::X.outer)(hf:X.env.frame=some X.env.locals)
  (he:H e=some (.ext φ)) (hx:s.heap.get? e=some ⟨.ref C,dd,.fields vs,#[]⟩) (lies:Lies s.heap e vs to) (hT:∀ T,to=some T->(∃ ψ,H T=some (.ext ψ))/\Hc T=none) (hc:∀ b,b≠e->(∀ T,to=some T->b≠T)->Hc b=H b)
  (h:∀ h' T,Hc T=none->T≠e->Inv X NX σ (mG Hc e T C dd (rawInt X.env.locals)) { s with heap:=h' }->Q () { s with heap:=h' }) :
  wpAny (model X.prog X.w) X.A (noteFrame (.ref e) X.env) Q E s:=by
 have hl:=I.stack
 have Qt:=I.ok.frames
 have sf:=I.ug
 rw[Ol] at hl Qt sf
 refine zC (base:=X.base) Qt hl hf hx rfl lies λh' T oT ts a1 a2 a3 a4 a5 a6 a7 a8 a9=>?_
 have hTn:H T=none:=I.bK.fresh a2
 have nT:∀ b u,H b=some u->b≠T:=λb u q z=>by rw[z,hTn] at q;cases q
 have Qn:∀ b u,H b=some u->(∀ ψ,u≠.ext ψ)->b≠e/\∀ T0,to=some T0->b≠T0:=by
  intro b u q hu
  refine⟨λz=>?_,λT0 z w=>?_⟩
  ·rw[z,he] at q;exact hu _ (Option.some.inj q).symm
  ·obtain⟨⟨ψ,q2⟩,_⟩:=hT T0 z
   rw[w,q2] at q;exact hu _ (Option.some.inj q).symm
 have old:∀ b u,H b=some u->(∀ ψ,u≠.ext ψ)->mG Hc e T C dd (rawInt X.env.locals) b=some u:=λb u q hu=>by
  obtain⟨n1,n2⟩:=Qn b u q hu
  rw[jb n1 (nT b u q),hc b n1 n2];exact q
 have hcT:Hc T=none:=by
  by_cases z:∃ T0,to=some T0/\T=T0
  ·obtain⟨T0,z1,z2⟩:=z;rw[z2];exact(hT T0 z1).2
  ·rw[hc T a3 λT0 z1 z2=>z ⟨T0,z1,z2⟩];exact hTn
 have un:∀ b o,s.heap.get? b=some o->H b=none->b≠e/\(∀ T0,to=some T0->b≠T0)/\b≠T:=by
  intro b o q n
  refine⟨λz=>?_,λT0 z w=>?_,Nat.ne_of_lt (Nat.lt_of_lt_of_le (Heap.lt_size q) a2)⟩
  ·rw[z,he] at n;cases n
  ·obtain⟨⟨ψ,q2⟩,_⟩:=hT T0 z
   rw[w,q2] at n;cases n
 refine h h' T hcT a3 ?_
 have U:Un (wg X.stack) [] H (mG Hc e T C dd (rawInt X.env.locals)) s.heap h':=by
  rw[Ol]
  refine⟨λb o q n nf _=>?_,λb o q n _ _=>?_,λb o q n _=>?_,λb o q _=>a9 b o q,λb xs q=>old b _ q (λ_ z=>nomatch z),λb ob u q=>old b _ q (λ_ z=>nomatch z),λb ps q=>⟨#[],?_⟩⟩
  ·obtain⟨n1,n2,_⟩:=un b o q n;exact a7 b o n1 n2 nf q
  ·obtain⟨n1,n2,_⟩:=un b o q n;exact a8 b o n1 n2 q
  ·obtain⟨n1,n2,n3⟩:=un b o q n
   rw[jb n1 n3,hc b n1 n2];exact n
  ·rw[old b _ q (λ_ z=>nomatch z)];simp
 have ok:mH X.prog X.w (mG Hc e T C dd (rawInt X.env.locals)) h':=λb u q=>by
  by_cases z:b=e
  ·subst z
   rw[oQ] at q;cases q
   refine⟨⟨_,a1,?_⟩,⟨_,a1⟩,λh1 h2 ⟨ws,q1,q2⟩ k=>⟨ws,k _ q1,q2⟩⟩
   have Pt:1<vs.size:=by
    cases to with
    | none=>exact(Array.getElem?_eq_some_iff.mp (show vs[1]?=some .none from lies)).1
    | some T0=>exact(Array.getElem?_eq_some_iff.mp lies.1).1
   simp[Pt]
  ·by_cases z2:b=T
   ·subst z2
    rw[qr a3] at q;cases q
    exact⟨⟨oT,ts,a4,a5,a6⟩,⟨_,a4⟩,λh1 h2 ⟨o1,t1,q1,q2,q3⟩ k=>⟨o1,t1,k _ q1,q2,q3⟩⟩
   ·rw[jb z z2] at q
    have z3:∀ T0,to=some T0->b≠T0:=λT0 w w2=>by rw[w2,(hT T0 w).2] at q;cases q
    rw[hc b z z3] at q
    have nf:∀ c u',H c=some u'->c ∉ wg (X.env::X.outer):=λc u' q' hm=>by have:=sf c hm;rw[q'] at this;cases this
    refine(I.bK b u q).mf (λc v QN q'=>?_) (λc q'=>old c _ q' (λ_ z=>nomatch z)) λc xs q'=>old c _ q' (λ_ z=>nomatch z)
    rcases QN with rfl | QN
    ·exact a7 c v z z3 (nf c u q) q'
    ·obtain⟨n1,n2⟩:=Qn c _ QN (λ_ z=>nomatch z)
     exact a7 c v n1 n2 (nf c _ QN) q'
 exact I.call (ch:=[]) U ok I.bare (λb z=>absurd z (by simp))
theorem Inv.yL{e:Addr}(I:Inv X NX σ (mG Hc e T C dd fl) s)(n:T≠e):∃ vs oT ts,s.heap.get? e=some ⟨.ref C,dd,.fields vs,#[]⟩/\vs[1]?=some (.ref T)/\s.heap.get? T=some oT/\oT.data=.fields ts/\ts[3]?=some fl:=by
 obtain⟨vs,h1,h2⟩:=(I.bK e _ oQ).1
 obtain⟨oT,ts,q⟩:=(I.bK T _ (qr n)).1
 exact⟨vs,oT,ts,h1,h2,q⟩
theorem Inv.JS{e:Addr}{Q:Unit->Shared->Prop}{E:Value->Shared->Prop}(I:Inv X NX σ (mG Hc e T C dd fl) s)(hfl:fl=.none\/fl=rawInt X.env.locals)(n:T≠e)(hcT:Hc T=none)(Ol:X.stack=X.env::X.outer)(hf:X.env.frame=some X.env.locals)
  (h:∀ h' T,Hc T=none->T≠e->Inv X NX σ (mG Hc e T C dd (rawInt X.env.locals)) { s with heap:=h' }->Q () { s with heap:=h' }) :
  wpAny (model X.prog X.w) X.A (noteFrame (.ref e) X.env) Q E s:=by
 obtain⟨vs,oT,ts,hx,h1,hT,hd,h3⟩:=I.yL n
 rcases hfl with rfl | rfl
 ·refine I.note (Hc:=Hc) (to:=some T) Ol hf oQ hx ⟨h1,n,oT,ts,hT,hd,h3⟩ (λT0 z=>?_) (λb n1 n2=>(jb n1 (n2 T rfl)).symm) h
  cases z
  exact⟨⟨_,qr n⟩,hcT⟩
 ·unfold noteFrame
  simp only[hf]
  refine wpAny_bind (wpAny_field hx rfl h1 ?_)
  rw[if_pos (show (Value.ref T != Value.none)=true from by simp)]
  refine wpAny_bind (wpAny_field hT hd h3 ?_)
  rw[if_pos (show (rawInt X.env.locals==rawInt X.env.locals)=true from by simp)]
  exact wpAny_pure (h s.heap T hcT n I)
theorem Inv.J7{e:Addr}{Q:Unit->Shared->Prop}{E:Value->Shared->Prop}(I:Inv X NX σ H s)(he:H e=some (k6 C dd e))(Ol:X.stack=X.env::X.outer)(hf:X.env.frame=some X.env.locals)
  (h:∀ h' T,upd H e (h_ C dd e) T=none->T≠e->Inv X NX σ (mG (upd H e (h_ C dd e)) e T C dd (rawInt X.env.locals)) { s with heap:=h' }->Q () { s with heap:=h' }) :
  wpAny (model X.prog X.w) X.A (noteFrame (.ref e) X.env) Q E s:=by
 obtain⟨t,hx⟩:=(I.bK e _ he).1
 exact I.note (Hc:=upd H e (h_ C dd e)) (to:=none) Ol hf he hx rfl (λ_ z=>by cases z) (λb n1 _=>aw n1) h
theorem Inv.qo{e:Addr}{fr:Option Addr}{Q:Unit->Shared->Prop}{E:Value->Shared->Prop}(I:Inv X NX σ (mG Hc e T C dd fl) s)(n:T≠e)
  (h:∀ h',Inv X NX σ (mG Hc e T C dd (fr.elim .none λf=>rawInt f)) { s with heap:=h' }->Q () { s with heap:=h' }) :
  wpAny (model X.prog X.w) X.A (setFlight (.ref e) fr) Q E s:=by
 obtain⟨vs,oT,ts,hx,h1,hT,hd,h3⟩:=I.yL n
 unfold setFlight
 refine wpAny_bind (wpAny_field hx rfl h1 ?_)
 rw[if_pos (show (Value.ref T != Value.none)=true from by simp)]
 have Pt:3<ts.size:=(Array.getElem?_eq_some_iff.mp h3).1
 refine wpAny_setField hT hd Pt (h _ ?_)
 have other:∀ b,b≠T->(s.heap.update T (Obj.mapFields (·.setIfInBounds 3 (fr.elim Value.none λf=>rawInt f)))).get? b=s.heap.get? b:=λb hb=>Heap.get?_update_other _ _ (Ne.symm hb)
 have QL:=Heap.get?_update_self (Obj.mapFields (·.setIfInBounds 3 (fr.elim Value.none λf=>rawInt f))) hT (Obj.isFreed_of_fields (Obj.data_mapFields hd _))
 have nT:∀ b,mG Hc e T C dd fl b=none->b≠T:=λb q z=>by rw[z,qr n] at q;cases q
 have same:∀ b,b≠T->mG Hc e T C dd (fr.elim .none λf=>rawInt f) b=mG Hc e T C dd fl b:=λb z=>by
  by_cases w:b=e
  ·subst w;rw[oQ,oQ]
  ·rw[jb w z,jb w z]
 have ne:∀ b u,mG Hc e T C dd fl b=some u->(∀ ψ,u≠.ext ψ)->b≠T:=λb u q hu z=>by rw[z,qr n] at q;exact hu _ (Option.some.inj q).symm
 refine I.un (t':=s.toks) ⟨λb o q z _ _=>(other b (nT b z)).trans q,λb o q z _ _=>⟨o.slots,(other b (nT b z)).trans q⟩,λb o q z _=>by rw[same b (nT b z)];exact z,λb o q _=>?_,λb xs q=>?_,λb ob u q=>?_,λb ps q=>⟨#[],?_⟩⟩ λb u q=>?_
 ·by_cases z:b=T
  ·subst z;exact⟨_,QL⟩
  ·exact⟨o,(other b z).trans q⟩
 ·rw[same b (ne b _ q λ_ z=>nomatch z)];exact q
 ·rw[same b (ne b _ q λ_ z=>nomatch z)];exact q
 ·rw[same b (ne b _ q λ_ z=>nomatch z),q];simp
 ·by_cases z:b=T
  ·subst z
   rw[qr n] at q;cases q
   refine⟨⟨_,_,QL,Obj.data_mapFields hd _,?_⟩,⟨_,QL⟩,λh1 h2 ⟨o1,t1,q1,q2,q3⟩ k=>⟨o1,t1,k _ q1,q2,q3⟩⟩
   simp[Pt]
  ·rw[same b z] at q
   refine(I.bK b u q).mf (λc v hc q'=>(other c ?_).trans q') (λc q'=>?_) λc xs q'=>?_
   ·rcases hc with rfl | hc
    ·exact z
    ·exact ne c _ hc λ_ z=>nomatch z
   ·rw[same c (ne c _ q' λ_ z=>nomatch z)];exact q'
   ·rw[same c (ne c _ q' λ_ z=>nomatch z)];exact q'
def bQ(P:Program)(w:World):Ju:=λouter H s E e s'=>∃ (ea T C:Addr) (dd:Option Addr) (Hc:Hp),e=.ref ea/\s'.os=s.os/\AllBare s'.gens/\Un (wg outer) [] H (mG Hc ea T C dd .none) s.heap s'.heap/\mH P w (mG Hc ea T C dd .none) s'.heap ∧
 Hc ea=some (h_ C dd ea)/\Hc T=none/\T≠ea/\E (.ref ea) none Hc
def Zx (X : Cx) (E : St -> XK) (e : Value) (s : Shared) : Prop := ∃ (ea C : Addr) (dd : Option Addr) (NX : List (Addr × Obj)) (σ : St), e = .ref ea ∧
  ((∃ H, Inv X NX σ H s /\ H ea = some (k6 C dd ea) /\ E σ (.ref ea) none (upd H ea (h_ C dd ea))) ∨
   (∃ Hc T fl, Inv X NX σ (mG Hc ea T C dd fl) s /\ (fl = .none \/ fl = rawInt X.env.locals) /\ Hc ea = some (h_ C dd ea) /\ Hc T = none /\ T ≠ ea /\ E σ (.ref ea) none Hc))
variable{E:St->XK}
theorem Zx.note{e:Value}{Q:Unit->Shared->Prop}{F:Value->Shared->Prop}(z:Zx X E e s)(Ol:X.stack=X.env::X.outer)(hf:X.env.frame=some X.env.locals)
  (h:∀ s' ea C dd NX σ Hc T,e=.ref ea->Inv X NX σ (mG Hc ea T C dd (rawInt X.env.locals)) s'->Hc ea=some (h_ C dd ea)->Hc T=none->T≠ea->E σ (.ref ea) none Hc->Q () s') :
  wpAny (model X.prog X.w) X.A (noteFrame e X.env) Q F s:=by
 obtain⟨ea,C,dd,NX,σ,rfl,⟨H,I,h1,h2⟩ | ⟨Hc,T,fl,I,h1,h2,h3,h4,h5⟩⟩:=z
 ·exact I.J7 h1 Ol hf λh' T q1 q2 I2=>h _ ea C dd NX σ _ T rfl I2 aB q1 q2 h2
 ·exact I.JS h1 h4 h3 Ol hf λh' T q1 q2 I2=>h _ ea C dd NX σ _ T rfl I2 h2 q1 q2 h5
theorem Zx.HA{E:XK}{e:Value}{F:Value->Shared->Prop}(z:Zx X (λ_=>E) e s)(Ol:X.stack=X.env::X.outer)(hf:X.env.frame=some X.env.locals)(hex:X.ex=[]) :
  wpAny (model X.prog X.w) X.A (leaving X.env e) (λ_ s'=>bQ X.prog X.w X.outer X.H₀ X.s₀ E e s') F s:=by
 unfold leaving
 refine wpAny_bind (z.note Ol hf λs' ea C dd NX σ Hc T he I h1 h2 h3 h4=>?_)
 subst he
 refine I.qo h3 λh' I2=>⟨ea,T,C,dd,Hc,rfl,I2.os,I2.bare,?_,I2.bK,h1,h2,h3,h4⟩
 have:=I2.base
 rw[hex] at this
 exact this
theorem Zx.own(Ol:X.stack=X.env::X.outer)(hf:X.env.frame=some X.env.locals):PassesOwn (model X.prog X.w) X.A X.env (Zx X E):=by
 intro e s z
 refine z.note Ol hf λs' ea C dd NX σ Hc T he I h1 h2 h3 h4=>?_
 subst he
 obtain⟨vs,oT,ts,hx,q1,_⟩:=I.yL h3
 show wpAny _ _ _ _ _ _
 refine wpAny_bind (wpAny_field hx rfl q1 ?_)
 rw[if_neg (show ¬ ((Value.ref T==Value.none)=true) from by simp)]
 rw[hf]
 refine I.qo h3 λh' I2=>⟨ea,C,dd,NX,σ,rfl,.inr ⟨Hc,T,_,I2,.inr rfl,h1,h2,h3,h4⟩⟩
structure eZ (X:Cx) (E:St->XK):Prop where
 pass:∀ (NX:List (Addr×Obj)) (σ:St) (H:Hp) (s:Shared) (e:Value) (s':Shared),Inv X NX σ H s->bQ X.prog X.w X.stack H s (E σ) e s'->X.xe e s'
 new:∀ (NX:List (Addr×Obj)) (σ:St) (H:Hp) (s:Shared) (e C:Addr) (dd:Option Addr),Inv X NX σ H s->H e=some (k6 C dd e)->E σ (.ref e) none (upd H e (h_ C dd e))->X.xe (.ref e) s
 own:PassesOwn (model X.prog X.w) X.A X.env X.xe
abbrev Cx.out(X:Cx)(E:St->XK):Cx:=X.qv (Zx X E)
theorem Ba(Ol:X.stack=X.env::X.outer)(hf:X.env.frame=some X.env.locals):eZ (X.out E) E where
 pass:=by
  intro NX σ H s e s' I h
  obtain⟨ea,T,C,dd,Hc,rfl,os,bare,un,bK,h1,h2,h3,hE⟩:=h
  have I':=I.eK.CU (ch:=[]) os un bK bare (λb z=>absurd z (by simp))
  exact⟨ea,C,dd,NX,σ,rfl,.inr ⟨Hc,T,.none,I',.inl rfl,h1,h2,h3,hE⟩⟩
 new:=λNX σ H s e C dd I he hE=>⟨e,C,dd,NX,σ,rfl,.inl ⟨H,I.eK,he,hE⟩⟩
 own:=Zx.own Ol hf
variable{N:List Str}{QG:Array (Option Value)}{an od:Option Addr}{body:List Stmt}{params:Arguments}
theorem xx{K:PySem.W.Frag}{dV kV doc pm Oh ct oc:Value}(lk:K.lookup f=some ⟨oc,od,.func (PySem.W.fnOf name qual params body scope dV kV doc pm an Oh ct),QG⟩)(OX:PySem.W.codeIn K Oh qual=true)(S:cx N ps scope)
  (len:∀ vs H Q E,sp vs H Q E->vs.length=ps.length)
  (Qo:∀ (A:Around) (outer:List Env) (s:Shared) (H:Hp) (vs:List V) (Q:VK) (E:XK),cv k (A.deeper (envOfC qual scope s.heap.objs.size f Oh))->sp vs H Q E ->
   ∃ t,kq ((lO (bQ P w) P w K mg base N qual scope f Oh A outer s H E).out λ_=>E) body t/\t { nx:=λ_ H'=>Q .da H',rt:=Q } (start N vs) H) :
  aQ P w K mg base (bQ P w) (k+1) f (PySem.W.fnOf name qual params body scope dV kV doc pm an Oh ct) ps sp:=by
 refine J6 lk OX S len λA outer s H vs Q E hr hs=>?_
 obtain⟨t,h1,h2⟩:=Qo A outer s H vs Q E hr hs
 refine⟨t,λNX s1 σ H1 D I q=>?_,h2⟩
 refine wpAny_mono (h1 NX s1 σ H1 D (I.qv _) q) (λf s' z=>z.eK) λe s' z=>?_
 exact z.HA rfl rfl rfl
variable{pos':Pos}
section
open PySem.Builtin.ObjectAttr (storeInOwnDict storeTaker? setByDescriptor)
theorem sI{e t:Addr}(he:h.get? e=some ⟨.ref C,dd,.fields #[.ref t,.none,.none,.none,.bool false,.none],#[]⟩):cu P w H h e (k6 C dd e) :=
 ⟨⟨t,he⟩,⟨_,he⟩,λ_ _ ⟨t,q⟩ k=>⟨t,k _ q⟩⟩
section
variable{p pos:Pos}
def JN(C:Addr)(t:TA):TE:=fun σ H Q=>t σ H λvs H1=>vs.length<=sizeLine/\∀ a,H1 a=none->Q (.ref a) (upd H1 a (k6 C none a))
theorem Fm(hc:PySem.W.excIn X.K C fe "ValueError.__new__" = true)(kp:PySem.W.keepIn X.K (.ref C)=true)(hg:Gl X x)(hm:X.mg x=some (.ref C))
  (ha:PA X (e::es) t) (OU:autoParam ((x==("__debug__" : Str))=false) aD._auto_1) (he:autoParam (starEach (e::es) X.env=(false,eval e X.env)::starEach es X.env) aR._auto_1) (Og:autoParam ((backTo pos (starEach es X.env)).any (·.1)=false) aR._auto_1) :
  PE X (.Call (.Name x p) (e::es) [] pos) (JN C t):=by
 intro NX s σ H Q I h
 refine wpAny_Call_Name_kw (jd I hg hm ?_ OU)
 refine PySem.W.callWith_K (h₀:=X.base) I.ok.mod.Gf kp (cG (ha pos NX s σ H _ I h) λus s1 ⟨vs,H1,I1,r,hl,q⟩=>⟨I1.jX,?_⟩) he Og
 obtain⟨bm,N,nm,qn,bs,P2,sn,sub,ab,col,dd,k0,k1,k2,k3,k5,mN,hC,hN,Qh,T⟩:=Ee I1.jX hc
 obtain⟨hp,g,d,tk,os⟩:=s1
 refine wpAny_call_exc_subT PySem.F.excBase_ValueError T hC hN Qh (λh' a M=>?_) (by show us.length<=sizeLine;rw[← r.length];exact hl)
 obtain⟨t',e1,_,_⟩:=M.there
 have I2:Inv X NX σ (upd H1 a (k6 C none a)) ⟨h',g,d,tk,os⟩:=I1.FD (t':=tk) M.keeps M.new (sI e1)
 have hn:H1 a=none:=I1.sL M.new
 exact⟨.ref a,_,I2,rfl,q a hn⟩
def Jj(C:Addr)(sp:Sp)(t:TA):TE:=fun σ H Q=>t σ H λvs H1=>vs.length<=sizeLine/\∀ a,H1 a=none->sp (.ref a::vs) (upd H1 a (k6 C none a)) (λv H2=>v=.da/\Q (.ref a) H2) E0
theorem C5(hc:qf X.K C "ValueError.__new__" f=true)(hf:PySem.W.isFn X.K (.ref f)=true)(kp:PySem.W.keepIn X.K (.ref C)=true)(F:aQ X.prog X.w X.K X.mg X.base (bQ X.prog X.w) k f fd ps sp)(hr:cv (k+1) X.A)(hb:Binds X.K fd ps [])(hg:Gl X x)(hm:X.mg x=some (.ref C))
  (ha:PA X (e::es) t) (OU:autoParam ((x==("__debug__" : Str))=false) aD._auto_1) (he:autoParam (starEach (e::es) X.env=(false,eval e X.env)::starEach es X.env) aR._auto_1) (Og:autoParam ((backTo pos (starEach es X.env)).any (·.1)=false) aR._auto_1) :
  PE X (.Call (.Name x p) (e::es) [] pos) (Jj C sp t):=by
 intro NX s σ H Q I h
 refine wpAny_Call_Name_kw (jd I hg hm ?_ OU)
 refine PySem.W.callWith_K (h₀:=X.base) I.ok.mod.Gf kp (cG (ha pos NX s σ H _ I h) λus s1 ⟨vs,H1,I1,r,hl,q⟩=>⟨I1.jX,?_⟩) he Og
 have X1:=I1.jX
 obtain⟨bm,N,nm,qn,bs,P2,sn,sub,ab,col,dd,k0,k1,k2,k3,k5,mN,hC,hN,Qh,T⟩:=Cp X1 hc
 obtain⟨hp,g,d,tk,os⟩:=s1
 have f1:=tc_lookup
 have f2:=tc_bind (.ref C)
 have hT:(⟨hp,g,d,tk,os⟩:Shared).TypeIs (.ref C) "type" := ⟨_,hC,rfl⟩
 refine wpAny_call (codeAny_of_tree ?_)
 show wpAny _ _ (callAny (.ref C) _) _ _ _
 repeat (any_goals (first | assumption | with_reducible refine wpAny_loadPart_at hC ?_ | wp_step))
 refine⟨rfl,?_⟩
 refine codeAny_call_builtin_at (Code.quiet_builtin _ (by decide +kernel)) entry_typeCall (wpAny_check_type_call_sub hC (qC PySem.F.excBase_ValueError T hC hN Qh
  (λh' kk self=>PySem.W.bind_fn (λb o z=>kk b o (X1 b o z)) self (beq_iff_eq.mp hf)) (λh' kk ht hx hz=>?_) (by show us.length<=sizeLine;rw[← r.length];exact hl)))
 have I2:Inv X NX σ (upd H1 (hp.objs.size+1) (k6 C none (hp.objs.size+1))) ⟨h',g,d,tk,os⟩:=I1.FD (t':=tk) kk (Heap.get?_none_of_le (Nat.le_succ _)) (sI hx)
 have hq:=q (hp.objs.size+1) (I1.sL (Heap.get?_none_of_le (Nat.le_succ _)))
 have r2:Vals (V.ref (hp.objs.size+1)::vs) (Value.ref (hp.objs.size+1)::us):=.cons rfl r
 have hlen:(Value.ref (hp.objs.size+1)::us++[]).length=ps.length:=by
  rw[List.append_nil,← r2.length]
  exact F.len _ _ _ _ hq
 refine wpAny_call (codeAny_mono (F.run _ X.stack _ _ ⟨Value.ref (hp.objs.size+1)::us,[]⟩ (Value.ref (hp.objs.size+1)::us) _ _ E0 (hr.make C us []) (I2.lA.make C us []) (by have:=hb _ (Value.ref (hp.objs.size+1)::us) I2.jX hlen;rwa [List.append_nil] at this) r2 hq) λr s' Qj=>?_)
 cases r with
 | error e =>
  obtain⟨_,_,_,_,_,_,_,_,_,_,_,_,_,z⟩:=Qj
  exact z.elim
 | ok fl =>
  cases fl with
  | ret u =>
   obtain⟨v,H',I3,rv,ev,q3⟩:=I2.after Qj
   subst ev
   exact⟨rv,⟨V.ref (hp.objs.size+1),H',I3,rfl,q3⟩⟩
  | next=>exact False.elim Qj
  | brk=>exact False.elim Qj
  | cont=>exact False.elim Qj
def IK(K:PySem.W.Frag)(ta tv:TE)(f:Str):TS:=λD σ H=>tv σ H λy H1=>ta σ H1 λx H2=>∃ a C,x=.ref a/\H2 a=some (k6 C none a)/\f9 K C/\((PySem.W.clsIn K C).any λcd=>gR cd.mro)=true/\bN K C f ∧
 ∀ d,H2 d=none->d≠a->D.nx σ (upd (upd H2 d (.xd [(f,y)])) a (k6 C (some d) a))
theorem B7{value:Expr}{tv:TE}{n:Str}(ha:PE X o ta)(hv:PE X value tv)(hs:swapsWith value (some (.Attribute o n pos')) pos.line X.env=pure false):PS X (.Assign [.Attribute o n pos'] value pos) (IK X.K ta tv n):=by
 intro NX s σ H D I h
 refine plainObj_wpAny_Assign_Attribute (cG (hv NX s σ H _ I h) λu s1 ⟨y,H1,I1,ry,q⟩=>cG (ha NX s1 σ H1 _ I1 q) λov s2 ⟨x,H2,I2,rx,a,C,ex,ea,c,po,na,q2⟩=>?_) hs
 subst ex
 obtain rfl:ov=Value.ref a:=rx
 obtain⟨tt,hx⟩:=(I2.bK a _ ea).1
 refine Cq po c I2.jX hx na.FX λh' tk d e1 e2 e3 e4=>?_
 have hd:H2 d=none:=I2.sL e2
 have nda:d≠a:=λz=>by rw[z,ea] at hd;cases hd
 refine⟨σ,_,?_,q2 d hd nda⟩
 have up:∀ b,b≠a->b≠d->upd (upd H2 d (.xd [(n,y)])) a (k6 C (some d) a) b=H2 b:=λb h1 h2=>by rw[aw h1,aw h2]
 have nd:∀ b u,s2.heap.get? b=some u->b≠d:=λb u e z=>by rw[z,e2] at e;cases e
 have nH:∀ b u,H2 b=some u->b≠d:=λb u e z=>by rw[z,hd] at e;cases e
 have nE:∀ b u,H2 b=some u->(∀ C dd,u≠k6 C dd a)->b≠a:=λb u e hu z=>by
  rw[z,ea] at e
  exact hu C none (Option.some.inj e).symm
 refine I2.un (t':=tk) ⟨λb u e z _ _=>e4 b u (λw=>by rw[w,ea] at z;cases z) e,λb u e z _ _=>⟨u.slots,e4 b u (λw=>by rw[w,ea] at z;cases z) e⟩,λb u e z _=>?_,λb u e _=>?_,λb xs e=>?_,λb ob u e=>?_,λb ps e=>?_⟩ λb u e=>?_
 ·rw[up b (λw=>by rw[w,ea] at z;cases z) (nd b u e)];exact z
 ·by_cases w:b=a
  ·rw[w];exact⟨_,e1⟩
  ·exact⟨u,e4 b u w e⟩
 ·rw[up b (nE b _ e λ_ _ z=>by cases z) (nH b _ e)];exact e
 ·rw[up b (nE b _ e λ_ _ z=>by cases z) (nH b _ e)];exact e
 ·exact⟨#[],by rw[up b (nE b _ e λ_ _ z=>by cases z) (nH b _ e),e];simp⟩
 ·by_cases w:b=a
  ·subst w
   rw[aB] at e
   cases e
   exact sI e1
  ·rw[aw w] at e
   by_cases w2:b=d
   ·subst w2
    rw[aB] at e
    cases e
    refine⟨_,e3,λg=>?_⟩
    show mQ (List.lookup g [(n,y)]) (if g=n then some _ else none)
    rw[List.lookup_cons]
    by_cases z:g=n
    ·rw[if_pos z,show (g==n)=true from by simp[z]];exact ry
    ·rw[if_neg z,show (g==n)=false from by simp[z]];exact True.intro
   ·rw[aw w2] at e
    refine(I2.bK b u e).mf (λc v hc z=>e4 c v ?_ z) (λc z=>?_) λc ys z=>?_
    ·rcases hc with z' | z'
     ·rw[z'];exact w
     ·exact nE c _ z' λ_ _ z=>by cases z
    ·rw[up c (nE c _ z λ_ _ z=>by cases z) (nH c _ z)];exact z
    ·rw[up c (nE c _ z λ_ _ z=>by cases z) (nH c _ z)];exact z
end
end
section
variable{M:Model}{E:Value->Shared->Prop}
theorem BP{e:Addr}{o:Obj}(hx:s.heap.get? e=some o)(h:Q o.cls s):wpAny M A (typeOf (.ref e)) Q E s:=by
 unfold typeOf
 exact wpAny_bind (wpAny_loadPart hx (wpAny_pure h))
theorem yg{e:Addr}{o:Obj}{vs:Array Value}{Q:Bool->Shared->Prop}(hx:s.heap.get? e=some o)(hd:o.data=.fields vs)(h:Q false s):wpAny M A (isType (.ref e)) Q E s:=by
 unfold isType loadHead
 refine wpAny_bind (wpAny_loadPart hx (wpAny_pure ?_))
 rw[hd];exact h
end
def Ig(K:PySem.W.Frag)(E:St->XK)(te:TE):TS:=λD σ H=>te σ H λv H1=>∃ e C dd,v=.ref e/\H1 e=some (k6 C dd e)/\f9 K C/\PySem.W.typeIn K (.ref C)=some (.type "type")/\E σ (.ref e) none (upd H1 e (h_ C dd e))
theorem vx{exc:Expr}{pos:Pos}(O:eZ X E)(N4:X.calm=true)(he:PE X exc te):PS X (.Raise (some exc) none pos) (Ig X.K E te):=by
 intro NX s σ H D I h
 rw[arm_exec_Raise]
 refine wpAny_bind (wpAny_standAt ?_)
 unfold raiseStmt
 dsimp only [evalOpt,Option.map]
 refine wpAny_bind (wpAny_bind (cG (he NX s σ H _ I h) λu s1 hq=>wpAny_bind (wpAny_standAt (wpAny_pure ?_))))
 obtain⟨v,H1,I1,rv,e,C,dd,ev,hN,c,ht,hE⟩:=hq
 subst ev
 obtain rfl:u=Value.ref e:=rv
 obtain⟨t,hx⟩:=(I1.bK e _ hN).1
 have X1:=I1.jX
 refine wpAny_bind (wpAny_pure ?_)
 refine wpAny_bind (wpAny_holding ?_)
 unfold excFromValue isExcClass
 refine wpAny_bind (wpAny_bind (yg hx rfl ?_))
 refine wpAny_pure ?_
 refine wpAny_bind ?_
 unfold isInstance
 refine wpAny_bind (BP hx ((PySem.W.looks_mroIn X1 c.mb).here ?_))
 refine wpAny_pure ?_
 dsimp only
 refine wpAny_bind (yg hx rfl ?_)
 unfold raisedInstance
 refine wpAny_bind (wpAny_bind (BP hx (wpAny_bind ((PySem.W.looks_typeIn X1 ht).here ?_))))
 refine wpAny_pure ?_
 unfold setFlight
 refine wpAny_bind (wpAny_bind (wpAny_field hx rfl (x:=.none) rfl ?_))
 refine wpAny_pure ?_
 exact wpAny_raiseNew_none (I1.ok.hd N4) (O.new NX σ H1 s1 e C dd I1 hN hE)
inductive PV where
 | da | bl (b:Bool) | int (i:Int) | str (x:Str)
 | tup (xs:List PV) | lst (xs:List PV)
 | jN (xs:List PV)
 | obj (C:Addr) (fs:List (Str×PV))
 | exc (C:Addr) (fo:Option (List (Str×PV)))
 | emp
 deriving Inhabited
mutual
inductive Rep (H:Hp):PV->V->Prop where
 | da:Rep H .da .da
 | bl (b:Bool):Rep H (.bl b) (.bl b)
 | int (i:Int):Rep H (.int i) (.int i)
 | str (x:Str):Rep H (.str x) (.str x)
 | tup {a:Addr} {xs:List PV} {vs:List V}:H a=some (.tup vs)->aS H xs vs->Rep H (.tup xs) (.ref a)
 | lst {a:Addr} {xs:List PV} {vs:List V}:H a=some (.lst vs)->aS H xs vs->Rep H (.lst xs) (.ref a)
 | jN {a:Addr} {o:Obj} {xs:List PV} {vs:List V}:H a=some (.qK o (.lst vs))->aS H xs vs->Rep H (.jN xs) (.ref a)
 | obj {a C dx:Addr} {fs:List (Str×PV)} {vs:List (Str×V)}:H a=some (.ins C dx vs)->iZ H fs vs->Rep H (.obj C fs) (.ref a)
 | xa {a C:Addr}:H a=some (h_ C none a)->Rep H (.exc C none) (.ref a)
 | xE {a C d:Addr} {fs:List (Str×PV)} {vs:List (Str×V)}:H a=some (h_ C (some d) a)->H d=some (.xd vs)->iZ H fs vs->Rep H (.exc C (some fs)) (.ref a)
 | emp {a:Addr}:H a=some (.dK [])->Rep H .emp (.ref a)
inductive aS (H:Hp):List PV->List V->Prop where
 | nil:aS H [] []
 | cons {p:PV} {v:V} {ps:List PV} {vs:List V}:Rep H p v->aS H ps vs->aS H (p::ps) (v::vs)
inductive iZ (H:Hp):List (Str×PV)->List (Str×V)->Prop where
 | nil:iZ H [] []
 | cons {n:Str} {p:PV} {v:V} {ps:List (Str×PV)} {vs:List (Str×V)}:Rep H p v->iZ H ps vs->iZ H ((n,p)::ps) ((n,v)::vs)
end
mutual
theorem Rep.mono{H H':Hp}(s:bB H H'):∀ {p:PV} {v:V},Rep H p v->Rep H' p v
 | _,_,.da=>.da
 | _,_,.bl b=>.bl b
 | _,_,.int i=>.int i
 | _,_,.str x=>.str x
 | _,_,.tup h r=>.tup (s _ _ h) (r.mono s)
 | _,_,.lst h r=>.lst (s _ _ h) (r.mono s)
 | _,_,.jN h r=>.jN (s _ _ h) (r.mono s)
 | _,_,.obj h r=>.obj (s _ _ h) (r.mono s)
 | _,_,.xa h=>.xa (s _ _ h)
 | _,_,.xE h h2 r=>.xE (s _ _ h) (s _ _ h2) (r.mono s)
 | _,_,.emp h=>.emp (s _ _ h)
theorem aS.mono{H H':Hp}(s:bB H H'):∀ {p:List PV} {v:List V},aS H p v->aS H' p v
 | _,_,.nil=>.nil
 | _,_,.cons h r=>.cons (h.mono s) (r.mono s)
theorem iZ.mono{H H':Hp}(s:bB H H'):∀ {p:List (Str×PV)} {v:List (Str×V)},iZ H p v->iZ H' p v
 | _,_,.nil=>.nil
 | _,_,.cons h r=>.cons (h.mono s) (r.mono s)
end
theorem aS.length{H:Hp}:∀ {p:List PV} {v:List V},aS H p v->p.length=v.length
 | _,_,.nil=>rfl
 | _,_,.cons _ r=>by simp[r.length]
theorem aS.get{H:Hp}:∀ {p:List PV} {v:List V} {i:Nat} {x:PV},aS H p v->p[i]?=some x->∃ u,v[i]?=some u/\Rep H x u
 | _,_,_,_,.nil,e=>by simp at e
 | _,_,0,_,.cons h _,e=>by simp at e;subst e;exact⟨_,rfl,h⟩
 | _,_,i+1,x,.cons _ r,e=>by
  obtain⟨u,h1,h2⟩:=aS.get (i:=i) (x:=x) r (by simpa using e)
  exact⟨u,by simpa using h1,h2⟩
theorem aS.append{H:Hp}:∀ {p q:List PV} {v u:List V},aS H p v->aS H q u->aS H (p++q) (v++u)
 | _,_,_,_,.nil,s=>s
 | _,_,_,_,.cons h r,s=>.cons h (r.append s)
theorem aS.take{H:Hp}:∀ {p:List PV} {v:List V} (n:Nat),aS H p v->aS H (p.take n) (v.take n)
 | _,_,0,_=>.nil
 | _,_,_+1,.nil=>.nil
 | _,_,n+1,.cons h r=>.cons h (r.take n)
theorem aS.drop{H:Hp}:∀ {p:List PV} {v:List V} (n:Nat),aS H p v->aS H (p.drop n) (v.drop n)
 | _,_,0,r=>r
 | _,_,_+1,.nil=>.nil
 | _,_,n+1,.cons _ r=>r.drop n
theorem aS.set{H:Hp}{x:PV}{u:V}(h:Rep H x u):∀ {p:List PV} {v:List V} (i:Nat),aS H p v->aS H (p.set i x) (v.set i u)
 | _,_,_,.nil=>.nil
 | _,_,0,.cons _ r=>.cons h r
 | _,_,i+1,.cons q r=>.cons q (r.set h i)
theorem aS.snoc{p:List PV}{v:List V}{x:PV}{u:V}(r:aS H p v)(h:Rep H x u):aS H (p++[x]) (v++[u]):=r.append (.cons h .nil)
theorem iZ.look{H:Hp}{f:Str}:∀ {p:List (Str×PV)} {v:List (Str×V)} {x:PV},iZ H p v->p.lookup f=some x->∃ u,v.lookup f=some u/\Rep H x u
 | _,_,_,.nil,e=>by simp at e
 | (n,_)::_,_,x,.cons h r,e=>by
  rw[List.lookup_cons] at e ⊢
  cases q:f==n with
  | true=>rw[q] at e;cases e;exact⟨_,rfl,h⟩
  | false=>rw[q] at e;exact r.look e
theorem iZ.none{H:Hp}{f:Str}:∀ {p:List (Str×PV)} {v:List (Str×V)},iZ H p v->p.lookup f=none->v.lookup f=none
 | _,_,.nil,_=>rfl
 | (n,_)::_,_,.cons h r,e=>by
  rw[List.lookup_cons] at e ⊢
  cases q:f==n with
  | true=>rw[q] at e;cases e
  | false=>rw[q] at e;exact r.none e
theorem aS.ints{H:Hp}:∀ {ns:List Int} {v:List V},aS H (ns.map PV.int) v->v=ns.map V.int
 | [],_,.nil=>rfl
 | _::_,_,.cons (.int i) r=>by rw[r.ints];rfl
theorem aS.Kd{H:Hp}:∀ {ns:List Bool} {v:List V},aS H (ns.map PV.bl) v->v=ns.map V.bl
 | [],_,.nil=>rfl
 | _::_,_,.cons (.bl i) r=>by rw[r.Kd];rfl
structure bP (Hs H N2 H':Hp):Prop where
 st:bB Hs N2
 al:bB H H'
 sub:bB N2 H'
 nw:∀ a o,Hs a=none->H a=some o->N2 a=none
variable{Hs:Hp}
theorem bP.refl(s:bB Hs H):bP Hs H Hs H:=⟨λ_ _ e=>e,λ_ _ e=>e,s,λ_ _ e _=>e⟩
variable{N7:Hp}
theorem bP.trans{H1 N8 H2:Hp}(a:bP Hs H N7 H1)(b:bP N7 H1 N8 H2):bP Hs H N8 H2 :=
 ⟨λc o e=>b.st c o (a.st c o e),λc o e=>b.al c o (a.al c o e),b.sub,λc o e q=>b.nw c o (a.nw c o e q) (a.al c o q)⟩
theorem bP.new{p:Addr}{o:HO}(s:bB Hs H)(n:H p=none):bP Hs H (upd Hs p o) (upd H p o):=by
 have ne:∀ c u,H c=some u->c≠p:=λc u e z=>by rw[z,n] at e;cases e
 refine⟨λc u e=>?_,λc u e=>?_,λc u e=>?_,λc u e q=>?_⟩
 ·rw[aw (ne c u (s c u e))];exact e
 ·rw[aw (ne c u e)];exact e
 ·by_cases z:c=p
  ·subst z;rw[aB] at e ⊢;exact e
  ·rw[aw z] at e ⊢;exact s c u e
 ·rw[aw (ne c u q)];exact e
inductive SV where
 | sh (p:PV)
 | ow (xs:List PV)
 | bd (a C:Addr) (fs:List (Str×PV))
abbrev af:=List (Option SV)
structure SR (B H₀ Hs H:Hp) (σ:St) (env:af):Prop where
 gr:bP B H₀ Hs H
 len:σ.length=env.length
 sh:∀ (i:Nat) (p:PV),env[i]?=some (some (.sh p))->∃ v,σ[i]?=some (some v)/\Rep Hs p v
 ow:∀ (i:Nat) (xs:List PV),env[i]?=some (some (.ow xs))->∃ a vs,σ[i]?=some (some (.ref a))/\H a=some (.lst vs)/\Hs a=none/\H₀ a=none/\aS Hs xs vs
 sep:∀ (i j:Nat) (xs ys:List PV) (a:Addr),i≠j->env[i]?=some (some (.ow xs))->env[j]?=some (some (.ow ys))->σ[i]?=some (some (.ref a))->σ[j]?≠some (some (.ref a))
 bd:∀ (i:Nat) (a C:Addr) (fs:List (Str×PV)),env[i]?=some (some (.bd a C fs))->∃ dx vs,σ[i]?=some (some (.ref a))/\H a=some (.ins C dx vs)/\Hs a=none/\H₀ a=none/\iZ Hs fs vs
 one:∀ (i j:Nat) (a b C D:Addr) (fs gs:List (Str×PV)),env[i]?=some (some (.bd a C fs))->env[j]?=some (some (.bd b D gs))->i=j
variable{H₀:Hp}
theorem SR.grow{B N2 H':Hp}{env:af}(r:SR B H₀ Hs H σ env)(g:bP Hs H N2 H'):SR B H₀ N2 H' σ env where
 gr:=r.gr.trans g
 len:=r.len
 sh:=λi p e=>let ⟨v,h1,h2⟩:=r.sh i p e;⟨v,h1,h2.mono g.st⟩
 ow:=λi xs e=>let ⟨a,vs,h1,h2,h3,h4,h5⟩:=r.ow i xs e;⟨a,vs,h1,g.al _ _ h2,g.nw _ _ h3 h2,h4,h5.mono g.st⟩
 sep:=r.sep
 bd:=λi a C fs e=>let ⟨dx,vs,h1,h2,h3,h4,h5⟩:=r.bd i a C fs e;⟨dx,vs,h1,g.al _ _ h2,g.nw _ _ h3 h2,h4,h5.mono g.st⟩
 one:=r.one
abbrev EX:=Addr×Option (List (Str×PV))
abbrev M(α:Type):=Option (Except EX α)
def M.ok{α:Type}(a:α):M α:=some (.ok a)
variable{α:Type}
noncomputable def M.bind{β:Type}(x:M α)(f:α->M β):M β:=match x with
 | some (.ok a)=>f a
 | some (.error e)=>some (.error e)
 | none=>none
instance:Monad M where
 pure:=M.ok
 bind:=M.bind
def av(r:M α)(Q:α->Prop)(E:EX->Prop):Prop:=match r with
 | some (.ok a)=>Q a
 | some (.error e)=>E e
 | none=>False
variable{E':EX->Prop}
theorem av.imp{r:M α}{Q Q':α->Prop}{E:EX->Prop}(h:av r Q E)(hq:∀ a,Q a->Q' a)(he:∀ e,E e->E' e):av r Q' E':=by
 cases r with
 | none=>exact h
 | some x=>cases x with
  | ok a=>exact hq a h
  | error e=>exact he e h
theorem av.bind{α β:Type}{x:M α}{f:α->M β}{Q:β->Prop}{E:EX->Prop}(h:av (x.bind f) Q E):av x (λa=>av (f a) Q E) E:=by
 cases x with
 | none=>exact h
 | some x=>cases x with
  | ok a=>exact h
  | error e=>exact h
def XW(E:XK)(Hs H:Hp)(x:EX):Prop:=∀ ea N2 H',bP Hs H N2 H'->Rep N2 (.exc x.1 x.2) (.ref ea)->E (.ref ea) none H'
theorem XW.grow{E:XK}{N2 H':Hp}{x:EX}(h:XW E Hs H x)(g:bP Hs H N2 H'):XW E N2 H' x:=λea N8 H2 g2 r=>h ea N8 H2 (g.trans g2) r
def tE(E:St->XK)(f:af->M PV):TE:=fun σ H Q=>∃ B H₀ Hs env,SR B H₀ Hs H σ env/\av (f env) (λp=>∀ v N2 H',bP Hs H N2 H'->Rep N2 p v->Q v H') (XW (E σ) Hs H)
theorem PE.imp{t t':TE}(h:PE X e t)(i:∀ σ H Q,t' σ H Q->t σ H Q):PE X e t':=λNX s σ H Q I q=>h NX s σ H Q I (i σ H Q q)
theorem uv{f:af->M PV}{g:af->PV->M PV}{Q R:VK}(h:tE E (λenv=>(f env).bind (g env)) σ H Q)
  (k:∀ B H₀ Hs H1 env p v,SR B H₀ Hs H1 σ env->Rep Hs p v->av (g env p) (λq=>∀ u N2 H',bP Hs H1 N2 H'->Rep N2 q u->Q u H') (XW (E σ) Hs H1)->R v H1):tE E f σ H R:=by
 obtain⟨B,H₀,Hs,env,sr,h⟩:=h
 refine⟨B,H₀,Hs,env,sr,(av.bind h).imp (λp hp v N2 H' g r=>?_) λe he=>he⟩
 exact k B H₀ N2 H' env p v (sr.grow g) r (hp.imp (λq hq u N8 H2 g2 r2=>hq u N8 H2 (g.trans g2) r2) λe he=>he.grow g)
theorem yy{f g:af->M PV}{op:PV->PV->M PV}{r:R2}{Q:VK}(h:tE E (λenv=>(f env).bind λp=>(g env).bind λq=>op p q) σ H Q)
  (k:∀ Hs H1 p q v u,bB Hs H1->Rep Hs p v->Rep Hs q u->av (op p q) (λz=>∀ w N2 H',bP Hs H1 N2 H'->Rep N2 z w->Q w H') (XW (E σ) Hs H1)->r v u H1 Q):KY r (tE E f) (tE E g) σ H Q:=by
 refine uv h λB H₀ Hs H1 env p v sr rp hp=>?_
 refine⟨B,H₀,Hs,env,sr,(av.bind hp).imp (λq hq u N2 H' g ru=>?_) λe he=>he⟩
 exact k N2 H' p q v u (sr.grow g).gr.sub (rp.mono g.st) ru (hq.imp (λz hz w N8 H2 g2 r2=>hz w N8 H2 (g.trans g2) r2) λe he=>he.grow g)
theorem F1{f:af->M PV}{op:PV->M PV}{r:V->Hp->VK->Prop}{Q:VK}(h:tE E (λenv=>(f env).bind op) σ H Q)
  (k:∀ Hs H1 p v,bB Hs H1->Rep Hs p v->av (op p) (λz=>∀ w N2 H',bP Hs H1 N2 H'->Rep N2 z w->Q w H') (XW (E σ) Hs H1)->r v H1 Q):Ni r (tE E f) σ H Q :=
 uv h λB H₀ Hs H1 env p v sr rp hp=>k Hs H1 p v sr.gr.sub rp hp
def GD(sp:Sp)(OI:List V)(E:St->XK)(t:TA):TE:=fun σ H Q=>t σ H λvs H1=>sp (vs++OI) H1 Q (E σ)
def Ct(C:Addr)(m:Str)(sp:Sp)(OI:List V)(E:St->XK)(ta:TE)(t:TA):TE:=fun σ H Q=>ta σ H λx H1=>∃ a dx fs,x=.ref a/\H1 a=some (.ins C dx fs)/\fs.lookup m=none ∧
 t σ H1 λvs H2=>sp (x::(vs++OI)) H2 Q (E σ)
def HS(C:Addr)(sp:Sp)(OI:List V)(E:St->XK)(t:TA):TE:=fun σ H Q=>t σ H λvs H1=>∀ x dx,H1 x=none->H1 dx=none->dx≠x ->
 sp (.ref x::(vs++OI)) (upd (upd H1 dx (.own x)) x (.ins C dx [])) (λv H2=>v=.da/\Q (.ref x) H2) (E σ)
variable{OI:List V}
variable{vs:List V}{us:List Value}
variable{pl:Sem Bool}
section
variable{p pos:Pos}
theorem t9{Q:VK}(F:aQ X.prog X.w X.K X.mg X.base (bQ X.prog X.w) k f fd ps sp)(hr:cv k X.A)(hb:Binds X.K fd ps ds)(hd:Vals OI ds)(hx:eZ X E)
  (I:Inv X NX σ H s) (r:Vals vs us) (h:sp (vs++OI) H Q (E σ)):wpAny (model X.prog X.w) X.A (call (.ref f) us) (EP X NX σ Q) X.xe s:=by
 have r2:Vals (vs++OI) (us++ds):=r.append hd
 have hl:(us++ds).length=ps.length:=by rw[← r2.length];exact F.len _ _ _ _ h
 refine wpAny_call (codeAny_mono (F.run X.A X.stack s H ⟨us,[]⟩ (us++ds) (vs++OI) Q (E σ) hr I.lA (hb s us I.jX hl) r2 h) λr s' hq=>?_)
 cases r with
 | error e=>exact hx.pass NX σ H s e s' I hq
 | ok fl =>
  cases fl with
  | ret u=>exact I.after hq
  | next=>exact False.elim hq
  | brk=>exact False.elim hq
  | cont=>exact False.elim hq
theorem C9(F:aQ X.prog X.w X.K X.mg X.base (bQ X.prog X.w) k f fd ps sp)(hr:cv k X.A)(hg:Gl X x)(hm:X.mg x=some (.ref f))(hk:PySem.W.keepIn X.K (.ref f)=true)(hb:Binds X.K fd ps ds)(hd:Vals OI ds)(hx:eZ X E)
  (ha:PA X (e::es) t) (OU:autoParam ((x==("__debug__" : Str))=false) aD._auto_1) (he:autoParam (starEach (e::es) X.env=(false,eval e X.env)::starEach es X.env) aR._auto_1) (Og:autoParam ((backTo pos (starEach es X.env)).any (·.1)=false) aR._auto_1) :
  PE X (.Call (.Name x p) (e::es) [] pos) (GD sp OI E t):=by
 intro NX s σ H Q I h
 refine wpAny_Call_Name_kw (jd I hg hm ?_ OU)
 refine PySem.W.callWith_K (h₀:=X.base) I.ok.mod.Gf hk (cG (ha pos NX s σ H _ I h) λus s1 ⟨vs,H1,I1,r,q⟩=>⟨I1.jX,?_⟩) he Og
 exact t9 F hr hb hd hx I1 r q
theorem Bu(he:PE X o ta)(c:kP X.K C)(hm:Meth X.K C m f)(F:aQ X.prog X.w X.K X.mg X.base (bQ X.prog X.w) k f fd ps sp)(hr:cv k X.A)(hb:Binds X.K fd ps ds)(hd:Vals OI ds)(hx:eZ X E)(ha:PA X (e::es) t)
  (Ol:autoParam (starEach (e::es) X.env=(false,eval e X.env)::starEach es X.env) aR._auto_1) (Og:autoParam ((backTo pos (starEach es X.env)).any (·.1)=false) aR._auto_1)
  (ht:autoParam (eval (.Call (.Attribute o m apos) (e::es) [] pos) X.env=(do
   let ov ← eval o X.env
   standAt apos.atName
   let (f,first) ← holding [ov] (getMethod ov m pl)
   callWith pos f first (backTo pos (starEach (e::es) X.env)) (backToKw pos (keywordEach [] X.env)))) aR._auto_1) :
  PE X (.Call (.Attribute o m apos) (e::es) [] pos) (Ct C m sp OI E ta t):=by
 intro NX s σ H Q I h
 refine PySem.W.methodCall_KW (pl:=pl) (cG (he NX s σ H _ I h) λu s1 ⟨x,H1,I1,rx,a,dx,fs,ex,ea,l,q⟩=>?_) ht
 subst ex
 obtain rfl:u=Value.ref a:=rx
 refine qB I1 ea c hm l ?_
 refine PySem.W.callWith_K (first:=[.ref a]) (h₀:=X.base) I.ok.mod.Gf hm.kp (cG (ha pos NX s1 σ H1 _ I1 q) λus s2 ⟨vs,H2,I2,r,q2⟩=>⟨I2.jX,?_⟩) Ol Og
 exact t9 (us:=.ref a::us) (vs:=.ref a::vs) F hr hb hd hx I2 (.cons rfl r) q2
theorem zM(he:PE X o ta)(c:kP X.K C)(hm:Meth X.K C m f)(F:aQ X.prog X.w X.K X.mg X.base (bQ X.prog X.w) k f fd ps sp)(hr:cv k X.A)(hb:Binds X.K fd ps ds)(hd:Vals OI ds)(hx:eZ X E)
  (ht:autoParam (eval (.Call (.Attribute o m apos) [] [] pos) X.env=(do
   let ov ← eval o X.env
   standAt apos.atName
   let (f,first) ← holding [ov] (getMethod ov m pl)
   callWith pos f first (backTo pos (starEach [] X.env)) (backToKw pos (keywordEach [] X.env)))) aR._auto_1) :
  PE X (.Call (.Attribute o m apos) [] [] pos) (Ct C m sp OI E ta Kt):=by
 intro NX s σ H Q I h
 refine PySem.W.methodCall_KW (pl:=pl) (cG (he NX s σ H _ I h) λu s1 ⟨x,H1,I1,rx,a,dx,fs,ex,ea,l,q⟩=>?_) ht
 subst ex
 obtain rfl:u=Value.ref a:=rx
 refine qB I1 ea c hm l ?_
 exact PySem.W.callWith_K0 (first:=[.ref a]) I1.jX hm.kp (t9 (us:=[.ref a]) (vs:=[.ref a]) F hr hb hd hx I1 (.cons rfl .nil) q)
theorem zT{Q:VK}(M:Mk X.K C f)(F:aQ X.prog X.w X.K X.mg X.base (bQ X.prog X.w) k f fd ps sp)(hr:cv (k+1) X.A)(hb:Binds X.K fd ps ds)(hd:Vals OI ds)
  (hx:eZ X E) (I:Inv X NX σ H s) (r:Vals vs us)
  (h:∀ x dx,H x=none->H dx=none->dx≠x->sp (.ref x::(vs++OI)) (upd (upd H dx (.own x)) x (.ins C dx [])) (λv H2=>v=.da/\Q (.ref x) H2) (E σ)) :
  wpAny (model X.prog X.w) X.A (call (.ref C) us) (EP X NX σ Q) X.xe s:=by
 have hq:=h (s.heap.objs.size+1) s.heap.objs.size (I.bK.fresh (Nat.le_succ _)) (I.bK.fresh (Nat.le_refl _)) (Nat.ne_of_lt (Nat.lt_succ_self _))
 have I2:=Inv.made (C:=C) I
 have r2:Vals (V.ref (s.heap.objs.size+1)::(vs++OI)) (Value.ref (s.heap.objs.size+1)::(us++ds)):=.cons rfl (r.append hd)
 have hl:(Value.ref (s.heap.objs.size+1)::us++ds).length=ps.length:=by
  have e:=r2.length
  rw[F.len _ _ _ _ hq] at e
  exact e.symm
 refine wpAny_call (BR (f:=f) I.jX M.makes M.init (beq_iff_eq.mp M.fn) (codeAny_mono (F.run _ X.stack _ _ ⟨Value.ref (s.heap.objs.size+1)::us,[]⟩ (Value.ref (s.heap.objs.size+1)::(us++ds)) _ _ (E σ) (hr.make C us [])
  (I2.lA.make C us []) (hb _ (Value.ref (s.heap.objs.size+1)::us) I2.jX hl) r2 hq) λr s' Qj=>?_))
 cases r with
 | error e=>exact hx.pass NX σ _ _ e s' I2 Qj
 | ok fl =>
  cases fl with
  | ret u =>
   obtain⟨v,H',I3,rv,ev,q3⟩:=I2.after Qj
   subst ev
   exact⟨rv,⟨V.ref (s.heap.objs.size+1),H',I3,rfl,q3⟩⟩
  | next=>exact False.elim Qj
  | brk=>exact False.elim Qj
  | cont=>exact False.elim Qj
theorem Di(M:Mk X.K C f)(F:aQ X.prog X.w X.K X.mg X.base (bQ X.prog X.w) k f fd ps sp)(hr:cv (k+1) X.A)(hg:Gl X x)(hm:X.mg x=some (.ref C))(hb:Binds X.K fd ps ds)(hd:Vals OI ds)(hx:eZ X E)
  (ha:PA X (e::es) t) (OU:autoParam ((x==("__debug__" : Str))=false) aD._auto_1) (he:autoParam (starEach (e::es) X.env=(false,eval e X.env)::starEach es X.env) aR._auto_1) (Og:autoParam ((backTo pos (starEach es X.env)).any (·.1)=false) aR._auto_1) :
  PE X (.Call (.Name x p) (e::es) [] pos) (HS C sp OI E t):=by
 intro NX s σ H Q I h
 refine wpAny_Call_Name_kw (jd I hg hm ?_ OU)
 refine PySem.W.callWith_K (h₀:=X.base) I.ok.mod.Gf M.kp (cG (ha pos NX s σ H _ I h) λus s1 ⟨vs,H1,I1,r,q⟩=>⟨I1.jX,?_⟩) he Og
 exact zT M F hr hb hd hx I1 r q
end
abbrev dO(Hs H:Hp)(Q:VK):PV->Prop:=λz=>∀ w N2 H',bP Hs H N2 H'->Rep N2 z w->Q w H'
variable{p:PV}
theorem dO.flat{Q:VK}(h:dO Hs H Q p)(s:bB Hs H)(r:Rep Hs p v):Q v H:=h v Hs H (.refl s) r
theorem dO.tup{Hs H:Hp}{Q:VK}{xs:List PV}{vs:List V}(h:dO Hs H Q (.tup xs))(s:bB Hs H)(r:aS Hs xs vs):∀ p,H p=none->Q (.ref p) (upd H p (.tup vs)) :=
 λp n=>h _ (upd Hs p (.tup vs)) _ (bP.new s n) (.tup aB (r.mono (bP.new s n).st))
theorem dO.lst{Hs H:Hp}{Q:VK}{xs:List PV}{vs:List V}(h:dO Hs H Q (.lst xs))(s:bB Hs H)(r:aS Hs xs vs):∀ p,H p=none->Q (.ref p) (upd H p (.lst vs)) :=
 λp n=>h _ (upd Hs p (.lst vs)) _ (bP.new s n) (.lst aB (r.mono (bP.new s n).st))
namespace HT
theorem Az{prog:Program}{w:World}{A:Around}{E:Value->Shared->Prop}{s:Shared}{t b:Addr}{ws:List Value}{Q:Value->Shared->Prop}(ht:IsTup s.heap t #[])(hb:IsTup s.heap b ws.toArray)
  (h1:Q (.ref b) s):wpAny (model prog w) A (binaryOp .Add (.ref t) (.ref b)) Q E s:=by
 obtain⟨⟨cls,dd,data,sl⟩,ho,hc,n,hd⟩:=id ht
 obtain⟨⟨cls2,Rl,data2,sl2⟩,Qi,QO,n2,hd2⟩:=id hb
 simp only at hc hd QO hd2
 subst hc hd QO hd2
 exact concat_meets ⟨_,ho,rfl⟩ ⟨_,Qi,rfl⟩ noFill_tuple_add seq_tuple_add PySem.F.slot_tuple_add PySem.F.entry_tuple_add (PySem.F.args_tuple_add_2 _ _)
   (tuple_addW0 t b #[] ws.toArray n n2 dd Rl sl sl2 rfl) ⟨ho,Qi,h1⟩
end HT
def BZ(K:PySem.W.Frag):R2:=λx y H Q=>∃ a b ys,x=.ref a/\y=.ref b/\hX K H a []/\hX K H b ys/\Q (.ref b) H
theorem AU:f_ X (binaryOp .Add) (BZ X.K):=by
 intro NX s σ H x y v u Q I rx ry h
 obtain⟨a,b,ys,rfl,rfl,ha,hb,q1⟩:=h
 cases rx
 cases ry
 obtain⟨NZ,r1,p1,_⟩:=I.tuple ha
 obtain⟨PK,r2,p2,_⟩:=I.tuple hb
 have e:NZ=[]:=r1.lV.mpr rfl
 subst e
 exact HT.Az p1 p2 ⟨.ref b,H,I,rfl,q1⟩
def cC(c:Prop)[Decidable c](x:M α):M α:=if c then x else none
theorem av.cC{α:Type}{c:Prop}[Decidable c]{x:M α}{Q:α->Prop}{E:EX->Prop}(h:av (L2.cC c x) Q E):c/\av x Q E:=by
 unfold L2.cC at h
 by_cases hc:c
 ·rw[if_pos hc] at h;exact⟨hc,h⟩
 ·rw[if_neg hc] at h;exact h.elim
def dJ(o:Option PV):M PV:=match o with
 | some x=>M.ok x
 | none=>none
theorem av.opt{o:Option PV}{Q:PV->Prop}{E:EX->Prop}(h:av (dJ o) Q E):∃ x,o=some x/\Q x:=by
 cases o with
 | none=>exact h.elim
 | some x=>exact⟨x,rfl,h⟩
variable{j:Nat}
variable{op:CmpOp}
section
variable{a b:Expr}{pos:Pos}{f g h:af->M PV}
def ae(i:Nat)(env:af):M PV:=match env[i]? with
 | some (some (.sh p))=>M.ok p
 | _=>none
theorem Jf(hN:X.N[i]?=some x)(hv:A0 X.env.scope x)(hd:autoParam ((x==("__debug__" : Str))=false) aD._auto_1)(OX:autoParam ((x==("__classdict__" : Str))=false) aD._auto_1):PE X (.Name x pos) (tE E (ae i)):=by
 refine(lq hN hv hd OX).imp fun σ H Q q=>?_
 obtain⟨B,H₀,Hs,env,sr,q⟩:=q
 unfold ae at q
 split at q
 ·rename_i p e
  obtain⟨v,h1,h2⟩:=sr.sh i p e
  exact⟨v,h1,dO.flat q sr.gr.sub h2⟩
 ·exact q.elim
theorem ma(he:PE X e (tC v))(r:∀ H,Rep H p v):PE X e (tE E λ_=>M.ok p):=by
 refine he.imp fun σ H Q q=>?_
 obtain⟨B,H₀,Hs,env,sr,q⟩:=q
 exact dO.flat q sr.gr.sub (r Hs)
theorem Bj{i:Int}:PE X (.Constant (.int i) j pos) (tE E λ_=>M.ok (.int i)):=ma GL λ_=>.int i
theorem Ka{i:Bool}:PE X (.Constant (.bool i) j pos) (tE E λ_=>M.ok (.bl i)):=ma K6 λ_=>.bl i
theorem Jg:PE X (.Constant .none j pos) (tE E λ_=>M.ok .da):=ma Hl λ_=>.da
theorem Ie{i:Str}:PE X (.Constant (.str i) j pos) (tE E λ_=>M.ok (.str i)):=ma Hm λ_=>.str i
def aj(op:PV->PV->M PV)(f g:af->M PV):af->M PV:=λenv=>(f env).bind λp=>(g env).bind λq=>op p q
def kE(E:St->XK)(r:R2)(op:PV->PV->M PV):Prop:=∀ (σ:St) (Hs H:Hp) (p q:PV) (v u:V) (Q:VK),bB Hs H->Rep Hs p v->Rep Hs q u->av (op p q) (dO Hs H Q) (XW (E σ) Hs H)->r v u H Q
theorem jm{op:Operator}{r:R2}{o:PV->PV->M PV}(ho:f_ X (binaryOp op) r)(hv:kE E r o)(ha:PE X a (tE E f))(hb:PE X b (tE E g)):PE X (.BinOp a op b pos) (tE E (aj o f g)) :=
 (Gj ho ha hb).imp fun σ H Q q=>yy q λHs H1 p q v u s rp rq h=>hv σ Hs H1 p q v u Q s rp rq h
theorem kh{r:R2}{o:PV->PV->M PV}(ho:f_ X (compareOp op) r)(hv:kE E r o)(ha:PE X a (tE E f))(hb:PE X b (tE E g))(hm:behindInMarks op b=false):PE X (.Compare a [op] [b] pos) (tE E (aj o f g)) :=
 (Ep ho ha hb hm).imp fun σ H Q q=>yy q λHs H1 p q v u s rp rq h=>hv σ Hs H1 p q v u Q s rp rq h
def eT:PV->PV->M PV
 | .int i,.int j=>M.ok (.int (i+j))
 | .str x,.str y=>cC (x.length+y.length<=sizeLine) (M.ok (.str (x++y)))
 | .tup xs,.tup ys=>cC (xs.length+ys.length<=sizeLine) (M.ok (.tup (xs++ys)))
 | .lst xs,.lst ys=>cC (xs.length+ys.length<=sizeLine) (M.ok (.lst (xs++ys)))
 | _,_=>none
def Gg(K:PySem.W.Frag):R2:=λx y H Q=>(∃ i j,x=.int i/\y=.int j/\Q (.int (i+j)) H)\/(∃ i j,x=.str i/\y=.str j/\i.length+j.length<=sizeLine/\Q (.str (i++j)) H)\/F9 K x y H Q\/JO x y H Q\/BZ K x y H Q
theorem ET:f_ X (binaryOp .Add) (Gg X.K):=f_.or Ip (f_.or w9 (f_.or Fu (f_.or G6 AU)))
theorem I_{K:PySem.W.Frag}:kE E (Gg K) eT:=by
 intro σ Hs H p q v u Q s rp rq h
 cases rp with
 | int i=>cases rq with
  | int j=>exact .inl ⟨i,j,rfl,rfl,dO.flat h s (.int _)⟩
  | _=>exact h.elim
 | str i=>cases rq with
  | str j =>
   obtain⟨hz,h⟩:=av.cC h
   exact .inr (.inl ⟨i,j,rfl,rfl,hz,dO.flat h s (.str _)⟩)
  | _=>exact h.elim
 | @tup a xs vs ha hx=>cases rq with
  | @tup b ys us hb hy =>
   obtain⟨hz,h⟩:=av.cC h
   cases hx with
   | nil=>exact .inr (.inr (.inr (.inr ⟨a,b,us,rfl,rfl,hX.of (s _ _ ha),hX.of (s _ _ hb),dO.flat h s (.tup hb hy)⟩)))
   | cons Rj Pu =>
    have hx:=aS.cons Rj Pu
    refine .inr (.inr (.inl ⟨a,b,_,us,rfl,rfl,hX.of (s _ _ ha),hX.of (s _ _ hb),(λz=>nomatch z),by rw[← hx.length,← hy.length];exact hz,λz=>?_,λz=>dO.tup h s (hx.append hy)⟩))
    have e:ys=[]:=by cases hy with | nil=>rfl | cons _ _=>cases z
    subst e
    rw[List.append_nil] at h
    exact dO.flat h s (.tup ha hx)
  | _=>exact h.elim
 | @lst a xs vs ha hx=>cases rq with
  | @lst b ys us hb hy =>
   obtain⟨hz,h⟩:=av.cC h
   exact .inr (.inr (.inr (.inl ⟨a,b,vs,us,rfl,rfl,s _ _ ha,s _ _ hb,by rw[← hx.length,← hy.length];exact hz,dO.lst h s (hx.append hy)⟩)))
  | _=>exact h.elim
 | _=>exact h.elim
def nU(c:Int->Int->Bool)(o:Int->Int->Int):PV->PV->M PV
 | .int i,.int j=>cC (c i j=true) (M.ok (.int (o i j)))
 | _,_=>none
theorem pG{C:Int->Int->Prop}{c:Int->Int->Bool}{o:Int->Int->Int}(hc:∀ i j,c i j=true->C i j):kE E (rI C λi j=>.int (o i j)) (nU c o):=by
 intro σ Hs H p q v u Q s rp rq h
 cases rp with
 | int i=>cases rq with
  | int j =>
   obtain⟨hz,h⟩:=av.cC h
   exact⟨i,j,rfl,rfl,hc i j hz,dO.flat h s (.int _)⟩
  | _=>exact h.elim
 | _=>exact h.elim
def jU:PV->PV->M PV
 | .int i,.int j=>M.ok (.int (i-j))
 | _,_=>none
theorem HY:kE E (wj λi j=>.int (i-j)) jU:=by
 intro σ Hs H p q v u Q s rp rq h
 cases rp with
 | int i=>cases rq with
  | int j=>exact⟨i,j,rfl,rfl,dO.flat h s (.int _)⟩
  | _=>exact h.elim
 | _=>exact h.elim
def Bz(o:Int->Int->Bool):PV->PV->M PV
 | .int i,.int j=>M.ok (.bl (o i j))
 | _,_=>none
theorem uz{o:Int->Int->Bool}:kE E (wj λi j=>.bl (o i j)) (Bz o):=by
 intro σ Hs H p q v u Q s rp rq h
 cases rp with
 | int i=>cases rq with
  | int j=>exact⟨i,j,rfl,rfl,dO.flat h s (.bl _)⟩
  | _=>exact h.elim
 | _=>exact h.elim
def aP:PV->PV->M PV
 | .tup xs,.int i=>dJ (rN xs i)
 | .lst xs,.int i=>dJ (rN xs i)
 | .jN xs,.int i=>dJ (rN xs i)
 | .str z,.int i=>cC (z.length<=sizeLine) (dJ ((rN z.cps.toList i).map λc=>.str ⟨#[c]⟩))
 | _,_=>none
theorem aS.rN{H:Hp}{xs:List PV}{vs:List V}{i:Int}{x:PV}(r:aS H xs vs)(e:L2.rN xs i=some x):∃ v,L2.rN vs i=some v/\Rep H x v:=by
 unfold L2.rN at e ⊢
 rw[← r.length]
 obtain⟨j,h1,h2⟩:=Option.bind_eq_some_iff.mp e
 obtain⟨v,h3,h4⟩:=r.get h2
 exact⟨v,by rw[h1];exact h3,h4⟩
theorem GK{K:PySem.W.Frag}:kE E (Np K) aP:=by
 intro σ Hs H p q v u Q s rp rq h
 cases rp with
 | @tup a xs vs ha hx=>cases rq with
  | int i =>
   obtain⟨x,ex,h⟩:=av.opt h
   obtain⟨v,h1,h2⟩:=hx.rN ex
   exact .inr (.inl ⟨a,vs,i,v,rfl,rfl,hX.of (s _ _ ha),h1,dO.flat h s h2⟩)
  | _=>exact h.elim
 | @lst a xs vs ha hx=>cases rq with
  | int i =>
   obtain⟨x,ex,h⟩:=av.opt h
   obtain⟨v,h1,h2⟩:=hx.rN ex
   exact .inl ⟨a,vs,i,v,rfl,rfl,gS.of (s _ _ ha),h1,dO.flat h s h2⟩
  | _=>exact h.elim
 | @jN a o xs vs ha hx=>cases rq with
  | int i =>
   obtain⟨x,ex,h⟩:=av.opt h
   obtain⟨v,h1,h2⟩:=hx.rN ex
   exact .inl ⟨a,vs,i,v,rfl,rfl,.inl (.inr ⟨o,s _ _ ha⟩),h1,dO.flat h s h2⟩
  | _=>exact h.elim
 | str z=>cases rq with
  | int i =>
   obtain⟨hz,h⟩:=av.cC h
   obtain⟨x,ex,h⟩:=av.opt h
   obtain⟨c,ec,rfl⟩:=Option.map_eq_some_iff.mp ex
   exact .inr (.inr ⟨z,i,c,rfl,rfl,hz,ec,dO.flat h s (.str _)⟩)
  | _=>exact h.elim
 | _=>exact h.elim
theorem Hk(ha:PE X a (tE E f))(hb:PE X b (tE E g))(hs:oJ b):PE X (.Subscript a b pos) (tE E (aj aP f g)) :=
 (Gk CP ha hb hs).imp fun σ H Q q=>yy q λHs H1 p q v u s rp rq h=>GK σ Hs H1 p q v u Q s rp rq h
end
def tG(E:St->XK)(f:af->M α)(K:Hp->Hp->α->Prop):St->Hp->Prop:=fun σ H=>∃ B H₀ Hs env,SR B H₀ Hs H σ env/\av (f env) (K Hs H) (XW (E σ) Hs H)
def KG(K:Hp->Hp->α->Prop):Prop:=∀ Hs H N2 H' b,K Hs H b->bP Hs H N2 H'->K N2 H' b
abbrev KB(Q:Bool->Hp->Prop):Hp->Hp->Bool->Prop:=λHs H k=>∀ N2 H',bP Hs H N2 H'->Q k H'
abbrev jS(Q:VK):Hp->Hp->PV->Prop:=λHs H p=>dO Hs H Q p
abbrev KL(Q:List V->Hp->Prop):Hp->Hp->List PV->Prop:=λHs H ps=>∀ vs N2 H',bP Hs H N2 H'->aS N2 ps vs->Q vs H'
theorem KB.g{Q:Bool->Hp->Prop}:KG (KB Q):=λHs H N2 H' b k g N8 H2 g2=>k N8 H2 (g.trans g2)
theorem jS.g{Q:VK}:KG (jS Q):=λHs H N2 H' b k g w N8 H2 g2 r=>k w N8 H2 (g.trans g2) r
theorem KL.g{Q:List V->Hp->Prop}:KG (KL Q):=λHs H N2 H' b k g w N8 H2 g2 r=>k w N8 H2 (g.trans g2) r
def tT(E:St->XK)(f:af->M Bool):TT:=fun σ H Q=>tG E f (KB Q) σ H
def tL(E:St->XK)(f:af->M (List PV)):TA:=fun σ H Q=>tG E f (KL Q) σ H
theorem PT.imp{t t':TT}(h:PT X e t)(i:∀ σ H Q,t' σ H Q->t σ H Q):PT X e t':=λNX s σ H Q I q=>h NX s σ H Q I (i σ H Q q)
theorem PW.imp{t t':TT}(h:PW X e t)(i:∀ σ H Q,t' σ H Q->t σ H Q):PW X e t':=λw NX s σ H Q I q=>h w NX s σ H Q I (i σ H Q q)
theorem PA.imp{e:List Expr}{t':TA}(h:PA X e t)(i:∀ σ H Q,t' σ H Q->t σ H Q):PA X e t':=λw NX s σ H Q I q=>h w NX s σ H Q I (i σ H Q q)
section
variable{β:Type}{K:Hp->Hp->β->Prop}
theorem bZ{f:af->M PV}{g:af->PV->M β}{R:VK}(kg:KG K)(h:tG E (λenv=>(f env).bind (g env)) K σ H)
  (k:∀ B H₀ Hs H1 env p v,SR B H₀ Hs H1 σ env->Rep Hs p v->av (g env p) (K Hs H1) (XW (E σ) Hs H1)->R v H1):tE E f σ H R:=by
 obtain⟨B,H₀,Hs,env,sr,h⟩:=h
 refine⟨B,H₀,Hs,env,sr,(av.bind h).imp (λp hp v N2 H' g r=>?_) λe he=>he⟩
 exact k B H₀ N2 H' env p v (sr.grow g) r (hp.imp (λq hq=>kg _ _ _ _ q hq g) λe he=>he.grow g)
theorem lU{f:af->M Bool}{g:af->Bool->M β}{R:Bool->Hp->Prop}(kg:KG K)(h:tG E (λenv=>(f env).bind (g env)) K σ H)
  (k:∀ B H₀ Hs H1 env p,SR B H₀ Hs H1 σ env->av (g env p) (K Hs H1) (XW (E σ) Hs H1)->R p H1):tT E f σ H R:=by
 obtain⟨B,H₀,Hs,env,sr,h⟩:=h
 refine⟨B,H₀,Hs,env,sr,(av.bind h).imp (λp hp N2 H' g=>?_) λe he=>he⟩
 exact k B H₀ N2 H' env p (sr.grow g) (hp.imp (λq hq=>kg _ _ _ _ q hq g) λe he=>he.grow g)
theorem dm{f:af->M (List PV)}{g:af->List PV->M β}{R:List V->Hp->Prop}(kg:KG K)(h:tG E (λenv=>(f env).bind (g env)) K σ H)
  (k:∀ B H₀ Hs H1 env p v,SR B H₀ Hs H1 σ env->aS Hs p v->av (g env p) (K Hs H1) (XW (E σ) Hs H1)->R v H1):tL E f σ H R:=by
 obtain⟨B,H₀,Hs,env,sr,h⟩:=h
 refine⟨B,H₀,Hs,env,sr,(av.bind h).imp (λp hp v N2 H' g r=>?_) λe he=>he⟩
 exact k B H₀ N2 H' env p v (sr.grow g) r (hp.imp (λq hq=>kg _ _ _ _ q hq g) λe he=>he.grow g)
end
def wO:PV->M Bool
 | .bl b=>M.ok b
 | _=>none
def cX(f:af->M PV):af->M Bool:=λenv=>(f env).bind wO
theorem av.Ly{Q:Bool->Prop}{E:EX->Prop}(h:av (wO p) Q E):∃ b,p=.bl b/\Q b:=by
 cases p with
 | bl b=>exact⟨b,rfl,h⟩
 | _=>exact h.elim
variable{r:List V->Hp->VK->Prop}
section
variable{a b:Expr}{pos:Pos}{f g h:af->M PV}{u v:af->M Bool}{rest:List Expr}
theorem pv{Q:Bool->Hp->Prop}(q:tT E (cX f) σ H Q):tB (tE E f) σ H Q:=by
 refine bZ KB.g q λB H₀ Hs H1 env p v sr rp hp=>?_
 obtain⟨k,rfl,hp⟩:=av.Ly hp
 cases rp
 exact⟨k,rfl,hp Hs H1 (.refl sr.gr.sub)⟩
theorem sQ(he:PE X e (tE E f))(hw:autoParam (∀ whole,isTrue e X.env whole=(do let v ← whole;standAt e.pos;holding [v] (truthy v))) aI._auto_1):PT X e (tT E (cX f)) :=
 (Im he hw).imp fun σ H Q q=>pv q
theorem jc{r:R2}{o:PV->PV->M PV}(ho:f_ X (compareOp op) r)(hv:kE E r o)(ha:PE X a (tE E f))(hb:PE X b (tE E g))(hm:behindInMarks op b=false):PT X (.Compare a [op] [b] pos) (tT E (cX (aj o f g))):=by
 refine(EA ho ha hb hm).imp fun σ H Q q=>?_
 have q':=pv q
 exact yy q' λHs H1 p q v u s rp rq h=>hv σ Hs H1 p q v u _ s rp rq h
def ia(u:af->M Bool):af->M Bool:=λenv=>(u env).bind λb=>M.ok (!b)
def Jm(u v:af->M Bool):af->M Bool:=λenv=>(u env).bind λb=>if b=true then v env else M.ok false
def C0(u v:af->M Bool):af->M Bool:=λenv=>(u env).bind λb=>if b=true then M.ok true else v env
theorem IV(ha:PT X a (tT E u)):PT X (.UnaryOp .Not a pos) (tT E (ia u)) :=
 (G0 ha).imp fun σ H Q q=>lU KB.g q λB H₀ Hs H1 env p sr hp=>hp Hs H1 (.refl sr.gr.sub)
theorem Em(ha:PT X a (tT E u)):PW X (.BoolOp .And [a] pos) (tT E u):=pw_and1 ha
theorem j4(ha:PT X a (tT E u)):PW X (.BoolOp .Or [a] pos) (tT E u):=pw_or1 ha
theorem Hh(ha:PT X a (tT E u))(hb:PW X (.BoolOp .And (b::rest) pos) (tT E v)):PW X (.BoolOp .And (a::b::rest) pos) (tT E (Jm u v)):=by
 refine(pw_and ha hb).imp fun σ H Q q=>lU KB.g q λB H₀ Hs H1 env p sr hp=>?_
 cases p with
 | true=>exact⟨B,H₀,Hs,env,sr,hp⟩
 | false=>exact hp Hs H1 (.refl sr.gr.sub)
theorem lR(ha:PT X a (tT E u))(hb:PW X (.BoolOp .Or (b::rest) pos) (tT E v)):PW X (.BoolOp .Or (a::b::rest) pos) (tT E (C0 u v)):=by
 refine(pw_or ha hb).imp fun σ H Q q=>lU KB.g q λB H₀ Hs H1 env p sr hp=>?_
 cases p with
 | true=>exact hp Hs H1 (.refl sr.gr.sub)
 | false=>exact⟨B,H₀,Hs,env,sr,hp⟩
def Fi(f:af->M PV):af->M PV:=λenv=>(f env).bind λp=>(wO p).bind λb=>M.ok (.bl (!b))
def Cd(f g:af->M PV):af->M PV:=λenv=>(f env).bind λp=>(wO p).bind λb=>if b=true then g env else M.ok (.bl false)
def NF(f g:af->M PV):af->M PV:=λenv=>(f env).bind λp=>(wO p).bind λb=>if b=true then M.ok (.bl true) else g env
theorem Dp(ha:PE X a (tE E f)):PE X (.UnaryOp .Not a pos) (tE E (Fi f)):=by
 refine(Hn ha).imp fun σ H Q q=>bZ (K:=jS Q) jS.g q λB H₀ Hs H1 env p v sr rp hp=>?_
 obtain⟨k,rfl,hp⟩:=av.Ly (av.bind hp)
 cases rp
 exact⟨k,rfl,dO.flat hp sr.gr.sub (.bl _)⟩
theorem xo(ha:PE X a (tE E f))(hb:PE X (.BoolOp .And (b::rest) pos) (tE E g)):PE X (.BoolOp .And (a::b::rest) pos) (tE E (Cd f g)):=by
 refine(Gw ha hb).imp fun σ H Q q=>bZ (K:=jS Q) jS.g q λB H₀ Hs H1 env p v sr rp hp=>?_
 obtain⟨k,rfl,hp⟩:=av.Ly (av.bind hp)
 cases rp
 refine⟨k,rfl,?_⟩
 cases k with
 | true=>exact⟨B,H₀,Hs,env,sr,hp⟩
 | false=>exact dO.flat hp sr.gr.sub (.bl _)
def zX(u:af->M Bool)(f g:af->M PV):af->M PV:=λenv=>(u env).bind λb=>if b=true then f env else g env
theorem IY(hc:PT X c (tT E u))(ha:PE X a (tE E f))(hb:PE X b (tE E g)):PE X (.IfExp c a b pos) (tE E (zX u f g)):=by
 refine(AD hc ha hb).imp fun σ H Q q=>lU (K:=jS Q) jS.g q λB H₀ Hs H1 env p sr hp=>?_
 cases p with
 | true=>exact⟨B,H₀,Hs,env,sr,hp⟩
 | false=>exact⟨B,H₀,Hs,env,sr,hp⟩
def ak:af->M (List PV):=λ_=>M.ok []
def aa(f:af->M PV)(fs:af->M (List PV)):af->M (List PV):=λenv=>(f env).bind λp=>(fs env).bind λps=>M.ok (p::ps)
variable{fs:af->M (List PV)}
theorem BE:PA X [] (tL E ak):=by
 refine ko.imp fun σ H Q q=>?_
 obtain⟨B,H₀,Hs,env,sr,q⟩:=q
 exact q [] Hs H (.refl sr.gr.sub) .nil
theorem yH(ha:PE X e (tE E f))(hr:PA X es (tL E fs))(hs:autoParam (starEach (e::es) X.env=(false,eval e X.env)::starEach es X.env) aR._auto_1):PA X (e::es) (tL E (aa f fs)):=by
 refine(dM ha hr hs).imp fun σ H Q q=>bZ (K:=KL Q) KL.g q λB H₀ Hs H1 env p v sr rp hp=>?_
 refine⟨B,H₀,Hs,env,sr,(av.bind hp).imp (λps RA vs N2 H' g r=>?_) λe he=>he⟩
 exact RA (v::vs) N2 H' g (.cons (rp.mono g.st) r)
def lH(fs:af->M (List PV)):af->M PV:=λenv=>(fs env).bind λps=>cC (ps.length<=sizeLine) (M.ok (.tup ps))
def mC(fs:af->M (List PV)):af->M PV:=λenv=>(fs env).bind λps=>cC (ps.length<=sizeLine) (M.ok (.lst ps))
theorem ID(hr:PA X es (tL E fs)):PE X (.Tuple es x1 pos) (tE E (lH fs)):=by
 refine(CV hr).imp fun σ H Q q=>dm (K:=jS Q) jS.g q λB H₀ Hs H1 env p v sr rp hp=>?_
 obtain⟨hz,hp⟩:=av.cC hp
 exact⟨by rw[← rp.length];exact hz,dO.tup hp sr.gr.sub rp⟩
theorem CG(hr:PA X es (tL E fs)):PE X (.List es pos) (tE E (mC fs)):=by
 refine(AI hr).imp fun σ H Q q=>dm (K:=jS Q) jS.g q λB H₀ Hs H1 env p v sr rp hp=>?_
 obtain⟨hz,hp⟩:=av.cC hp
 exact⟨by rw[← rp.length];exact hz,dO.lst hp sr.gr.sub rp⟩
def ai(o:List PV->M PV)(fs:af->M (List PV)):af->M PV:=λenv=>(fs env).bind o
def ml(E:St->XK)(r:List V->Hp->VK->Prop)(o:List PV->M PV):Prop:=∀ (σ:St) (Hs H:Hp) (ps:List PV) (vs:List V) (Q:VK),bB Hs H->aS Hs ps vs->av (o ps) (dO Hs H Q) (XW (E σ) Hs H)->r vs H Q
theorem Bp{o:List PV->M PV}{Q:VK}(hv:ml E r o)(q:tE E (ai o fs) σ H Q):LZ r (tL E fs) σ H Q :=
 dm (K:=jS Q) jS.g q λB H₀ Hs H1 env p v sr rp hp=>hv σ Hs H1 p v Q sr.gr.sub rp hp
variable{p:Pos}{id T:String}
theorem kv{o:List PV->M PV}(hc:c6 X (.builtin id) r)(hv:ml E r o)(hg:Gl X x)(hm:X.mg x=none)(hx:bootBuiltins x=some (.builtin id))(ha:PA X (e::es) (tL E fs))(hn:autoParam (x ≠ "__name__") aD._auto_1)(OU:autoParam ((x==("__debug__" : Str))=false) aD._auto_1)
  (he:autoParam (starEach (e::es) X.env=(false,eval e X.env)::starEach es X.env) aR._auto_1) (Og:autoParam ((backTo pos (starEach es X.env)).any (·.1)=false) aR._auto_1):PE X (.Call (.Name x p) (e::es) [] pos) (tE E (ai o fs)) :=
 (j7 hc hg hm hx ha hn OU he Og).imp fun σ H Q q=>Bp hv q
theorem rZ{o:List PV->M PV}(hc:c6 X (.type T) r)(hv:ml E r o)(hg:Gl X x)(hm:X.mg x=none)(hx:bootBuiltins x=some (.type T))(ha:PA X (e::es) (tL E fs))(hn:autoParam (x ≠ "__name__") aD._auto_1)(OU:autoParam ((x==("__debug__" : Str))=false) aD._auto_1)
  (he:autoParam (starEach (e::es) X.env=(false,eval e X.env)::starEach es X.env) aR._auto_1) (Og:autoParam ((backTo pos (starEach es X.env)).any (·.1)=false) aR._auto_1):PE X (.Call (.Name x p) (e::es) [] pos) (tE E (ai o fs)) :=
 (Ah hc hg hm hx ha hn OU he Og).imp fun σ H Q q=>Bp hv q
end
variable{xs:List PV}
def bX:PV->Option (List PV)
 | .tup xs=>some xs
 | .lst xs=>some xs
 | .jN xs=>some xs
 | _=>none
theorem BH{K:PySem.W.Frag}(s:bB Hs H)(r:Rep Hs p v)(e:bX p=some xs):∃ a vs,v=.ref a/\(gS K H a vs\/hX K H a vs)/\aS Hs xs vs:=by
 cases r with
 | tup h r=>cases e;exact⟨_,_,rfl,.inr (hX.of (s _ _ h)),r⟩
 | lst h r=>cases e;exact⟨_,_,rfl,.inl (gS.of (s _ _ h)),r⟩
 | jN h r=>cases e;exact⟨_,_,rfl,.inl (.inl (.inr ⟨_,s _ _ h⟩)),r⟩
 | _=>cases e
def s_:PV->M PV
 | .str z=>cC (z.length<=sizeLine) (M.ok (.int z.length))
 | p=>dJ ((bX p).map λxs=>.int xs.length)
def cR:List PV->M PV
 | [p]=>s_ p
 | _=>none
theorem aS.one(r:aS H [p] vs):∃ v,vs=[v]/\Rep H p v:=by
 cases r with
 | cons h r=>cases r;exact⟨_,rfl,h⟩
theorem aS.two{q:PV}(r:aS H [p,q] vs):∃ v u,vs=[v,u]/\Rep H p v/\Rep H q u:=by
 cases r with
 | cons h r=>obtain⟨u,rfl,h2⟩:=r.one;exact⟨_,_,rfl,h,h2⟩
def F8(K:PySem.W.Frag):List V->Hp->VK->Prop:=λxs H Q=>(∃ p ys,xs=[.ref p]/\(gS K H p ys\/hX K H p ys)/\Q (.int ys.length) H)\/∃ z,xs=[.str z]/\z.length<=sizeLine/\Q (.int z.length) H
theorem zx:c6 X (.builtin "len") (F8 X.K):=c6.or sG tD
theorem HZ{K:PySem.W.Frag}:ml E (F8 K) cR:=by
 intro σ Hs H ps vs Q s r h
 match ps,r with
 | [],_=>exact h.elim
 | _::_::_,_=>exact h.elim
 | [p],r =>
  obtain⟨v,rfl,rp⟩:=r.one
  cases hp:bX p with
  | none =>
   cases p with
   | str z =>
    cases rp
    obtain⟨hz,h⟩:=av.cC h
    exact .inr ⟨z,rfl,hz,dO.flat h s (.int _)⟩
   | tup _=>cases hp
   | lst _=>cases hp
   | jN _=>cases hp
   | _=>exact h.elim
  | some xs =>
   obtain⟨a,us,rfl,hq,hx⟩:=BH (K:=K) s rp hp
   have h':av (dJ ((bX p).map λxs=>PV.int xs.length)) (dO Hs H Q) (XW (E σ) Hs H):=by
    cases p with
    | str z=>cases hp
    | _=>exact h
   rw[hp] at h'
   refine .inl ⟨a,us,rfl,hq,?_⟩
   rw[← hx.length]
   exact dO.flat h' s (.int _)
def qG:List PV->M PV
 | [p]=>dJ ((bX p).map .lst)
 | _=>none
theorem E1{K:PySem.W.Frag}:ml E (λxs H Q=>∃ p ys,xs=[.ref p]/\(gS K H p ys\/hX K H p ys)/\∀ l,H l=none->Q (.ref l) (upd H l (.lst ys))) qG:=by
 intro σ Hs H ps vs Q s r h
 match ps,r with
 | [],_=>exact h.elim
 | _::_::_,_=>exact h.elim
 | [p],r =>
  obtain⟨v,rfl,rp⟩:=r.one
  obtain⟨x,ex,h⟩:=av.opt h
  obtain⟨xs,hp,rfl⟩:=Option.map_eq_some_iff.mp ex
  obtain⟨a,us,rfl,hq,hx⟩:=BH (K:=K) s rp hp
  exact⟨a,us,rfl,hq,dO.lst h s hx⟩
def du:List PV->M PV
 | [p]=>dJ ((bX p).map .tup)
 | _=>none
theorem Bf{K:PySem.W.Frag}:ml E (λxs H Q=>∃ p ys,xs=[.ref p]/\((gS K H p ys/\∀ l,H l=none->Q (.ref l) (upd H l (.tup ys)))\/(hX K H p ys/\Q (.ref p) H))) du:=by
 intro σ Hs H ps vs Q s r h
 match ps,r with
 | [],_=>exact h.elim
 | _::_::_,_=>exact h.elim
 | [p],r =>
  obtain⟨v,rfl,rp⟩:=r.one
  obtain⟨x,ex,h⟩:=av.opt h
  obtain⟨xs,hp,rfl⟩:=Option.map_eq_some_iff.mp ex
  cases rp with
  | tup ha hx=>cases hp;exact⟨_,_,rfl,.inr ⟨hX.of (s _ _ ha),dO.flat h s (.tup ha hx)⟩⟩
  | lst ha hx=>cases hp;exact⟨_,_,rfl,.inl ⟨gS.of (s _ _ ha),dO.tup h s hx⟩⟩
  | jN ha hx=>cases hp;exact⟨_,_,rfl,.inl ⟨.inl (.inr ⟨_,s _ _ ha⟩),dO.tup h s hx⟩⟩
  | _=>cases hp
def v8:List PV->Option (List Int)
 | []=>some []
 | .int i::r=>(v8 r).map (i::·)
 | _=>none
def xA:List PV->Option (List Bool)
 | []=>some []
 | .bl i::r=>(xA r).map (i::·)
 | _=>none
theorem yE:∀ {ps:List PV} {ns:List Int},v8 ps=some ns->ps=ns.map PV.int
 | [],_,e=>by cases e;rfl
 | .int i::r,_,e=>by
  obtain⟨ms,h1,rfl⟩:=Option.map_eq_some_iff.mp e
  rw[yE h1];rfl
theorem wU:∀ {ps:List PV} {ns:List Bool},xA ps=some ns->ps=ns.map PV.bl
 | [],_,e=>by cases e;rfl
 | .bl i::r,_,e=>by
  obtain⟨ms,h1,rfl⟩:=Option.map_eq_some_iff.mp e
  rw[wU h1];rfl
theorem rJ:∀ (ns:List Int),v8 (ns.map PV.int)=some ns
 | []=>rfl
 | n::r=>by show (v8 (r.map PV.int)).map (n::·)=_;rw[rJ r];rfl
theorem o8:∀ (ns:List Bool),xA (ns.map PV.bl)=some ns
 | []=>rfl
 | n::r=>by show (xA (r.map PV.bl)).map (n::·)=_;rw[o8 r];rfl
def Ku:PV->M PV
 | .lst xs=>dJ ((v8 xs).map λns=>.int ns.sum)
 | _=>none
def qW:List PV->M PV
 | [p]=>Ku p
 | _=>none
theorem Gu{K:PySem.W.Frag}:ml E (λxs H Q=>∃ (a:Addr) (ns:List Int),xs=[.ref a]/\gS K H a (ns.map V.int)/\Q (.int ns.sum) H) qW:=by
 intro σ Hs H ps vs Q s r h
 match ps,r with
 | [],_=>exact h.elim
 | _::_::_,_=>exact h.elim
 | [p],r =>
  obtain⟨v,rfl,rp⟩:=r.one
  cases rp with
  | lst ha hx =>
   obtain⟨x,ex,h⟩:=av.opt h
   obtain⟨ns,hn,rfl⟩:=Option.map_eq_some_iff.mp ex
   rw[yE hn] at hx
   exact⟨_,ns,rfl,hx.ints▸gS.of (s _ _ ha),dO.flat h s (.int _)⟩
  | _=>exact h.elim
def all1:PV->M PV
 | .lst xs=>dJ ((xA xs).map λns=>.bl (ns.all id))
 | _=>none
def vg:List PV->M PV
 | [p]=>all1 p
 | _=>none
theorem Gz{K:PySem.W.Frag}:ml E (λxs H Q=>∃ (a:Addr) (bs:List Bool),xs=[.ref a]/\gS K H a (bs.map V.bl)/\Q (.bl (bs.all id)) H) vg:=by
 intro σ Hs H ps vs Q s r h
 match ps,r with
 | [],_=>exact h.elim
 | _::_::_,_=>exact h.elim
 | [p],r =>
  obtain⟨v,rfl,rp⟩:=r.one
  cases rp with
  | lst ha hx =>
   obtain⟨x,ex,h⟩:=av.opt h
   obtain⟨ns,hn,rfl⟩:=Option.map_eq_some_iff.mp ex
   rw[wU hn] at hx
   exact⟨_,ns,rfl,hx.Kd▸gS.of (s _ _ ha),dO.flat h s (.bl _)⟩
  | _=>exact h.elim
def Me(o:Int->Int->Int):PV->PV->M PV
 | .int i,.int j=>M.ok (.int (o i j))
 | _,_=>none
def vR(o:Int->Int->Int):List PV->M PV
 | [p,q]=>Me o p q
 | _=>none
theorem yJ{o:Int->Int->Int}:ml E (λxs H Q=>∃ i j,xs=[.int i,.int j]/\Q (.int (o i j)) H) (vR o):=by
 intro σ Hs H ps vs Q s r h
 match ps,r with
 | [],_=>exact h.elim
 | [_],_=>exact h.elim
 | _::_::_::_,_=>exact h.elim
 | [p,q],r =>
  obtain⟨v,u,rfl,rp,rq⟩:=r.two
  cases rp with
  | int i=>cases rq with
   | int j=>exact⟨i,j,rfl,dO.flat h s (.int _)⟩
   | _=>exact h.elim
  | _=>exact h.elim
def dc(n:Nat)(sem:List PV->M PV):Sp:=λvs H Q E=>vs.length=n/\∃ Hs ps,bB Hs H/\aS Hs ps vs/\av (sem ps) (dO Hs H Q) (XW E Hs H)
variable{PJ:List PV}
section
variable{sem:List PV->M PV}{p pos:Pos}{fs:af->M (List PV)}{g:af->M PV}
theorem EJ(F:aQ X.prog X.w X.K X.mg X.base (bQ X.prog X.w) k f fd ps (dc n sem))(hr:cv k X.A)(hg:Gl X x)(hm:X.mg x=some (.ref f))(hk:PySem.W.keepIn X.K (.ref f)=true)(hb:Binds X.K fd ps ds)(hd:Vals OI ds)(hdp:∀ H,aS H PJ OI)(O:eZ X E)
  (hl:∀ ps,sem (ps++PJ)≠none->ps.length+PJ.length=n)
  (ha:PA X (e::es) (tL E fs)) (OU:autoParam ((x==("__debug__" : Str))=false) aD._auto_1) (he:autoParam (starEach (e::es) X.env=(false,eval e X.env)::starEach es X.env) aR._auto_1) (Og:autoParam ((backTo pos (starEach es X.env)).any (·.1)=false) aR._auto_1) :
  PE X (.Call (.Name x p) (e::es) [] pos) (tE E (ai (λps=>sem (ps++PJ)) fs)):=by
 refine(C9 F hr hg hm hk hb hd O ha OU he Og).imp fun σ H Q q=>dm (K:=jS Q) jS.g q λB H₀ Hs H1 env PL v sr rp hp=>?_
 have r2:aS Hs (PL++PJ) (v++OI):=rp.append (hdp Hs)
 have hn:sem (PL++PJ)≠none:=λz=>by rw[z] at hp;exact hp
 refine⟨?_,Hs,PL++PJ,sr.gr.sub,r2,hp⟩
 rw[← r2.length,List.length_append]
 exact hl PL hn
def d_(ok:Addr->Bool)(f:Str)(g:af->M PV):af->M PV:=λenv=>(g env).bind λp=>match p with
 | .obj C fs=>cC (ok C=true) (dJ (fs.lookup f))
 | _=>none
theorem HP{ok:Addr->Bool}{fl:Str}(he:PE X e (tE E g))(bK:∀ C,ok C=true->kP X.K C/\bN X.K C fl)(hb:attributeBase e fl X.env (eval e X.env)=eval e X.env):PE X (.Attribute e fl pos) (tE E (d_ ok fl g)):=by
 refine(G7 he hb).imp fun σ H Q q=>bZ (K:=jS Q) jS.g q λB H₀ Hs H1 env p v sr rp hp=>?_
 cases rp with
 | obj ha hx =>
  obtain⟨hc,hp⟩:=av.cC hp
  obtain⟨x,ex,hp⟩:=av.opt hp
  obtain⟨u,h1,h2⟩:=hx.look ex
  exact⟨_,_,_,_,u,rfl,sr.gr.sub _ _ ha,(bK _ hc).1,(bK _ hc).2,h1,dO.flat hp sr.gr.sub h2⟩
 | _=>exact hp.elim
def bJ(C:Addr)(m:Str)(sem:List PV->M PV)(g:af->M PV)(fs:af->M (List PV)):af->M PV:=λenv=>(g env).bind λp=>match p with
 | .obj C' fl=>cC (C'=C/\fl.lookup m=none) ((fs env).bind λps=>sem (.obj C' fl::ps))
 | _=>none
theorem Ex(he:PE X o (tE E g))(c:kP X.K C)(hm:Meth X.K C m f)(F:aQ X.prog X.w X.K X.mg X.base (bQ X.prog X.w) k f fd ps (dc n sem))(hr:cv k X.A)(hb:Binds X.K fd ps [])(O:eZ X E)(hl:∀ ps,sem ps≠none->ps.length=n)(ha:PA X (e::es) (tL E fs))
  (Ol:autoParam (starEach (e::es) X.env=(false,eval e X.env)::starEach es X.env) aR._auto_1) (Og:autoParam ((backTo pos (starEach es X.env)).any (·.1)=false) aR._auto_1)
  (ht:autoParam (eval (.Call (.Attribute o m apos) (e::es) [] pos) X.env=(do
   let ov ← eval o X.env
   standAt apos.atName
   let (f,first) ← holding [ov] (getMethod ov m pl)
   callWith pos f first (backTo pos (starEach (e::es) X.env)) (backToKw pos (keywordEach [] X.env)))) aR._auto_1) :
  PE X (.Call (.Attribute o m apos) (e::es) [] pos) (tE E (bJ C m sem g fs)):=by
 refine(Bu he c hm F hr hb .nil O ha Ol Og ht).imp fun σ H Q q=>bZ (K:=jS Q) jS.g q λB H₀ Hs H1 env p v sr rp hp=>?_
 cases rp with
 | @obj a C' dx fl fvs ho hx =>
  obtain⟨⟨e1,hn⟩,Jt⟩:=av.cC hp
  subst e1
  refine⟨a,dx,fvs,rfl,sr.gr.sub _ _ ho,hx.none hn,B,H₀,Hs,env,sr,(av.bind Jt).imp (λPL RA vs N2 H' g' r=>?_) λe he=>he⟩
  have r2:aS N2 (.obj C' fl::PL) (V.ref a::(vs++[])):=by rw[List.append_nil];exact .cons ((Rep.obj ho hx).mono g'.st) r
  have hn:sem (.obj C' fl::PL)≠none:=λz=>by rw[z] at RA;exact RA
  refine⟨by rw[← r2.length];exact hl _ hn,N2,_,g'.sub,r2,RA.imp (λz hz w N8 H2 g2 r2=>hz w N8 H2 (g'.trans g2) r2) λe he=>he.grow g'⟩
 | _=>exact hp.elim
theorem Ar(he:PE X o (tE E g))(c:kP X.K C)(hm:Meth X.K C m f)(F:aQ X.prog X.w X.K X.mg X.base (bQ X.prog X.w) k f fd ps (dc n sem))(hr:cv k X.A)(hb:Binds X.K fd ps [])(O:eZ X E)(hl:∀ ps,sem ps≠none->ps.length=n)
  (ht:autoParam (eval (.Call (.Attribute o m apos) [] [] pos) X.env=(do
   let ov ← eval o X.env
   standAt apos.atName
   let (f,first) ← holding [ov] (getMethod ov m pl)
   callWith pos f first (backTo pos (starEach [] X.env)) (backToKw pos (keywordEach [] X.env)))) aR._auto_1) :
  PE X (.Call (.Attribute o m apos) [] [] pos) (tE E (bJ C m sem g ak)):=by
 refine(zM he c hm F hr hb .nil O ht).imp fun σ H Q q=>bZ (K:=jS Q) jS.g q λB H₀ Hs H1 env p v sr rp hp=>?_
 cases rp with
 | @obj a C' dx fl fvs ho hx =>
  obtain⟨⟨e1,hn⟩,Jt⟩:=av.cC hp
  subst e1
  have r2:aS Hs [.obj C' fl] [V.ref a]:=.cons (Rep.obj ho hx) .nil
  have Ry:sem [.obj C' fl]≠none:=λz=>by
   have Q0:av (sem [.obj C' fl]) (dO Hs H1 Q) (XW (E σ) Hs H1):=Jt
   rw[z] at Q0;exact Q0
  exact⟨a,dx,fvs,rfl,sr.gr.sub _ _ ho,hx.none hn,by rw[show ([]:List V)++[]=[] from rfl];exact r2.length▸hl _ Ry,Hs,_,sr.gr.sub,r2,Jt⟩
 | _=>exact hp.elim
end
inductive Out where
 | nx (env:af) | rt (p:PV) | bk (env:af) | ct (env:af)
def KS(D:Ends)(B H₀:Hp):Out->Prop
 | .nx env=>∀ σ Hs H,SR B H₀ Hs H σ env->D.nx σ H
 | .rt p=>∀ v Hs H,bP B H₀ Hs H->Rep Hs p v->D.rt v H
 | .bk env=>∀ σ Hs H,SR B H₀ Hs H σ env->D.bk σ H
 | .ct env=>∀ σ Hs H,SR B H₀ Hs H σ env->D.ct σ H
def tS(E:XK)(f:af->M Out):TS:=λD σ H=>∃ B H₀ Hs env,SR B H₀ Hs H σ env/\av (f env) (KS D B H₀) (XW E B H₀)
theorem PS.imp{st:Stmt}{t t':TS}(h:PS X st t)(i:∀ D σ H,t' D σ H->t D σ H):PS X st t':=λNX s σ H D I q=>h NX s σ H D I (i D σ H q)
theorem kq.imp{st:List Stmt}{t t':TS}(h:kq X st t)(i:∀ D σ H,t' D σ H->t D σ H):kq X st t':=λNX s σ H D I q=>h NX s σ H D I (i D σ H q)
def aq:af->M Out:=λenv=>M.ok (.nx env)
def BK(g:af->M Out):Out->M Out
 | .nx env=>g env
 | o=>M.ok o
noncomputable def ao(f g:af->M Out):af->M Out:=λenv=>(f env).bind (BK g)
theorem j8{E:XK}{f:af->M PV}{g:af->PV->M Out}{D:Ends}{R:VK}(h:tS E (λenv=>(f env).bind (g env)) D σ H)
  (k:∀ B H₀ Hs H1 env p v,SR B H₀ Hs H1 σ env->Rep Hs p v->av (g env p) (KS D B H₀) (XW E B H₀)->R v H1):tE (λ_=>E) f σ H R:=by
 obtain⟨B,H₀,Hs,env,sr,h⟩:=h
 refine⟨B,H₀,Hs,env,sr,(av.bind h).imp (λp hp v N2 H' g r=>?_) λe he=>he.grow sr.gr⟩
 exact k B H₀ N2 H' env p v (sr.grow g) r hp
theorem Bg{E:XK}{f:af->M Bool}{g:af->Bool->M Out}{D:Ends}{R:Bool->Hp->Prop}(h:tS E (λenv=>(f env).bind (g env)) D σ H)
  (k:∀ B H₀ Hs H1 env p,SR B H₀ Hs H1 σ env->av (g env p) (KS D B H₀) (XW E B H₀)->R p H1):tT (λ_=>E) f σ H R:=by
 obtain⟨B,H₀,Hs,env,sr,h⟩:=h
 refine⟨B,H₀,Hs,env,sr,(av.bind h).imp (λp hp N2 H' g=>?_) λe he=>he.grow sr.gr⟩
 exact k B H₀ N2 H' env p (sr.grow g) hp
theorem pJ{E:XK}{f:af->M (List PV)}{g:af->List PV->M Out}{D:Ends}{R:List V->Hp->Prop}(h:tS E (λenv=>(f env).bind (g env)) D σ H)
  (k:∀ B H₀ Hs H1 env p v,SR B H₀ Hs H1 σ env->aS Hs p v->av (g env p) (KS D B H₀) (XW E B H₀)->R v H1):tL (λ_=>E) f σ H R:=by
 obtain⟨B,H₀,Hs,env,sr,h⟩:=h
 refine⟨B,H₀,Hs,env,sr,(av.bind h).imp (λp hp v N2 H' g r=>?_) λe he=>he.grow sr.gr⟩
 exact k B H₀ N2 H' env p v (sr.grow g) r hp
theorem SR.set{B H₀ Hs H:Hp}{σ:St}{env:af}{p:PV}{v:V}{i:Nat}(r:SR B H₀ Hs H σ env)(h:Rep Hs p v):SR B H₀ Hs H (σ.set i (some v)) (env.set i (some (.sh p))) where
 gr:=r.gr
 len:=by rw[List.length_set,List.length_set];exact r.len
 sh:=λj q e=>by
  rw[List.getElem?_set] at e ⊢
  by_cases z:i=j
  ·subst z
   rw[if_pos rfl] at e ⊢
   split at e
   ·cases e
    rw[if_pos (by rw[r.len];assumption)]
    exact⟨v,rfl,h⟩
   ·cases e
  ·rw[if_neg z] at e ⊢
   exact r.sh j q e
 ow:=λj xs e=>by
  rw[List.getElem?_set] at e ⊢
  by_cases z:i=j
  ·subst z
   rw[if_pos rfl] at e
   split at e <;> cases e
  ·rw[if_neg z] at e ⊢
   exact r.ow j xs e
 sep:=λj k xs ys a n e1 e2 e3 e4=>by
  rw[List.getElem?_set] at e1 e2 e3 e4
  by_cases z:i=j
  ·subst z
   rw[if_pos rfl] at e1
   split at e1 <;> cases e1
  ·by_cases z2:i=k
   ·subst z2
    rw[if_pos rfl] at e2
    split at e2 <;> cases e2
   ·rw[if_neg z] at e1 e3
    rw[if_neg z2] at e2 e4
    exact r.sep j k xs ys a n e1 e2 e3 e4
 bd:=λj a C fs e=>by
  rw[List.getElem?_set] at e ⊢
  by_cases z:i=j
  ·subst z
   rw[if_pos rfl] at e
   split at e <;> cases e
  ·rw[if_neg z] at e ⊢
   exact r.bd j a C fs e
 one:=λj k a b C D fs gs e1 e2=>by
  rw[List.getElem?_set] at e1 e2
  by_cases z:i=j
  ·subst z
   rw[if_pos rfl] at e1
   split at e1 <;> cases e1
  ·by_cases z2:i=k
   ·subst z2
    rw[if_pos rfl] at e2
    split at e2 <;> cases e2
   ·rw[if_neg z] at e1
    rw[if_neg z2] at e2
    exact r.one j k _ _ C D fs gs e1 e2
theorem SR.own{B:Hp}{env:af}{p:Addr}(r:SR B H₀ Hs H σ env)(h:aS Hs xs vs)(n:H p=none):SR B H₀ Hs (upd H p (.lst vs)) (σ.set i (some (.ref p))) (env.set i (some (.ow xs))):=by
 have ne:∀ c u,H c=some u->c≠p:=λc u e z=>by rw[z,n] at e;cases e
 have hs:Hs p=none:=by
  cases q:Hs p with
  | none=>rfl
  | some o=>have:=r.gr.sub _ _ q;rw[n] at this;cases this
 have h0:H₀ p=none:=by
  cases q:H₀ p with
  | none=>rfl
  | some o=>have:=r.gr.al _ _ q;rw[n] at this;cases this
 refine⟨⟨r.gr.st,λc u e=>by rw[aw (ne c u (r.gr.al c u e))];exact r.gr.al c u e,λc u e=>by rw[aw (ne c u (r.gr.sub c u e))];exact r.gr.sub c u e,r.gr.nw⟩,by rw[List.length_set,List.length_set];exact r.len,λj q e=>?_,λj ys e=>?_,λj k ys zs a nj e1 e2 e3 e4=>?_,λj ba C fs e=>?_,λj k _ _ C D fs gs e1 e2=>?_⟩
 ·rw[List.getElem?_set] at e ⊢
  by_cases z:i=j
  ·subst z
   rw[if_pos rfl] at e
   split at e <;> cases e
  ·rw[if_neg z] at e ⊢
   exact r.sh j q e
 ·rw[List.getElem?_set] at e ⊢
  by_cases z:i=j
  ·subst z
   rw[if_pos rfl] at e ⊢
   split at e
   ·cases e
    rw[if_pos (by rw[r.len];assumption)]
    exact⟨p,vs,rfl,aB,hs,h0,h⟩
   ·cases e
  ·rw[if_neg z] at e ⊢
   obtain⟨a,us,h1,h2,h3,h4,h5⟩:=r.ow j ys e
   exact⟨a,us,h1,by rw[aw (ne a _ h2)];exact h2,h3,h4,h5⟩
 ·rw[List.getElem?_set] at e1 e2 e3 e4
  by_cases z:i=j
  ·subst z
   rw[if_pos rfl] at e3
   split at e3
   ·cases e3
    rw[if_neg nj] at e2 e4
    obtain⟨a',us,h1,h2,_⟩:=r.ow k zs e2
    rw[e4] at h1;cases h1
    rw[n] at h2;cases h2
   ·cases e3
  ·rw[if_neg z] at e1 e3
   by_cases z2:i=k
   ·subst z2
    rw[if_pos rfl] at e4
    split at e4
    ·cases e4
     obtain⟨a',us,h1,h2,_⟩:=r.ow j ys e1
     rw[e3] at h1;cases h1
     rw[n] at h2;cases h2
    ·cases e4
   ·rw[if_neg z2] at e2 e4
    exact r.sep j k ys zs a nj e1 e2 e3 e4
 ·rw[List.getElem?_set] at e ⊢
  by_cases z:i=j
  ·subst z
   rw[if_pos rfl] at e
   split at e <;> cases e
  ·rw[if_neg z] at e ⊢
   obtain⟨dx,us,h1,h2,h3,h4,h5⟩:=r.bd j ba C fs e
   exact⟨dx,us,h1,by rw[aw (ne ba _ h2)];exact h2,h3,h4,h5⟩
 ·rw[List.getElem?_set] at e1 e2
  by_cases z:i=j
  ·subst z
   rw[if_pos rfl] at e1
   split at e1 <;> cases e1
  ·by_cases z2:i=k
   ·subst z2
    rw[if_pos rfl] at e2
    split at e2 <;> cases e2
   ·rw[if_neg z] at e1
    rw[if_neg z2] at e2
    exact r.one j k _ _ C D fs gs e1 e2
def uA(i:Nat)(env:af):af:=match env[i]? with
 | some (some (.ow xs))=>env.set i (some (.sh (.lst xs)))
 | _=>env
theorem SR.qK{B:Hp}{env:af}(i:Nat)(r:SR B H₀ Hs H σ env):∃ N2,SR B H₀ N2 H σ (uA i env)/\bB Hs N2:=by
 unfold uA
 split
 ·rename_i xs e
  obtain⟨a,vs,h1,h2,h3,h4,h5⟩:=r.ow i xs e
  have ne:∀ c u,Hs c=some u->c≠a:=λc u q z=>by rw[z,h3] at q;cases q
  have Ol:bB Hs (upd Hs a (.lst vs)):=λc u q=>by rw[aw (ne c u q)];exact q
  refine⟨upd Hs a (.lst vs),⟨⟨λc u q=>Ol c u (r.gr.st c u q),r.gr.al,λc u q=>?_,λc u q1 q2=>?_⟩,by rw[List.length_set];exact r.len,λj q ej=>?_,λj ys ej=>?_,λj k ys zs b nj e1 e2 e3 e4=>?_,λj ba C fs ej=>?_,λj k _ _ C D fs gs e1 e2=>?_⟩,Ol⟩
  ·by_cases z:c=a
   ·subst z;rw[aB] at q;cases q;exact h2
   ·rw[aw z] at q;exact r.gr.sub c u q
  ·have z:c≠a:=λz=>by rw[z,h4] at q2;cases q2
   rw[aw z];exact r.gr.nw c u q1 q2
  ·rw[List.getElem?_set] at ej
   by_cases z:i=j
   ·subst z
    rw[if_pos rfl] at ej
    split at ej
    ·cases ej
     exact⟨.ref a,h1,.lst aB (h5.mono Ol)⟩
    ·cases ej
   ·rw[if_neg z] at ej
    obtain⟨v,q1,q2⟩:=r.sh j q ej
    exact⟨v,q1,q2.mono Ol⟩
  ·rw[List.getElem?_set] at ej
   by_cases z:i=j
   ·subst z
    rw[if_pos rfl] at ej
    split at ej <;> cases ej
   ·rw[if_neg z] at ej
    obtain⟨b,us,q1,q2,q3,q4,q5⟩:=r.ow j ys ej
    have nb:b≠a:=λw=>by subst w;exact r.sep i j xs ys b z e ej h1 q1
    exact⟨b,us,q1,q2,by rw[aw nb];exact q3,q4,q5.mono Ol⟩
  ·rw[List.getElem?_set] at e1 e2
   by_cases z:i=j
   ·subst z
    rw[if_pos rfl] at e1
    split at e1 <;> cases e1
   ·by_cases z2:i=k
    ·subst z2
     rw[if_pos rfl] at e2
     split at e2 <;> cases e2
    ·rw[if_neg z] at e1
     rw[if_neg z2] at e2
     exact r.sep j k ys zs b nj e1 e2 e3 e4
  ·rw[List.getElem?_set] at ej
   by_cases z:i=j
   ·subst z
    rw[if_pos rfl] at ej
    split at ej <;> cases ej
   ·rw[if_neg z] at ej
    obtain⟨dx,us,q1,q2,q3,q4,q5⟩:=r.bd j ba C fs ej
    have nb:ba≠a:=λw=>by subst w;rw[h2] at q2;cases q2
    exact⟨dx,us,q1,q2,by rw[aw nb];exact q3,q4,q5.mono Ol⟩
  ·rw[List.getElem?_set] at e1 e2
   by_cases z:i=j
   ·subst z
    rw[if_pos rfl] at e1
    split at e1 <;> cases e1
   ·by_cases z2:i=k
    ·subst z2
     rw[if_pos rfl] at e2
     split at e2 <;> cases e2
    ·rw[if_neg z] at e1
     rw[if_neg z2] at e2
     exact r.one j k _ _ C D fs gs e1 e2
 ·exact⟨Hs,r,λ_ _ q=>q⟩
def sT(is:List Nat)(f:af->M Out):af->M Out:=λenv=>f (is.foldl (λe i=>uA i e) env)
theorem SR.lE{B H₀ H:Hp}{σ:St}:∀ {is:List Nat} {Hs:Hp} {env:af},SR B H₀ Hs H σ env->∃ N2,SR B H₀ N2 H σ (is.foldl (λe i=>uA i e) env)/\bB Hs N2
 | [],Hs,_,r=>⟨Hs,r,λ_ _ q=>q⟩
 | i::is,_,_,r=>by
  obtain⟨N7,r1,s1⟩:=r.qK i
  obtain⟨N8,r2,s2⟩:=SR.lE (is:=is) r1
  exact⟨N8,r2,λc u q=>s2 c u (s1 c u q)⟩
section
variable{E:XK}{pos:Pos}{f:af->M PV}{st:Stmt}{sts rest:List Stmt}{u:af->M Bool}{g h:af->M Out}
theorem G3(is:List Nat)(hs:PS X st (tS E g)):PS X st (tS E (sT is g)):=hs.imp λD σ H q=>by
 obtain⟨B,H₀,Hs,env,sr,q⟩:=q
 obtain⟨N2,r,_⟩:=sr.lE (is:=is)
 exact⟨B,H₀,N2,_,r,q⟩
theorem DM:kq X [] (tS E aq):=sR.imp λD σ H q=>by
 obtain⟨B,H₀,Hs,env,sr,q⟩:=q
 exact q σ Hs H sr
theorem Dk(h1:PS X st (tS E g))(h2:kq X rest (tS E h)):kq X (st::rest) (tS E (ao g h)):=by
 refine(oW h1 h2).imp λD σ H q=>?_
 obtain⟨B,H₀,Hs,env,sr,q⟩:=q
 refine⟨B,H₀,Hs,env,sr,(av.bind q).imp (λo ho=>?_) λe he=>he⟩
 cases o with
 | nx N1=>exact fun σ' N2 H' PH=>⟨B,H₀,N2,N1,PH,ho⟩
 | rt p=>exact ho
 | bk N1=>exact ho
 | ct N1=>exact ho
def bf(i:Nat)(f:af->M PV):af->M Out:=λenv=>(f env).bind λp=>M.ok (.nx (env.set i (some (.sh p))))
theorem Ha(hN:X.N.Nodup)(hi:X.N[i]?=some x)(hx:Loc X.env.scope x)(he:PE X e (tE (λ_=>E) f))(hs:autoParam (swapsWith e (some (.Name x pos')) pos.line X.env=pure false) aR._auto_1)(hf:autoParam (X.fn x=true\/X.env.scope.names.lookup x=some .local) aF._auto_1) :
  PS X (.Assign [.Name x pos'] e pos) (tS E (bf i f)) :=
 (Bc hN hi hx he hs hf).imp λD σ H q=>j8 q λB H₀ Hs H1 env p v sr rp hp=>hp _ Hs H1 (sr.set rp)
def retS(f:af->M PV):af->M Out:=λenv=>(f env).bind λp=>M.ok (.rt p)
theorem GQ(he:PE X e (tE (λ_=>E) f)):PS X (.Return (some e) pos) (tS E (retS f)) :=
 (IS he).imp λD σ H q=>j8 q λB H₀ Hs H1 env p v sr rp hp=>hp v Hs H1 sr.gr rp
def i0(f:af->M PV):af->M Out:=λenv=>(f env).bind λ_=>M.ok (.nx env)
theorem E4(he:PE X e (tE (λ_=>E) f))(hs:autoParam (swapsWith e none pos.line X.env=pure false) aR._auto_1):PS X (.Expr e pos) (tS E (i0 f)) :=
 (uk he hs).imp λD σ H q=>j8 q λB H₀ Hs H1 env p v sr rp hp=>hp σ Hs H1 sr
def jQ(u:af->M Bool)(g h:af->M Out):af->M Out:=λenv=>(u env).bind λb=>if b=true then g env else h env
theorem KH{a b:List Stmt}(hc:PT X c (tT (λ_=>E) u))(ha:kq X a (tS E g))(hb:kq X b (tS E h)):PS X (.If c a b pos) (tS E (jQ u g h)):=by
 refine(F7 hc ha hb).imp λD σ H q=>Bg q λB H₀ Hs H1 env p sr hp=>?_
 cases p with
 | true=>exact⟨B,H₀,Hs,env,sr,hp⟩
 | false=>exact⟨B,H₀,Hs,env,sr,hp⟩
end
def ov(Hs H₀:Hp):Hp:=λa=>match Hs a with
 | some o=>some o
 | none=>H₀ a
theorem oI{o:HO}(h:Hs a=some o):ov Hs H₀ a=some o:=by unfold ov;rw[h]
theorem jF(h:Hs a=none):ov Hs H₀ a=H₀ a:=by unfold ov;rw[h]
theorem DT(s:bB Hs H)(t:bB H₀ H):bB (ov Hs H₀) H:=λa o e=>by
 cases q:Hs a with
 | some o'=>rw[oI q] at e;cases e;exact s _ _ q
 | none=>rw[jF q] at e;exact t _ _ e
theorem SR.rebase{B:Hp}{env:af}(r:SR B H₀ Hs H σ env):SR Hs (ov Hs H₀) Hs H σ env where
 gr:=⟨λ_ _ e=>e,DT r.gr.sub r.gr.al,r.gr.sub,λ_ _ e _=>e⟩
 len:=r.len
 sh:=r.sh
 ow:=λi xs e=>let ⟨a,vs,h1,h2,h3,h4,h5⟩:=r.ow i xs e;⟨a,vs,h1,h2,h3,by rw[jF h3];exact h4,h5⟩
 sep:=r.sep
 bd:=λi a C fs e=>let ⟨dx,vs,h1,h2,h3,h4,h5⟩:=r.bd i a C fs e;⟨dx,vs,h1,h2,h3,by rw[jF h3];exact h4,h5⟩
 one:=r.one
theorem bP.lD{B N8 H2:Hp}(g:bP B H₀ Hs H)(g2:bP Hs (ov Hs H₀) N8 H2):bP B H₀ N8 H2 where
 st:=λa o e=>g2.st a o (g.st a o e)
 al:=λa o e=>by
  cases q:Hs a with
  | some o' =>
   have h1:=g.sub a o' q
   have h2:=g.al a o e
   rw[h1] at h2;cases h2
   exact g2.al a _ (oI q)
  | none=>exact g2.al a o (by rw[jF q];exact e)
 sub:=g2.sub
 nw:=λa o e q=>by
  have h1:=g.nw a o e q
  exact g2.nw a o h1 (by rw[jF h1];exact q)
theorem SR.lD{B H₀ Hs H N8 H2:Hp}{σ:St}{env:af}(g:bP B H₀ Hs H)(r:SR Hs (ov Hs H₀) N8 H2 σ env):SR B H₀ N8 H2 σ env where
 gr:=g.lD r.gr
 len:=r.len
 sh:=r.sh
 ow:=λi xs e=>by
  obtain⟨a,vs,h1,h2,h3,h4,h5⟩:=r.ow i xs e
  refine⟨a,vs,h1,h2,h3,?_,h5⟩
  cases q:Hs a with
  | some o=>rw[oI q] at h4;cases h4
  | none=>rw[jF q] at h4;exact h4
 sep:=r.sep
 bd:=λi a C fs e=>by
  obtain⟨dx,vs,h1,h2,h3,h4,h5⟩:=r.bd i a C fs e
  refine⟨dx,vs,h1,h2,h3,?_,h5⟩
  cases q:Hs a with
  | some o=>rw[oI q] at h4;cases h4
  | none=>rw[jF q] at h4;exact h4
 one:=r.one
theorem XW.rebase{E:XK}{B:Hp}(g:bP B H₀ Hs H){x:EX}(h:XW E B H₀ x):XW E Hs (ov Hs H₀) x:=λea N8 H2 r q=>h ea N8 H2 (g.lD r) q
def FI(k:af->M Out):Out->M Out
 | .nx env=>k env
 | .ct env=>k env
 | .bk env=>M.ok (.nx env)
 | .rt p=>M.ok (.rt p)
def j_(set:PV->af->M af)(body:af->M Out):List PV->af->M Out
 | [],env=>M.ok (.nx env)
 | x::xs,env=>(set x env).bind λN1=>(body N1).bind (FI (j_ set body xs))
def C2(E:XK)(g:TG)(set:PV->af->M af):Prop:=∀ (B H₀ Hs H:Hp) (σ:St) (env:af) (p:PV) (v:V) (Q:St->Hp->Prop) (Z:EX->Prop),SR B H₀ Hs H σ env->Rep Hs p v->av (set p env) (λN1=>∀ σ',SR B H₀ Hs H σ' N1->Q σ' H) Z->g v σ H Q
def bw(i:Nat)(p:PV)(env:af):M af:=M.ok (env.set i (some (.sh p)))
theorem aW{E:XK}:C2 E (aC i) (bw i):=λB H₀ Hs H σ env p v Q Z sr r h=>h _ (sr.set r)
def bR(i j:Nat):PV->af->M af
 | .tup [p,q],env=>M.ok ((env.set i (some (.sh p))).set j (some (.sh q)))
 | _,_=>none
theorem cH{E:XK}{K:PySem.W.Frag}:C2 E (iJ K 2 (bA (aC i) (bA (aC j) iQ))) (bR i j):=by
 intro B H₀ Hs H σ env p v Q Z sr r h
 cases r with
 | @tup a xs vs ha hx =>
  match xs,hx with
  | [p,q],hx =>
   obtain⟨v,u,rfl,rp,rq⟩:=hx.two
   exact⟨a,[v,u],rfl,hX.of (sr.gr.sub _ _ ha),rfl,v,[u],rfl,u,[],rfl,rfl,h _ ((sr.set rp).set rq)⟩
  | [],_=>exact h.elim
  | [_],_=>exact h.elim
  | _::_::_::_,_=>exact h.elim
 | _=>exact h.elim
section
variable{E:XK}{g:TG}{set:PV->af->M af}{body:af->M Out}{D:Ends}{B:Hp}
def Jv(E:XK)(set:PV->af->M af)(body:af->M Out)(D:Ends)(B H₀ N7:Hp)(xs:List PV)(i:Nat)(σ:St)(H:Hp):Prop:=∃ Hs env,SR B H₀ Hs H σ env/\bB N7 Hs/\av (j_ set body (xs.drop i) env) (KS D B H₀) (XW E B H₀)
theorem Jv.done(j:Jv E set body D B H₀ N7 xs n σ H)(hn:xs.length<=n):D.nx σ H:=by
 obtain⟨Hs,env,sr,_,h⟩:=j
 rw[List.drop_eq_nil_of_le hn] at h
 exact h σ Hs H sr
theorem Jv.turn{H1 Hx:Hp}{x:PV}(tg:C2 E g set)(hx:xs[i]?=some x){env:af}(sr:SR B H₀ Hs H σ env)(s1:bB N7 Hs)(h:av (j_ set body (xs.drop i) env) (KS D B H₀) (XW E B H₀)){N8 H2:Hp}(gr:bP Hs H N8 H2)(rv:Rep N8 x v) :
  g v σ H2 fun σ2 H3=>tS E body { D with nx:=Jv E set body D B H₀ N7 xs (i+1),ct:=Jv E set body D B H₀ N7 xs (i+1),bk:=D.nx } σ2 H3:=by
 have Oy:i<xs.length:=(List.getElem?_eq_some_iff.mp hx).1
 have hd:xs.drop i=x::xs.drop (i+1):=by
  rw[List.drop_eq_getElem_cons Oy]
  rw[List.getElem?_eq_getElem Oy] at hx
  rw[Option.some.inj hx]
 rw[hd] at h
 have Oi:=sr.grow gr
 refine tg B H₀ N8 H2 σ env x v _ _ Oi rv ((av.bind h).imp (λN1 h' σ' PH=>?_) λ_ z=>z)
 refine⟨N8,ov N8 H₀,N8,N1,PH.rebase,(av.bind h').imp (λo ho=>?_) λe he=>he.rebase PH.gr⟩
 cases o with
 | nx e2=>exact fun σ3 Pe H3 r=>⟨Pe,e2,r.lD PH.gr,λa o z=>r.gr.st a o (gr.st a o (s1 a o z)),ho⟩
 | ct e2=>exact fun σ3 Pe H3 r=>⟨Pe,e2,r.lD PH.gr,λa o z=>r.gr.st a o (gr.st a o (s1 a o z)),ho⟩
 | bk e2=>exact fun σ3 Pe H3 r=>ho σ3 Pe H3 (r.lD PH.gr)
 | rt p=>exact λv3 Pe H3 r q=>ho v3 Pe H3 (PH.gr.lD r) q
end
def iS(it:af->M (List PV))(set:PV->af->M af)(body:af->M Out):af->M Out:=λenv=>(it env).bind λxs=>j_ set body xs env
def itemsOf(f:af->M PV):af->M (List PV):=λenv=>(f env).bind λp=>match bX p with | some xs=>M.ok xs | none=>none
theorem ky{K:PySem.W.Frag}(s:bB Hs H)(r:Rep Hs p v)(e:bX p=some xs):∃ b a vs,v=.ref a/\(∀ N2 H',bB Hs N2->bB N2 H'->k4 K H' b a vs)/\aS Hs xs vs:=by
 cases r with
 | tup h r=>cases e;exact⟨false,_,_,rfl,λN2 H' s1 s2=>hX.of (s2 _ _ (s1 _ _ h)),r⟩
 | lst h r=>cases e;exact⟨true,_,_,rfl,λN2 H' s1 s2=>gS.of (s2 _ _ (s1 _ _ h)),r⟩
 | jN h r=>cases e;exact⟨true,_,_,rfl,λN2 H' s1 s2=>.inl (.inr ⟨_,s2 _ _ (s1 _ _ h)⟩),r⟩
 | _=>cases e
section
variable{E:XK}{pos p:Pos}{f f2:af->M PV}{g:TG}{set:PV->af->M af}{body:af->M Out}{bd:List Stmt}
end
def My:PV->M (List PV)
 | .int n=>cC (-(2^62)<=n/\n<2^62) (M.ok ((List.range n.toNat).map λ(i:Nat)=>.int (0+(i:Int))))
 | _=>none
def MA:PV->PV->M (List PV)
 | .int a,.int b=>cC (-(2^62)<=a/\a<2^62/\-(2^62)<=b/\b<2^62) (M.ok ((List.range (b-a).toNat).map λ(i:Nat)=>.int (a+(i:Int))))
 | _,_=>none
def kd:List PV->M (List PV)
 | [p]=>My p
 | _=>none
def zd:List PV->M (List PV)
 | [p,q]=>MA p q
 | _=>none
variable{Z:EX->Prop}
theorem yQ{ps:List PV}{k:List PV->M α}{Q:α->Prop}(h:av ((kd ps).bind k) Q Z):∃ n:Int,ps=[.int n]/\-(2^62)<=n/\n<2^62/\av (k ((List.range n.toNat).map λ(i:Nat)=>.int (0+(i:Int)))) Q Z:=by
 match ps with
 | []=>exact h.elim
 | _::_::_=>exact h.elim
 | [p] =>
  cases p with
  | int n =>
   obtain⟨hc,h⟩:=av.cC (av.bind h)
   exact⟨n,rfl,hc.1,hc.2,h⟩
  | _=>exact h.elim
theorem z6{ps:List PV}{k:List PV->M α}{Q:α->Prop}(h:av ((zd ps).bind k) Q Z):∃ a b:Int,ps=[.int a,.int b]/\(-(2^62)<=a/\a<2^62/\-(2^62)<=b/\b<2^62)/\av (k ((List.range (b-a).toNat).map λ(i:Nat)=>.int (a+(i:Int)))) Q Z:=by
 match ps with
 | []=>exact h.elim
 | [_]=>exact h.elim
 | _::_::_::_=>exact h.elim
 | [p,q] =>
  cases p with
  | int a=>cases q with
   | int b =>
    obtain⟨hc,h⟩:=av.cC (av.bind h)
    exact⟨a,b,rfl,hc,h⟩
   | _=>exact h.elim
  | _=>exact h.elim
def zip2:List PV->M (List PV)
 | [p,q]=>match bX p,bX q with
  | some xs,some ys=>M.ok (List.zipWith (λa b=>.tup [a,b]) xs ys)
  | _,_=>none
 | _=>none
theorem y_{ps:List PV}{k:List PV->M α}{Q:α->Prop}(h:av ((zip2 ps).bind k) Q Z):∃ p q xs ys,ps=[p,q]/\bX p=some xs/\bX q=some ys/\av (k (List.zipWith (λa b=>.tup [a,b]) xs ys)) Q Z:=by
 match ps with
 | []=>exact h.elim
 | [_]=>exact h.elim
 | _::_::_::_=>exact h.elim
 | [p,q] =>
  unfold zip2 at h
  dsimp only at h
  cases e1:bX p with
  | none=>rw[e1] at h;exact h.elim
  | some xs =>
   cases e2:bX q with
   | none=>rw[e1,e2] at h;exact h.elim
   | some ys=>rw[e1,e2] at h;exact⟨p,q,xs,ys,rfl,e1,e2,h⟩
theorem z9{f:Nat->PV}(h:i<n):((List.range n).map f)[i]?=some (f i):=by
 rw[List.getElem?_map,List.getElem?_range h];rfl
section
variable{E:XK}{a b l l1 l2:Expr}{pos p tp:Pos}{fs:af->M (List PV)}{g:TG}{set:PV->af->M af}{body:af->M Out}{bd:List Stmt}
end
def KO(Q:VK):Hp->Hp->List PV->Prop:=λHs H ps=>∀ vs p N2 H',bP Hs H N2 H'->aS N2 ps vs->H' p=none->Q (.ref p) (upd H' p (.lst vs))
def tO(E:St->XK)(f:af->M (List PV)):TE:=fun σ H Q=>tG E f (KO Q) σ H
variable{px:Pos}
section
variable{E:XK}{pos:Pos}{fs:af->M (List PV)}{f:af->M PV}
def ue(i:Nat)(f:af->M (List PV)):af->M Out:=λenv=>(f env).bind λps=>M.ok (.nx (env.set i (some (.ow ps))))
theorem Eb(hN:X.N.Nodup)(hi:X.N[i]?=some x)(hx:Loc X.env.scope x)(he:PE X e (tO (λ_=>E) fs))(hs:autoParam (swapsWith e (some (.Name x pos')) pos.line X.env=pure false) aR._auto_1)(hf:autoParam (X.fn x=true\/X.env.scope.names.lookup x=some .local) aF._auto_1) :
  PS X (.Assign [.Name x pos'] e pos) (tS E (ue i fs)):=by
 refine(Bc hN hi hx he hs hf).imp λD σ H q=>?_
 obtain⟨B,H₀,Hs,env,sr,q⟩:=q
 refine⟨B,H₀,Hs,env,sr,(av.bind q).imp (λps hp vs p N2 H' g r n=>?_) λe he=>he.grow sr.gr⟩
 exact hp _ N2 _ ((sr.grow g).own r n)
def l7(fs:af->M (List PV)):af->M (List PV):=λenv=>(fs env).bind λps=>if ps.length<=sizeLine then M.ok ps else none
theorem Jl{E:St->XK}(hr:PA X es (tL E fs)):PE X (.List es pos) (tO E (l7 fs)):=by
 refine(AI hr).imp fun σ H Q q=>?_
 obtain⟨B,H₀,Hs,env,sr,q⟩:=q
 refine⟨B,H₀,Hs,env,sr,(av.bind q).imp (λps hp vs N2 H' g r=>?_) λe he=>he⟩
 by_cases hz:ps.length<=sizeLine
 ·rw[if_pos hz] at hp
  exact⟨by rw[← r.length];exact hz,λp n=>hp vs p N2 H' g r n⟩
 ·rw[if_neg hz] at hp;exact hp.elim
def nP(i:Nat)(f:af->M PV):af->M Out:=λenv=>match env[i]? with
 | some (some (.ow xs))=>(f env).bind λp=>if xs.length<sizeLine then M.ok (.nx (env.set i (some (.ow (xs++[p]))))) else none
 | _=>none
theorem SR.put{B:Hp}{env:af}{ys:List PV}{us:List V}(r:SR B H₀ Hs H σ env)(e:env[i]?=some (some (.ow xs)))(hi:σ[i]?=some (some (.ref a)))(h:aS Hs ys us):SR B H₀ Hs (upd H a (.lst us)) σ (env.set i (some (.ow ys))):=by
 obtain⟨a',vs,h1,h2,h3,h4,h5⟩:=r.ow i xs e
 rw[hi] at h1;cases h1
 have nS:∀ c u,Hs c=some u->c≠a:=λc u q z=>by rw[z,h3] at q;cases q
 have n0:∀ c u,H₀ c=some u->c≠a:=λc u q z=>by rw[z,h4] at q;cases q
 refine⟨⟨r.gr.st,λc u q=>by rw[aw (n0 c u q)];exact r.gr.al c u q,λc u q=>by rw[aw (nS c u q)];exact r.gr.sub c u q,r.gr.nw⟩,by rw[List.length_set];exact r.len,λj q ej=>?_,λj zs ej=>?_,λj k y1 y2 b nj e1 e2 e3 e4=>?_,λj ba C fs ej=>?_,λj k _ _ C D fs gs e1 e2=>?_⟩
 ·rw[List.getElem?_set] at ej
  by_cases z:i=j
  ·subst z
   rw[if_pos rfl] at ej
   split at ej <;> cases ej
  ·rw[if_neg z] at ej;exact r.sh j q ej
 ·rw[List.getElem?_set] at ej
  by_cases z:i=j
  ·subst z
   rw[if_pos rfl] at ej
   split at ej
   ·cases ej;exact⟨a,us,hi,aB,h3,h4,h⟩
   ·cases ej
  ·rw[if_neg z] at ej
   obtain⟨b,ws,q1,q2,q3,q4,q5⟩:=r.ow j zs ej
   have nb:b≠a:=λw=>by subst w;exact r.sep i j xs zs b z e ej hi q1
   exact⟨b,ws,q1,by rw[aw nb];exact q2,q3,q4,q5⟩
 ·have o1:∃ w,env[j]?=some (some (.ow w)):=by
   rw[List.getElem?_set] at e1
   by_cases z:i=j
   ·subst z;exact⟨xs,e⟩
   ·rw[if_neg z] at e1;exact⟨_,e1⟩
  have o2:∃ w,env[k]?=some (some (.ow w)):=by
   rw[List.getElem?_set] at e2
   by_cases z:i=k
   ·subst z;exact⟨xs,e⟩
   ·rw[if_neg z] at e2;exact⟨_,e2⟩
  obtain⟨w1,o1⟩:=o1
  obtain⟨w2,o2⟩:=o2
  exact r.sep j k w1 w2 b nj o1 o2 e3 e4
 ·rw[List.getElem?_set] at ej
  by_cases z:i=j
  ·subst z
   rw[if_pos rfl] at ej
   split at ej <;> cases ej
  ·rw[if_neg z] at ej
   obtain⟨dx,ws,q1,q2,q3,q4,q5⟩:=r.bd j ba C fs ej
   have nb:ba≠a:=λw=>by subst w;rw[h2] at q2;cases q2
   exact⟨dx,ws,q1,by rw[aw nb];exact q2,q3,q4,q5⟩
 ·rw[List.getElem?_set] at e1 e2
  by_cases z:i=j
  ·subst z
   rw[if_pos rfl] at e1
   split at e1 <;> cases e1
  ·by_cases z2:i=k
   ·subst z2
    rw[if_pos rfl] at e2
    split at e2 <;> cases e2
   ·rw[if_neg z] at e1
    rw[if_neg z2] at e2
    exact r.one j k _ _ C D fs gs e1 e2
theorem zQ(hi:X.N[i]?=some x)(hv:A0 X.env.scope x)(he:PE X e (tE (λ_=>E) f))(hd:autoParam ((x==("__debug__" : Str))=false) aD._auto_1)(OX:autoParam ((x==("__classdict__" : Str))=false) aD._auto_1)
  (OW:autoParam (attributeBase (.Name x px) "append" X.env (eval (.Name x px) X.env)=eval (.Name x px) X.env) aR._auto_1)
  (Qs:autoParam (((backTo Oa (starEach [e] X.env)).all (λx=>!x.1)&&(backToKw Oa (keywordEach [] X.env)).all (λx=>x.1.isSome)
   && decide (([e]:List Expr).length+([]:List Keyword).length+(if ([]:List Keyword).isEmpty then 0 else 1)<30))=true) aR._auto_1)
  (OY:autoParam ((apos.endLine==Oa.line)=true) aR._auto_1) (Ol:autoParam (starEach [e] X.env=(false,eval e X.env)::starEach [] X.env) aR._auto_1) (Pr:autoParam ((backTo Oa (starEach [] X.env)).any (·.1)=false) aR._auto_1)
  (hs:autoParam (swapsWith (.Call (.Attribute (.Name x px) "append" apos) [e] [] Oa) none pos.line X.env=pure false) aR._auto_1) :
  PS X (.Expr (.Call (.Attribute (.Name x px) "append" apos) [e] [] Oa) pos) (tS E (nP i f)):=by
 refine(uk (FZ PySem.F.plainAttrs_list PySem.F.slot_list_append PySem.F.type_list_append rK (lq hi hv hd OX) (dM he ko Ol) OW Qs OY Ol Pr) hs).imp λD σ H q=>?_
 obtain⟨B,H₀,Hs,env,sr,q⟩:=q
 unfold nP at q
 split at q
 ·rename_i xs ex
  obtain⟨a,vs,h1,h2,h3,h4,h5⟩:=sr.ow i xs ex
  refine⟨.ref a,h1,.inl ⟨rfl,vs,gS.of h2⟩,B,H₀,Hs,env,sr,(av.bind q).imp (λp hp v N2 H' g r=>?_) λe he=>he.grow sr.gr⟩
  by_cases hz:xs.length<sizeLine
  ·rw[if_pos hz] at hp
   have PH:=sr.grow g
   have r5:aS N2 (xs++[p]) (vs++[v]):=(h5.mono g.st).snoc r
   exact⟨a,vs,v,rfl,rfl,g.al _ _ h2,by rw[← h5.length];exact hz,hp σ N2 _ (PH.put ex h1 r5)⟩
  ·rw[if_neg hz] at hp;exact hp.elim
 ·exact q.elim
end
def Gy:Out->M PV
 | .rt p=>M.ok p
 | .nx _=>M.ok .da
 | _=>none
def lA(m:Nat)(ps:List PV):af:=ps.map (λp=>some (.sh p))++List.replicate (m-ps.length) none
def ay(m:Nat)(g:af->M Out)(ps:List PV):M PV:=(g (lA m ps)).bind Gy
theorem SR.start{Hs H:Hp}{N:List Str}{ps:List PV}{vs:List V}(s:bB Hs H)(r:aS Hs ps vs):SR Hs H Hs H (start N vs) (lA N.length ps) where
 gr:=.refl s
 len:=by unfold L2.start lA;simp[r.length]
 sh:=λi p e=>by
  unfold lA at e
  unfold L2.start
  by_cases hi:i<ps.length
  ·rw[List.getElem?_append_left (by simpa using hi),List.getElem?_map,List.getElem?_eq_getElem hi] at e
   cases e
   obtain⟨v,h1,h2⟩:=r.get (List.getElem?_eq_getElem hi)
   exact⟨v,by rw[List.getElem?_append_left (by simpa using (r.length▸hi)),List.getElem?_map,h1];rfl,h2⟩
  ·rw[List.getElem?_append_right (by simpa using hi),List.getElem?_replicate] at e
   split at e <;> cases e
 ow:=λi xs e=>by
  unfold lA at e
  by_cases hi:i<ps.length
  ·rw[List.getElem?_append_left (by simpa using hi),List.getElem?_map,List.getElem?_eq_getElem hi] at e
   cases e
  ·rw[List.getElem?_append_right (by simpa using hi),List.getElem?_replicate] at e
   split at e <;> cases e
 sep:=λi j xs ys a _ e=>by
  unfold lA at e
  by_cases hi:i<ps.length
  ·rw[List.getElem?_append_left (by simpa using hi),List.getElem?_map,List.getElem?_eq_getElem hi] at e
   cases e
  ·rw[List.getElem?_append_right (by simpa using hi),List.getElem?_replicate] at e
   split at e <;> cases e
 bd:=λi a C fs e=>by
  unfold lA at e
  by_cases hi:i<ps.length
  ·rw[List.getElem?_append_left (by simpa using hi),List.getElem?_map,List.getElem?_eq_getElem hi] at e
   cases e
  ·rw[List.getElem?_append_right (by simpa using hi),List.getElem?_replicate] at e
   split at e <;> cases e
 one:=λi j a b C D fs gs e=>by
  unfold lA at e
  by_cases hi:i<ps.length
  ·rw[List.getElem?_append_left (by simpa using hi),List.getElem?_map,List.getElem?_eq_getElem hi] at e
   cases e
  ·rw[List.getElem?_append_right (by simpa using hi),List.getElem?_replicate] at e
   split at e <;> cases e
theorem GY{K:PySem.W.Frag}{dV kV doc pm Oh ct oc:Value}{g:af->M Out}(lk:K.lookup f=some ⟨oc,od,.func (PySem.W.fnOf name qual params body scope dV kV doc pm an Oh ct),QG⟩)(OX:PySem.W.codeIn K Oh qual=true)(S:cx N ps scope)
  (hb:∀ (A:Around) (outer:List Env) (s:Shared) (H:Hp) (E:XK),cv k (A.deeper (envOfC qual scope s.heap.objs.size f Oh))->kq ((lO (bQ P w) P w K mg base N qual scope f Oh A outer s H E).out λ_=>E) body (tS E g)) :
  aQ P w K mg base (bQ P w) (k+1) f (PySem.W.fnOf name qual params body scope dV kV doc pm an Oh ct) ps (dc ps.length (ay N.length g)):=by
 refine xx lk OX S (λvs H Q E h=>h.1) λA outer s H vs Q E hr hs=>⟨_,hb A outer s H E hr,?_⟩
 obtain⟨_,Hs,PL,sm,r,h⟩:=hs
 refine⟨Hs,H,Hs,_,SR.start sm r,(av.bind h).imp (λo ho=>?_) λe he=>he⟩
 cases o with
 | rt p=>exact λv N2 H' gr rv=>ho v N2 H' gr rv
 | nx env=>exact fun σ N2 H' sr=>ho .da N2 H' sr.gr .da
 | bk env=>exact ho.elim
 | ct env=>exact ho.elim
section
variable{E:XK}{pos p:Pos}{fs:af->M (List PV)}
def kn(C:Addr)(fs:af->M (List PV)):af->M Out:=λenv=>(fs env).bind λps=>cC (ps.length<=sizeLine) (some (.error (C,none)))
theorem zy(O:eZ X λ_=>E)(N4:X.calm=true)(hc:PySem.W.excIn X.K C fe "ValueError.__new__" = true)(c:f9 X.K C)(ht:PySem.W.typeIn X.K (.ref C)=some (.type "type"))(kp:PySem.W.keepIn X.K (.ref C)=true)(hg:Gl X x)(hm:X.mg x=some (.ref C))(ha:PA X (e::es) (tL (λ_=>E) fs))
  (OU:autoParam ((x==("__debug__" : Str))=false) aD._auto_1) (he:autoParam (starEach (e::es) X.env=(false,eval e X.env)::starEach es X.env) aR._auto_1) (Og:autoParam ((backTo Oa (starEach es X.env)).any (·.1)=false) aR._auto_1) :
  PS X (.Raise (some (.Call (.Name x p) (e::es) [] Oa)) none pos) (tS E (kn C fs)):=by
 refine(vx O N4 (Fm hc kp hg hm ha OU he Og)).imp λD σ H q=>pJ q λB H₀ Hs H1 env PL v sr rp hp=>?_
 obtain⟨hz,hp⟩:=av.cC hp
 refine⟨by rw[← rp.length];exact hz,λa n=>⟨a,C,none,rfl,aB,c,ht,?_⟩⟩
 rw[x9]
 exact hp a (upd Hs a (h_ C none a)) _ (sr.gr.trans (bP.new sr.gr.sub n)) (.xa aB)
def Aa(K:PySem.W.Frag)(C:Addr)(fl:Str):Sp:=λvs H Q _=>∃ a y,vs=[.ref a,y]/\H a=some (k6 C none a)/\∀ d,H d=none->d≠a->Q .da (upd (upd H d (.xd [(fl,y)])) a (k6 C (some d) a))
def jo(C:Addr)(fl:Str)(fs:af->M (List PV)):af->M Out:=λenv=>(fs env).bind λps=>match ps with
 | [p]=>some (.error (C,some [(fl,p)]))
 | _=>none
theorem zw{fl:Str}(O:eZ X λ_=>E)(N4:X.calm=true)(hc:qf X.K C "ValueError.__new__" f=true)(hf:PySem.W.isFn X.K (.ref f)=true)(c:f9 X.K C)(ht:PySem.W.typeIn X.K (.ref C)=some (.type "type"))(kp:PySem.W.keepIn X.K (.ref C)=true)(F:aQ X.prog X.w X.K X.mg X.base (bQ X.prog X.w) k f fd ps (Aa X.K C fl))(hr:cv (k+1) X.A)(hb:Binds X.K fd ps [])
  (hg:Gl X x) (hm:X.mg x=some (.ref C)) (ha:PA X [e] (tL (λ_=>E) fs))
  (OU:autoParam ((x==("__debug__" : Str))=false) aD._auto_1) (he:autoParam (starEach [e] X.env=(false,eval e X.env)::starEach [] X.env) aR._auto_1) (Og:autoParam ((backTo Oa (starEach [] X.env)).any (·.1)=false) aR._auto_1) :
  PS X (.Raise (some (.Call (.Name x p) [e] [] Oa)) none pos) (tS E (jo C fl fs)):=by
 refine(vx O N4 (C5 hc hf kp F hr hb hg hm ha OU he Og)).imp λD σ H q=>pJ q λB H₀ Hs H1 env PL v sr rp hp=>?_
 match PL,rp,hp with
 | [],_,hp=>exact hp.elim
 | _::_::_,_,hp=>exact hp.elim
 | [y],rp,hp =>
  obtain⟨v,rfl,ry⟩:=rp.one
  refine⟨by show 1<=sizeLine;decide,λa n=>⟨a,v,rfl,aB,λd hd hda=>⟨rfl,a,C,some d,rfl,aB,c,ht,?_⟩⟩⟩
  rw[x9]
  have hd1:H1 d=none:=by rw[aw hda] at hd;exact hd
  have g1:=bP.new (o:=.xd [(fl,v)]) sr.gr.sub hd1
  have QQ:upd H1 d (.xd [(fl,v)]) a=none:=by rw[aw (Ne.symm hda)];exact n
  have g2:=bP.new (o:=h_ C (some d) a) g1.sub QQ
  have hH:upd (upd (upd H1 a (k6 C none a)) d (.xd [(fl,v)])) a (h_ C (some d) a)=upd (upd H1 d (.xd [(fl,v)])) a (h_ C (some d) a):=by
   funext b
   by_cases z:b=a
   ·subst z;rw[aB,aB]
   ·rw[aw z,aw z]
    by_cases z2:b=d
    ·subst z2;rw[aB,aB]
    ·rw[aw z2,aw z2,aw z]
  rw[hH]
  refine hp a (upd (upd Hs d (.xd [(fl,v)])) a (h_ C (some d) a)) _ ((sr.gr.trans g1).trans g2) ?_
  exact .xE aB (by rw[aw hda];exact aB) (.cons ((ry.mono g1.st).mono g2.st) .nil)
theorem qh{K:PySem.W.Frag}{dV kV doc pm Oh ct oc:Value}{n0 n1 fl:Str}{p0 p1 p2 p3:Pos}(lk:K.lookup f=some ⟨oc,od,.func (PySem.W.fnOf name qual params [.Assign [.Attribute (.Name n0 p0) fl p1] (.Name n1 p2) p3] scope dV kV doc pm an Oh ct),QG⟩)(OX:PySem.W.codeIn K Oh qual=true)(S:cx [n0,n1] [n0,n1] scope)
  (c:f9 K C) (ho:((PySem.W.clsIn K C).any λcd=>gR cd.mro)=true) (na:bN K C fl) (v0:A0 scope n0) (v1:A0 scope n1) (d0:(n0==("__debug__" : Str))=false) (d1:(n1==("__debug__" : Str))=false) (c0:(n0==("__classdict__" : Str))=false) (c1:(n1==("__classdict__" : Str))=false)
  (hs:∀ env,swapsWith (.Name n1 p2) (some (.Attribute (.Name n0 p0) fl p1)) p3.line env=pure false) :
  aQ P w K mg base (bQ P w) 1 f (PySem.W.fnOf name qual params [.Assign [.Attribute (.Name n0 p0) fl p1] (.Name n1 p2) p3] scope dV kV doc pm an Oh ct) [n0,n1] (Aa K C fl):=by
 refine xx (k:=0) lk OX S (λvs H Q E h=>by obtain⟨a,y,rfl,_⟩:=h;rfl) λA outer s H vs Q E hr h=>?_
 obtain⟨a,y,rfl,ha,hq⟩:=h
 refine⟨_,DV (B7 (lq (i:=0) rfl v0 d0 c0) (lq (i:=1) rfl v1 d1 c1) (hs _)),?_⟩
 exact⟨y,rfl,.ref a,rfl,a,C,rfl,ha,c,ho,na,hq⟩
end
structure jZ (J:It) (N7:Hp) (xs:List PV):Prop where
 stop:∀ (i:Nat) (Hs H:Hp),bB N7 Hs->bB Hs H->xs.length<=i->J.stop i H
 go:∀ (i:Nat) (Hs H:Hp),bB N7 Hs->bB Hs H->i<xs.length->J.go i H
 tR:∀ (i:Nat) (Hs H:Hp) (x:V) (H2:Hp),bB N7 Hs->bB Hs H->i<xs.length->J.tR i H x H2->∃ p N8,xs[i]?=some p/\bP Hs H N8 H2/\Rep N8 p x
def KI(R:It->Hp->Prop):Hp->Hp->List PV->Prop:=λHs H xs=>∀ J N2 H',bP Hs H N2 H'->jZ J N2 xs->R J H'
def ym(E:St->XK)(wi:TI)(it:af->M (List PV)):Prop:=∀ (σ:St) (H:Hp) (R:It->Hp->Prop),tG E it (KI R) σ H->wi σ H R
theorem KI.g{R:It->Hp->Prop}:KG (KI R):=λHs H N2 H' b k g J N8 H2 g2 o=>k J N8 H2 (g.trans g2) o
section
variable{K:PySem.W.Frag}{f:af->M PV}{fs:af->M (List PV)}
theorem AL(hq:∀ N2 H',bB N7 N2->bB N2 H'->k4 K H' b a vs)(hr:aS N7 xs vs):jZ (MW K b a) N7 xs where
 stop:=λi Hs H s1 s2 hi=>by
  have q:=hq Hs H s1 s2
  cases b with
  | true=>exact⟨vs,q,by rw[← hr.length];exact hi⟩
  | false=>exact⟨vs,q,by rw[← hr.length];exact hi⟩
 go:=λi Hs H s1 s2 hi=>by
  have q:=hq Hs H s1 s2
  obtain⟨v,e,_⟩:=hr.get (List.getElem?_eq_getElem hi)
  cases b with
  | true=>exact⟨vs,v,q,e⟩
  | false=>exact⟨vs,v,q,e⟩
 tR:=λi Hs H x H2 s1 s2 hi y=>by
  have q:=hq Hs H s1 s2
  obtain⟨v,e,r⟩:=hr.get (List.getElem?_eq_getElem hi)
  have z:H2=H/\vs[i]?=some x:=by
   cases b with
   | true=>exact⟨y.1,y.2 vs q⟩
   | false=>exact⟨y.1,y.2 vs q⟩
  obtain⟨rfl,z⟩:=z
  rw[e] at z;cases z
  exact⟨xs[i],Hs,List.getElem?_eq_getElem hi,.refl s2,r.mono s1⟩
theorem bV:ym E (KP K (tE E f)) (itemsOf f):=by
 intro σ H R q
 refine bZ (K:=KI R) KI.g q λB H₀ Hs H1 env p v sr rp hp=>?_
 cases e:bX p with
 | none=>rw[e] at hp;exact hp.elim
 | some xs =>
  rw[e] at hp
  obtain⟨b,a,vs,rfl,hq,hr⟩:=ky (K:=K) sr.gr.sub rp e
  exact⟨b,a,rfl,⟨vs,hq Hs H1 (λ_ _ z=>z) sr.gr.sub⟩,hp (MW K b a) Hs H1 (.refl sr.gr.sub) (AL hq hr)⟩
def ja(o:List PV->M (List PV))(fs:af->M (List PV)):af->M (List PV):=λenv=>(fs env).bind o
theorem uR{lo:Int}:jZ (K2 lo n) N7 ((List.range n).map λ(i:Nat)=>PV.int (lo+(i:Int))) where
 stop:=λi Hs H s1 s2 hi=>show n<=i by simpa using hi
 go:=λi Hs H s1 s2 hi=>show i<n by simpa using hi
 tR:=λi Hs H x H2 s1 s2 hi y=>by
  obtain⟨rfl,rfl⟩:=y
  exact⟨_,Hs,z9 (by simpa using hi),.refl s2,.int _⟩
theorem aE(x:M α):x.bind M.ok=x:=by
 cases x with
 | none=>rfl
 | some x=>cases x <;> rfl
theorem c8:ym E (Gh (tL E fs)) (ja kd fs):=by
 intro σ H R q
 refine dm (K:=KI R) KI.g q λB H₀ Hs H1 env ps v sr rp hp=>?_
 rw[← aE (kd ps)] at hp
 obtain⟨n,rfl,h1,h2,hp⟩:=yQ hp
 obtain⟨w,rfl,PM⟩:=rp.one
 cases PM
 exact⟨n,rfl,h1,h2,hp _ Hs H1 (.refl sr.gr.sub) uR⟩
theorem BY:ym E (FN (tL E fs)) (ja zd fs):=by
 intro σ H R q
 refine dm (K:=KI R) KI.g q λB H₀ Hs H1 env ps v sr rp hp=>?_
 rw[← aE (zd ps)] at hp
 obtain⟨n,m,rfl,h1,hp⟩:=z6 hp
 obtain⟨w,u,rfl,PM,ru⟩:=rp.two
 cases PM
 cases ru
 exact⟨n,m,rfl,h1,hp _ Hs H1 (.refl sr.gr.sub) uR⟩
theorem Bo{ys:List PV}(h1:i<xs.length)(h2:i<ys.length):(List.zipWith (λa b=>PV.tup [a,b]) xs ys)[i]?=some (.tup [xs[i],ys[i]]):=by
 rw[List.getElem?_zipWith,List.getElem?_eq_getElem h1,List.getElem?_eq_getElem h2]
theorem A5{b1 b2:Bool}{a1 a2:Addr}{ys:List PV}{us:List V}(OD:∀ N2 H',bB N7 N2->bB N2 H'->k4 K H' b1 a1 vs)(Qw:aS N7 xs vs)(Ou:∀ N2 H',bB N7 N2->bB N2 H'->k4 K H' b2 a2 us)(Qx:aS N7 ys us) :
  jZ (M0 K b1 b2 a1 a2) N7 (List.zipWith (λa b=>PV.tup [a,b]) xs ys) where
 stop:=λi Hs H s1 s2 hi=>by
  rw[List.length_zipWith,Qw.length,Qx.length] at hi
  exact⟨vs,us,OD Hs H s1 s2,Ou Hs H s1 s2,by omega⟩
 go:=λi Hs H s1 s2 hi=>by
  rw[List.length_zipWith] at hi
  obtain⟨v,e,_⟩:=Qw.get (List.getElem?_eq_getElem (show i<xs.length by omega))
  obtain⟨u,e',_⟩:=Qx.get (List.getElem?_eq_getElem (show i<ys.length by omega))
  exact⟨vs,us,v,u,OD Hs H s1 s2,Ou Hs H s1 s2,e,e'⟩
 tR:=λi Hs H x H2 s1 s2 hi y=>by
  rw[List.length_zipWith] at hi
  have l1:i<xs.length:=by omega
  have l2:i<ys.length:=by omega
  obtain⟨v,e,r⟩:=Qw.get (List.getElem?_eq_getElem l1)
  obtain⟨u,e',r'⟩:=Qx.get (List.getElem?_eq_getElem l2)
  obtain⟨pa,v',u',hn,rfl,rfl,y1,y2⟩:=y
  have z1:=y1 vs (OD Hs H s1 s2)
  have z2:=y2 us (Ou Hs H s1 s2)
  rw[e] at z1;cases z1
  rw[e'] at z2;cases z2
  have gr:=bP.new (o:=.tup [v,u]) s2 hn
  exact⟨_,_,Bo l1 l2,gr,.tup aB (.cons ((r.mono s1).mono gr.st) (.cons ((r'.mono s1).mono gr.st) .nil))⟩
theorem fH:ym E (KU K (tL E fs)) (ja zip2 fs):=by
 intro σ H R q
 refine dm (K:=KI R) KI.g q λB H₀ Hs H1 env ps v sr rp hp=>?_
 rw[← aE (zip2 ps)] at hp
 obtain⟨p,q,xs,ys,rfl,e1,e2,hp⟩:=y_ hp
 obtain⟨w,u,rfl,PM,ru⟩:=rp.two
 obtain⟨b1,a1,vs,rfl,OD,Qw⟩:=ky (K:=K) sr.gr.sub PM e1
 obtain⟨b2,a2,us,rfl,Ou,Qx⟩:=ky (K:=K) sr.gr.sub ru e2
 exact⟨b1,b2,a1,a2,rfl,⟨vs,OD Hs H1 (λ_ _ z=>z) sr.gr.sub⟩,⟨us,Ou Hs H1 (λ_ _ z=>z) sr.gr.sub⟩,hp _ Hs H1 (.refl sr.gr.sub) (A5 OD Qw Ou Qx)⟩
end
theorem cj{E:XK}{pos:Pos}{g:TG}{set:PV->af->M af}{body:af->M Out}{bd:List Stmt}{wi:TI}{it:af->M (List PV)}(O:eZ X λ_=>E)(hc:X.calm=true)(hi:PI X tg iter wi)(hv:ym (λ_=>E) wi it)(hg:PG X tg g)(Qk:C2 E g set)(hb:kq X bd (tS E body))(hs:autoParam (∀ x,foldedSetIterable iter X.env x=pure x) aI._auto_1) :
  PS X (.For tg iter bd [] pos) (tS E (iS it set body)):=by
 refine(G1 O.own hc hi hg hb hs).imp λD σ H q=>hv σ H _ ?_
 obtain⟨B,H₀,Hs,env,sr,q⟩:=q
 refine⟨B,H₀,Hs,env,sr,(av.bind q).imp (λxs hp J N2 H' gr ok=>?_) λe he=>he.grow sr.gr⟩
 have PH:=sr.grow gr
 refine⟨λi m σ H=>m=xs.length-i/\i<=xs.length/\Jv E set body D B H₀ N2 xs i σ H,⟨xs.length,by simp,Nat.zero_le _,N2,env,PH,λ_ _ z=>z,hp⟩,?_⟩
 rintro i m σ' H2 ⟨rfl,hi,N8,env2,Oi,s2,h2⟩
 by_cases Oy:i<xs.length
 ·refine .inr ⟨ok.go i N8 H2 s2 Oi.gr.sub Oy,Jv E set body D B H₀ N2 xs (i+1),fun σ3 H3 j=>⟨xs.length-(i+1),by omega,rfl,Oy,j⟩,λx H3 y=>?_⟩
  obtain⟨p,Pe,ep,g3,r3⟩:=ok.tR i N8 H2 x H3 s2 Oi.gr.sub Oy y
  exact Jv.turn (Hx:=H2) (H1:=H2) Qk ep Oi s2 h2 g3 r3
 ·have e:i=xs.length:=by omega
  refine .inl ⟨ok.stop i N8 H2 s2 Oi.gr.sub (by omega),?_⟩
  exact Jv.done (E:=E) (set:=set) (body:=body) (xs:=xs) (B:=B) (H₀:=H₀) (N7:=N2) (n:=i) ⟨N8,env2,Oi,s2,h2⟩ (by omega)
abbrev EF:St->XK:=λ_ _ _ _=>False
def n6(env:af):Prop:=∀ (i:Nat) (x:SV),env[i]?=some (some x)->∃ p,x=.sh p
theorem n6.ow{env:af}(n:n6 env){i:Nat}{xs:List PV}(e:env[i]?=some (some (.ow xs))):False:=by obtain⟨p,z⟩:=n i _ e;cases z
theorem n6.bd{env:af}(n:n6 env){i:Nat}{a C:Addr}{fs:List (Str×PV)}(e:env[i]?=some (some (.bd a C fs))):False:=by obtain⟨p,z⟩:=n i _ e;cases z
def yS:M α->M α
 | some (.ok a)=>some (.ok a)
 | _=>none
theorem av.yS{α:Type}{x:M α}{Q:α->Prop}{E:EX->Prop}(h:av (L2.yS x) Q E):av x Q (λ_=>False):=by
 cases x with
 | none=>exact h
 | some x=>cases x with
  | ok a=>exact h
  | error e=>exact h
def lF(n:Nat)(js:List Nat)(env:af):af:=List.replicate n none++js.map λj=>match env[j]? with
 | some (some (.sh p))=>some (.sh p)
 | _=>none
theorem sA{env:af}{x:SV}(h:(lF n js env)[i]?=some (some x)):∃ j p,n<=i/\js[i-n]?=some j/\env[j]?=some (some (.sh p))/\x=.sh p:=by
 unfold lF at h
 by_cases hi:i<n
 ·rw[List.getElem?_append_left (by simpa using hi),List.getElem?_replicate] at h
  split at h <;> cases h
 ·rw[List.getElem?_append_right (by simpa using hi),List.getElem?_map,List.length_replicate] at h
  cases hj:js[i-n]? with
  | none=>rw[hj] at h;cases h
  | some j =>
   rw[hj] at h
   have h':(match env[j]? with | some (some (.sh p))=>some (SV.sh p) | _=>none)=some x:=Option.some.inj h
   split at h'
   ·rename_i p e
    cases h'
    exact⟨j,p,by omega,rfl,e,rfl⟩
   ·cases h'
theorem dw{env:af}:n6 (lF n js env):=λi xs e=>by
 obtain⟨_,p,_,_,_,z⟩:=sA e
 exact⟨p,z⟩
variable{D:Addr}
theorem SR.block{B:Hp}{env:af}(r:SR B H₀ Hs H σ env)(hD:H D=none):SR Hs H Hs (upd H D (.lst [])) (fL ts js σ) (lF ts.length js env) where
 gr:=by
  have ne:∀ c u,H c=some u->c≠D:=λc u q z=>by rw[z,hD] at q;cases q
  exact⟨λ_ _ e=>e,λc u e=>by rw[aw (ne c u e)];exact e,λc u e=>by rw[aw (ne c u (r.gr.sub c u e))];exact r.gr.sub c u e,λ_ _ e _=>e⟩
 len:=by unfold fL lF;simp
 sh:=λi p e=>by
  obtain⟨j,q,hn,hj,he,z⟩:=sA e
  cases z
  obtain⟨v,h1,h2⟩:=r.sh j p he
  refine⟨v,?_,h2⟩
  unfold fL
  rw[List.getElem?_append_right (by simpa using hn),List.getElem?_map,List.length_map,hj]
  show some (σ[j]?).join=_
  rw[h1];rfl
 ow:=λi xs e=>(dw.ow e).elim
 sep:=λi j xs ys a _ e=>(dw.ow e).elim
 bd:=λi a C fs e=>(dw.bd e).elim
 one:=λi j a b C D fs gs e=>(dw.bd e).elim
theorem SR.HM{B:Hp}{env:af}{o:HO}(r:SR B H₀ Hs H σ env)(n:n6 env)(h1:Hs D=none)(h2:H₀ D=none):SR B H₀ Hs (upd H D o) σ env where
 gr:=⟨r.gr.st,λc u q=>by rw[aw (λz=>by rw[z,h2] at q;cases q)];exact r.gr.al c u q,λc u q=>by rw[aw (λz=>by rw[z,h1] at q;cases q)];exact r.gr.sub c u q,r.gr.nw⟩
 len:=r.len
 sh:=r.sh
 ow:=λi xs e=>(n.ow e).elim
 sep:=λi j xs ys a _ e=>(n.ow e).elim
 bd:=λi a C fs e=>(n.bd e).elim
 one:=λi j a b C D fs gs e=>(n.bd e).elim
def bo(set:PV->af->M af)(t:Option (af->M Bool))(f:af->M PV):List PV->af->M (List PV)
 | [],_=>M.ok []
 | x::xs,env=>(set x env).bind λe=>match t with
  | none=>(f e).bind λy=>(bo set t f xs e).bind λys=>M.ok (y::ys)
  | some t'=>(t' e).bind λb=>if b=true then (f e).bind λy=>(bo set t f xs e).bind λys=>M.ok (y::ys) else bo set t f xs e
def bF(it:af->M (List PV))(set:PV->af->M af)(t:Option (af->M Bool))(f:af->M PV)(n:Nat)(js:List Nat):af->M (List PV):=λenv=>(it env).bind λxs=>cC (xs.length<=sizeLine) (yS (bo set t f xs (lF n js env)))
def lJ(set:PV->af->M af):Prop:=∀ p env e,set p env=some (.ok e)->n6 env->n6 e
theorem kU{env:af}(n:n6 env):n6 (env.set i (some (.sh p))):=λj xs e=>by
 rw[List.getElem?_set] at e
 by_cases z:i=j
 ·rw[if_pos z] at e
  split at e
  ·cases e;exact⟨p,rfl⟩
  ·cases e
 ·rw[if_neg z] at e;exact n j xs e
theorem aY:lJ (bw i):=λp env e h n=>by
 cases h
 exact kU n
theorem cq:lJ (bR i j):=λp env e h n=>by
 unfold bR at h
 split at h
 ·cases h;exact kU (kU n)
 ·cases h
section
variable{set:PV->af->M af}{t:Option (af->M Bool)}{f:af->M PV}{Q:VK}{H1:Hp}
def Jc(set:PV->af->M af)(t:Option (af->M Bool))(f:af->M PV)(Q:VK)(N7 H1:Hp)(D:Addr)(xs:List PV)(i:Nat)(σ:St)(H:Hp):Prop:=∃ Hs env ys vs,SR N7 H1 Hs H σ env/\n6 env/\H D=some (.lst vs)/\Hs D=none/\aS Hs ys vs/\ys.length<=i ∧
 av (bo set t f (xs.drop i) env) (λzs=>KO Q N7 H1 (ys++zs)) (λ_=>False)
def rem(H:Hp)(D:Addr):Hp:=λa=>if a=D then none else H a
theorem Ay:rem H D D=none:=by unfold rem;rw[if_pos rfl]
theorem xk(n:a≠D):rem H D a=H a:=by unfold rem;rw[if_neg n]
theorem DF{o:HO}(h:H D=some o):upd (rem H D) D o=H:=by
 funext a
 by_cases z:a=D
 ·subst z;rw[aB,h]
 ·rw[aw z,xk z]
theorem Jc.done(hD:H1 D=none)(j:Jc set t f Q N7 H1 D xs i σ H)(hi:xs.length<=i):Q (.ref D) H:=by
 obtain⟨Hs,env,ys,vs,sr,n,h1,h2,r,_,h⟩:=j
 rw[List.drop_eq_nil_of_le hi] at h
 have h':KO Q N7 H1 (ys++[]):=h
 rw[List.append_nil] at h'
 have gr:bP N7 H1 Hs (rem H D):=by
  refine⟨sr.gr.st,λc u q=>?_,λc u q=>?_,sr.gr.nw⟩
  ·rw[xk (λz=>by rw[z,hD] at q;cases q)];exact sr.gr.al c u q
  ·rw[xk (λz=>by rw[z,h2] at q;cases q)];exact sr.gr.sub c u q
 have:=h' vs D Hs (rem H D) gr r Ay
 rw[DF h1] at this
 exact this
theorem Jc.put{env:af}{ys:List PV}{y:PV}(hD:H1 D=none)(sr:SR N7 H1 Hs H σ env)(n:n6 env)(h1:H D=some (.lst vs))(h2:Hs D=none)(r:aS Hs ys vs)(hy:ys.length<=i)(hi:i<sizeLine)(rv:Rep Hs y v)
  (h:av ((bo set t f (xs.drop (i+1)) env).bind λzs=>M.ok (y::zs)) (λzs=>KO Q N7 H1 (ys++zs)) (λ_=>False)) :
  ∃ us,H D=some (.lst us)/\us.length<sizeLine/\Jc set t f Q N7 H1 D xs (i+1) σ (upd H D (.lst (us++[v]))):=by
 refine⟨vs,h1,by rw[← r.length];omega,Hs,env,ys++[y],vs++[v],sr.HM n h2 hD,n,aB,h2,r.snoc rv,by rw[List.length_append];show ys.length+1<=i+1;omega,(av.bind h).imp (λzs hz=>?_) λ_ z=>z⟩
 have Qy:KO Q N7 H1 (ys++(y::zs)):=hz
 rw[List.append_assoc]
 exact Qy
end
section
variable{cl:List (Str×Addr)}{pos:Pos}{wi:TI}{it:af->M (List PV)}{g:TG}{set:PV->af->M af}{f:af->M PV}{u:af->M Bool}{fs:List Str}
theorem xW{s₀:Shared}{ex:List Addr}:eZ (mw X scope cl N C s₀ H₀ ex NX) EF where
 pass:=λ_ _ _ _ _ _ _ h=>by
  obtain⟨_,_,_,_,_,_,_,_,_,_,_,_,_,z⟩:=h
  exact z.elim
 new:=λ_ _ _ _ _ _ _ _ _ z=>z.elim
 own:=PassesOwn.never
theorem br(N4:X.calm=true)
  (Oc:closureFor scope X.env=pure cl) (hk:scope.kind=.function) (nc:eQ scope.names=true) (lo:fK scope.names=true) (fh:fN cl scope.names=true) (ag:dP X cl) (fr:g9 X scope cl fs js)
  (hi:PI X tg iter wi) (hv:ym E wi it) (hg:∀ C s₀ H₀ ex NX,PG (mw X scope cl (ts++fs) C s₀ H₀ ex NX) tg g) (Qk:∀ E,C2 E g set) (so:lJ set) (he:∀ C s₀ H₀ ex NX,PE (mw X scope cl (ts++fs) C s₀ H₀ ex NX) elt (tE EF f))
  (hs:autoParam (∀ x,foldedSetIterable iter X.env x=pure x) aI._auto_1):PE X (.ListComp elt [⟨tg,iter,[],0⟩] scope pos) (tO E (bF it set none f ts.length js)):=by
 refine(Cs N4 Oc hk nc lo fh ag fr hi hg he hs).imp fun σ H Q q=>hv σ H _ ?_
 obtain⟨B,H₀,Hs,env,sr,q⟩:=q
 refine⟨B,H₀,Hs,env,sr,(av.bind q).imp (λxs hp J N7 H1 gr ok D hD=>?_) λe he=>he⟩
 obtain⟨hz,hp⟩:=av.cC hp
 have hp:=av.yS hp
 have QH:=sr.grow gr
 refine⟨λi m σ H=>m=xs.length-i/\i<=xs.length/\Jc set none f Q N7 H1 D xs i σ H,⟨xs.length,by simp,Nat.zero_le _,N7,_,[],[],QH.block hD,dw,aB,?_,.nil,Nat.le_refl _,hp.imp (λzs hz vs p N8 H2 g2 r n=>hz vs p N8 H2 (gr.trans g2) r n) λ_ z=>z⟩,?_⟩
 ·cases z:N7 D with
  | none=>rfl
  | some o=>have:=gr.sub _ _ z;rw[hD] at this;cases this
 rintro i m σ' H2 ⟨rfl,hi,N8,env2,ys,vs,Oi,n2,d1,d2,r2,l2,h2⟩
 by_cases Oy:i<xs.length
 ·refine .inr ⟨ok.go i N8 H2 Oi.gr.st Oi.gr.sub Oy,Jc set none f Q N7 H1 D xs (i+1),fun σ3 H3 j=>⟨xs.length-(i+1),by omega,rfl,Oy,j⟩,λx H3 y=>?_⟩
  obtain⟨p,Pe,ep,g3,r3⟩:=ok.tR i N8 H2 x H3 Oi.gr.st Oi.gr.sub Oy y
  have hd:xs.drop i=p::xs.drop (i+1):=by
   rw[List.drop_eq_getElem_cons Oy]
   rw[List.getElem?_eq_getElem Oy] at ep
   rw[Option.some.inj ep]
  rw[hd] at h2
  have h3:=av.bind h2
  have PX:=Oi.grow g3
  refine Qk (λ_ _ _=>False) N7 H1 Pe H3 σ' env2 p x _ (λ_=>False) PX r3 ?_
  cases hset:set p env2 with
  | none=>rw[hset] at h3;exact h3
  | some z=>cases z with
   | error e=>rw[hset] at h3;exact h3
   | ok e3 =>
    rw[hset] at h3
    intro σ4 sr4
    have n4:=so p env2 e3 hset n2
    refine⟨N7,H1,Pe,e3,sr4,(av.bind h3).imp (λy hy v QK H5 g5 r5=>?_) λ_ z=>z.elim⟩
    exact Jc.put (set:=set) (t:=none) (f:=f) hD (sr4.grow g5) n4 (g5.al _ _ (g3.al _ _ d1)) (g5.nw _ _ (g3.nw _ _ d2 d1) (g3.al _ _ d1)) ((r2.mono g3.st).mono g5.st) l2 (by omega) r5 hy
 ·refine .inl ⟨ok.stop i N8 H2 Oi.gr.st Oi.gr.sub (by omega),?_⟩
  exact Jc.done (set:=set) (t:=none) (f:=f) (xs:=xs) (N7:=N7) (H1:=H1) (i:=i) hD ⟨N8,env2,ys,vs,Oi,n2,d1,d2,r2,l2,h2⟩ (by omega)
theorem pY(N4:X.calm=true)
  (Oc:closureFor scope X.env=pure cl) (hk:scope.kind=.function) (nc:eQ scope.names=true) (lo:fK scope.names=true) (fh:fN cl scope.names=true) (ag:dP X cl) (fr:g9 X scope cl fs js)
  (hi:PI X tg iter wi) (hv:ym E wi it) (hg:∀ C s₀ H₀ ex NX,PG (mw X scope cl (ts++fs) C s₀ H₀ ex NX) tg g) (Qk:∀ E,C2 E g set) (so:lJ set) (ht:∀ C s₀ H₀ ex NX,PT (mw X scope cl (ts++fs) C s₀ H₀ ex NX) c (tT EF u)) (he:∀ C s₀ H₀ ex NX,PE (mw X scope cl (ts++fs) C s₀ H₀ ex NX) elt (tE EF f))
  (hs:autoParam (∀ x,foldedSetIterable iter X.env x=pure x) aI._auto_1):PE X (.ListComp elt [⟨tg,iter,[c],0⟩] scope pos) (tO E (bF it set (some u) f ts.length js)):=by
 refine(CC N4 Oc hk nc lo fh ag fr hi hg ht he hs).imp fun σ H Q q=>hv σ H _ ?_
 obtain⟨B,H₀,Hs,env,sr,q⟩:=q
 refine⟨B,H₀,Hs,env,sr,(av.bind q).imp (λxs hp J N7 H1 gr ok D hD=>?_) λe he=>he⟩
 obtain⟨hz,hp⟩:=av.cC hp
 have hp:=av.yS hp
 have QH:=sr.grow gr
 refine⟨λi m σ H=>m=xs.length-i/\i<=xs.length/\Jc set (some u) f Q N7 H1 D xs i σ H,⟨xs.length,by simp,Nat.zero_le _,N7,_,[],[],QH.block hD,dw,aB,?_,.nil,Nat.le_refl _,hp.imp (λzs hz vs p N8 H2 g2 r n=>hz vs p N8 H2 (gr.trans g2) r n) λ_ z=>z⟩,?_⟩
 ·cases z:N7 D with
  | none=>rfl
  | some o=>have:=gr.sub _ _ z;rw[hD] at this;cases this
 rintro i m σ' H2 ⟨rfl,hi,N8,env2,ys,vs,Oi,n2,d1,d2,r2,l2,h2⟩
 by_cases Oy:i<xs.length
 ·refine .inr ⟨ok.go i N8 H2 Oi.gr.st Oi.gr.sub Oy,Jc set (some u) f Q N7 H1 D xs (i+1),fun σ3 H3 j=>⟨xs.length-(i+1),by omega,rfl,Oy,j⟩,λx H3 y=>?_⟩
  obtain⟨p,Pe,ep,g3,r3⟩:=ok.tR i N8 H2 x H3 Oi.gr.st Oi.gr.sub Oy y
  have hd:xs.drop i=p::xs.drop (i+1):=by
   rw[List.drop_eq_getElem_cons Oy]
   rw[List.getElem?_eq_getElem Oy] at ep
   rw[Option.some.inj ep]
  rw[hd] at h2
  have h3:=av.bind h2
  have PX:=Oi.grow g3
  refine Qk (λ_ _ _=>False) N7 H1 Pe H3 σ' env2 p x _ (λ_=>False) PX r3 ?_
  cases hset:set p env2 with
  | none=>rw[hset] at h3;exact h3
  | some z=>cases z with
   | error e=>rw[hset] at h3;exact h3
   | ok e3 =>
    rw[hset] at h3
    intro σ4 sr4
    have n4:=so p env2 e3 hset n2
    refine⟨N7,H1,Pe,e3,sr4,(av.bind h3).imp (λb hb QK H5 g5=>?_) λ_ z=>z.elim⟩
    have d5:=g5.al _ _ (g3.al _ _ d1)
    have e5:=g5.nw _ _ (g3.nw _ _ d2 d1) (g3.al _ _ d1)
    cases b with
    | true =>
     refine⟨N7,H1,QK,e3,sr4.grow g5,(av.bind hb).imp (λy hy v Hs6 H6 g6 r6=>?_) λ_ z=>z.elim⟩
     exact Jc.put (set:=set) (t:=some u) (f:=f) hD ((sr4.grow g5).grow g6) n4 (g6.al _ _ d5) (g6.nw _ _ e5 d5) (((r2.mono g3.st).mono g5.st).mono g6.st) l2 (by omega) r6 hy
    | false=>exact⟨QK,e3,ys,vs,sr4.grow g5,n4,d5,e5,(r2.mono g3.st).mono g5.st,by omega,hb⟩
 ·refine .inl ⟨ok.stop i N8 H2 Oi.gr.st Oi.gr.sub (by omega),?_⟩
  exact Jc.done (set:=set) (t:=some u) (f:=f) (xs:=xs) (N7:=N7) (H1:=H1) (i:=i) hD ⟨N8,env2,ys,vs,Oi,n2,d1,d2,r2,l2,h2⟩ (by omega)
def bM(fo:af->M (List PV)):af->M PV:=λenv=>(fo env).bind λps=>M.ok (.lst ps)
theorem bS{fo:af->M (List PV)}(he:PE X e (tO E fo)):PE X e (tE E (bM fo)):=he.imp fun σ H Q q=>by
 obtain⟨B,H₀,Hs,env,sr,q⟩:=q
 refine⟨B,H₀,Hs,env,sr,(av.bind q).imp (λps hp vs p N2 H' g r n=>?_) λe he=>he⟩
 have gn:=bP.new (o:=.lst vs) g.sub n
 exact hp _ _ _ (g.trans gn) (.lst aB (r.mono gn.st))
end
def tP(f:Str)(v:PV):List (Str×PV)->List (Str×PV)
 | []=>[(f,v)]
 | (g,x)::r=>if g=f then (g,v)::r else (g,x)::tP f v r
theorem iZ.put{H:Hp}{f:Str}{p:PV}{v:V}(h:Rep H p v):∀ {fs:List (Str×PV)} {vs:List (Str×V)},iZ H fs vs->iZ H (tP f p fs) (jW f v vs)
 | _,_,.nil=>.cons h .nil
 | (g,x)::r,_,.cons hx hr=>by
  unfold tP jW
  by_cases z:g=f
  ·rw[if_pos z,if_pos z];exact .cons h hr
  ·rw[if_neg z,if_neg z];exact .cons hx (hr.put h)
theorem iZ.length{H:Hp}:∀ {fs:List (Str×PV)} {vs:List (Str×V)},iZ H fs vs->fs.length=vs.length
 | _,_,.nil=>rfl
 | _,_,.cons _ r=>by simp[r.length]
theorem SR.Mw{B:Hp}{env:af}{dx:Addr}{fs gs:List (Str×PV)}{us:List (Str×V)}(r:SR B H₀ Hs H σ env)(e:env[i]?=some (some (.bd a C fs)))(h:iZ Hs gs us):SR B H₀ Hs (upd H a (.ins C dx us)) σ (env.set i (some (.bd a C gs))):=by
 obtain⟨dx0,vs,h1,h2,h3,h4,h5⟩:=r.bd i a C fs e
 have nS:∀ c u,Hs c=some u->c≠a:=λc u q z=>by rw[z,h3] at q;cases q
 have n0:∀ c u,H₀ c=some u->c≠a:=λc u q z=>by rw[z,h4] at q;cases q
 refine⟨⟨r.gr.st,λc u q=>by rw[aw (n0 c u q)];exact r.gr.al c u q,λc u q=>by rw[aw (nS c u q)];exact r.gr.sub c u q,r.gr.nw⟩,by rw[List.length_set];exact r.len,λj q ej=>?_,λj zs ej=>?_,λj k y1 y2 b nj e1 e2 e3 e4=>?_,λj ba D QW ej=>?_,λj k _ _ C' D QW gs' e1 e2=>?_⟩
 ·rw[List.getElem?_set] at ej
  by_cases z:i=j
  ·subst z
   rw[if_pos rfl] at ej
   split at ej <;> cases ej
  ·rw[if_neg z] at ej;exact r.sh j q ej
 ·rw[List.getElem?_set] at ej
  by_cases z:i=j
  ·subst z
   rw[if_pos rfl] at ej
   split at ej <;> cases ej
  ·rw[if_neg z] at ej
   obtain⟨b,ws,q1,q2,q3,q4,q5⟩:=r.ow j zs ej
   have nb:b≠a:=λw=>by subst w;rw[h2] at q2;cases q2
   exact⟨b,ws,q1,by rw[aw nb];exact q2,q3,q4,q5⟩
 ·rw[List.getElem?_set] at e1 e2
  by_cases z:i=j
  ·subst z
   rw[if_pos rfl] at e1
   split at e1 <;> cases e1
  ·by_cases z2:i=k
   ·subst z2
    rw[if_pos rfl] at e2
    split at e2 <;> cases e2
   ·rw[if_neg z] at e1
    rw[if_neg z2] at e2
    exact r.sep j k y1 y2 b nj e1 e2 e3 e4
 ·rw[List.getElem?_set] at ej
  by_cases z:i=j
  ·subst z
   rw[if_pos rfl] at ej
   split at ej
   ·cases ej;exact⟨dx,us,h1,aB,h3,h4,h⟩
   ·cases ej
  ·rw[if_neg z] at ej
   exact absurd (r.one i j _ _ _ _ _ _ e ej) z
 ·have o1:∃ b D w,env[j]?=some (some (.bd b D w)):=by
   rw[List.getElem?_set] at e1
   by_cases z:i=j
   ·subst z;exact⟨_,_,_,e⟩
   ·rw[if_neg z] at e1;exact⟨_,_,_,e1⟩
  have o2:∃ b D w,env[k]?=some (some (.bd b D w)):=by
   rw[List.getElem?_set] at e2
   by_cases z:i=k
   ·subst z;exact⟨_,_,_,e⟩
   ·rw[if_neg z] at e2;exact⟨_,_,_,e2⟩
  obtain⟨_,_,w1,o1⟩:=o1
  obtain⟨_,_,w2,o2⟩:=o2
  exact r.one j k _ _ _ _ _ _ o1 o2
def A8(i:Nat)(C:Addr)(f:Str)(p:PV)(env:af):M Out:=match env[i]? with
 | some (some (.bd a C' fs))=>cC (C'=C/\fs.length<1000) (M.ok (.nx (env.set i (some (.bd a C (tP f p fs))))))
 | _=>none
def jB(i:Nat)(C:Addr)(fl:Str)(f:af->M PV):af->M Out:=λenv=>(f env).bind λp=>A8 i C fl p env
section
variable{E:XK}{pos:Pos}{f:af->M PV}{fl:Str}
theorem jL(hi:X.N[i]?=some x)(hv:A0 X.env.scope x)(c:kP X.K C)(na:bN X.K C fl)(he:PE X e (tE (λ_=>E) f))(hd:autoParam ((x==("__debug__" : Str))=false) aD._auto_1)(OX:autoParam ((x==("__classdict__" : Str))=false) aD._auto_1)
  (hs:autoParam (swapsWith e (some (.Attribute (.Name x px) fl pos')) pos.line X.env=pure false) aR._auto_1):PS X (.Assign [.Attribute (.Name x px) fl pos'] e pos) (tS E (jB i C fl f)):=by
 refine(IQ (lq hi hv hd OX) he hs).imp λD σ H q=>j8 q λB H₀ Hs H1 env p v sr rp hp=>?_
 unfold A8 at hp
 split at hp
 ·rename_i a C' fs ex
  obtain⟨⟨rfl,hz⟩,hp⟩:=av.cC hp
  obtain⟨dx,vs,h1,h2,h3,h4,h5⟩:=sr.bd i a _ fs ex
  exact⟨.ref a,h1,a,_,dx,vs,rfl,h2,c,na,by rw[← h5.length];exact hz,hp σ Hs _ (sr.Mw ex (h5.put rp))⟩
 ·exact hp.elim
end
def uQ(m:Nat)(a C:Addr)(ps:List PV):af:=some (.bd a C [])::lA (m-1) ps
def CH(a C:Addr)(env:af):M (List (Str×PV)):=match (env[0]?:Option (Option SV)) with
 | some (some (.bd b D fs))=>cC (b=a/\D=C) (M.ok fs)
 | _=>none
def outI(a C:Addr):Out->M (List (Str×PV))
 | .nx env=>CH a C env
 | _=>none
def rA(m:Nat)(g:af->M Out)(C a:Addr)(ps:List PV):M (List (Str×PV)):=(g (uQ m a C ps)).bind (outI a C)
def GG(s:Addr->M α):M α:=open Classical in if h:∃ r,∀ a,s a=r then h.choose else none
theorem t7{s:Addr->M α}{r:M α}(h:∀ a,s a=r):GG s=r:=by
 have hx:∃ r,∀ a,s a=r:=⟨r,h⟩
 unfold GG
 rw[dif_pos hx,← hx.choose_spec 0,h 0]
theorem av.GG{α:Type}{s:Addr->M α}{Q:α->Prop}{E:EX->Prop}(h:av (L2.GG s) Q E)(a:Addr):av (s a) Q E:=by
 unfold L2.GG at h
 split at h
 ·rename_i hx
  rw[hx.choose_spec a];exact h
 ·exact h.elim
def Dv(n:Nat)(C:Addr)(sem:Addr->List PV->M (List (Str×PV))):Sp:=λvs H Q E=>vs.length=n/\∃ a dx us Hs H1 ps,vs=.ref a::us/\H1 a=none/\H1 dx=none/\dx≠a/\H=upd (upd H1 dx (.own a)) a (.ins C dx [])/\bB Hs H1/\aS Hs ps us ∧
 av (sem a ps) (λfs=>∀ Rc ws N2 H',bP Hs H1 N2 H'->H' a=some (.ins C Rc ws)->N2 a=none->iZ N2 fs ws->Q .da H') (XW E Hs H1)
theorem SR.Jd{dx:Addr}{ps:List PV}(s:bB Hs H₀)(hN:0<N.length)(ha:H₀ a=none)(r:aS Hs ps vs)(hH:H=upd H₀ a (.ins C dx [])):SR Hs H₀ Hs H (L2.start N (.ref a::vs)) (uQ N.length a C ps):=by
 have hs:Hs a=none:=by
  cases q:Hs a with
  | none=>rfl
  | some o=>have:=s _ _ q;rw[ha] at this;cases this
 have ne:∀ c u,H₀ c=some u->c≠a:=λc u e z=>by rw[z,ha] at e;cases e
 have s0:=SR.start (N:=N.tail) s r
 have e1:L2.start N (.ref a::vs)=some (.ref a)::L2.start N.tail vs:=by
  unfold L2.start
  simp only[List.map_cons,List.cons_append,List.length_cons,List.length_tail]
  rw[Nat.sub_sub,Nat.add_comm]
 have e2:uQ N.length a C ps=some (.bd a C [])::lA N.tail.length ps:=by unfold uQ;rw[List.length_tail]
 have al:bB H₀ H:=λc u q=>by rw[hH,aw (ne c u q)];exact q
 rw[e1,e2]
 refine⟨⟨λ_ _ e=>e,al,λc u q=>al c u (s c u q),λc u q _=>q⟩,by simp[s0.len],λj q ej=>?_,λj zs ej=>?_,λj k y1 y2 b nj e1 e2 e3 e4=>?_,λj ba D QW ej=>?_,λj k a1 a2 C' D QW gs' e1 e2=>?_⟩
 ·cases j with
  | zero=>cases ej
  | succ j=>exact s0.sh j q (by simpa using ej)
 ·cases j with
  | zero=>cases ej
  | succ j=>exact absurd (s0.ow j zs (by simpa using ej)) (λ⟨b,ws,q1,q2,q3,q4,q5⟩=>by rw[q4] at q2;cases q2)
 ·cases j with
  | zero=>cases e1
  | succ j=>exact absurd (s0.ow j y1 (by simpa using e1)) (λ⟨b,ws,q1,q2,q3,q4,q5⟩=>by rw[q4] at q2;cases q2)
 ·cases j with
  | zero=>cases ej;exact⟨dx,[],rfl,by rw[hH];exact aB,hs,ha,.nil⟩
  | succ j=>exact absurd (s0.bd j ba D QW (by simpa using ej)) (λ⟨b,ws,q1,q2,q3,q4,q5⟩=>by rw[q4] at q2;cases q2)
 ·cases j with
  | zero=>cases k with
   | zero=>rfl
   | succ k=>exact absurd (s0.bd k a2 D gs' (by simpa using e2)) (λ⟨b,ws,q1,q2,q3,q4,q5⟩=>by rw[q4] at q2;cases q2)
  | succ j=>exact absurd (s0.bd j a1 C' QW (by simpa using e1)) (λ⟨b,ws,q1,q2,q3,q4,q5⟩=>by rw[q4] at q2;cases q2)
theorem Fj{K:PySem.W.Frag}{dV kV doc pm Oh ct oc:Value}{g:af->M Out}(lk:K.lookup f=some ⟨oc,od,.func (PySem.W.fnOf name qual params body scope dV kV doc pm an Oh ct),QG⟩)(OX:PySem.W.codeIn K Oh qual=true)(S:cx N ps scope)(hN:0<N.length)
  (hb:∀ (A:Around) (outer:List Env) (s:Shared) (H:Hp) (E:XK),cv k (A.deeper (envOfC qual scope s.heap.objs.size f Oh))->kq ((lO (bQ P w) P w K mg base N qual scope f Oh A outer s H E).out λ_=>E) body (tS E g)) :
  aQ P w K mg base (bQ P w) (k+1) f (PySem.W.fnOf name qual params body scope dV kV doc pm an Oh ct) ps (Dv ps.length C (rA N.length g C)):=by
 refine xx lk OX S (λvs H Q E h=>h.1) λA outer s H vs Q E hr hs=>⟨_,hb A outer s H E hr,?_⟩
 obtain⟨_,a,dx,us,Hs,H1,PL,rfl,ha,hdx,P1,hH,sm,r,h⟩:=hs
 have ne:∀ c u,H1 c=some u->c≠dx:=λc u e z=>by rw[z,hdx] at e;cases e
 have s0:bB H1 (upd H1 dx (.own a)):=λc u q=>by rw[aw (ne c u q)];exact q
 have g0:bP Hs H1 Hs (upd H1 dx (.own a)):=⟨λ_ _ e=>e,s0,λc u q=>s0 c u (sm c u q),λ_ _ e _=>e⟩
 refine⟨Hs,_,Hs,_,SR.Jd (dx:=dx) g0.sub hN (by rw[aw (Ne.symm P1)];exact ha) r hH,(av.bind h).imp (λo ho=>?_) λe he=>he.grow g0⟩
 cases o with
 | rt p=>exact ho.elim
 | bk env=>exact ho.elim
 | ct env=>exact ho.elim
 | nx env =>
  intro σ N2 H' sr
  have PN:av (CH a C env) _ _:=ho
  unfold CH at PN
  split at PN
  ·rename_i b D fs ex
   obtain⟨⟨rfl,rfl⟩,hp⟩:=av.cC PN
   obtain⟨Rc,ws,h1,h2,h3,h4,h5⟩:=sr.bd 0 _ _ fs ex
   exact hp Rc ws N2 H' (g0.trans sr.gr) h2 h3 h5
  ·exact PN.elim
def e_(C:Addr)(sem:Addr->List PV->M (List (Str×PV)))(PJ:List PV)(ps:List PV):M PV:=(GG λa=>sem a (ps++PJ)).bind λfs=>M.ok (.obj C fs)
section
variable{ns:List Str}{sem:Addr->List PV->M (List (Str×PV))}{p pos:Pos}{fs:af->M (List PV)}
theorem Fp(Mk:Mk X.K C f)(F:aQ X.prog X.w X.K X.mg X.base (bQ X.prog X.w) k f fd ns (Dv n C sem))(hr:cv (k+1) X.A)(hg:Gl X x)(hm:X.mg x=some (.ref C))(hb:Binds X.K fd ns ds)(hd:Vals OI ds)(hdp:∀ H,aS H PJ OI)(O:eZ X E)
  (hl:∀ a ps,sem a (ps++PJ)≠none->ps.length+PJ.length+1=n)
  (ha:PA X (e::es) (tL E fs)) (OU:autoParam ((x==("__debug__" : Str))=false) aD._auto_1) (he:autoParam (starEach (e::es) X.env=(false,eval e X.env)::starEach es X.env) aR._auto_1) (Og:autoParam ((backTo pos (starEach es X.env)).any (·.1)=false) aR._auto_1) :
  PE X (.Call (.Name x p) (e::es) [] pos) (tE E (ai (e_ C sem PJ) fs)):=by
 refine(Di Mk F hr hg hm hb hd O ha OU he Og).imp fun σ H Q q=>dm (K:=jS Q) jS.g q λB H₀ Hs H1 env PL v sr rp hp=>?_
 intro a dx ha hdx P1
 have r2:aS Hs (PL++PJ) (v++OI):=rp.append (hdp Hs)
 have Q0:=(av.bind hp).GG a
 have hn:sem a (PL++PJ)≠none:=λz=>by
  rw[z] at Q0;exact Q0
 refine⟨?_,a,dx,v++OI,Hs,H1,PL++PJ,rfl,ha,hdx,P1,rfl,sr.gr.sub,r2,Q0.imp (λfl hfl Rc ws N2 H' g hw QS PM=>⟨rfl,?_⟩) λe he=>he⟩
 ·show (v++OI).length+1=n
  rw[← r2.length,List.length_append]
  exact hl a PL hn
 ·have ne:∀ c u,N2 c=some u->c≠a:=λc u q z=>by rw[z,QS] at q;cases q
  have Ol:bB N2 (upd N2 a (.ins C Rc ws)):=λc u q=>by rw[aw (ne c u q)];exact q
  refine hfl (.ref a) (upd N2 a (.ins C Rc ws)) H' ⟨λc u q=>Ol c u (g.st c u q),g.al,λc u q=>?_,λc u q1 q2=>?_⟩ (.obj aB (PM.mono Ol))
  ·by_cases z:c=a
   ·subst z;rw[aB] at q;cases q;exact hw
   ·rw[aw z] at q;exact g.sub c u q
  ·have z:c≠a:=λz=>by rw[z,ha] at q2;cases q2
   rw[aw z];exact g.nw c u q1 q2
end
section
variable{a b:Expr}{pos:Pos}{f g h:af->M PV}
theorem nA{m:Nat}(h:n.log2<m):n<2^m:=by
 by_cases z:n=0
 ·subst z;exact Nat.two_pow_pos m
 ·exact(Nat.log2_lt z).mp h
theorem aS.rep{H:Hp}{xs:List PV}{vs:List V}(r:aS H xs vs):∀ k:Nat,aS H (List.replicate k xs).flatten (List.replicate k vs).flatten
 | 0=>.nil
 | k+1=>by rw[List.replicate_succ,List.replicate_succ,List.flatten_cons,List.flatten_cons];exact r.append (r.rep k)
def cp:PV->PV->M PV
 | .int i,.int j=>cC (i.natAbs.log2<67108864/\j.natAbs.log2<67108864) (M.ok (.int (i*j)))
 | .tup xs,.int k=>cC (xs.isEmpty=false/\-(2^63)<=k/\k<2^63/\xs.length*k.toNat<=sizeLine) (M.ok (.tup (List.replicate k.toNat xs).flatten))
 | .lst xs,.int k=>cC (-(2^63)<=k/\k<2^63/\xs.length*k.toNat<=sizeLine) (M.ok (.lst (List.replicate k.toNat xs).flatten))
 | _,_=>none
def FH(K:PySem.W.Frag):R2:=λx y H Q=>(rI (λi j=>IntMulOk i j) λi j=>.int (i*j)) x y H Q\/Gb K x y H Q\/JR x y H Q
theorem ES:f_ X (binaryOp .Mult) (FH X.K):=f_.or EW (f_.or EE Ca)
theorem Gn{K:PySem.W.Frag}:kE E (FH K) cp:=by
 intro σ Hs H p q v u Q s rp rq h
 cases rp with
 | int i=>cases rq with
  | int j =>
   obtain⟨hz,h⟩:=av.cC h
   exact .inl ⟨i,j,rfl,rfl,Co (nA hz.1) (nA hz.2) (Nat.le_refl _),dO.flat h s (.int _)⟩
  | _=>exact h.elim
 | @tup a xs vs ha hx=>cases rq with
  | int k =>
   obtain⟨⟨h0,h1,h2,h3⟩,h⟩:=av.cC h
   have n1:vs≠[]:=λz=>by
    have:=hx.length
    rw[z] at this
    cases xs with
    | nil=>cases h0
    | cons _ _=>cases this
   refine .inr (.inl ⟨a,k,vs,rfl,rfl,hX.of (s _ _ ha),n1,h1,h2,by rw[← hx.length];exact h3,λz=>?_,λz=>dO.tup h s (hx.rep _)⟩)
   subst z
   rw[show (1:Int).toNat=1 from rfl,List.replicate_succ,List.replicate_zero,List.flatten_cons,List.flatten_nil,List.append_nil] at h
   exact dO.flat h s (.tup ha hx)
  | _=>exact h.elim
 | @lst a xs vs ha hx=>cases rq with
  | int k =>
   obtain⟨⟨h1,h2,h3⟩,h⟩:=av.cC h
   exact .inr (.inr ⟨a,k,vs,rfl,rfl,s _ _ ha,h1,h2,by rw[← hx.length];exact h3,dO.lst h s (hx.rep _)⟩)
  | _=>exact h.elim
 | _=>exact h.elim
theorem DC:kE E (rI A_ λi j=>.int (i.fdiv j)) (nU (λ_ j=>decide (j≠0/\j.natAbs.log2<9000)) λi j=>i.fdiv j):=pG λi j z=>(of_decide_eq_true z:j≠0/\j.natAbs.log2<9000)
theorem IB:kE E (rI (λ_ j=>j≠0) λi j=>.int (i.fmod j)) (nU (λ_ j=>decide (j≠0)) λi j=>i.fmod j):=pG λi j z=>of_decide_eq_true z
theorem GS:kE E (rI By λi j=>.int (i^j.toNat)) (nU (λi j=>decide (0<=j/\j<=1000000/\i.natAbs<2^64)) λi j=>i^j.toNat):=pG λi j z=>(of_decide_eq_true z:0<=j/\j<=1000000/\i.natAbs<2^64)
def JY:PV->M PV
 | .int i=>M.ok (.int (-i))
 | _=>none
def jV(f:af->M PV):af->M PV:=λenv=>(f env).bind JY
theorem GX(ha:PE X a (tE E f)):PE X (.UnaryOp .USub a pos) (tE E (jV f)) :=
 (Kh GC ha).imp fun σ H Q q=>F1 q λHs H1 p v s rp h=>by
  cases rp with
  | int i=>exact⟨i,rfl,dO.flat h s (.int _)⟩
  | _=>exact h.elim
def vZ:PV->Bool
 | .da=>true
 | _=>false
theorem vn(r:Rep H p v):decide (v=.da)=vZ p:=by
 cases r <;> rfl
def B9:PV->PV->M PV
 | p,.da=>M.ok (.bl (vZ p))
 | _,_=>none
def kT:PV->PV->M PV
 | p,.da=>M.ok (.bl (!vZ p))
 | _,_=>none
theorem Dr:kE E (λx y H Q=>y=.da/\Q (.bl (decide (x=.da))) H) B9:=by
 intro σ Hs H p q v u Q s rp rq h
 cases rq with
 | da =>
  have h':av (M.ok (PV.bl (vZ p))) (dO Hs H Q) (XW (E σ) Hs H):=by cases p <;> exact h
  exact⟨rfl,by rw[vn rp];exact dO.flat h' s (.bl _)⟩
 | _=>cases p <;> exact h.elim
theorem yq:kE E (λx y H Q=>y=.da/\Q (.bl (!decide (x=.da))) H) kT:=by
 intro σ Hs H p q v u Q s rp rq h
 cases rq with
 | da =>
  have h':av (M.ok (PV.bl (!vZ p))) (dO Hs H Q) (XW (E σ) Hs H):=by cases p <;> exact h
  exact⟨rfl,by rw[vn rp];exact dO.flat h' s (.bl _)⟩
 | _=>cases p <;> exact h.elim
def gW(o o':PV->PV->M PV)(f g h:af->M PV):af->M PV:=λenv=>(f env).bind λp=>(g env).bind λq=>(o p q).bind λz=>(wO z).bind λk=>if k=true then (h env).bind λr=>o' q r else M.ok (.bl false)
theorem vo{r r':R2}{o o':PV->PV->M PV}(hv:kE E r o)(Q_:kE E r' o'){Q:VK}(q:tE E (gW o o' f g h) σ H Q):xB r r' (tE E f) (tE E g) (tE E h) σ H Q:=by
 refine bZ (K:=jS Q) jS.g q λB H₀ Hs H1 env p v sr rp hp=>?_
 refine⟨B,H₀,Hs,env,sr,(av.bind hp).imp (λq hq u N8 H2 g2 ru=>?_) λe he=>he⟩
 have Oi:=sr.grow g2
 refine hv σ N8 H2 p q v u _ Oi.gr.sub (rp.mono g2.st) ru ((av.bind hq).imp (λz hz w Pe H3 g3 PM=>?_) λe he=>he.grow g2)
 obtain⟨k,ek,hk⟩:=av.Ly (av.bind hz)
 subst ek
 cases PM
 refine⟨k,rfl,?_⟩
 have PX:=Oi.grow g3
 cases k with
 | false=>exact hk _ _ _ (g2.trans g3) (.bl _)
 | true =>
  have Rv:av ((h env).bind λr=>o' q r) (jS Q Hs H1) (XW (E σ) Hs H1):=hk
  refine⟨B,H₀,Pe,env,PX,(av.bind Rv).imp (λr hr w Hs4 H4 g4 rw4=>?_) λe he=>he.grow (g2.trans g3)⟩
  exact Q_ σ Hs4 H4 q r u w Q (PX.grow g4).gr.sub ((ru.mono g3.st).mono g4.st) rw4 (hr.imp (λz hz w' QK H5 g5 r5=>hz w' QK H5 ((g2.trans g3).trans (g4.trans g5)) r5) λe he=>he.grow ((g2.trans g3).trans g4))
theorem vq{P6:CmpOp}{r r':R2}{o o':PV->PV->M PV}(ho:f_ X (compareOp op) r)(hv:kE E r o)(PN:f_ X (compareOp P6) r')(Q_:kE E r' o')(ha:PE X a (tE E f))(hb:PE X b (tE E g))(hc:PE X c (tE E h))
  (hm:autoParam (lastMarks [op,P6] [b,c]=false) aU._auto_1):PE X (.Compare a [op,P6] [b,c] pos) (tE E (gW o o' f g h)) :=
 (AQ ho PN ha hb hc hm).imp fun σ H Q q=>vo hv Q_ q
theorem CK{P6:CmpOp}{r r':R2}{o o':PV->PV->M PV}(ho:f_ X (compareOp op) r)(hv:kE E r o)(PN:f_ X (compareOp P6) r')(Q_:kE E r' o')(ha:PE X a (tE E f))(hb:PE X b (tE E g))(hc:PE X c (tE E h))
  (hm:autoParam (lastMarks [op,P6] [b,c]=false) aU._auto_1):PT X (.Compare a [op,P6] [b,c] pos) (tT E (cX (gW o o' f g h))) :=
 (BO ho PN ha hb hc hm).imp fun σ H Q q=>vo hv Q_ (pv q)
def cQ(u:af->M Bool)(b:af->M Out):Nat->af->M Out
 | 0,_=>none
 | n+1,env=>(u env).bind λt=>if t=true then (b env).bind λo=>match o with
   | .nx N1=>cQ u b n N1
   | .ct N1=>cQ u b n N1
   | .bk N1=>M.ok (.nx N1)
   | .rt p=>M.ok (.rt p)
  else M.ok (.nx env)
theorem Ad{E:XK}{u:af->M Bool}{g:af->M Out}(n:af->Nat)(O:eZ X λ_=>E)(hc:PT X c (tT (λ_=>E) u))(hb:kq X body (tS E g)):PS X (.While c body [] pos) (tS E λenv=>cQ u g (n env) env):=by
 refine(Dq O.own hc hb).imp λD σ H q=>?_
 obtain⟨B,H₀,Hs,env,sr,q⟩:=q
 refine⟨λm σ H=>∃ Hs env,SR B H₀ Hs H σ env/\av (cQ u g m env) (KS D B H₀) (XW E B H₀),⟨n env,Hs,env,sr,q⟩,?_⟩
 rintro m σ1 H1 ⟨N7,env1,QH,q1⟩
 cases m with
 | zero=>exact q1.elim
 | succ m =>
  refine⟨B,H₀,N7,env1,QH,(av.bind q1).imp (λt ht N8 H2 g2=>?_) λe he=>he.grow QH.gr⟩
  have Oi:=QH.grow g2
  cases t with
  | false=>exact ht σ1 N8 H2 Oi
  | true =>
   refine⟨fun σ' H'=>∃ N2 N1,SR B H₀ N2 H' σ' N1/\av (cQ u g m N1) (KS D B H₀) (XW E B H₀),fun σ' H' z=>⟨m,Nat.lt_succ_self m,z⟩,B,H₀,N8,env1,Oi,(av.bind ht).imp (λo ho=>?_) λe he=>he⟩
   cases o with
   | nx N1=>exact fun σ' N2 H' PH=>⟨N2,N1,PH,ho⟩
   | ct N1=>exact fun σ' N2 H' PH=>⟨N2,N1,PH,ho⟩
   | bk N1=>exact ho
   | rt p=>exact ho
theorem jx{u:af->M Bool}{g:af->M Out}:∀ (n k:Nat) (env:af),cQ u g n env≠none->cQ u g (n+k) env=cQ u g n env
 | 0,_,_,h=>(h rfl).elim
 | n+1,k,env,h=>by
  rw[show n+1+k=(n+k)+1 by omega]
  unfold cQ at h ⊢
  cases hu:u env with
  | none=>rfl
  | some z =>
   cases z with
   | error e=>rfl
   | ok t =>
    rw[hu] at h
    cases t with
    | false=>rfl
    | true =>
     show M.bind (g env) _=M.bind (g env) _
     have h':M.bind (g env) (λo=>match o with
      | .nx N1=>cQ u g n N1
      | .ct N1=>cQ u g n N1
      | .bk N1=>M.ok (.nx N1)
      | .rt p=>M.ok (.rt p))≠none:=h
     cases hg:g env with
     | none=>rfl
     | some z =>
      cases z with
      | error e=>rfl
      | ok o =>
       rw[hg] at h'
       cases o with
       | nx N1=>exact jx n k N1 h'
       | ct N1=>exact jx n k N1 h'
       | bk N1=>rfl
       | rt p=>rfl
def lB(u:af->M Bool)(b:af->M Out)(env:af):M Out:=open Classical in cQ u b (if h:∃ n,cQ u b n env≠none then h.choose else 0) env
theorem yM{u:af->M Bool}{b:af->M Out}{env:af}(h:cQ u b n env≠none):lB u b env=cQ u b n env:=by
 have hx:∃ n,cQ u b n env≠none:=⟨n,h⟩
 unfold lB
 rw[dif_pos hx]
 have h1:=hx.choose_spec
 rw[← jx _ n env h1,← jx n hx.choose env h,Nat.add_comm]
theorem vd{E:XK}{u:af->M Bool}{g:af->M Out}(O:eZ X λ_=>E)(hc:PT X c (tT (λ_=>E) u))(hb:kq X body (tS E g)):PS X (.While c body [] pos) (tS E (lB u g)) :=
 Ad (λenv=>open Classical in if h:∃ n,cQ u g n env≠none then h.choose else 0) O hc hb
end
def Fz:PV->Option String
 | .da=>some "NoneType"
 | .bl _=>some "bool"
 | .int _=>some "int"
 | .str _=>some "str"
 | .lst _=>some "list"
 | .jN _=>some "list"
 | .tup _=>some "tuple"
 | .emp=>some "dict"
 | _=>none
def lX(a t:String):Bool:=a==t||(a == "bool" && t == "int")
theorem oy(K:PySem.W.Frag):PySem.W.kitOne K (.type "NoneType") (.type "int")=some false:=by with_unfolding_all kernel_rfl
theorem vA(K:PySem.W.Frag):PySem.W.kitOne K (.type "bool") (.type "int")=some true:=by with_unfolding_all kernel_rfl
def tys:List String:=["int", "bool", "str", "list", "tuple"]
theorem Kl(K:PySem.W.Frag){a t:String}(ha:Fz p=some a)(ht:t∈tys):PySem.W.kitOne K (.type a) (.type t)=some (lX a t):=by
 have ht2:t = "int" \/ t = "bool" \/ t = "str" \/ t = "list" \/ t = "tuple" := by simpa [tys] using ht
 cases p <;> cases ha <;> rcases ht2 with rfl | rfl | rfl | rfl | rfl <;> first
  | exact oy K
  | exact kt_NoneType_bool K
  | exact kt_NoneType_str K
  | exact kt_NoneType_list K
  | exact kt_NoneType_tuple K
  | exact vA K
  | exact kt_bool_bool K
  | exact kt_bool_str K
  | exact kt_bool_list K
  | exact kt_bool_tuple K
  | exact kt_int_int K
  | exact kt_int_bool K
  | exact kt_int_str K
  | exact kt_int_list K
  | exact kt_int_tuple K
  | exact kt_str_int K
  | exact kt_str_bool K
  | exact kt_str_str K
  | exact kt_str_list K
  | exact kt_str_tuple K
  | exact kt_list_int K
  | exact kt_list_bool K
  | exact kt_list_str K
  | exact kt_list_list K
  | exact kt_list_tuple K
  | exact kt_tuple_int K
  | exact kt_tuple_bool K
  | exact kt_tuple_str K
  | exact kt_tuple_list K
  | exact kt_tuple_tuple K
  | exact kt_dict_int K
  | exact kt_dict_bool K
  | exact kt_dict_str K
  | exact kt_dict_list K
  | exact kt_dict_tuple K
theorem xm{K:PySem.W.Frag}{a:String}(s:bB Hs H)(r:Rep Hs p v)(ha:Fz p=some a):jT K H v (.type a):=by
 cases r with
 | da=>cases ha;exact .da
 | bl b=>cases ha;exact .bl b
 | int i=>cases ha;exact .int i
 | str x=>cases ha;exact .str x
 | tup h _=>cases ha;exact .tup (s _ _ h)
 | lst h _=>cases ha;exact .lst (s _ _ h)
 | jN h _=>cases ha;exact .qK (s _ _ h)
 | emp h=>cases ha;exact .dK (s _ _ h)
 | _=>cases ha
theorem yD(K:PySem.W.Frag){p:PV}{a:String}(ha:Fz p=some a):∀ {Ts:List String},(∀ t∈Ts,t∈tys)->PySem.W.kitAny K (.type a) (Ts.map Value.type)=some (Ts.any λt=>lX a t)
 | [],_=>rfl
 | t::r,h=>by
  have h1:=Kl K ha (h t List.mem_cons_self)
  have h2:=yD K ha (Ts:=r) λt q=>h t (List.mem_cons_of_mem _ q)
  simp only[List.map_cons,PySem.W.kitAny,h1,List.any_cons]
  cases lX a t with
  | true=>rfl
  | false=>exact h2
structure pB (K:PySem.W.Frag) (C:Addr):Prop where
 cls:kP K C
 ha:PySem.W.findIn K (.ref C) "__class__" = some (some (.builtin "object.__class__"))
 hn:PySem.W.specialIn K (.builtin "object.__class__") "__get__" = some (some (.builtin "getset_descriptor.__get__"))
 Jr:PySem.W.takesIn K (.builtin "object.__class__")=some true
 hm:PySem.W.mroIn K C (.type "object")=some true
def xI(b:String->Bool)(ob oe:Addr->Option Bool):PV->M PV
 | .obj C _=>dJ ((ob C).map .bl)
 | .exc C _=>dJ ((oe C).map .bl)
 | p=>dJ ((Fz p).map λa=>.bl (b a))
section
variable{pos p pt:Pos}{f:af->M PV}{T:String}{ob oe:Addr->Option Bool}
theorem w4{fo:Option (List (Str×PV))}(s:bB Hs H)(r:Rep Hs (.exc C fo) v):∃ a Q2,v=.ref a/\ExcAt H a C Q2:=by
 cases r with
 | @xa a _ h=>exact⟨a,none,rfl,s _ _ h⟩
 | @xE a _ d _ vs h h2 _=>exact⟨a,some vs,rfl,d,s _ _ h,s _ _ h2⟩
def vJ(b:String->Bool)(ob oe:Addr->Option Bool)(f:af->M PV):af->M PV:=λenv=>(f env).bind (xI b ob oe)
theorem o4{b:String->Bool}{p:PV}{Q:PV->Prop}{F:EX->Prop}(h:av (xI b ob oe p) Q F):(∃ a,Fz p=some a/\Q (.bl (b a)))\/(∃ C fs k,p=.obj C fs/\ob C=some k/\Q (.bl k))\/∃ C fo k,p=.exc C fo/\oe C=some k/\Q (.bl k):=by
 cases p with
 | obj C fs =>
  obtain⟨z,e,q⟩:=av.opt h
  obtain⟨k,e2,rfl⟩:=Option.map_eq_some_iff.mp e
  exact .inr (.inl ⟨C,fs,k,rfl,e2,q⟩)
 | exc C fo =>
  obtain⟨z,e,q⟩:=av.opt h
  obtain⟨k,e2,rfl⟩:=Option.map_eq_some_iff.mp e
  exact .inr (.inr ⟨C,fo,k,rfl,e2,q⟩)
 | da=>exact .inl ⟨_,rfl,h⟩
 | bl _=>exact .inl ⟨_,rfl,h⟩
 | int _=>exact .inl ⟨_,rfl,h⟩
 | str _=>exact .inl ⟨_,rfl,h⟩
 | tup _=>exact .inl ⟨_,rfl,h⟩
 | lst _=>exact .inl ⟨_,rfl,h⟩
 | jN _=>exact .inl ⟨_,rfl,h⟩
 | emp=>exact .inl ⟨_,rfl,h⟩
theorem xF{K:PySem.W.Frag}{fs:List (Str×PV)}(s:bB Hs H)(r:Rep Hs (.obj C fs) v)(c:pB K C):jT K H v (.ref C):=by
 cases r with
 | obj h _=>exact .ins (s _ _ h) c.cls c.ha c.hn c.Jr c.hm
theorem ly(hg:Gl X "isinstance")(hm:X.mg "isinstance" = none)(hT:PE X (.Name x pt) (tC (.ty T)))(ht:T∈tys)(QZ:∀ C b,ob C=some b->pB X.K C/\PySem.W.kitOne X.K (.ref C) (.type T)=some b)(Pd:∀ C b,oe C=some b->f9 X.K C/\PySem.W.kitOne X.K (.ref C) (.type T)=some b)(he:PE X e (tE E f))
  (h1:autoParam (starEach [e,.Name x pt] X.env=(false,eval e X.env)::starEach [.Name x pt] X.env) aR._auto_1) (h2:autoParam (starEach [.Name x pt] X.env=(false,eval (.Name x pt) X.env)::starEach [] X.env) aR._auto_1) (Og:autoParam ((backTo pos (starEach [.Name x pt] X.env)).any (·.1)=false) aR._auto_1) :
  PE X (.Call (.Name "isinstance" p) [e,.Name x pt] [] pos) (tE E (vJ (λa=>lX a T) ob oe f)):=by
 refine(j7 (c6.or uH pD) hg hm tq (dM he (dM hT ko h2) h1) (by decide) (by decide) h1 Og).imp fun σ H Q q=>bZ (K:=jS Q) jS.g q λB H₀ Hs H1 env p v sr rp hp=>?_
 rcases o4 hp with ⟨a,ha,q⟩ | ⟨C,fs,k,rfl,e,q⟩ | ⟨C,fo,k,rfl,e,q⟩
 ·exact .inl ⟨v,T,_,_,rfl,xm sr.gr.sub rp ha,Kl X.K ha ht,dO.flat q sr.gr.sub (.bl _)⟩
 ·exact .inl ⟨v,T,_,_,rfl,xF sr.gr.sub rp (QZ C k e).1,(QZ C k e).2,dO.flat q sr.gr.sub (.bl _)⟩
 ·obtain⟨a,Q2,rfl,hx⟩:=w4 sr.gr.sub rp
  exact .inr ⟨a,C,Q2,k,(Pd C k e).1,hx,.inl ⟨T,rfl,(Pd C k e).2⟩,dO.flat q sr.gr.sub (.bl _)⟩
theorem Ih(hg:Gl X "isinstance")(hm:X.mg "isinstance" = none)(hT:PE X (.Name x pt) (tC (.ref D)))(hk:∀ p a,Fz p=some a->PySem.W.kitOne X.K (.type a) (.ref D)=some false)(QZ:∀ C b,ob C=some b->pB X.K C/\PySem.W.kitOne X.K (.ref C) (.ref D)=some b)(Pd:∀ C b,oe C=some b->f9 X.K C/\PySem.W.kitOne X.K (.ref C) (.ref D)=some b)(he:PE X e (tE E f))
  (h1:autoParam (starEach [e,.Name x pt] X.env=(false,eval e X.env)::starEach [.Name x pt] X.env) aR._auto_1) (h2:autoParam (starEach [.Name x pt] X.env=(false,eval (.Name x pt) X.env)::starEach [] X.env) aR._auto_1) (Og:autoParam ((backTo pos (starEach [.Name x pt] X.env)).any (·.1)=false) aR._auto_1) :
  PE X (.Call (.Name "isinstance" p) [e,.Name x pt] [] pos) (tE E (vJ (λ_=>false) ob oe f)):=by
 refine(j7 (c6.or Cf pD) hg hm tq (dM he (dM hT ko h2) h1) (by decide) (by decide) h1 Og).imp fun σ H Q q=>bZ (K:=jS Q) jS.g q λB H₀ Hs H1 env p v sr rp hp=>?_
 rcases o4 hp with ⟨a,ha,q⟩ | ⟨C,fs,k,rfl,e,q⟩ | ⟨C,fo,k,rfl,e,q⟩
 ·exact .inl ⟨v,D,_,_,rfl,xm sr.gr.sub rp ha,hk p a ha,dO.flat q sr.gr.sub (.bl _)⟩
 ·exact .inl ⟨v,D,_,_,rfl,xF sr.gr.sub rp (QZ C k e).1,(QZ C k e).2,dO.flat q sr.gr.sub (.bl _)⟩
 ·obtain⟨a,Q2,rfl,hx⟩:=w4 sr.gr.sub rp
  exact .inr ⟨a,C,Q2,k,(Pd C k e).1,hx,.inr ⟨D,rfl,(Pd C k e).2⟩,dO.flat q sr.gr.sub (.bl _)⟩
theorem Ej{e2:Expr}{t2:TE}{Ts:List String}(hg:Gl X "isinstance")(hm:X.mg "isinstance" = none)(hT:PE X e2 t2)(ht2:∀ σ H R,(∀ p,H p=none->R (.ref p) (upd H p (.tup (Ts.map V.ty))))->t2 σ H R)(ht:∀ t∈Ts,t∈tys)(QZ:∀ C b,ob C=some b->pB X.K C/\PySem.W.kitAny X.K (.ref C) (Ts.map Value.type)=some b)(he:PE X e (tE E f))
  (h1:autoParam (starEach [e,e2] X.env=(false,eval e X.env)::starEach [e2] X.env) aR._auto_1) (h2:autoParam (starEach [e2] X.env=(false,eval e2 X.env)::starEach [] X.env) aR._auto_1) (Og:autoParam ((backTo pos (starEach [e2] X.env)).any (·.1)=false) aR._auto_1) :
  PE X (.Call (.Name "isinstance" p) [e,e2] [] pos) (tE E (vJ (λa=>Ts.any λt=>lX a t) ob (λ_=>none) f)):=by
 refine(j7 Ak hg hm tq (dM he (dM hT ko h2) h1) (by decide) (by decide) h1 Og).imp fun σ H Q q=>bZ (K:=jS Q) jS.g q λB H₀ Hs H1 env p v sr rp hp=>?_
 refine ht2 σ H1 _ λtp hn=>?_
 have g:=bP.new (o:=.tup (Ts.map V.ty)) sr.gr.sub hn
 rcases o4 hp with ⟨a,ha,q⟩ | ⟨C,fs,k,rfl,e,q⟩ | ⟨C,fo,k,rfl,e,q⟩
 ·exact⟨v,tp,Ts,_,_,rfl,aB,xm g.sub (rp.mono g.st) ha,yD X.K ha ht,q _ _ _ g (.bl _)⟩
 ·exact⟨v,tp,Ts,_,_,rfl,aB,xF g.sub (rp.mono g.st) (QZ C k e).1,(QZ C k e).2,q _ _ _ g (.bl _)⟩
 ·cases e
end
section
open PySem.SeqAt (shaped noMix noMixAll)
mutual
def dat:PV->Option PyData
 | .da=>some .none
 | .bl b=>some (.bool b)
 | .int i=>some (.int i)
 | .str x=>some (.str x)
 | .tup xs=>(kr xs).map .tuple
 | .lst xs=>(kr xs).map .list
 | .jN xs=>(kr xs).map .list
 | .obj _ _=>none
 | .exc _ _=>none
 | .emp=>none
def kr:List PV->Option (List PyData)
 | []=>some []
 | p::r=>(dat p).bind λd=>(kr r).map (d::·)
end
mutual
theorem Rep.reads{Hs:Hp}(I:Inv X NX σ H s)(sm:bB Hs H):∀ {p:PV} {v:V} {u:Value} {d:PyData},Rep Hs p v->RelV v u->dat p=some d->∃ as,Reads s.heap u d as
 | _,_,u,d,.da,r,e=>by
  cases e;cases (show u=Value.none from r);exact⟨_,.none⟩
 | _,_,u,d,.bl b,r,e=>by
  cases e;cases (show u=Value.bool b from r);exact⟨_,.bool b⟩
 | _,_,u,d,.int i,r,e=>by
  cases e;obtain⟨t,rfl⟩:=(show ∃ t,u=Value.int i t from r);exact⟨_,.int i t⟩
 | _,_,u,d,.str i,r,e=>by
  cases e;obtain⟨t,rfl⟩:=(show ∃ t,u=Value.str i t from r);exact⟨_,.str i t⟩
 | _,_,u,d,.tup (a:=a) ha hx,r,e=>by
  obtain⟨ds,e2,rfl⟩:=Option.map_eq_some_iff.mp (show (kr _).map PyData.tuple=some d from e)
  cases (show u=Value.ref a from r)
  obtain⟨NZ,r1,⟨o,ho,hc,n,hd⟩,_⟩:=I.tuple (hX.of (sm _ _ ha))
  obtain⟨as,ra⟩:=aS.reads I sm hx r1 e2
  exact⟨_,.tuple ho hc hd (by simpa using ra)⟩
 | _,_,u,d,.lst (a:=a) ha hx,r,e=>by
  obtain⟨ds,e2,rfl⟩:=Option.map_eq_some_iff.mp (show (kr _).map PyData.list=some d from e)
  cases (show u=Value.ref a from r)
  obtain⟨NZ,r1,⟨o,n,ho,hc,_,hd⟩,_⟩:=I.list (gS.of (sm _ _ ha))
  obtain⟨as,ra⟩:=aS.reads I sm hx r1 e2
  exact⟨_,.list ho hc hd (by simpa using ra)⟩
 | _,_,u,d,.jN (a:=a) (o:=ob) ha hx,r,e=>by
  obtain⟨ds,e2,rfl⟩:=Option.map_eq_some_iff.mp (show (kr _).map PyData.list=some d from e)
  cases (show u=Value.ref a from r)
  obtain⟨NZ,r1,⟨o,n,ho,hc,_,hd⟩,_⟩:=I.list (.inl (.inr ⟨ob,sm _ _ ha⟩))
  obtain⟨as,ra⟩:=aS.reads I sm hx r1 e2
  exact⟨_,.list ho hc hd (by simpa using ra)⟩
 | _,_,u,d,.obj _ _,r,e=>by cases e
 | _,_,u,d,.xa _,r,e=>by cases e
 | _,_,u,d,.xE _ _ _,r,e=>by cases e
 | _,_,u,d,.emp _,r,e=>by cases e
theorem aS.reads{Hs:Hp}(I:Inv X NX σ H s)(sm:bB Hs H):∀ {p:List PV} {v:List V} {u:List Value} {d:List PyData},aS Hs p v->Vals v u->kr p=some d->∃ as,ReadsAll s.heap u d as
 | _,_,_,_,.nil,.nil,e=>by cases e;exact⟨_,.nil⟩
 | _,_,_,d,.cons (p:=p) (ps:=ps) h hr,.cons r rr,e=>by
  obtain⟨d1,e1,e2⟩:=Option.bind_eq_some_iff.mp (show (dat p).bind (λd=>(kr ps).map (d::·))=some d from e)
  obtain⟨ds,e3,rfl⟩:=Option.map_eq_some_iff.mp e2
  obtain⟨as,ra⟩:=Rep.reads I sm h r e1
  obtain⟨bs,rb⟩:=aS.reads I sm hr rr e3
  exact⟨_,.cons ra rb⟩
end
def ED(d e:PyData):M Bool:=cC (shaped d=true/\shaped e=true/\noMix d e=true) (M.ok (same d e))
def om(o:Bool->PV)(p q:PV):M PV:=match dat p,dat q with
 | some d,some e=>(ED d e).bind λb=>M.ok (o b)
 | _,_=>none
def my:PV->PV->M PV:=om λb=>.bl b
def oq:PV->PV->M PV:=om λb=>.bl (!b)
def A3(o:Bool->Bool):R2:=λx y H Q=>∃ Hs p q d e,bB Hs H/\Rep Hs p x/\Rep Hs q y/\dat p=some d/\dat q=some e/\shaped d=true/\shaped e=true/\noMix d e=true/\Q (.bl (o (same d e))) H
theorem Bv(hu:X.A.units+64<cLine):f_ X (compareOp .Eq) (A3 id):=by
 intro NX s σ H x y v u Q I rx ry h
 obtain⟨Hs,p,q,d,e,sm,rp,rq,hd,he,h1,h2,h3,hq⟩:=h
 obtain⟨as,ra⟩:=Rep.reads I sm rp rx hd
 obtain⟨bs,rb⟩:=Rep.reads I sm rq ry he
 exact eq_dataH_same ra rb h1 h2 hu h3 (uB I hq rfl)
theorem BW(hu:X.A.units+64<cLine):f_ X (compareOp .NotEq) (A3 not):=by
 intro NX s σ H x y v u Q I rx ry h
 obtain⟨Hs,p,q,d,e,sm,rp,rq,hd,he,h1,h2,h3,hq⟩:=h
 obtain⟨as,ra⟩:=Rep.reads I sm rp rx hd
 obtain⟨bs,rb⟩:=Rep.reads I sm rq ry he
 exact ne_dataH_same ra rb h1 h2 hu h3 (uB I hq rfl)
theorem Dh{o:Bool->Bool}:kE E (A3 o) (om λb=>.bl (o b)):=by
 intro σ Hs H p q v u Q s rp rq h
 unfold om at h
 split at h
 ·rename_i d e hd he
  have h':=av.bind h
  obtain⟨⟨h1,h2,h3⟩,h⟩:=av.cC h'
  exact⟨Hs,p,q,d,e,s,rp,rq,hd,he,h1,h2,h3,dO.flat h s (.bl _)⟩
 ·exact h.elim
theorem FF:kE E (A3 id) my:=Dh
theorem FO:kE E (A3 not) oq:=Dh
def qY(xs:List PV)(lo hi:Option Int):List PV:=(xs.drop (HT.dI xs.length 0 lo)).take (HT.dI xs.length xs.length hi-HT.dI xs.length 0 lo)
theorem aS.cut(r:aS H xs vs)(lo hi:Option Int):aS H (qY xs lo hi) (uU vs lo hi):=by
 unfold qY uU
 rw[r.length]
 exact(r.drop _).take _
abbrev J5(Q:Option Int->Hp->Prop):Hp->Hp->Option Int->Prop:=λHs H k=>∀ N2 H',bP Hs H N2 H'->Q k H'
def LJ(E:St->XK)(g:af->M (Option Int)):TO:=fun σ H Q=>tG E g (J5 Q) σ H
theorem PO.imp{e:Option Expr}{t t':TO}(h:PO X e t)(i:∀ σ H Q,t' σ H Q->t σ H Q):PO X e t':=λNX s σ H Q I q=>h NX s σ H Q I (i σ H Q q)
def Le:PV->M (Option Int)
 | .int i=>M.ok (some i)
 | _=>none
def tj(f:af->M PV):af->M (Option Int):=λenv=>(f env).bind Le
section
variable{lo hi:Option Expr}{pos p2:Pos}{f:af->M PV}{gl gh:af->M (Option Int)}
theorem J5.g{Q:Option Int->Hp->Prop}:KG (J5 Q):=λHs H N2 H' b k g N8 H2 g2=>k N8 H2 (g.trans g2)
theorem yk(he:PE X e (tE E f)):PO X (some e) (LJ E (tj f)):=(D7 he).imp fun σ H Q q=>bZ (K:=J5 Q) J5.g q λB H₀ Hs H1 env p v sr rp hp=>by
 cases rp with
 | int i=>exact⟨i,rfl,hp Hs H1 (.refl sr.gr.sub)⟩
 | _=>exact hp.elim
end
def ik(xs:List PV):List PV:=xs.mapIdx λi x=>.tup [.int (i:Nat),x]
section
variable{K:PySem.W.Frag}{fs:af->M (List PV)}
theorem sy(hq:∀ N2 H',bB N7 N2->bB N2 H'->gS K H' a vs)(hr:aS N7 xs vs):jZ (GZ K a) N7 (ik xs) where
 stop:=λi Hs H s1 s2 hi=>by
  unfold ik at hi
  rw[List.length_mapIdx,hr.length] at hi
  exact⟨vs,hq Hs H s1 s2,hi⟩
 go:=λi Hs H s1 s2 hi=>by
  unfold ik at hi
  rw[List.length_mapIdx] at hi
  obtain⟨v,e,_⟩:=hr.get (List.getElem?_eq_getElem hi)
  exact⟨vs,v,hq Hs H s1 s2,e⟩
 tR:=λi Hs H x H2 s1 s2 hi y=>by
  unfold ik at hi
  rw[List.length_mapIdx] at hi
  obtain⟨v,e,r⟩:=hr.get (List.getElem?_eq_getElem hi)
  obtain⟨pa,v',hn,rfl,rfl,y1⟩:=y
  have z1:=y1 vs (hq Hs H s1 s2)
  rw[e] at z1;cases z1
  have gr:=bP.new (o:=.tup [.int (i:Nat),v]) s2 hn
  refine⟨.tup [.int (i:Nat),xs[i]],_,?_,gr,.tup aB (.cons (.int _) (.cons ((r.mono s1).mono gr.st) .nil))⟩
  unfold ik
  rw[List.getElem?_mapIdx,List.getElem?_eq_getElem hi]
  rfl
end
end
def D_(lo st:Int)(n:Nat):It:=⟨λi _=>i<n,λi H x H'=>H'=H/\x=.int (lo+(i:Nat)*st),λi _=>n<=i⟩
theorem uW{K:PySem.W.Frag}(it:Addr)(lo st:Int)(n:Nat):Turn P w K tg (D_ lo st n) [it] it (λi h=>IsRangeIter h it (lo+(i:Nat)*st) ((n:Int)-(i:Nat)) st) where
 mem:=by simp
 obj:=λi h st b hb=>by
  have e:b=it:=by simpa using hb
  subst e
  exact⟨_,st,λv z=>by
   have z':Data.fields _=Data.cell v:=z
   cases z'⟩
 keep:=λi h h' st k=>k it (by simp) _ st
 item:=by
  intro X hP hw hK hc i NX s σ H E I hf OV hg
  subst hP hw hK
  obtain⟨f0,f1,f2,f3,f4,f5⟩:=hf it (by simp)
  have W:=Walks.range (prog:=X.prog) (w:=X.w) (I.ok.hd hc) it lo st n
  refine W.item i s _ _ hg OV λv h' tk hv RO kk=>?_
  obtain⟨t,rfl⟩:=hv
  have I1:Inv X NX σ H { s with heap:=h',toks:=tk }:=I.turned (λb o hb e=>kk b o (by simpa using hb) e) f0 f1 f3 f4 f5
  exact⟨_,rfl,yd (s:={ s with heap:=h',toks:=tk }) (n := "range_iterator") RO rfl rfl (by decide) ⟨.int (lo+(i:Nat)*st),H,I1,⟨t,rfl⟩,⟨rfl,rfl⟩,RO,λb hb=>(hf b hb).1⟩⟩
 done:=by
  intro X hP hw hK hc i NX s σ H E I hf OV hg
  subst hP hw hK
  obtain⟨f0,f1,f2,f3,f4,f5⟩:=hf it (by simp)
  exact wpAny_pyNext_range_end (I.ok.hd hc) OV (by have:n<=i:=hg;omega) λh' eb=>⟨rfl,I.turned (t':=s.toks) (λb o hb e=>eb b o hb e) f0 f1 f3 f4 f5⟩
 self:=λ_ _ _ _ _ st h=>wpAny_pyIter_rangeiter st h
theorem sN(a b c:Int):0<=Builtin.Range.rangeSize a b c:=by
 unfold Builtin.Range.rangeSize
 split
 ·split
  ·have:=Int.ediv_nonneg (a:=b-a-1) (b:=c) (by omega) (by omega);omega
  ·omega
 ·split
  ·have:=Int.ediv_nonneg (a:=a-b-1) (b:=-c) (by omega) (by omega);omega
  ·omega
theorem zc{R:It->Hp->Prop}{E:Value->Shared->Prop}{lo hi st:Int}{t u v:Tok}{tk:Nat}(I:Inv X NX σ H s)(hsm:Builtin.Range.small lo hi st=true)
  (q:R (D_ lo st (Builtin.Range.rangeSize lo hi st).toNat) H):wpAny (model X.prog X.w) X.A (pyIter (.ref s.heap.objs.size)) (LX X NX σ tg R) E { s with heap:=s.heap.push { cls:=.type "range", data:=.fields #[.int lo t,.int hi u,.int st v] },toks:=tk }:=by
 refine wpAny_pyIter_range (IsRange.new ..) hsm ?_
 have I1:Inv X NX σ H { s with heap:=s.heap.push { cls:=.type "range", data:=.fields #[.int lo t,.int hi u,.int st v] },toks:=tk }:=I.kept λb o e=>Heap.get?_push_of_some _ e
 refine⟨(s.heap.push { cls:=.type "range", data:=.fields #[.int lo t,.int hi u,.int st v] }).objs.size,[(s.heap.push { cls:=.type "range", data:=.fields #[.int lo t,.int hi u,.int st v] }).objs.size],_,_,H,rfl,
  I1.kept (t':=tk) λb o e=>Heap.get?_push_of_some _ e,uW _ lo st (Builtin.Range.rangeSize lo hi st).toNat,?_,λb hb=>?_,q⟩
 ·have e1:lo+((0:Nat):Int)*st=lo:=by simp
  have e2:(((Builtin.Range.rangeSize lo hi st).toNat:Nat):Int)-((0:Nat):Int)=Builtin.Range.rangeSize lo hi st:=by have:=sN lo hi st;omega
  show IsRangeIter _ _ (lo+((0:Nat):Int)*st) ((((Builtin.Range.rangeSize lo hi st).toNat:Nat):Int)-((0:Nat):Int)) st
  rw[e1,e2]
  exact Heap.get?_push_size _ rfl
 ·have e:b=(s.heap.push { cls:=.type "range", data:=.fields #[.int lo t,.int hi u,.int st v] }).objs.size:=by simpa using hb
  subst e
  exact I1.ux (Nat.le_refl _) (I1.bK.fresh (Nat.le_refl _))
def C3(i j k:Int):Bool:=decide (k≠0)&&decide (k.natAbs<1073741824)&&Builtin.Range.small i j k
def FC(ta:TA):TI:=fun σ H R=>ta σ H λvs H1=>∃ i j k:Int,vs=[.int i,.int j,.int k]/\C3 i j k=true/\R (D_ i k (Builtin.Range.rangeSize i j k).toNat) H1
theorem sv{a b:Expr}{ta:TA}{p pos:Pos}(hg:Gl X "range")(hm:X.mg "range" = none)(ha:PA X [a,b,c] ta)(hs:autoParam (starEach [a,b,c] X.env=[(false,eval a X.env),(false,eval b X.env),(false,eval c X.env)]) aR._auto_1)(Pn:autoParam (starEach [b,c] X.env=[(false,eval b X.env),(false,eval c X.env)]) aR._auto_1) :
  PI X tg (.Call (.Name "range" p) [a,b,c] [] pos) (FC ta):=by
 intro NX s σ H R I h
 refine Call_ (ju I hg hm boot_range (PyProof.Rows.callWith_type1 (cG (ha pos NX s σ H _ I h) λus s1 ⟨vs,H1,I1,r1,q1⟩=>?_) (by rw[hs,Pn]) (by rw[Pn];rfl)))
 obtain⟨i,j,k,e,hc,q⟩:=q1
 subst e
 cases r1 with
 | cons r rr =>
  cases rr with
  | cons r' rr =>
   cases rr with
   | cons RM rr =>
    cases rr
    obtain⟨t,rfl⟩:=r
    obtain⟨t',rfl⟩:=r'
    obtain⟨t'',rfl⟩:=RM
    unfold C3 at hc
    rw[Bool.and_eq_true,Bool.and_eq_true] at hc
    exact call_range_3 (of_decide_eq_true hc.1.1) (zc I1 hc.2 q) (.inl (PyProof.noPylong_small (of_decide_eq_true hc.1.2)))
def Af:List PV->M (List PV)
 | [.int i,.int j,.int k]=>cC (C3 i j k=true) (M.ok ((List.range (Builtin.Range.rangeSize i j k).toNat).map λ(n:Nat)=>.int (i+n*k)))
 | _=>none
section
variable{K:PySem.W.Frag}{fs:af->M (List PV)}
theorem zG{lo st:Int}:jZ (D_ lo st n) N7 ((List.range n).map λ(i:Nat)=>PV.int (lo+(i:Int)*st)) where
 stop:=λi Hs H s1 s2 hi=>show n<=i by simpa using hi
 go:=λi Hs H s1 s2 hi=>show i<n by simpa using hi
 tR:=λi Hs H x H2 s1 s2 hi y=>by
  obtain⟨rfl,rfl⟩:=y
  have Ql:i<n:=by simpa using hi
  exact⟨.int (lo+(i:Int)*st),Hs,by simp[Ql],.refl s2,.int _⟩
theorem zt{ps:List PV}{Q:List PV->Prop}{F:EX->Prop}(h:av (Af ps) Q F):∃ i j k,ps=[.int i,.int j,.int k]/\C3 i j k=true/\Q ((List.range (Builtin.Range.rangeSize i j k).toNat).map λ(n:Nat)=>.int (i+n*k)):=by
 unfold Af at h
 split at h
 ·obtain⟨hc,h⟩:=av.cC h
  exact⟨_,_,_,rfl,hc,h⟩
 ·exact h.elim
theorem aS.three{q r:PV}(h:aS H [p,q,r] vs):∃ v u w,vs=[v,u,w]/\Rep H p v/\Rep H q u/\Rep H r w:=by
 cases h with
 | cons h r=>obtain⟨u,w,rfl,h2,h3⟩:=r.two;exact⟨_,_,_,rfl,h,h2,h3⟩
theorem vW:ym E (FC (tL E fs)) (ja Af fs):=by
 intro σ H R q
 refine dm (K:=KI R) KI.g q λB H₀ Hs H1 env ps v sr rp hp=>?_
 obtain⟨i,j,k,rfl,hc,hp⟩:=zt hp
 obtain⟨w,u,z,rfl,PM,ru,rz⟩:=rp.three
 cases PM
 cases ru
 cases rz
 exact⟨i,j,k,rfl,hc,hp _ Hs H1 (.refl sr.gr.sub) zG⟩
end
def jP:List PV->List PV->List PV->List PV
 | x::xs,y::ys,z::zs=>.tup [x,y,z]::jP xs ys zs
 | _,_,_=>[]
theorem rF:∀ {xs ys zs:List PV} {i:Nat} (h1:i<xs.length) (h2:i<ys.length) (h3:i<zs.length),(jP xs ys zs)[i]?=some (.tup [xs[i],ys[i],zs[i]])
 | x::xs,y::ys,z::zs,0,_,_,_=>rfl
 | x::xs,y::ys,z::zs,i+1,h1,h2,h3=>by
  show (jP xs ys zs)[i]?=_
  exact rF (xs:=xs) (ys:=ys) (zs:=zs) (i:=i) (by simpa using h1) (by simpa using h2) (by simpa using h3)
 | [],_,_,_,h1,_,_=>by simp at h1
 | _::_,[],_,_,_,h2,_=>by simp at h2
 | _::_,_::_,[],_,_,_,h3=>by simp at h3
theorem kB:∀ {xs ys zs:List PV},(jP xs ys zs).length=min xs.length (min ys.length zs.length)
 | x::xs,y::ys,z::zs=>by
  show (jP xs ys zs).length+1=_
  rw[kB]
  simp only[List.length_cons]
  omega
 | [],_,_=>by simp[jP]
 | _::_,[],_=>by simp[jP]
 | _::_,_::_,[]=>by simp[jP]
def wo:List PV->M (List PV)
 | [p,q,r]=>match bX p,bX q,bX r with
  | some xs,some ys,some zs=>M.ok (jP xs ys zs)
  | _,_,_=>none
 | _=>none
section
variable{K:PySem.W.Frag}{fs:af->M (List PV)}
theorem z_{b1 b2 b3:Bool}{a1 a2 a3:Addr}{ys zs:List PV}{us ws:List V}(OD:∀ N2 H',bB N7 N2->bB N2 H'->k4 K H' b1 a1 vs)(Qw:aS N7 xs vs)(Ou:∀ N2 H',bB N7 N2->bB N2 H'->k4 K H' b2 a2 us)(Qx:aS N7 ys us)
  (P5:∀ N2 H',bB N7 N2->bB N2 H'->k4 K H' b3 a3 ws) (RB:aS N7 zs ws):jZ (Md K b1 b2 b3 a1 a2 a3) N7 (jP xs ys zs) where
 stop:=λi Hs H s1 s2 hi=>by
  rw[kB,Qw.length,Qx.length,RB.length] at hi
  exact⟨vs,us,ws,OD Hs H s1 s2,Ou Hs H s1 s2,P5 Hs H s1 s2,by omega⟩
 go:=λi Hs H s1 s2 hi=>by
  rw[kB] at hi
  obtain⟨v,e,_⟩:=Qw.get (List.getElem?_eq_getElem (show i<xs.length by omega))
  obtain⟨u,e',_⟩:=Qx.get (List.getElem?_eq_getElem (show i<ys.length by omega))
  obtain⟨w,e'',_⟩:=RB.get (List.getElem?_eq_getElem (show i<zs.length by omega))
  exact⟨vs,us,ws,v,u,w,OD Hs H s1 s2,Ou Hs H s1 s2,P5 Hs H s1 s2,e,e',e''⟩
 tR:=λi Hs H x H2 s1 s2 hi y=>by
  rw[kB] at hi
  have l1:i<xs.length:=by omega
  have l2:i<ys.length:=by omega
  have l3:i<zs.length:=by omega
  obtain⟨v,e,r⟩:=Qw.get (List.getElem?_eq_getElem l1)
  obtain⟨u,e',r'⟩:=Qx.get (List.getElem?_eq_getElem l2)
  obtain⟨w,e'',RM⟩:=RB.get (List.getElem?_eq_getElem l3)
  obtain⟨pa,v',u',w',hn,rfl,rfl,y1,y2,y3⟩:=y
  have z1:=y1 vs (OD Hs H s1 s2)
  have z2:=y2 us (Ou Hs H s1 s2)
  have z3:=y3 ws (P5 Hs H s1 s2)
  rw[e] at z1;cases z1
  rw[e'] at z2;cases z2
  rw[e''] at z3;cases z3
  have gr:=bP.new (o:=.tup [v,u,w]) s2 hn
  exact⟨_,_,rF l1 l2 l3,gr,.tup aB (.cons ((r.mono s1).mono gr.st) (.cons ((r'.mono s1).mono gr.st) (.cons ((RM.mono s1).mono gr.st) .nil)))⟩
theorem zE{ps:List PV}{Q:List PV->Prop}{F:EX->Prop}(h:av (wo ps) Q F):∃ p q r xs ys zs,ps=[p,q,r]/\bX p=some xs/\bX q=some ys/\bX r=some zs/\Q (jP xs ys zs):=by
 unfold wo at h
 split at h
 ·split at h
  ·exact⟨_,_,_,_,_,_,rfl,by assumption,by assumption,by assumption,h⟩
  ·exact h.elim
 ·exact h.elim
theorem uM:ym E (F3 K (tL E fs)) (ja wo fs):=by
 intro σ H R q
 refine dm (K:=KI R) KI.g q λB H₀ Hs H1 env ps v sr rp hp=>?_
 obtain⟨p,q,r,xs,ys,zs,rfl,e1,e2,e3,hp⟩:=zE hp
 obtain⟨w,u,z,rfl,PM,ru,rz⟩:=rp.three
 obtain⟨b1,a1,vs,rfl,OD,Qw⟩:=ky (K:=K) sr.gr.sub PM e1
 obtain⟨b2,a2,us,rfl,Ou,Qx⟩:=ky (K:=K) sr.gr.sub ru e2
 obtain⟨b3,a3,ws,rfl,P5,RB⟩:=ky (K:=K) sr.gr.sub rz e3
 exact⟨b1,b2,b3,a1,a2,a3,rfl,⟨vs,OD Hs H1 (λ_ _ z=>z) sr.gr.sub⟩,⟨us,Ou Hs H1 (λ_ _ z=>z) sr.gr.sub⟩,⟨ws,P5 Hs H1 (λ_ _ z=>z) sr.gr.sub⟩,hp _ Hs H1 (.refl sr.gr.sub) (z_ OD Qw Ou Qx P5 RB)⟩
end
def nL(i j k:Nat):PV->af->M af
 | .tup [p,q,r],env=>M.ok (((env.set i (some (.sh p))).set j (some (.sh q))).set k (some (.sh r)))
 | _,_=>none
theorem xZ{E:XK}{K:PySem.W.Frag}:C2 E (iJ K 3 (bA (aC i) (bA (aC j) (bA (aC k) iQ)))) (nL i j k):=by
 intro B H₀ Hs H σ env p v Q Z sr r h
 cases r with
 | @tup a xs vs ha hx =>
  match xs,hx with
  | [p,q,r],hx =>
   obtain⟨v,u,w,rfl,rp,rq,rr⟩:=hx.three
   exact⟨a,[v,u,w],rfl,hX.of (sr.gr.sub _ _ ha),rfl,v,[u,w],rfl,u,[w],rfl,w,[],rfl,rfl,h _ (((sr.set rp).set rq).set rr)⟩
  | [],_=>exact h.elim
  | [_],_=>exact h.elim
  | [_,_],_=>exact h.elim
  | _::_::_::_::_,_=>exact h.elim
 | _=>exact h.elim
theorem oO:lJ (nL i j k):=λp env e h n=>by
 unfold nL at h
 split at h
 ·cases h;exact kU (kU (kU n))
 ·cases h
variable{ie:Expr}
section
variable{E:XK}{pos:Pos}{fs:af->M (List PV)}{f h:af->M PV}
def ownAt(i:Nat)(env:af):M (List PV):=match env[i]? with
 | some (some (.ow xs))=>M.ok xs
 | _=>none
theorem av.own{env:af}{Q:List PV->Prop}{F:EX->Prop}(h:av (ownAt i env) Q F):∃ xs,env[i]?=some (some (.ow xs))/\Q xs:=by
 unfold ownAt at h
 split at h
 ·exact⟨_,by assumption,h⟩
 ·exact h.elim
def F4(i:Nat)(xs:List PV)(p:PV)(env:af):PV->M Out
 | .int n=>match An xs.length n with
  | some j=>M.ok (.nx (env.set i (some (.ow (xs.set j p)))))
  | none=>none
 | _=>none
def K1(i:Nat)(g f:af->M PV):af->M Out:=λenv=>(f env).bind λp=>(ownAt i env).bind λxs=>(g env).bind (F4 i xs p env)
theorem FA(hi:X.N[i]?=some x)(hv:A0 X.env.scope x)(hk:PE X ie (tE (λ_=>E) h))(he:PE X e (tE (λ_=>E) f))(hd:autoParam ((x==("__debug__" : Str))=false) aD._auto_1)(OX:autoParam ((x==("__classdict__" : Str))=false) aD._auto_1)
  (ha:autoParam (∀ v,assign (.Subscript (.Name x px) ie pos') X.env v=(do
   let ov ← holding [v] (eval (.Name x px) X.env)
   let iv ← holding [v,ov] (eval ie X.env)
   standAt pos'
   holding [v,ov,iv] (setItem ov iv v)
   release [v,ov,iv] [])) aI._auto_1)
  (hs:autoParam (swapsWithSole [.Subscript (.Name x px) ie pos'] e pos.line X.env=pure false) aR._auto_1) (hw:autoParam (swappedStores [.Subscript (.Name x px) ie pos'] e X.env=pure none) aR._auto_1)
  (h1:autoParam ((assignEach [.Subscript (.Name x px) ie pos'] X.env).map (·.2)=[assign (.Subscript (.Name x px) ie pos') X.env]) aR._auto_1):PS X (.Assign [.Subscript (.Name x px) ie pos'] e pos) (tS E (K1 i h f)):=by
 refine(Ib he (Je (lq hi hv hd OX) hk set_list ha) hs hw h1).imp λD σ H q=>j8 q λB H₀ Hs H1 env p v sr rp hp=>?_
 obtain⟨xs,ex,hp⟩:=av.own (av.bind hp)
 obtain⟨a,vs,h1,h2,h3,h4,h5⟩:=sr.ow i xs ex
 refine⟨.ref a,h1,B,H₀,Hs,env,sr,(av.bind hp).imp (λk hk w N8 H2 g2 rk=>?_) λe he=>he.grow sr.gr⟩
 have Oi:=sr.grow g2
 cases rk with
 | int n =>
  have Rv:av (match An xs.length n with | some j=>M.ok (Out.nx (env.set i (some (.ow (xs.set j p))))) | none=>none) (KS D B H₀) (XW E B H₀):=hk
  split at Rv
  ·rename_i j ej
   exact⟨a,vs,n,j,rfl,rfl,g2.al _ _ h2,by rw[← h5.length];exact ej,Rv σ N8 _ (Oi.put ex h1 ((h5.mono g2.st).set (rp.mono g2.st) j))⟩
  ·exact Rv.elim
 | _=>exact hk.elim
end
theorem KO.gr{Q:VK}:KG (KO Q):=λHs H N2 H' b k g vs p N8 H2 g2 r n=>k vs p N8 H2 (g.trans g2) r n
section
variable{sem:List PV->M (List PV)}{p pos:Pos}{fs:af->M (List PV)}{g:af->M PV}
end
mutual
def oP:PV->Bool
 | .da=>true
 | .bl _=>true
 | .int _=>true
 | .str _=>true
 | .tup xs=>mU xs
 | _=>false
def mU:List PV->Bool
 | []=>true
 | p::r=>oP p&&mU r
end
mutual
theorem Rep.away{Hs:Hp}{a:Addr}{ws:List V}(ha:Hs a=some (.lst ws)):∀ {p:PV} {v:V},Rep Hs p v->oP p=true->Rep (rem Hs a) p v
 | _,_,.da,_=>.da
 | _,_,.bl b,_=>.bl b
 | _,_,.int b,_=>.int b
 | _,_,.str b,_=>.str b
 | _,_,.tup (a:=c) h r,n=>by
  have nc:c≠a:=λz=>by subst z;rw[ha] at h;cases h
  exact .tup (by unfold rem;rw[if_neg nc];exact h) (r.away ha n)
 | _,_,.lst _ _,n=>by cases n
 | _,_,.jN _ _,n=>by cases n
 | _,_,.obj _ _,n=>by cases n
 | _,_,.xa _,n=>by cases n
 | _,_,.xE _ _ _,n=>by cases n
theorem aS.away{Hs:Hp}{a:Addr}{ws:List V}(ha:Hs a=some (.lst ws)):∀ {p:List PV} {v:List V},aS Hs p v->mU p=true->aS (rem Hs a) p v
 | _,_,.nil,_=>.nil
 | _,_,.cons h r,n=>by
  have n':=Bool.and_eq_true_iff.mp (show (oP _&&mU _)=true from n)
  exact .cons (h.away ha n'.1) (r.away ha n'.2)
end
def AZ:M PV->M PV
 | some (.ok p)=>cC (oP p=true) (M.ok p)
 | _=>none
theorem av.AZ{r:M PV}{Q:PV->Prop}{E:EX->Prop}(h:av (L2.AZ r) Q E):av r (λp=>oP p=true/\Q p) (λ_=>False):=by
 cases r with
 | none=>exact h
 | some r=>cases r with
  | error e=>exact h
  | ok p =>
   obtain⟨n,h⟩:=av.cC h
   exact⟨n,h⟩
theorem bP.back{N2 H':Hp}{ws:List V}(h1:Hs a=none)(hH:H a=some (.lst ws))(s:bB Hs H)(g:bP (upd Hs a (.lst ws)) H N2 H'):bP Hs H (rem N2 a) H'/\N2 a=some (.lst ws):=by
 have e:N2 a=some (.lst ws):=g.st _ _ aB
 refine⟨⟨λc u q=>?_,g.al,λc u q=>?_,λc u q1 q2=>?_⟩,e⟩
 ·have nc:c≠a:=λz=>by subst z;rw[h1] at q;cases q
  unfold rem;rw[if_neg nc]
  exact g.st c u (by rw[aw nc];exact q)
 ·unfold rem at q
  split at q
  ·cases q
  ·exact g.sub c u q
 ·unfold rem
  by_cases nc:c=a
  ·rw[if_pos nc]
  ·rw[if_neg nc]
   exact g.nw c u (by rw[aw nc];exact q1) q2
theorem SR.lend{B:Hp}{env:af}(r:SR B H₀ Hs H σ env)(e:env[i]?=some (some (.ow xs))):∃ a vs,Hs a=none/\H a=some (.lst vs)/\SR B H₀ (upd Hs a (.lst vs)) H σ (uA i env):=by
 obtain⟨a,vs,h1,h2,h3,h4,h5⟩:=r.ow i xs e
 refine⟨a,vs,h3,h2,?_⟩
 have ne:∀ c u,Hs c=some u->c≠a:=λc u q z=>by rw[z,h3] at q;cases q
 have Ol:bB Hs (upd Hs a (.lst vs)):=λc u q=>by rw[aw (ne c u q)];exact q
 unfold uA
 rw[e]
 refine⟨⟨λc u q=>Ol c u (r.gr.st c u q),r.gr.al,λc u q=>?_,λc u q1 q2=>?_⟩,by rw[List.length_set];exact r.len,λj q ej=>?_,λj ys ej=>?_,λj k ys zs b nj e1 e2 e3 e4=>?_,λj ba C fs ej=>?_,λj k _ _ C D fs gs e1 e2=>?_⟩
 ·by_cases z:c=a
  ·subst z;rw[aB] at q;cases q;exact h2
  ·rw[aw z] at q;exact r.gr.sub c u q
 ·have z:c≠a:=λz=>by rw[z,h4] at q2;cases q2
  rw[aw z];exact r.gr.nw c u q1 q2
 ·rw[List.getElem?_set] at ej
  by_cases z:i=j
  ·subst z
   rw[if_pos rfl] at ej
   split at ej
   ·cases ej
    exact⟨.ref a,h1,.lst aB (h5.mono Ol)⟩
   ·cases ej
  ·rw[if_neg z] at ej
   obtain⟨v,q1,q2⟩:=r.sh j q ej
   exact⟨v,q1,q2.mono Ol⟩
 ·rw[List.getElem?_set] at ej
  by_cases z:i=j
  ·subst z
   rw[if_pos rfl] at ej
   split at ej <;> cases ej
  ·rw[if_neg z] at ej
   obtain⟨b,us,q1,q2,q3,q4,q5⟩:=r.ow j ys ej
   have nb:b≠a:=λw=>by subst w;exact r.sep i j xs ys b z e ej h1 q1
   exact⟨b,us,q1,q2,by rw[aw nb];exact q3,q4,q5.mono Ol⟩
 ·rw[List.getElem?_set] at e1 e2
  by_cases z:i=j
  ·subst z
   rw[if_pos rfl] at e1
   split at e1 <;> cases e1
  ·by_cases z2:i=k
   ·subst z2
    rw[if_pos rfl] at e2
    split at e2 <;> cases e2
   ·rw[if_neg z] at e1
    rw[if_neg z2] at e2
    exact r.sep j k ys zs b nj e1 e2 e3 e4
 ·rw[List.getElem?_set] at ej
  by_cases z:i=j
  ·subst z
   rw[if_pos rfl] at ej
   split at ej <;> cases ej
  ·rw[if_neg z] at ej
   obtain⟨dx,us,q1,q2,q3,q4,q5⟩:=r.bd j ba C fs ej
   have nb:ba≠a:=λw=>by subst w;rw[h2] at q2;cases q2
   exact⟨dx,us,q1,q2,by rw[aw nb];exact q3,q4,q5.mono Ol⟩
 ·rw[List.getElem?_set] at e1 e2
  by_cases z:i=j
  ·subst z
   rw[if_pos rfl] at e1
   split at e1 <;> cases e1
  ·by_cases z2:i=k
   ·subst z2
    rw[if_pos rfl] at e2
    split at e2 <;> cases e2
   ·rw[if_neg z] at e1
    rw[if_neg z2] at e2
    exact r.one j k _ _ C D fs gs e1 e2
def uI(i:Nat)(f:af->M PV):af->M PV:=λenv=>(ownAt i env).bind λ_=>AZ (f (uA i env))
section
variable{f:af->M PV}{u:af->M Bool}
theorem yA(i:Nat)(he:PE X e (tE E f)):PE X e (tE E (uI i f)):=he.imp fun σ H Q q=>by
 obtain⟨B,H₀,Hs,env,sr,q⟩:=q
 obtain⟨xs,ex,q⟩:=av.own (av.bind q)
 obtain⟨a,vs,h3,h2,Oi⟩:=sr.lend ex
 refine⟨B,H₀,_,_,Oi,(av.AZ q).imp (λp hp v N2 H' g r=>?_) λ_ z=>z.elim⟩
 obtain⟨g2,ea⟩:=bP.back h3 h2 sr.gr.sub g
 exact hp.2 v _ _ g2 (r.away ea hp.1)
def Lp(i:Nat)(f:af->M PV):af->M PV:=λenv=>(ownAt i env).bind λxs=>(f env).bind λk=>aP (.lst xs) k
theorem BI{pos:Pos}(hi:X.N[i]?=some x)(hv:A0 X.env.scope x)(hk:PE X ie (tE E f))(hs:oJ ie)(hd:autoParam ((x==("__debug__" : Str))=false) aD._auto_1)(OX:autoParam ((x==("__classdict__" : Str))=false) aD._auto_1) :
  PE X (.Subscript (.Name x px) ie pos) (tE E (Lp i f)):=(Gk CP (lq hi hv hd OX) hk hs).imp fun σ H Q q=>by
 obtain⟨B,H₀,Hs,env,sr,q⟩:=q
 obtain⟨xs,ex,q⟩:=av.own (av.bind q)
 obtain⟨a,vs,h1,h2,h3,h4,h5⟩:=sr.ow i xs ex
 refine⟨.ref a,h1,B,H₀,Hs,env,sr,(av.bind q).imp (λk hk w N8 H2 g2 rk=>?_) λe he=>he⟩
 cases rk with
 | int n =>
  obtain⟨y,ey,h⟩:=av.opt (show av (dJ (rN xs n)) _ _ from hk)
  obtain⟨v,e1,e2⟩:=(h5.mono g2.st).rN ey
  exact .inl ⟨a,vs,n,v,rfl,rfl,gS.of (g2.al _ _ h2),e1,h v _ _ g2 e2⟩
 | _=>exact hk.elim
end
def cy:PV->PV->M PV:=nU (λ_ j=>decide (j≠0/\j.natAbs.log2<9000)) λi j=>i.fdiv j
def cz:PV->PV->M PV:=nU (λ_ j=>decide (j≠0)) λi j=>i.fmod j
def xq:PV->PV->M PV:=nU (λi j=>decide (0<=j/\j<=1000000/\i.natAbs<2^64)) λi j=>i^j.toNat
def As:PV->PV->M PV:=Bz λi j=>decide (i<j)
def Cm:PV->PV->M PV:=Bz λi j=>decide (i<=j)
def FV:PV->PV->M PV:=Bz λi j=>decide (j<i)
def JA:PV->PV->M PV:=Bz λi j=>decide (j<=i)
theorem AW:kE E (rI A_ λi j=>.int (i.fdiv j)) cy:=DC
theorem Fq:kE E (rI (λ_ j=>j≠0) λi j=>.int (i.fmod j)) cz:=IB
theorem DG:kE E (rI By λi j=>.int (i^j.toNat)) xq:=GS
theorem tZ:kE E (wj λi j=>.bl (decide (i<j))) As:=uz
theorem mT:kE E (wj λi j=>.bl (decide (i<=j))) Cm:=uz
theorem Bi:kE E (wj λi j=>.bl (decide (j<i))) FV:=uz
theorem AN:kE E (wj λi j=>.bl (decide (j<=i))) JA:=uz
def bp(n:Nat)(s:List PV->M PV):List PV->M PV:=λps=>cC (ps.length=n) (s ps)
theorem pA{s:List PV->M PV}{ps:List PV}(h:bp n s ps≠none):ps.length=n:=by
 unfold bp cC at h
 split at h
 ·assumption
 ·exact(h rfl).elim
variable{dv:Value}
section
variable{K:PySem.W.Frag}
theorem Cy{s:List PV->M PV}(F:aQ P w K mg base (bQ P w) k f fd ps (dc n s)):aQ P w K mg base (bQ P w) k f fd ps (dc n (bp n s)) where
 len:=λvs H Q E h=>by
  obtain⟨h0,Hs,qs,sm,r,h⟩:=h
  exact F.len vs H Q E ⟨h0,Hs,qs,sm,r,(av.cC h).2⟩
 run:=λA outer s H args us vs Q E hr e hb rv h=>by
  obtain⟨h0,Hs,qs,sm,r,h⟩:=h
  exact F.run A outer s H args us vs Q E hr e hb rv ⟨h0,Hs,qs,sm,r,(av.cC h).2⟩
structure cT (P:Program) (w:World) (K:PySem.W.Frag) (mg:Str->Option Value) (base:Heap) (n:Nat) (x:Str) (m:Nat) (sem:List PV->M PV):Prop where
 ex:∃ (f:Addr) (fd:FuncData) (ps:List Str),mg x=some (.ref f)/\PySem.W.keepIn K (.ref f)=true/\ps.length=m/\Binds K fd ps []/\aQ P w K mg base (bQ P w) n f fd ps (dc m (bp m sem))
theorem bc.NG{st:Stmt}{g:af->M Out}(F:bc K x qual st dv f fd)(S:cx N ps (aZ st))
  (hb:∀ (Oh:Value) (A:Around) (outer:List Env) (s:Shared) (H:Hp) (E:XK),cv k (A.deeper (envOfC qual (aZ st) s.heap.objs.size f Oh))->eZ ((lO (bQ P w) P w K mg base N qual (aZ st) f Oh A outer s H E).out λ_=>E) (λ_=>E)->kq ((lO (bQ P w) P w K mg base N qual (aZ st) f Oh A outer s H E).out λ_=>E) (eU st) (tS E g)) :
  aQ P w K mg base (bQ P w) (k+1) f fd ps (dc ps.length (bp ps.length (ay N.length g))):=by
 obtain⟨oc,od,kV,doc,pm,an,Oh,ct,QG,rfl,lk,OX⟩:=F.ex
 exact Cy (GY lk OX S λA outer s H E hr=>hb Oh A outer s H E hr (Ba rfl rfl))
end
section
variable{m:Nat}{sem:List PV->M PV}{fs:af->M (List PV)}{p pos:Pos}
theorem cT.call(F:cT X.prog X.w X.K X.mg X.base n x m sem)(hr:cv k X.A)(hn:n<=k)(hg:Gl X x)(O:eZ X E)(ha:PA X (e::es) (tL E fs))(OU:autoParam ((x==("__debug__" : Str))=false) aD._auto_1)(he:autoParam (starEach (e::es) X.env=(false,eval e X.env)::starEach es X.env) aR._auto_1)(Og:autoParam ((backTo pos (starEach es X.env)).any (·.1)=false) aR._auto_1) :
  PE X (.Call (.Name x p) (e::es) [] pos) (tE E (ai (bp m sem) fs)):=by
 obtain⟨f,fd,ps,h1,h2,h3,h4,h5⟩:=F.ex
 have:=EJ (p:=p) (PJ:=[]) h5 (hr.mono hn) hg h1 h2 h4 .nil (λ_=>.nil) O (λPL hp=>by rw[List.append_nil] at hp;exact pA hp) ha OU he Og
 refine this.imp fun σ H Q q=>?_
 have e:(λps=>bp m sem (ps++[]))=bp m sem:=by funext ps;rw[List.append_nil]
 rw[e];exact q
structure kz (P:Program) (w:World) (K:PySem.W.Frag) (mg:Str->Option Value) (base:Heap) (C:Addr) (n:Nat) (x:Str) (m:Nat) (sem:List PV->M PV):Prop where
 ex:∃ (f:Addr) (fd:FuncData) (ps:List Str),kP K C/\Meth K C x f/\Binds K fd ps []/\aQ P w K mg base (bQ P w) n f fd ps (dc m (bp m sem))
theorem kz.call{g:af->M PV}(F:kz X.prog X.w X.K X.mg X.base C n x m sem)(hr:cv k X.A)(hn:n<=k)(O:eZ X E)(ho:PE X o (tE E g))(ha:PA X (e::es) (tL E fs))
  (Ol:autoParam (starEach (e::es) X.env=(false,eval e X.env)::starEach es X.env) aR._auto_1) (Og:autoParam ((backTo pos (starEach es X.env)).any (·.1)=false) aR._auto_1)
  (ht:autoParam (eval (.Call (.Attribute o x apos) (e::es) [] pos) X.env=(do
   let ov ← eval o X.env
   standAt apos.atName
   let (f,first) ← holding [ov] (getMethod ov x pl)
   callWith pos f first (backTo pos (starEach (e::es) X.env)) (backToKw pos (keywordEach [] X.env)))) aR._auto_1) :
  PE X (.Call (.Attribute o x apos) (e::es) [] pos) (tE E (bJ C x (bp m sem) g fs)):=by
 obtain⟨f,fd,ps,h1,h2,h3,h4⟩:=F.ex
 exact Ex ho h1 h2 h4 (hr.mono hn) h3 O (λPL hp=>pA hp) ha Ol Og ht
theorem kz.KN{g:af->M PV}(F:kz X.prog X.w X.K X.mg X.base C n x m sem)(hr:cv k X.A)(hn:n<=k)(O:eZ X E)(ho:PE X o (tE E g))
  (ht:autoParam (eval (.Call (.Attribute o x apos) [] [] pos) X.env=(do
   let ov ← eval o X.env
   standAt apos.atName
   let (f,first) ← holding [ov] (getMethod ov x pl)
   callWith pos f first (backTo pos (starEach [] X.env)) (backToKw pos (keywordEach [] X.env)))) aR._auto_1) :
  PE X (.Call (.Attribute o x apos) [] [] pos) (tE E (bJ C x (bp m sem) g ak)):=by
 obtain⟨f,fd,ps,h1,h2,h3,h4⟩:=F.ex
 exact Ar ho h1 h2 h4 (hr.mono hn) h3 O (λPL hp=>pA hp) ht
end
structure Al (P:Program) (w:World) (K:PySem.W.Frag) (mg:Str->Option Value) (base:Heap) (C:Addr) (n:Nat) (x:Str) (m:Nat) (PJ:List PV) (sem:Addr->List PV->M (List (Str×PV))):Prop where
 ex:∃ (f:Addr) (fd:FuncData) (ps:List Str) (ds:List Value) (OI:List V),mg x=some (.ref C)/\Mk K C f/\Binds K fd ps ds/\Vals OI ds/\(∀ H,aS H PJ OI)/\aQ P w K mg base (bQ P w) n f fd ps (Dv m C sem)
def mF(m:Nat)(sem:Addr->List PV->M (List (Str×PV))):Addr->List PV->M (List (Str×PV)):=λa ps=>cC (ps.length+1=m) (sem a ps)
theorem yV{K:PySem.W.Frag}{s:Addr->List PV->M (List (Str×PV))}(F:aQ P w K mg base (bQ P w) k f fd ps (Dv n C s)):aQ P w K mg base (bQ P w) k f fd ps (Dv n C (mF n s)) where
 len:=λvs H Q E h=>by
  obtain⟨h0,a,dx,us,Hs,H1,qs,e1,e2,e3,e4,e5,sm,r,h⟩:=h
  exact F.len vs H Q E ⟨h0,a,dx,us,Hs,H1,qs,e1,e2,e3,e4,e5,sm,r,(av.cC h).2⟩
 run:=λA outer s H args us vs Q E hr e hb rv h=>by
  obtain⟨h0,a,dx,us',Hs,H1,qs,e1,e2,e3,e4,e5,sm,r,h⟩:=h
  exact F.run A outer s H args us vs Q E hr e hb rv ⟨h0,a,dx,us',Hs,H1,qs,e1,e2,e3,e4,e5,sm,r,(av.cC h).2⟩
theorem bc.Li{K:PySem.W.Frag}{st:Stmt}{g:af->M Out}(F:bc K x qual st dv f fd)(S:cx N ps (aZ st))(hN:0<N.length)
  (hb:∀ (Oh:Value) (A:Around) (outer:List Env) (s:Shared) (H:Hp) (E:XK),cv k (A.deeper (envOfC qual (aZ st) s.heap.objs.size f Oh))->eZ ((lO (bQ P w) P w K mg base N qual (aZ st) f Oh A outer s H E).out λ_=>E) (λ_=>E)->kq ((lO (bQ P w) P w K mg base N qual (aZ st) f Oh A outer s H E).out λ_=>E) (eU st) (tS E g)) :
  aQ P w K mg base (bQ P w) (k+1) f fd ps (Dv ps.length C (mF ps.length (rA N.length g C))):=by
 obtain⟨oc,od,kV,doc,pm,an,Oh,ct,QG,rfl,lk,OX⟩:=F.ex
 exact yV <| Fj lk OX S hN λA outer s H E hr=>hb Oh A outer s H E hr (Ba rfl rfl)
section
variable{m:Nat}{fs:af->M (List PV)}{p pos:Pos}
theorem Al.make{sem:Addr->List PV->M (List (Str×PV))}(F:Al X.prog X.w X.K X.mg X.base C n x m PJ (mF m sem))(hr:cv k X.A)(hn:n+1<=k)(hg:Gl X x)(O:eZ X E)(ha:PA X (e::es) (tL E fs))(OU:autoParam ((x==("__debug__" : Str))=false) aD._auto_1)(he:autoParam (starEach (e::es) X.env=(false,eval e X.env)::starEach es X.env) aR._auto_1)(Og:autoParam ((backTo pos (starEach es X.env)).any (·.1)=false) aR._auto_1) :
  PE X (.Call (.Name x p) (e::es) [] pos) (tE E (ai (e_ C (mF m sem) PJ) fs)):=by
 obtain⟨f,fd,ps,ds,OI,h1,h2,h4,h5,h6,h7⟩:=F.ex
 refine Fp (p:=p) h2 h7 (hr.mono hn) hg h1 h4 h5 h6 O (λa PL hp=>?_) ha OU he Og
 unfold mF cC at hp
 split at hp
 ·rename_i h;rwa [List.length_append] at h
 ·exact(hp rfl).elim
end
def pH:Addr->Option Bool:=λ_=>none
theorem lC{P:Addr->Bool->Prop}:∀ C b,pH C=some b->P C b:=λ_ _ h=>by cases h
theorem vr{pos:Pos}(i:Nat)(hN:autoParam (X.N[i]?=some x) aR._auto_1)(hv:A0 X.env.scope x:=by first | exact .inl rfl | exact .inr (.inl rfl) | exact .inr (.inr rfl))(hd:autoParam ((x==("__debug__" : Str))=false) aD._auto_1)(OX:autoParam ((x==("__classdict__" : Str))=false) aD._auto_1):PE X (.Name x pos) (tE E (ae i)):=Jf hN hv hd OX
theorem FJ{env:Env}(h:(match e with | .Starred ..=>true | _=>false)=false):starEach (e::es) env=(false,eval e env)::starEach es env:=by
 cases e <;> first | rfl | cases h
def kA:List Expr->Option (List Int)
 | []=>some []
 | .Constant (.int i) _ _::r=>(kA r).map (i::·)
 | _=>none
section
variable{pos:Pos}
theorem yG:∀ {es:List Expr} {ns:List Int},kA es=some ns->PA X es (tL E λ_=>M.ok (ns.map PV.int))
 | [],_,h=>by cases h;exact BE
 | .Constant (.int i) j p::r,ns,h=>by
  obtain⟨ms,h1,rfl⟩:=Option.map_eq_some_iff.mp (show (kA r).map (i::·)=some ns from h)
  exact yH Bj (yG h1) (FJ rfl)
theorem EL(ns:List Int)(h:autoParam (kA es=some ns) aR._auto_1)(hz:autoParam (ns.length<=1000) aD._auto_1):PE X (.List es pos) (tE E λ_=>M.ok (.lst (ns.map PV.int))):=by
 refine(CG (E:=E) (yG h)).imp fun σ H Q q=>?_
 have e:(mC λ_=>M.ok (ns.map PV.int))=λ_=>M.ok (.lst (ns.map PV.int)):=by
  funext env
  show cC _ _=_
  unfold cC
  rw[if_pos (by rw[List.length_map];exact Nat.le_trans hz (by decide))]
 rw[e];exact q
end
def Aw:PV->PV->M (List PV)
 | .lst xs,.int k=>cC (-(2^63)<=k/\k<2^63/\xs.length*k.toNat<=sizeLine) (M.ok (List.replicate k.toNat xs).flatten)
 | _,_=>none
def Hf(f g:af->M PV):af->M (List PV):=λenv=>(f env).bind λp=>(g env).bind λq=>Aw p q
section
variable{a b:Expr}{pos:Pos}{f g:af->M PV}
theorem HV(ha:PE X a (tE E f))(hb:PE X b (tE E g)):PE X (.BinOp a .Mult b pos) (tO E (Hf f g)):=by
 refine(Gj Ca ha hb).imp fun σ H Q q=>bZ (K:=KO Q) KO.gr q λB H₀ Hs H1 env p v sr rp hp=>?_
 refine⟨B,H₀,Hs,env,sr,(av.bind hp).imp (λq hq u N2 H' g' ru=>?_) λe he=>he⟩
 have PH:=sr.grow g'
 have rp':=rp.mono g'.st
 cases rp' with
 | @lst l xs vs ha hx=>cases ru with
  | int k =>
   obtain⟨⟨h1,h2,h3⟩,h⟩:=av.cC hq
   exact⟨l,k,vs,rfl,rfl,PH.gr.sub _ _ ha,h1,h2,by rw[← hx.length];exact h3,λp n=>h _ p N2 H' g' (hx.rep _) n⟩
  | _=>exact hq.elim
 | _=>exact hq.elim
end
structure zm (K:PySem.W.Frag) (mg:Str->Option Value) (C:Addr) (x:Str):Prop where
 hc:PySem.W.excIn K C fe "ValueError.__new__" = true
 c:f9 K C
 ht:PySem.W.typeIn K (.ref C)=some (.type "type")
 kp:PySem.W.keepIn K (.ref C)=true
 m:mg x=some (.ref C)
structure rC (P:Program) (w:World) (K:PySem.W.Frag) (mg:Str->Option Value) (base:Heap) (C:Addr) (x fl:Str):Prop where
 ex:∃ (f:Addr) (fd:FuncData) (ps:List Str),qf K C "ValueError.__new__" f=true/\PySem.W.isFn K (.ref f)=true/\aQ P w K mg base (bQ P w) 1 f fd ps (Aa K C fl)/\Binds K fd ps []
 c:f9 K C
 ht:PySem.W.typeIn K (.ref C)=some (.type "type")
 kp:PySem.W.keepIn K (.ref C)=true
 m:mg x=some (.ref C)
section
variable{E:XK}{pos p:Pos}{fl:Str}{fs:af->M (List PV)}
theorem zm.raise(F:zm X.K X.mg C x)(O:eZ X λ_=>E)(N4:X.calm=true)(hg:Gl X x)(ha:PA X (e::es) (tL (λ_=>E) fs))
  (OU:autoParam ((x==("__debug__" : Str))=false) aD._auto_1) (he:autoParam (starEach (e::es) X.env=(false,eval e X.env)::starEach es X.env) aR._auto_1) (Og:autoParam ((backTo Oa (starEach es X.env)).any (·.1)=false) aR._auto_1) :
  PS X (.Raise (some (.Call (.Name x p) (e::es) [] Oa)) none pos) (tS E (kn C fs)):=zy O N4 F.hc F.c F.ht F.kp hg F.m ha OU he Og
theorem rC.raise(F:rC X.prog X.w X.K X.mg X.base C x fl)(hr:cv k X.A)(hn:2<=k)(O:eZ X λ_=>E)(N4:X.calm=true)(hg:Gl X x)(ha:PA X [e] (tL (λ_=>E) fs))
  (OU:autoParam ((x==("__debug__" : Str))=false) aD._auto_1) (he:autoParam (starEach [e] X.env=(false,eval e X.env)::starEach [] X.env) aR._auto_1) (Og:autoParam ((backTo Oa (starEach [] X.env)).any (·.1)=false) aR._auto_1) :
  PS X (.Raise (some (.Call (.Name x p) [e] [] Oa)) none pos) (tS E (jo C fl fs)):=by
 obtain⟨f,fd,ps,h1,h2,h3,h4⟩:=F.ex
 exact zw O N4 h1 h2 F.c F.ht F.kp h3 (hr.mono hn) h4 hg F.m ha OU he Og
end
def K0(i j:Nat)(env:af):List PV->M Out
 | [p,q]=>M.ok (.nx ((env.set i (some (.sh p))).set j (some (.sh q))))
 | _=>none
def IF(i j:Nat)(fs:af->M (List PV)):af->M Out:=λenv=>(fs env).bind (K0 i j env)
theorem Iz{E:XK}{a b:Expr}{fs:af->M (List PV)}{py pt pos:Pos}{kt:Nat}{Rb:Pos}(hc:X.calm=true)(hN:X.N.Nodup)(hi:X.N[i]?=some x)(hj:X.N[j]?=some y)(hij:i≠j)
  (hx:X.env.scope.names.lookup x=some .local) (hy:X.env.scope.names.lookup y=some .local) (ha:PA X [a,b] (tL (λ_=>E) fs))
  (hw:swappedStores [.Tuple [.Name x px,.Name y py] kt pt] (.Tuple [a,b] k2 Rb) X.env=pure (some [x,y]))
  (hs:autoParam (swapsWithSole [.Tuple [.Name x px,.Name y py] kt pt] (.Tuple [a,b] k2 Rb) pos.line X.env=pure false) aR._auto_1) :
  PS X (.Assign [.Tuple [.Name x px,.Name y py] kt pt] (.Tuple [a,b] k2 Rb) pos) (tS E (IF i j fs)):=by
 refine(Ii hc hN hi hj hij hx hy ha hw hs).imp λD σ H q=>pJ q λB H₀ Hs H1 env ps v sr rp hp=>?_
 match ps,rp,hp with
 | [],_,hp=>exact hp.elim
 | [_],_,hp=>exact hp.elim
 | _::_::_::_,_,hp=>exact hp.elim
 | [p,q],rp,hp =>
  obtain⟨v,u,rfl,r1,r2⟩:=rp.two
  exact⟨v,u,rfl,hp _ Hs H1 ((sr.set r1).set r2)⟩
section
variable{pos:Pos}
end
section
variable{cl:List (Str×Addr)}{pos:Pos}{wi:TI}{it:af->M (List PV)}{g:TG}{set:PV->af->M af}{f:af->M PV}{fs:List Str}
theorem C_{Q:VK}(hv:ym E wi it)(Qk:∀ E,C2 E g set)(so:lJ set)(q:tO E (bF it set none f ts.length js) σ H Q):wu wi g (tE EF f) ts js σ H Q:=by
 refine hv σ H _ ?_
 obtain⟨B,H₀,Hs,env,sr,q⟩:=q
 refine⟨B,H₀,Hs,env,sr,(av.bind q).imp (λxs hp J N7 H1 gr ok D hD=>?_) λe he=>he⟩
 obtain⟨hz,hp⟩:=av.cC hp
 have hp:=av.yS hp
 have QH:=sr.grow gr
 refine⟨λi m σ H=>m=xs.length-i/\i<=xs.length/\Jc set none f Q N7 H1 D xs i σ H,⟨xs.length,by simp,Nat.zero_le _,N7,_,[],[],QH.block hD,dw,aB,?_,.nil,Nat.le_refl _,hp.imp (λzs hz vs p N8 H2 g2 r n=>hz vs p N8 H2 (gr.trans g2) r n) λ_ z=>z⟩,?_⟩
 ·cases z:N7 D with
  | none=>rfl
  | some o=>have:=gr.sub _ _ z;rw[hD] at this;cases this
 rintro i m σ' H2 ⟨rfl,hi,N8,env2,ys,vs,Oi,n2,d1,d2,r2,l2,h2⟩
 by_cases Oy:i<xs.length
 ·refine .inr ⟨ok.go i N8 H2 Oi.gr.st Oi.gr.sub Oy,Jc set none f Q N7 H1 D xs (i+1),fun σ3 H3 j=>⟨xs.length-(i+1),by omega,rfl,Oy,j⟩,λx H3 y=>?_⟩
  obtain⟨p,Pe,ep,g3,r3⟩:=ok.tR i N8 H2 x H3 Oi.gr.st Oi.gr.sub Oy y
  have hd:xs.drop i=p::xs.drop (i+1):=by
   rw[List.drop_eq_getElem_cons Oy]
   rw[List.getElem?_eq_getElem Oy] at ep
   rw[Option.some.inj ep]
  rw[hd] at h2
  have h3:=av.bind h2
  have PX:=Oi.grow g3
  refine Qk (λ_ _ _=>False) N7 H1 Pe H3 σ' env2 p x _ (λ_=>False) PX r3 ?_
  cases hset:set p env2 with
  | none=>rw[hset] at h3;exact h3
  | some z=>cases z with
   | error e=>rw[hset] at h3;exact h3
   | ok e3 =>
    rw[hset] at h3
    intro σ4 sr4
    have n4:=so p env2 e3 hset n2
    refine⟨N7,H1,Pe,e3,sr4,(av.bind h3).imp (λy hy v QK H5 g5 r5=>?_) λ_ z=>z.elim⟩
    exact Jc.put (set:=set) (t:=none) (f:=f) hD (sr4.grow g5) n4 (g5.al _ _ (g3.al _ _ d1)) (g5.nw _ _ (g3.nw _ _ d2 d1) (g3.al _ _ d1)) ((r2.mono g3.st).mono g5.st) l2 (by omega) r5 hy
 ·refine .inl ⟨ok.stop i N8 H2 Oi.gr.st Oi.gr.sub (by omega),?_⟩
  exact Jc.done (set:=set) (t:=none) (f:=f) (xs:=xs) (N7:=N7) (H1:=H1) (i:=i) hD ⟨N8,env2,ys,vs,Oi,n2,d1,d2,r2,l2,h2⟩ (by omega)
variable{E:XK}{py Po:Pos}
theorem kO(N4:X.calm=true)
  (Oc:closureFor scope X.env=pure cl) (hk:scope.kind=.function) (nc:eQ scope.names=true) (lo:fK scope.names=true) (fh:fN cl scope.names=true) (ag:dP X cl) (fr:g9 X scope cl fs js)
  (hi:PI X tg iter wi) (hv:ym (λ_=>E) wi it) (hg:∀ C s₀ H₀ ex NX,PG (mw X scope cl (ts++fs) C s₀ H₀ ex NX) tg g) (Qk:∀ E,C2 E g set) (so:lJ set) (he:∀ C s₀ H₀ ex NX,PE (mw X scope cl (ts++fs) C s₀ H₀ ex NX) elt (tE EF f))
  (hN:X.N.Nodup) (Q6:X.N[i]?=some y) (hy:Loc X.env.scope y)
  (hs:autoParam (∀ x,foldedSetIterable iter X.env x=pure x) aI._auto_1) (QS:autoParam (swapsWith (.ListComp elt [⟨tg,iter,[],0⟩] scope pos) (some (.Name y py)) Po.line X.env=pure true) aR._auto_1)
  (hf:autoParam (X.fn y=true\/X.env.scope.names.lookup y=some .local) aF._auto_1) :
  PS X (.Assign [.Name y py] (.ListComp elt [⟨tg,iter,[],0⟩] scope pos) Po) (tS E (bf i (bM (bF it set none f ts.length js)))):=by
 refine(DH hN Q6 hy N4 Oc hk nc lo fh ag fr hi hg he hs QS hf).imp λD σ H q=>?_
 refine C_ hv Qk so ?_
 obtain⟨B,H₀,Hs,env,sr,q⟩:=q
 refine⟨B,H₀,Hs,env,sr,(av.bind (av.bind q)).imp (λps hp vs p N2 H' g r n=>?_) λe he=>he.grow sr.gr⟩
 have gn:=bP.new (o:=.lst vs) g.sub n
 exact hp _ _ _ ((sr.grow (g.trans gn)).set (.lst aB (r.mono gn.st)))
end
section
variable{a:Expr}{ta:TA}{p pos:Pos}
end
section
variable{fs:af->M (List PV)}{a:Expr}{p p2 pos pos2:Pos}
end
section
open AutoSeq1 (wpAny_loadPart')
theorem z8(l:Addr)(items:Array Value)(n:Nat)(dct:Option Addr)(sl:Array (Option Value)) :
  Meets (Builtin.«enumerate.__new__» ⟨[.type "enumerate", .ref l],[]⟩) (λ_ R s=>s.heap.get? l=some { cls:=.type "tuple", dict:=dct,data:=.seq items n,slots:=sl } ∧
   R (.ok (.ret (.ref (s.heap.push { cls:=.type "tuple_iterator", data:=.fields #[.ref l,.int 0 0] }).objs.size)))
    { s with heap:=(s.heap.push { cls:=.type "tuple_iterator", data:=.fields #[.ref l,.int 0 0] }).push { cls:=.type "enumerate", data:=.fields #[.none,.bool false,.ref s.heap.objs.size,rawInt 0,.none,.none] } }) :=
 .of_wp λprog w A R s h=>by
  obtain⟨hp,g,d,tk,os⟩:=s;obtain⟨hl,h⟩:=h
  have RC:=sub_enumerate
  have hL:Heap.IsTuple (Shared.heap ⟨hp,g,d,tk,os⟩) l items:=⟨_,hl,rfl,n,rfl⟩
  wp_walk using wpAny_loadPart' hl
  refine wpAny_stack_any λst=>wpAny_pure ?_
  split
  ·rename_i c _ _ _ _ _
   cases (c==Value.type "enumerate")
   ·wp_walk using wpAny_loadPart' hl,wpAny_pyIter_tuple hL
    exact⟨_,rfl,h⟩
   ·wp_walk using wpAny_loadPart' hl,wpAny_pyIter_tuple hL
    exact⟨_,rfl,h⟩
  ·wp_walk using wpAny_loadPart' hl,wpAny_pyIter_tuple hL
   exact⟨_,rfl,h⟩
section
variable{E:Value->Shared->Prop}
theorem wM(hL:s.heap.IsTuple l items)
  (h:∀ h',IsEnum h' (s.heap.objs.size+1) s.heap.objs.size 0 .none->h'.IsTupleIter s.heap.objs.size l 0->h'.objs.size=s.heap.objs.size+2 ->
   (∀ b o,s.heap.get? b=some o->h'.get? b=some o)->Q (.ref (s.heap.objs.size+1)) { s with heap:=h' }) :
  wpAny (model prog w) A (call (.type "enumerate") [.ref l]) Q E s:=by
 obtain⟨⟨c,dct,dt,sl⟩,hl,hc,n,hd⟩:=hL
 replace hc:c=.type "tuple" := hc
 replace hd:dt=.seq items n:=hd
 subst hc hd
 refine callType_new F.called_enumerate (by decide) (F.typeCall_enumerate_1 _) (F.newCall_enumerate_1 _) (λobj=>F.args_object_init_2 obj _) F.entry_enumerate_new
  (z8 l items n dct sl) ⟨hl,?_⟩
 have hz:(s.heap.push { cls:=.type "tuple_iterator", data:=.fields #[.ref l,.int 0 0] }).objs.size=s.heap.objs.size+1:=Heap.size_push ..
 show _/\_
 rw[hz]
 have he:IsEnum ((s.heap.push { cls:=.type "tuple_iterator", data:=.fields #[.ref l,.int 0 0] }).push
   { cls:=.type "enumerate", data:=.fields #[.none,.bool false,.ref s.heap.objs.size,rawInt 0,.none,.none] }) (s.heap.objs.size+1) s.heap.objs.size 0 .none:=by
  have:=Heap.get?_push_size (s.heap.push { cls:=.type "tuple_iterator", data:=.fields #[.ref l,.int 0 0] })
   (o:={ cls:=.type "enumerate", data:=.fields #[.none,.bool false,.ref s.heap.objs.size,rawInt 0,.none,.none] }) rfl
  rw[hz] at this;exact this
 refine⟨⟨_,he,rfl⟩,h _ he ⟨_,Heap.get?_push_of_some _ (Heap.get?_push_size _ rfl),rfl,rfl⟩ (by rw[Heap.size_push,hz]) λb o x=>Heap.get?_push_of_some _ (Heap.get?_push_of_some _ x)⟩
end
theorem IM(hh:A.handled=none)(it t:Addr)(items:Array Value) :
  Draws prog w A it [it,t] items.size (λi v=>items[i]?=some v) (λi h=>h.IsTupleIter it t i/\h.IsTuple t items) where
 live:=λ_ _ st=>let ⟨⟨o,ho,_⟩,_⟩:=st;⟨o,ho⟩
 frame:=λ_ _ _ st hk=>by
  obtain⟨⟨o,ho,r⟩,⟨o2,Qi,r2⟩⟩:=st
  exact⟨⟨o,hk it (by simp) o ho,r⟩,⟨o2,hk t (by simp) o2 Qi,r2⟩⟩
 item:=λi s Q E hi st hQ=>by
  obtain⟨st,tt⟩:=st
  refine ip st tt (x:=items[i]) (by simp[hi]) λh' Q5 QR=>?_
  refine hQ _ h' s.toks (by simp[hi]) ⟨Q5,?_⟩ QR
  obtain⟨o,ho,c1,_⟩:=st
  obtain⟨o2,Qi,c2,r2⟩:=tt
  refine⟨o2,(QR.2 t λz=>?_).trans Qi,c2,r2⟩
  rw[z,ho] at Qi;cases Qi
  rw[c1] at c2;exact absurd c2 (by decide)
 done:=λs Q E st hE=>ff hh st.1 st.2 (by simp) hE
def HL (K : PySem.W.Frag) (a : Addr) : It :=
  ⟨λi H => ∃ xs x, hX K H a xs /\ xs[i]? = some x,
   λi H y H' => ∃ p x, H p = none /\ y = .ref p /\ H' = upd H p (.tup [.int i, x]) /\ ∀ xs, hX K H a xs -> xs[i]? = some x,
   λi H => ∃ xs, hX K H a xs /\ xs.length <= i⟩
theorem wN{K:PySem.W.Frag}{tp:Pos}(a e it:Addr)(P1:e≠it):Turn P w K (.Tuple elts x1 tp) (HL K a) [e,it] e (λi h=>(∃ old,IsEnum h e it i old)/\h.IsTupleIter it a i) where
 mem:=by simp
 obj:=λi h st b hb=>by
  obtain⟨⟨old,he⟩,⟨o,e1,c,d⟩⟩:=st
  rcases List.mem_cons.mp hb with z | z
  ·subst z
   exact⟨_,he,λv z=>by cases z⟩
  ·have z':b=it:=by simpa using z
   subst z'
   exact⟨o,e1,λv z=>by rw[d] at z;cases z⟩
 keep:=λi h h' st k=>by
  obtain⟨⟨old,he⟩,⟨o,ho,r⟩⟩:=st
  exact⟨⟨old,k e (by simp) _ he⟩,⟨o,k it (by simp) o ho,r⟩⟩
 item:=by
  intro X hP hw hK hc i NX s σ H E I hf st hg
  subst hP hw hK
  obtain⟨xs,x,hq,hx⟩:=hg
  obtain⟨NZ,rv,p,hz⟩:=I.tuple hq
  obtain⟨u,hu,ru⟩:=rv.get hx
  obtain⟨⟨old,he⟩,hit⟩:=st
  have Qr:e<s.heap.objs.size:=Heap.lt_size he
  have Q4:it<s.heap.objs.size:=by obtain⟨_,z,_⟩:=hit;exact Heap.lt_size z
  have hea:e ∉ [it,a]:=λz=>by
   rcases List.mem_cons.mp z with z | z
   ·exact P1 z
   ·obtain⟨o,ho,c,_⟩:=p
    rw[← List.mem_singleton.mp z,he] at ho
    cases ho;exact absurd (show Value.type "enumerate" = Value.type "tuple" from c) (by decide)
  have Ql:i<NZ.toArray.size:=by
   have:=(List.getElem?_eq_some_iff.mp hu).1
   simpa using this
  refine wpAny_pyNext_enum_itemD (IM (A:=X.A.in1) (I.ok.hd hc) it a NZ.toArray) he ⟨hit,p⟩ Ql P1 hea λu' h' tk hu' ho Ol hT Pt hk=>⟨_,rfl,?_⟩
  have eu:u'=u:=by
   rw[List.getElem?_toArray,hu] at hu';exact(Option.some.inj hu').symm
  subst eu
  refine wpAny_letOwnedTupleGo_enum (s:={ s with heap:=h',toks:=tk+1 }) ho λh2 he2 Pn=>?_
  have QB:∀ b o,b ∉ [e,it]->s.heap.get? b=some o->h2.get? b=some o:=λb o hb q=>by
   have n1:b≠e:=λz=>hb (by simp[z])
   have n2:b≠it:=λz=>hb (by simp[z])
   exact(Pn.2 b n1).trans (hk b o n1 n2 q)
  have QL:h2.get? s.heap.objs.size=some { cls:=.type "tuple", data:=.seq #[.int i tk,u'] }:=(Pn.2 _ (Nat.ne_of_gt Qr)).trans hT
  have I2:Inv X NX σ (upd H s.heap.objs.size (.tup [.int i,x])) { s with heap:=h2,toks:=tk+1 } :=
   I.kM (ch:=[e,it]) QB hf (Nat.le_refl _) (λb hb=>by
    rcases List.mem_cons.mp hb with z | z
    ·subst z;exact⟨_,he⟩
    ·have z':b=it:=by simpa using z
     subst z'
     obtain⟨o,z,_⟩:=hit
     exact⟨o,z⟩)
    ⟨by show 2<=sizeLine;decide,[.int i tk,u'],.cons ⟨_,rfl⟩ (.cons ru .nil),⟨_,QL,rfl,_,rfl⟩⟩
  have Pm:H s.heap.objs.size=none:=I.bK.fresh (Nat.le_refl _)
  obtain⟨oi,hoi,ri⟩:=Ol.1
  refine⟨.ref s.heap.objs.size,_,I2,rfl,⟨_,x,Pm,rfl,rfl,λys hy=>by rw[I.mK hy hq];exact hx⟩,⟨⟨u',by simpa using he2⟩,⟨oi,(Pn.2 it (Ne.symm P1)).trans hoi,ri⟩⟩,λb hb=>?_⟩
  have nb:b≠s.heap.objs.size:=by
   rcases List.mem_cons.mp hb with z | z
   ·rw[z];exact Nat.ne_of_lt Qr
   ·have z':b=it:=by simpa using z
    rw[z'];exact Nat.ne_of_lt Q4
  rw[aw nb]
  exact(hf b hb).1
 done:=by
  intro X hP hw hK hc i NX s σ H E I hf st hg
  subst hP hw hK
  obtain⟨xs,hq,hx⟩:=hg
  obtain⟨NZ,rv,p,hz⟩:=I.tuple hq
  have hl:=rv.length
  obtain⟨⟨old,he⟩,hit⟩:=st
  obtain⟨f0,f1,f2,f3,f4,f5⟩:=hf it (by simp)
  have hT:s.TypeIs (.ref e) "enumerate" := ⟨_,he,rfl⟩
  unfold pyNext
  refine wpAny_bind (wpAny_attempt (wpAny_callSpecial?_slot (name:=Str.ofString "__next__") hT F.slot_enumerate_next
   (wpAny_call_entry F.slot_enumerate_next hT F.entry_enumerate_next ?_ (F.args_enumerate_next_1 _))))
  show wpAny _ _ (field (.ref e) 2 >>= _) _ _ _
  refine wpAny_bind (wpAny_field he rfl (x:=.ref it) rfl ?_)
  refine wpAny_bind (ff (I.ok.hd hc) hit p (by simp;omega) λh' x he' RD=>?_)
  obtain⟨o,ho,QN⟩:=RD
  refine wpAny_bind (wpAny_isInstance (T := "StopIteration") (b:=true) ⟨o,ho,QN⟩ isSubtype_stop ?_)
  exact wpAny_pure ⟨rfl,I.turned (t':=s.toks) (λb o hb e=>he' b o hb e) f0 f1 f3 f4 f5⟩
 self:=λ_ _ _ _ _ st h=>by
  obtain⟨⟨old,he⟩,_⟩:=st
  exact wpAny_pyIter_enum he h
def J2(K:PySem.W.Frag)(tl:TA):TI:=fun σ H R=>tl σ H λvs H1=>∃ a,vs=[.ref a]/\(((∃ xs,gS K H1 a xs)/\R (GZ K a) H1)\/((∃ xs,hX K H1 a xs)/\R (HL K a) H1))
theorem mW{tp:Pos}{l:Expr}{p pos:Pos}(hg:Gl X "enumerate")(hm:X.mg "enumerate" = none)(hl:PA X [l] tl)(hs:autoParam (starEach [l] X.env=[(false,eval l X.env)]) aR._auto_1) :
  PI X (.Tuple elts x1 tp) (.Call (.Name "enumerate" p) [l] [] pos) (J2 X.K tl):=by
 intro NX s σ H R I h
 refine Call_ (ju I hg hm PyProof.Rows.boot_enumerate (PyProof.Rows.callWith_type1 (cG (hl pos NX s σ H _ I h) λus s1 ⟨vs,H1,I1,r1,q1⟩=>?_) hs rfl))
 obtain⟨a,e,q⟩:=q1
 subst e
 cases r1 with
 | cons r rr =>
  cases rr
  cases (show _=Value.ref a from r)
  have fp:∀ b∈[s1.heap.objs.size+1,s1.heap.objs.size],mq X NX H1 b:=λb hb=>by
   rcases List.mem_cons.mp hb with z | z
   ·subst z
    exact I1.ux (Nat.le_succ _) (I1.bK.fresh (Nat.le_succ _))
   ·have z':b=s1.heap.objs.size:=by simpa using z
    subst z'
    exact I1.ux (Nat.le_refl _) (I1.bK.fresh (Nat.le_refl _))
  rcases q with ⟨⟨xs,hq⟩,q⟩ | ⟨⟨xs,hq⟩,q⟩
  ·obtain⟨NZ,rv,pl,hz⟩:=I1.list hq
   refine call_enumerate_list pl.isList λh' he hit Pt hk=>?_
   refine wpAny_pyIter_enum (s:={ s1 with heap:=h' }) he ?_
   exact⟨s1.heap.objs.size+1,[s1.heap.objs.size+1,s1.heap.objs.size],_,_,H1,rfl,I1.kept (t':=s1.toks) hk,yU a _ _ (Nat.succ_ne_self _),⟨⟨_,he⟩,hit⟩,fp,q⟩
  ·obtain⟨NZ,rv,pl,hz⟩:=I1.tuple hq
   refine wM pl λh' he hit Pt hk=>?_
   refine wpAny_pyIter_enum (s:={ s1 with heap:=h' }) he ?_
   exact⟨s1.heap.objs.size+1,[s1.heap.objs.size+1,s1.heap.objs.size],_,_,H1,rfl,I1.kept (t':=s1.toks) hk,wN a _ _ (Nat.succ_ne_self _),⟨⟨_,he⟩,hit⟩,fp,q⟩
def MZ(p:PV):M (List PV):=match bX p with
 | some xs=>M.ok (ik xs)
 | none=>none
def Dy:List PV->M (List PV)
 | [p]=>MZ p
 | _=>none
section
variable{K:PySem.W.Frag}{fs:af->M (List PV)}
theorem B_(hq:∀ N2 H',bB N7 N2->bB N2 H'->hX K H' a vs)(hr:aS N7 xs vs):jZ (HL K a) N7 (ik xs) where
 stop:=λi Hs H s1 s2 hi=>by
  unfold ik at hi
  rw[List.length_mapIdx,hr.length] at hi
  exact⟨vs,hq Hs H s1 s2,hi⟩
 go:=λi Hs H s1 s2 hi=>by
  unfold ik at hi
  rw[List.length_mapIdx] at hi
  obtain⟨v,e,_⟩:=hr.get (List.getElem?_eq_getElem hi)
  exact⟨vs,v,hq Hs H s1 s2,e⟩
 tR:=λi Hs H x H2 s1 s2 hi y=>by
  unfold ik at hi
  rw[List.length_mapIdx] at hi
  obtain⟨v,e,r⟩:=hr.get (List.getElem?_eq_getElem hi)
  obtain⟨pa,v',hn,rfl,rfl,y1⟩:=y
  have z1:=y1 vs (hq Hs H s1 s2)
  rw[e] at z1;cases z1
  have gr:=bP.new (o:=.tup [.int (i:Nat),v]) s2 hn
  refine⟨.tup [.int (i:Nat),xs[i]],_,?_,gr,.tup aB (.cons (.int _) (.cons ((r.mono s1).mono gr.st) .nil))⟩
  unfold ik
  rw[List.getElem?_mapIdx,List.getElem?_eq_getElem hi]
  rfl
theorem kN:ym E (J2 K (tL E fs)) (ja Dy fs):=by
 intro σ H R q
 refine dm (K:=KI R) KI.g q λB H₀ Hs H1 env ps v sr rp hp=>?_
 match ps,rp,hp with
 | [],_,hp=>exact hp.elim
 | _::_::_,_,hp=>exact hp.elim
 | [p],rp,hp =>
  obtain⟨w,rfl,PM⟩:=rp.one
  cases PM with
  | lst ha hx=>exact⟨_,rfl,.inl ⟨⟨_,gS.of (sr.gr.sub _ _ ha)⟩,hp _ Hs H1 (.refl sr.gr.sub) (sy (λN2 H' s1 s2=>gS.of (s2 _ _ (s1 _ _ ha))) hx)⟩⟩
  | jN ha hx=>exact⟨_,rfl,.inl ⟨⟨_,.inl (.inr ⟨_,sr.gr.sub _ _ ha⟩)⟩,hp _ Hs H1 (.refl sr.gr.sub) (sy (λN2 H' s1 s2=>.inl (.inr ⟨_,s2 _ _ (s1 _ _ ha)⟩)) hx)⟩⟩
  | tup ha hx=>exact⟨_,rfl,.inr ⟨⟨_,hX.of (sr.gr.sub _ _ ha)⟩,hp _ Hs H1 (.refl sr.gr.sub) (B_ (λN2 H' s1 s2=>hX.of (s2 _ _ (s1 _ _ ha))) hx)⟩⟩
  | _=>exact hp.elim
end
end
def Jp(E:St->XK)(f:af->M Out):TS:=λD σ H=>∃ B H₀ Hs env,SR B H₀ Hs H σ env/\av (f env) (KS D B H₀) (XW (E σ) Hs H)
theorem zL{f:af->M PV}{g:af->PV->M Out}{D:Ends}{R:VK}(h:Jp E (λenv=>(f env).bind (g env)) D σ H)
  (k:∀ B H₀ Hs H1 env p v,SR B H₀ Hs H1 σ env->Rep Hs p v->av (g env p) (KS D B H₀) (λ_=>True)->R v H1):tE E f σ H R:=by
 obtain⟨B,H₀,Hs,env,sr,h⟩:=h
 refine⟨B,H₀,Hs,env,sr,(av.bind h).imp (λp hp v N2 H' g r=>?_) λe he=>he⟩
 exact k B H₀ N2 H' env p v (sr.grow g) r (hp.imp (λ_ z=>z) λ_ _=>trivial)
section
variable{pos:Pos}{f:af->M PV}
theorem yp(he:PE X e (tE E f))(hs:autoParam (swapsWith e none pos.line X.env=pure false) aR._auto_1):kq X [.Expr e pos] (Jp E (i0 f)):=by
 intro NX s σ H D I q
 exact oW (uk he hs) sR NX s σ H D I (zL q λB H₀ Hs H1 env p v sr rp hp=>hp σ Hs H1 sr)
end
theorem SR.unset{B:Hp}{env:af}(r:SR B H₀ Hs H σ env):SR B H₀ Hs H (σ.set i none) (env.set i none):=by
 have key:∀ (j:Nat) (q:SV),(env.set i none)[j]?=some (some q)->env[j]?=some (some q)/\i≠j:=λj q e=>by
  rw[List.getElem?_set] at e
  by_cases z:i=j
  ·rw[if_pos z] at e
   split at e <;> cases e
  ·rw[if_neg z] at e;exact⟨e,z⟩
 have old:∀ j,i≠j->(σ.set i none)[j]?=σ[j]?:=λj z=>by rw[List.getElem?_set,if_neg z]
 refine⟨r.gr,by rw[List.length_set,List.length_set];exact r.len,λj q e=>?_,λj xs e=>?_,λj k xs ys a n e1 e2 e3=>?_,λj a C fs e=>?_,λj k a b C D fs gs e1 e2=>?_⟩
 ·obtain⟨e,z⟩:=key j _ e
  rw[old j z];exact r.sh j q e
 ·obtain⟨e,z⟩:=key j _ e
  rw[old j z];exact r.ow j xs e
 ·obtain⟨e1,z1⟩:=key j _ e1
  obtain⟨e2,z2⟩:=key k _ e2
  rw[old j z1] at e3
  rw[old k z2];exact r.sep j k xs ys a n e1 e2 e3
 ·obtain⟨e,z⟩:=key j _ e
  rw[old j z];exact r.bd j a C fs e
 ·exact r.one j k a b C D fs gs (key j _ e1).1 (key k _ e2).1
section
variable{pos:Pos}{f:af->M PV}
end
abbrev Cx.o6(X:Cx)(pn:List (Addr×Obj)):Cx:={ X with pn:=pn }
abbrev Cx.hand(X:Cx)(ea:Addr):Cx:={ X with A:=X.A.mark (some (.ref ea)),calm:=false,xe:=λ_ _=>False }
section
variable{PZ:List (Addr×Obj)}{ea:Addr}
theorem Cx.Ok.o6(ok:X.Ok)(pn:List (Addr×Obj)):(X.o6 pn).Ok:=⟨ok.mod,ok.kind,ok.glob,ok.blt,ok.above,ok.inj,ok.has,ok.FU,ok.hd,ok.frames,ok.Hw,ok.Jn,ok.bs,ok.AY,ok.tX,ok.u4,ok.lG,ok.Du⟩
theorem Cx.Ok.qz{pn:List (Addr×Obj)}(ok:(X.o6 pn).Ok):X.Ok:=⟨ok.mod,ok.kind,ok.glob,ok.blt,ok.above,ok.inj,ok.has,ok.FU,ok.hd,ok.frames,ok.Hw,ok.Jn,ok.bs,ok.AY,ok.tX,ok.u4,ok.lG,ok.Du⟩
theorem Cx.Ok.hand(ok:X.Ok)(ea:Addr):(X.hand ea).Ok:=⟨ok.mod,ok.kind,ok.glob,ok.blt,ok.above,ok.inj,ok.has,ok.FU,(λz=>nomatch z),ok.frames,ok.Hw,ok.Jn,ok.bs,ok.AY,ok.tX,ok.u4,ok.lG,ok.Du⟩
theorem Inv.o6(I:Inv X NX σ H s):Inv (X.o6 (X.pn++NX)) [] σ H s:=⟨I.ok.o6 _,I.os,I.bare,I.base,I.loc,I.cell,I.free,I.gk,(λp hp=>I.pin p (by rw[List.append_nil] at hp;exact hp)),I.bK,I.len⟩
theorem Inv.qz(I:Inv (X.o6 (X.pn++NX)) PZ σ H s):Inv X NX σ H s:=⟨I.ok.qz,I.os,I.bare,I.base,I.loc,I.cell,I.free,I.gk,(λp hp=>I.pin p (List.mem_append_left _ hp)),I.bK,I.len⟩
theorem Inv.hand(I:Inv X NX σ H s)(ea:Addr):Inv (X.hand ea) NX σ H s:=⟨I.ok.hand ea,I.os,I.bare,I.base,I.loc,I.cell,I.free,I.gk,I.pin,I.bK,I.len⟩
theorem Inv.iO(I:Inv (X.hand ea) NX σ H s)(ok:X.Ok):Inv X NX σ H s:=⟨ok,I.os,I.bare,I.base,I.loc,I.cell,I.free,I.gk,I.pin,I.bK,I.len⟩
theorem Inv.Ce(I:Inv X NX σ (mG Hc ea T C dd fl) s)(h1:Hc ea=some (h_ C dd ea))(h2:Hc T=none)(h3:T≠ea):Inv X NX σ Hc s:=by
 have no:∀ b,mG Hc ea T C dd fl b=none->Hc b=none:=λb e=>by
  by_cases z:b=ea
  ·rw[z,oQ] at e;cases e
  ·by_cases z2:b=T
   ·rw[z2];exact h2
   ·rw[jb z z2] at e;exact e
 have so:∀ b o,mG Hc ea T C dd fl b=some o->(∀ φ,o≠.ext φ)->Hc b=some o:=λb o e n=>by
  by_cases z:b=ea
  ·rw[z,oQ] at e;cases e;exact absurd rfl (n _)
  ·by_cases z2:b=T
   ·rw[z2,qr h3] at e;cases e;exact absurd rfl (n _)
   ·rw[jb z z2] at e;exact e
 refine⟨I.ok,I.os,I.bare,⟨I.base.keep,I.base.slot,λb o e n hx=>no b (I.base.free b o e n hx),I.base.there,λb xs e=>so b _ (I.base.qg b xs e) (λ_ z=>nomatch z),λb o u e=>so b _ (I.base.lE b o u e) (λ_ z=>nomatch z),λb ps e=>?_⟩,I.loc,I.cell,no _ I.free,λx c e=>no _ (I.gk x c e),λp hp=>?_,λb o e=>?_,I.len⟩
 ·obtain⟨more,q⟩:=I.base.oX b ps e
  exact⟨more,so b _ q λ_ z=>nomatch z⟩
 ·obtain⟨e,n,r⟩:=I.pin p hp
  exact⟨e,no _ n,r⟩
 ·by_cases z:b=ea
  ·subst z
   rw[h1] at e;cases e
   obtain⟨vs,_,_,hx,_⟩:=I.yL h3
   exact E5 hx
  ·by_cases z2:b=T
   ·rw[z2,h2] at e;cases e
   ·refine(I.bK b o (by rw[jb z z2];exact e)).mf (λ_ _ _ q=>q) (λc q=>so c _ q λ_ z=>nomatch z) λc xs q=>so c _ q λ_ z=>nomatch z
theorem Inv.gone{E:Value->Shared->Prop}{n:Str}{pos:Pos}{Q:Unit->Shared->Prop}(I:Inv X NX σ H s)(hN:X.N.Nodup)(hi:X.N[i]?=some n)(hx:X.env.scope.names.lookup n=some .local)
  (h:∀ s',Inv X NX (σ.set i none) H s'->Q () s'):wpAny (model X.prog X.w) A (do bindName X.env n .none;unbindBehindTheSuite X.env n pos) Q E s:=by
 obtain⟨m,hn,hl⟩:=id I.loc
 have CJ:=I.CJ
 refine wpAny_nameGoes_keeps hx hn (by rw[I.ok.kind];rfl) λh' v Ry hs=>?_
 obtain⟨oL,_,_,hoL,_⟩:=id hn
 have tracked:mH X.prog X.w H h':=λb ob e=>by
  refine(I.bK b ob e).mf (λc w' hc q=>(hs.2 c ?_).trans q) (λ_ q=>q) λ_ _ q=>q
  rintro rfl
  rcases hc with z | hc
  ·rw[← z,I.free] at e;cases e
  ·rw[I.free] at hc;cases hc
 refine h _ ⟨I.ok,I.os,I.bare,⟨λb o e n hb hx=>?_,λb o e n hb hx=>?_,I.base.free,λb o e hx=>?_,I.base.qg,I.base.lE,I.base.oX⟩,⟨_,Ry,λj y v' e1 e2 e3=>?_⟩,λy c e=>?_,I.free,I.gk,λp hp=>?_,tracked,by simpa using I.len⟩
 ·exact(hs.2 b (Nat.ne_of_lt (Nat.lt_of_lt_of_le (Heap.lt_size e) I.ok.above))).trans (I.base.keep b o e n hb hx)
 ·obtain⟨sl,e1⟩:=I.base.slot b o e n hb hx
  exact⟨sl,(hs.2 b (Nat.ne_of_lt (Nat.lt_of_lt_of_le (Heap.lt_size e) I.ok.above))).trans e1⟩
 ·obtain⟨o',e1⟩:=I.base.there b o e hx
  exact⟨o',(hs.2 b (Nat.ne_of_lt (Nat.lt_of_lt_of_le (Heap.lt_size e) I.ok.above))).trans e1⟩
 ·have hj:i≠j:=λz=>by
   subst z
   rw[List.getElem?_set,if_pos rfl] at e2
   split at e2 <;> cases e2
  rw[List.getElem?_set_ne hj] at e2
  obtain⟨u',r',q⟩:=hl j y v' e1 e2 e3
  refine⟨u',r',?_⟩
  rcases q with ⟨k,e⟩ | ⟨k,c,e,z⟩
  ·refine .inl ⟨k,?_⟩
   have:y≠n:=λe=>hj (pQ hN hi (e▸e1))
   simp[this,e]
  ·exact .inr ⟨k,c,e,z.sameBut hs (CJ y c e)⟩
 ·obtain⟨w',z⟩:=I.cell y c e
  exact⟨w',z.sameBut hs (CJ y c e)⟩
 ·obtain⟨e,n,ne,nf,d⟩:=I.pin p hp
  exact⟨(hs.2 p.1 ne).trans e,n,ne,nf,d⟩
end
abbrev Hd:=(Addr->Option Bool)×Option Nat×(af->M Out)
def pM(i:Nat):Out->Out
 | .nx e=>.nx (e.set i none)
 | .bk e=>.bk (e.set i none)
 | .ct e=>.ct (e.set i none)
 | .rt p=>.rt p
def pW(o:Option Nat)(h:af->M Out)(x:EX)(env:af):M Out:=match o with
 | none=>yS (h env)
 | some i=>(yS (h (env.set i (some (.sh (.exc x.1 x.2)))))).bind λout=>M.ok (pM i out)
def uq(b:Option Bool)(x y:M Out):M Out:=match b with
 | some true=>x
 | some false=>y
 | none=>none
def iX:List Hd->EX->af->M Out
 | [],_,_=>none
 | (t,o,h)::r,x,env=>uq (t x.1) (pW o h x env) (iX r x env)
def w8(r:M Out)(k:EX->M Out):M Out:=match r with
 | some (.error x)=>k x
 | r=>r
def Fe(f:af->M Out)(hs:List Hd):af->M Out:=λenv=>w8 (f env) λx=>iX hs x env
inductive FP (X:Cx) (E:XK):List ExceptHandler->List Hd->Prop where
 | nil:FP X E [] []
 | J0 {x:Str} {np pos:Pos} {b₀:Stmt} {PF:List Stmt} {rest:List ExceptHandler} {t:Addr->Option Bool} {h:af->M Out} {hs:List Hd} {D:Addr} (hg:Gl X x) (hm:X.mg x=some (.ref D)) (hd:(x==("__debug__" : Str))=false)
   (ht:∀ C b,t C=some b->PySem.W.exmOne X.K (.ref C) (.ref D)=some b) (hb:∀ ea,kq (X.hand ea) (b₀::PF) (tS E h)) (r:FP X E rest hs):FP X E (.ExceptHandler (some (.Name x np)) none (b₀::PF) pos::rest) ((t,none,h)::hs)
 | F6 {x n:Str} {i:Nat} {np pos:Pos} {b₀:Stmt} {PF:List Stmt} {rest:List ExceptHandler} {t:Addr->Option Bool} {h:af->M Out} {hs:List Hd} {D:Addr} (hg:Gl X x) (hm:X.mg x=some (.ref D)) (hd:(x==("__debug__" : Str))=false)
   (hN:X.N.Nodup) (hi:X.N[i]?=some n) (hx:X.env.scope.names.lookup n=some .local)
   (ht:∀ C b,t C=some b->PySem.W.exmOne X.K (.ref C) (.ref D)=some b) (hb:∀ ea,kq (X.hand ea) (b₀::PF) (tS E h)) (r:FP X E rest hs):FP X E (.ExceptHandler (some (.Name x np)) (some n) (b₀::PF) pos::rest) ((t,some i,h)::hs)
variable{hd:List Hd}{hls:List ExceptHandler}
section
variable{B:Hp}{ea:Addr}{E:XK}{env:af}{fo:Option (List (Str×PV))}{D:Ends}{F:Value->Shared->Prop}
theorem SP.iO{D:Ends}{f:Flow}{s':Shared}(h:SP (X.hand ea) NX D f s')(ok:X.Ok):SP X NX D f s':=by
 cases f with
 | next=>obtain⟨σ',H',I,q⟩:=h;exact⟨σ',H',I.iO ok,q⟩
 | brk=>obtain⟨σ',H',I,q⟩:=h;exact⟨σ',H',I.iO ok,q⟩
 | cont=>obtain⟨σ',H',I,q⟩:=h;exact⟨σ',H',I.iO ok,q⟩
 | ret u=>obtain⟨v,σ',H',I,r,q⟩:=h;exact⟨v,σ',H',I.iO ok,r,q⟩
theorem av.err{r:M α}{Q:α->Prop}(h:av r Q (λ_=>False)):av r Q E':=h.imp (λ_ z=>z) λ_ z=>z.elim
def Ends.gone(D:Ends)(i:Nat):Ends:=⟨fun σ H=>D.nx (σ.set i none) H,D.rt,fun σ H=>D.bk (σ.set i none) H,fun σ H=>D.ct (σ.set i none) H⟩
theorem KS.gone{i:Nat}{o:Out}(h:KS D B H₀ (pM i o)):KS (D.gone i) B H₀ o:=by
 cases o with
 | nx e=>exact fun σ Hs H sr=>h _ Hs H sr.unset
 | bk e=>exact fun σ Hs H sr=>h _ Hs H sr.unset
 | ct e=>exact fun σ Hs H sr=>h _ Hs H sr.unset
 | rt p=>exact h
theorem Ao{M:Model}{o:Obj}(hx:s.heap.get? ea=some o):PySem.W.Looks M s.heap (typeOf (.ref ea)) o.cls:=by
 intro A Q E s' k q
 exact BP (k _ _ hx) q
theorem FP.run(hh:FP X E hls hd):∀ {s:Shared},Inv X NX σ (mG Hc ea T C dd .none) s->Hc ea=some (h_ C dd ea)->Hc T=none->T≠ea->SR B H₀ Hs Hc σ env->Rep Hs (.exc C fo) (.ref ea) ->
  av (iX hd (C,fo) env) (KS D B H₀) Z->wpAny (model X.prog X.w) X.A (handleBy (.ref ea) X.env hls) (SP X NX D) F s:=by
 induction hh with
 | nil=>intro s I h1 h2 h3 sr rp q;exact q.elim
 | @J0 x np pos b₀ PF rest t h hs Dc hg hm hd ht hb r ih =>
  intro s I h1 h2 h3 sr rp q
  obtain⟨vs,oT,ts,hx,_⟩:=I.yL h3
  refine wpAny_handleBy_cons (codeAny_handlers_test (jd (I.hand ea) hg hm ?_ hd)) (λq=>nomatch q)
  have LT:=Ao (M:=model X.prog X.w) hx
  cases e:t C with
  | none=>simp only[iX,e,uq] at q;exact q.elim
  | some b =>
   refine(PySem.W.exm_one I.jX LT (ht C b e)).here ?_
   cases b with
   | false =>
    simp only[iX,e,uq] at q
    exact ih I h1 h2 h3 sr rp q
   | true =>
    simp only[iX,e,uq,pW] at q
    refine codeAny_handlers_suite ((I.hand ea).qo (fr:=none) h3 λh' I2=>?_)
    refine wpAny_mono (hb ea NX _ σ Hc D (I2.Ce h1 h2 h3) ⟨B,H₀,Hs,env,sr,(av.yS q).err⟩) (λf s' z=>z.iO I.ok) λ_ _ z=>z.elim
 | @F6 x n i np pos b₀ PF rest t h hs Dc hg hm hd hN hi hxn ht hb r ih =>
  intro s I h1 h2 h3 sr rp q
  obtain⟨vs,oT,ts,hx,_⟩:=I.yL h3
  refine wpAny_handleBy_cons (codeAny_handlers_test (jd (I.hand ea) hg hm ?_ hd)) (λq=>nomatch q)
  have LT:=Ao (M:=model X.prog X.w) hx
  cases e:t C with
  | none=>simp only[iX,e,uq] at q;exact q.elim
  | some b =>
   refine(PySem.W.exm_one I.jX LT (ht C b e)).here ?_
   cases b with
   | false =>
    simp only[iX,e,uq] at q
    exact ih I h1 h2 h3 sr rp q
   | true =>
    simp only[iX,e,uq,pW] at q
    refine codeAny_handlers_suite_as ((I.hand ea).qo (fr:=none) h3 λh' I2=>?_)
    refine kf (X:=X.hand ea) (v:=.ref ea) (i:=i) (I2.Ce h1 h2 h3) hN hi (.inl hxn) rfl (λs3 I3=>?_) (.inr hxn)
    refine wpAny_mono (hb ea NX _ _ Hc (D.gone i) I3 ⟨B,H₀,Hs,_,sr.set rp,(av.yS (E:=Z) ?_).err⟩) (λf s' z=>?_) λ_ _ z=>z.elim
    ·exact(av.bind q).imp (λo z=>KS.gone z) λ_ z=>z
    ·cases f with
     | next=>obtain⟨σ',H',I4,d⟩:=z;exact(I4.iO I.ok).gone hN hi hxn λs5 I5=>⟨_,H',I5,d⟩
     | brk=>obtain⟨σ',H',I4,d⟩:=z;exact(I4.iO I.ok).gone hN hi hxn λs5 I5=>⟨_,H',I5,d⟩
     | cont=>obtain⟨σ',H',I4,d⟩:=z;exact(I4.iO I.ok).gone hN hi hxn λs5 I5=>⟨_,H',I5,d⟩
     | ret u=>obtain⟨v,σ',H',I4,rv,d⟩:=z;exact(I4.iO I.ok).gone hN hi hxn λs5 I5=>⟨v,_,H',I5,rv,d⟩
theorem IG{h₀:ExceptHandler}{pos:Pos}{f:af->M Out}(Ol:X.stack=X.env::X.outer)(hf:X.env.frame=some X.env.locals)
  (hb:∀ (pn:List (Addr×Obj)) (E2:St->XK),eZ ((X.o6 pn).out E2) E2->kq ((X.o6 pn).out E2) body (Jp E2 f)) (hh:FP X E (h₀::hls) hd):PS X (.Try body (h₀::hls) [] [] pos) (tS E (Fe f hd)):=by
 intro NX s σ H D I q
 obtain⟨B,H₀,Hs,env,sr,q⟩:=q
 refine wpAny_Try_except ?_
 let E2:St->XK:=fun σ v _ Hc=>∃ Hs C fo ea,v=.ref ea/\SR B H₀ Hs Hc σ env/\Rep Hs (.exc C fo) (.ref ea)/\av (iX hd (C,fo) env) (KS D B H₀) (XW E B H₀)
 have q1:av (f env) (KS D B H₀) (XW (E2 σ) Hs H):=by
  unfold Fe at q
  cases e:f env with
  | none=>rw[e] at q;exact q
  | some r =>
   rw[e] at q
   cases r with
   | ok o=>exact q
   | error x=>exact λea N2 H' g rp=>⟨N2,x.1,x.2,ea,rfl,sr.grow g,rp,q⟩
 refine wpAny_mono (hb (X.pn++NX) E2 (Ba Ol hf) [] s σ H D (I.o6.qv _) ⟨B,H₀,Hs,env,sr,q1⟩) (λfl s1 hq=>?_) (λe s1 z=>?_)
 ·cases fl with
  | next=>obtain⟨σ',H',I',d⟩:=hq;exact wpAny_execs_nil ⟨σ',H',I'.eK.qz,d⟩
  | brk=>obtain⟨σ',H',I',d⟩:=hq;exact⟨σ',H',I'.eK.qz,d⟩
  | cont=>obtain⟨σ',H',I',d⟩:=hq;exact⟨σ',H',I'.eK.qz,d⟩
  | ret u=>obtain⟨v,σ',H',I',r,d⟩:=hq;exact⟨v,σ',H',I'.eK.qz,r,d⟩
 ·refine Zx.note (X:=X.o6 (X.pn++NX)) z Ol hf λs' ea C dd PZ σ' Hc T he I2 h1 h2 h3 h4=>?_
  subst he
  refine I2.qo (fr:=none) h3 λh' I3=>?_
  obtain⟨N2,C',fo,ea',ee,PH,rp,hp⟩:=h4
  cases ee
  have I4:=I3.Ce h1 h2 h3
  have eC:C'=C:=by
   obtain⟨vs,hx⟩:=I4.pz h1
   cases rp with
   | xa hr =>
    obtain⟨vs2,Pu⟩:=I4.pz (PH.gr.sub _ _ hr)
    rw[hx] at Pu;injection Pu with Pu;injection Pu with Pu;injection Pu with Pu;exact Pu.symm
   | xE hr _ _ =>
    obtain⟨vs2,Pu⟩:=I4.pz (PH.gr.sub _ _ hr)
    rw[hx] at Pu;injection Pu with Pu;injection Pu with Pu;injection Pu with Pu;exact Pu.symm
  subst eC
  exact hh.run I3.qz h1 h2 h3 PH rp hp
end
def k8(ys ns:List Addr)(C:Addr):Option Bool:=if ys.contains C=true then some true else if ns.contains C=true then some false else none
variable{ns:List Addr}
theorem pS{ys:List Addr}(h:k8 ys ns C=some b):(b=true/\C∈ys)\/(b=false/\C∈ns):=by
 unfold k8 at h
 by_cases h1:ys.contains C=true
 ·rw[if_pos h1] at h;cases h;exact .inl ⟨rfl,by simpa using h1⟩
 ·rw[if_neg h1] at h
  by_cases h2:ns.contains C=true
  ·rw[if_pos h2] at h;cases h;exact .inr ⟨rfl,by simpa using h2⟩
  ·rw[if_neg h2] at h;cases h
def Am(f:Addr->Option Bool)(ys ns:List Addr):Bool:=ys.all (λC=>f C==some true)&&ns.all λC=>f C==some false
theorem wY{f:Addr->Option Bool}{ys:List Addr}(h:Am f ys ns=true)(e:k8 ys ns C=some b):f C=some b:=by
 unfold Am at h
 rw[Bool.and_eq_true,List.all_eq_true,List.all_eq_true] at h
 rcases pS e with ⟨rfl,m⟩ | ⟨rfl,m⟩
 ·exact eq_of_beq (h.1 C m)
 ·exact eq_of_beq (h.2 C m)
structure MU (K:PySem.W.Frag) (mg:Str->Option Value) (x:Str) (D:Addr) (ys ns:List Addr):Prop where
 mg:mg x=some (.ref D)
 ok:∀ C b,k8 ys ns C=some b->PySem.W.exmOne K (.ref C) (.ref D)=some b
theorem MU.of{K:PySem.W.Frag}{ys:List Addr}(h1:mg x=some (.ref D))(h2:Am (λC=>PySem.W.exmOne K (.ref C) (.ref D)) ys ns=true):MU K mg x D ys ns:=⟨h1,λ_ _ e=>wY h2 e⟩
theorem rj:bootBuiltins "ValueError" = some (.type "ValueError"):=by decide +kernel
theorem mE{p:α->Prop}:∀ x∈([]:List α),p x:=λ_ h=>nomatch h
theorem sj{p:α->Prop}{a:α}{l:List α}(h:p a)(r:∀ x∈l,p x):∀ x∈a::l,p x:=λx m=>by
 rcases List.mem_cons.mp m with rfl | m
 ·exact h
 ·exact r x m
def C4:List String:=["NoneType", "bool", "int", "str", "tuple", "list", "dict"]
theorem DO{a:String}(h:Fz p=some a):a∈C4:=by
 cases p <;> first | (cases h;decide) | cases h
structure G5 (K:PySem.W.Frag) (mg:Str->Option Value) (x:Str) (D:Addr) (ys ns yo no:List Addr):Prop where
 mg:mg x=some (.ref D)
 ty:∀ p a,Fz p=some a->PySem.W.kitOne K (.type a) (.ref D)=some false
 ob:∀ C b,k8 yo no C=some b->pB K C/\PySem.W.kitOne K (.ref C) (.ref D)=some b
 oe:∀ C b,k8 ys ns C=some b->f9 K C/\PySem.W.kitOne K (.ref C) (.ref D)=some b
theorem G5.of{K:PySem.W.Frag}{ys yo no:List Addr}(h1:mg x=some (.ref D))(h2:(C4.all λa=>PySem.W.kitOne K (.type a) (.ref D)==some false)=true)
  (h3:Am (λC=>PySem.W.kitOne K (.ref C) (.ref D)) yo no=true) (h4:Am (λC=>PySem.W.kitOne K (.ref C) (.ref D)) ys ns=true) (o1:∀ C∈yo,pB K C) (o2:∀ C∈no,pB K C) (e1:∀ C∈ys,f9 K C) (e2:∀ C∈ns,f9 K C):G5 K mg x D ys ns yo no where
 mg:=h1
 ty:=λp a h=>by
  rw[List.all_eq_true] at h2
  exact eq_of_beq (h2 a (DO h))
 ob:=λC b h=>⟨by rcases pS h with ⟨_,m⟩ | ⟨_,m⟩ <;> first | exact o1 C m | exact o2 C m,wY h3 h⟩
 oe:=λC b h=>⟨by rcases pS h with ⟨_,m⟩ | ⟨_,m⟩ <;> first | exact e1 C m | exact e2 C m,wY h4 h⟩
section
variable{pos p pt:Pos}{f:af->M PV}{ys yo no:List Addr}
theorem G5.is(c:G5 X.K X.mg x D ys ns yo no)(hg:Gl X "isinstance")(hm:X.mg "isinstance" = none)(hx:Gl X x)(he:PE X e (tE E f))(hd:autoParam ((x==("__debug__" : Str))=false) aD._auto_1)
  (h1:autoParam (starEach [e,.Name x pt] X.env=(false,eval e X.env)::starEach [.Name x pt] X.env) aR._auto_1) (h2:autoParam (starEach [.Name x pt] X.env=(false,eval (.Name x pt) X.env)::starEach [] X.env) aR._auto_1) (Og:autoParam ((backTo pos (starEach [.Name x pt] X.env)).any (·.1)=false) aR._auto_1) :
  PE X (.Call (.Name "isinstance" p) [e,.Name x pt] [] pos) (tE E (vJ (λ_=>false) (k8 yo no) (k8 ys ns) f)) :=
 Ih hg hm (xX hx c.mg rfl hd) c.ty c.ob c.oe he h1 h2 Og
def Kx(ys:List Addr):PV->M PV
 | .exc C _=>cC (ys.contains C=true) (M.ok (.bl true))
 | _=>none
def Fv(ys:List Addr)(f:af->M PV):af->M PV:=λenv=>(f env).bind (Kx ys)
theorem Fo(hg:Gl X "isinstance")(hm:X.mg "isinstance" = none)(hT:PE X (.Name x pt) (tC (.ty "ValueError")))(Pd:∀ C∈ys,f9 X.K C/\PySem.W.kitOne X.K (.ref C) (.type "ValueError")=some true)(he:PE X e (tE E f))
  (h1:autoParam (starEach [e,.Name x pt] X.env=(false,eval e X.env)::starEach [.Name x pt] X.env) aR._auto_1) (h2:autoParam (starEach [.Name x pt] X.env=(false,eval (.Name x pt) X.env)::starEach [] X.env) aR._auto_1) (Og:autoParam ((backTo pos (starEach [.Name x pt] X.env)).any (·.1)=false) aR._auto_1) :
  PE X (.Call (.Name "isinstance" p) [e,.Name x pt] [] pos) (tE E (Fv ys f)):=by
 refine(j7 (c6.or uH pD) hg hm tq (dM he (dM hT ko h2) h1) (by decide) (by decide) h1 Og).imp fun σ H Q q=>bZ (K:=jS Q) jS.g q λB H₀ Hs H1 env p v sr rp hp=>?_
 cases p with
 | exc C fo =>
  obtain⟨m,q⟩:=av.cC hp
  obtain⟨a,Q2,rfl,hx⟩:=w4 sr.gr.sub rp
  have m':C∈ys:=by simpa using m
  exact .inr ⟨a,C,Q2,true,(Pd C m').1,hx,.inl ⟨"ValueError", rfl,(Pd C m').2⟩,dO.flat q sr.gr.sub (.bl _)⟩
 | _=>exact hp.elim
end
section
variable{pos:Pos}{f g:af->M PV}
def Kc(K:PySem.W.Frag):V->List V->Hp->VK->Prop:=λx vs H Q=>∃ (l:Addr) (bs:List Bool) (b:Bool) (j:Nat),x=.ref l/\vs=[.bl b]/\gS K H l (bs.map V.bl)/\bs.findIdx? (·==b)=some j/\Q (.int j) H
theorem Vals.Kd{bs:List Bool}(r:Vals (bs.map V.bl) us):us=bs.map Value.bool:=by
 induction bs generalizing us with
 | nil=>cases r;rfl
 | cons a t ih =>
  cases r with
  | cons h r =>
   cases (show _=Value.bool a from h)
   rw[ih r];rfl
theorem BA:Lz X "list.index" (Kc X.K):=by
 intro NX s σ H x vs v us Q I rx rv h
 obtain⟨l,bs,b,j,rfl,rfl,hq,hj,q⟩:=h
 cases rx
 obtain⟨u,rfl,ru⟩:=rv.one
 cases ru
 obtain⟨NZ,r,⟨ob,n,e,c,hdd,hd⟩,hz⟩:=I.list hq
 obtain rfl:=r.Kd
 obtain⟨oc,od,dt,sl⟩:=ob
 simp only at c hd
 subst c hd
 obtain⟨hj1,hj2,hj3⟩:=List.findIdx?_eq_some_iff_getElem.mp hj
 have hl:j<(bs.map Value.bool).toArray.size:=by simpa using hj1
 have Qy:bs.length<=sizeLine:=by simpa using hz
 have hs:(j:Int)<2^63-1:=by
  have:sizeLine<2^40:=by decide
  omega
 refine call_meets F.slot_list_index ⟨_,e,rfl⟩ F.entry_list_index (F.args_list_index_2 _ _) (SeqAt.list_indexAt l (bs.map Value.bool).toArray n od sl (.bool b) (λy=>y==.bool b) j hl hs ?_ ?_) ⟨e,λy hy=>?_,?_⟩
 ·have:=eq_of_beq hj2
  simp[this]
 ·intro m hm h2
  have:=hj3 m h2
  simpa using this
 ·obtain⟨a,ha,rfl⟩:∃ a,a∈bs/\Value.bool a=y:=by simpa using hy
  have:=SeqAt.EqAt.bool_bool (A:=X.A.in1) (s:=s) a b
  have e2:(Value.bool a==Value.bool b)=(a==b):=by cases a <;> cases b <;> rfl
  rw[e2];exact this
 ·exact⟨.int j,H,I.kept (t':=s.toks+1) λ_ _ z=>z,⟨_,rfl⟩,q⟩
def F0(p q:PV):M PV:=match p,q with
 | .lst xs,.bl b=>dJ ((xA xs).bind λbs=>(bs.findIdx? (·==b)).map λ(j:Nat)=>.int (j:Int))
 | _,_=>none
def Kk(p:PV)(k:M PV):M PV:=match p with
 | .lst xs=>k.bind λq=>F0 (.lst xs) q
 | _=>none
def BL(f g:af->M PV):af->M PV:=λenv=>(f env).bind λp=>Kk p (g env)
theorem Bq(ho:PE X o (tE E f))(ha:PE X e (tE E g))(OW:autoParam (attributeBase o "index" X.env (eval o X.env)=eval o X.env) aR._auto_1)
  (Qs:autoParam (((backTo Oa (starEach [e] X.env)).all (λx=>!x.1)&&(backToKw Oa (keywordEach [] X.env)).all (λx=>x.1.isSome)&&decide ([e].length+([]:List Keyword).length+(if ([]:List Keyword).isEmpty then 0 else 1)<30))=true) aR._auto_1)
  (OY:autoParam ((apos.endLine==Oa.line)=true) aR._auto_1) (hs:autoParam (starEach [e] X.env=(false,eval e X.env)::starEach [] X.env) aR._auto_1) (Pr:autoParam ((backTo Oa (starEach [] X.env)).any (·.1)=false) aR._auto_1) :
  PE X (.Call (.Attribute o "index" apos) [e] [] Oa) (tE E (BL f g)):=by
 refine(FZ PySem.F.plainAttrs_list PySem.F.slot_list_index PySem.F.type_list_index BA ho (dM ha ko hs) OW Qs OY hs Pr).imp fun σ H Q q=>?_
 refine uv q λB H₀ Hs H1 env p v sr rp hp=>?_
 cases rp with
 | @lst a _ vs ha' hx =>
  refine⟨.inl ⟨rfl,_,gS.of (sr.gr.sub _ _ ha')⟩,B,H₀,Hs,env,sr,(av.bind hp).imp (λq2 hq u N2 H' g' ru=>?_) λe he=>he⟩
  cases ru with
  | bl b =>
   obtain⟨z,ez,Ou⟩:=av.opt hq
   obtain⟨bs,e1,e2⟩:=Option.bind_eq_some_iff.mp ez
   obtain⟨j,e3,rfl⟩:=Option.map_eq_some_iff.mp e2
   obtain rfl:=wU e1
   obtain rfl:=hx.Kd
   exact⟨a,bs,b,j,rfl,rfl,gS.of ((sr.grow g').gr.sub _ _ (g'.st _ _ ha')),e3,Ou _ _ _ g' (.int _)⟩
  | _=>exact hq.elim
 | _=>exact hp.elim
end
section
open PySem PySem.Spec PyProof.Rows _root_.HT
section
variable{E:Value->Shared->Prop}
theorem lT{t sl:Addr}{vl vu:Value}{lo hi:Option Int}(ht:IsTup s.heap t items)(hs:s.heap.IsSliceOf sl vl vu .none)(pl:IsPart vl lo)(pu:IsPart vu hi)
  (hw:dI items.size 0 lo=0/\dI items.size items.size hi=items.size) (h:Q (.ref t) s):wpAny (model prog w) A (getItem (.ref t) (.ref sl)) Q E s:=by
 obtain⟨os,Q8,hcs,Q3⟩:=id hs
 have hTs:s.TypeIs (.ref sl) "slice" := ⟨os,Q8,hcs⟩
 unfold getItem
 try with_reducible refine wpAny_holding ?_
 first | refine wpAny_bind (wpAny_pure ?_) | skip
 refine wpAny_bind (wpAny_sequenceKey ht.typeIs (by decide) ?_)
 refine wpAny_bind (wpAny_callSpecial?_slot (name:=Str.ofString "__getitem__") ht.typeIs PyProof.Rows.slot_tuple_getitem
  (wpAny_call_entry PyProof.Rows.slot_tuple_getitem ht.typeIs entry_tuple_getitem ?_ (args_tuple_getitem _ _)))
 show wpAny _ _ (Builtin.Tuple.tupleItemsOf (.ref t) >>= _) _ _ s
 refine wpAny_bind (tupleItemsOf_ ht ?_)
 refine wpAny_bind (wpAny_typeOf hTs ?_)
 rw[if_pos (by decide)]
 refine wpAny_bind (i_ hs pl pu ?_)
 have hyes:(((dI items.size 0 lo:Nat):Int)==0&&(1:Int)==1&&(dI items.size items.size hi-dI items.size 0 lo)==items.size)=true:=by
  rw[hw.1,hw.2];simp
 show wpAny _ _ (if (((dI items.size 0 lo:Nat):Int)==0&&(1:Int)==1&&(dI items.size items.size hi-dI items.size 0 lo)==items.size)=true then _ else _) _ _ s
 rw[if_pos hyes]
 unfold Builtin.Tuple.tupleIsExact
 refine wpAny_bind (wpAny_bind (wpAny_typeOf ht.typeIs (wpAny_pure ?_)))
 rw[if_pos (show ((Value.type "tuple" == Value.type "tuple")=true) from beq_self_eq_true _)]
 refine wpAny_bind (wpAny_rule ?_)
 first
  | exact wpAny_bind (wpAny_pure (wpAny_pure ⟨_,rfl,wpAny_pure h⟩))
  | exact wpAny_bind (wpAny_pure ⟨_,rfl,wpAny_pure h⟩)
  | exact wpAny_pure ⟨_,rfl,wpAny_pure h⟩
end
section
variable{lo hi:Option Expr}{pos p2:Pos}{f:af->M PV}{gl gh:af->M (Option Int)}
def LV(K:PySem.W.Frag):V->Option Int->Option Int->Hp->VK->Prop:=λx lo hi H Q=>∃ a xs,x=.ref a/\hX K H a xs/\(dI xs.length 0 lo=0/\dI xs.length xs.length hi=xs.length)/\Q (.ref a) H
theorem Fh:Dx X (LV X.K):=by
 intro NX s σ H x v vl vu lo hi sl Q I rx hs pl pu h
 obtain⟨a,xs,rfl,hx,hw,q⟩:=h
 cases rx
 obtain⟨NZ,r,ht,hz⟩:=I.tuple hx
 have hlen:NZ.toArray.size=xs.length:=by rw[List.size_toArray];exact r.length.symm
 refine⟨"tuple", _,PyProof.Rows.slot_tuple_getitem.lookup,ht.typeIs,?_⟩
 exact lT ht hs pl pu (by rw[hlen];exact hw) ⟨.ref a,H,I,rfl,q⟩
def Lq(p:PV)(lo hi:Option Int):M PV:=match p with
 | .tup xs=>M.ok (.tup (qY xs lo hi))
 | .lst xs=>M.ok (.lst (qY xs lo hi))
 | .jN xs=>M.ok (.lst (qY xs lo hi))
 | _=>none
def wm(f:af->M PV)(lo hi:af->M (Option Int)):af->M PV:=λenv=>(f env).bind λp=>(lo env).bind λl=>(hi env).bind λh=>Lq p l h
theorem z7(he:PE X e (tE E f))(hl:PO X lo (LJ E gl))(hh:PO X hi (LJ E gh)):PE X (.Subscript e (.Slice lo hi none p2) pos) (tE E (wm f gl gh)):=by
 refine(BB (Dx.or Gr (Dx.or Fh D4)) he hl hh).imp fun σ H Q q=>bZ (K:=jS Q) jS.g q λB H₀ Hs H1 env p v sr rp hp=>?_
 refine⟨B,H₀,Hs,env,sr,(av.bind hp).imp (λl hl N8 H2 g2=>?_) λe he=>he⟩
 have Oi:=sr.grow g2
 refine⟨B,H₀,N8,env,Oi,(av.bind hl).imp (λh hh Pe H3 g3=>?_) λe he=>he.grow g2⟩
 have PX:=Oi.grow g3
 have hz:av (Lq p l h) (dO Pe H3 Q) (λ_=>True):=hh.imp (λz hz w Hs4 H4 g4 r=>hz w Hs4 H4 ((g2.trans g3).trans g4) r) λ_ _=>trivial
 have rp3:=(rp.mono g2.st).mono g3.st
 cases rp3 with
 | @tup a xs vs ha hx =>
  by_cases hn:dI xs.length 0 l=0/\dI xs.length xs.length h=xs.length
  ·refine .inr (.inl ⟨_,_,rfl,hX.of (PX.gr.sub _ _ ha),by rw[← hx.length];exact hn,?_⟩)
   have e:qY xs l h=xs:=by
    unfold qY;rw[hn.1,hn.2,List.drop_zero,Nat.sub_zero,List.take_length]
   have Qy:dO Pe H3 Q (.tup xs):=by
    have z:dO Pe H3 Q (.tup (qY xs l h)):=hz
    rw[e] at z;exact z
   exact dO.flat Qy PX.gr.sub (.tup ha hx)
  ·exact .inl ⟨_,_,rfl,hX.of (PX.gr.sub _ _ ha),by rw[← hx.length];exact hn,dO.tup hz PX.gr.sub (hx.cut l h)⟩
 | lst ha hx=>exact .inr (.inr ⟨_,_,rfl,gS.of (PX.gr.sub _ _ ha),dO.lst hz PX.gr.sub (hx.cut l h)⟩)
 | jN ha hx=>exact .inr (.inr ⟨_,_,rfl,.inl (.inr ⟨_,PX.gr.sub _ _ ha⟩),dO.lst hz PX.gr.sub (hx.cut l h)⟩)
 | _=>exact hz.elim
end
end
section
variable{pos:Pos}{g:af->M PV}{fs:af->M (List PV)}{L:List (Addr×(List PV->M PV))}{K:PySem.W.Frag}
end
section
open PySem.SeqAt (shaped EqAt RcAt RcNeAt)
section
variable{b:Addr}
end
end
end L2
namespace HT
open PySem PyProof.Rows
variable{E:Value->Shared->Prop}{A:Around}{w:World}{prog:Program}
section
variable{a b v:Value}{k:Bool}{I S ax:Addr}{t:Shared}{n:Nat}{R:Result->Shared->Prop}
end
section
open PySem.SeqAt
open PySem.AutoSeq1 (wpAny_loadPart')
open PySem.MeetsSeq PySem.MeetsSeq2 PySem.MeetsSeq3
end
section
variable{s:Shared}
end
end HT
namespace L2
open PySem PySem.Spec PyProof.Rows
variable{E:St->XK}{X:Cx}
variable{js:List Nat}{ts:List Str}{f:af->M PV}{it:af->M (List PV)}{wi:TI}{scope:Scope}{c:Expr}
variable{y:Str}{i:Nat}
section
variable{tg elt iter:Expr}{cl:List (Str×Addr)}{pos:Pos}{g:TG}{set:PV->af->M af}{fs:List Str}
variable{E:XK}{py Po:Pos}
end
theorem CD{tg elt iter:Expr}{cl:List (Str×Addr)}{pos Po py:Pos}{g:TG}{t:TT}{te:TE}{fs:List Str}(hN:X.N.Nodup)(Q6:X.N[i]?=some y)(hy:Loc X.env.scope y)(N4:X.calm=true)
  (Oc:closureFor scope X.env=pure cl) (hk:scope.kind=.function) (nc:eQ scope.names=true) (lo:fK scope.names=true) (fh:fN cl scope.names=true) (ag:dP X cl) (fr:g9 X scope cl fs js)
  (hi:PI X tg iter wi) (hg:∀ C s₀ H₀ ex NX,PG (mw X scope cl (ts++fs) C s₀ H₀ ex NX) tg g) (ht:∀ C s₀ H₀ ex NX,PT (mw X scope cl (ts++fs) C s₀ H₀ ex NX) c t) (he:∀ C s₀ H₀ ex NX,PE (mw X scope cl (ts++fs) C s₀ H₀ ex NX) elt te)
  (hs:autoParam (∀ x,foldedSetIterable iter X.env x=pure x) aI._auto_1) (QS:autoParam (swapsWith (.ListComp elt [⟨tg,iter,[c],0⟩] scope pos) (some (.Name y py)) Po.line X.env=pure true) aR._auto_1)
  (hf:autoParam (X.fn y=true\/X.env.scope.names.lookup y=some .local) aF._auto_1) :
  PS X (.Assign [.Name y py] (.ListComp elt [⟨tg,iter,[c],0⟩] scope pos) Po) (Ff (wW wi g t te ts js) (aC i)):=by
 intro NX s σ H D I h
 rw[exec_Assign_Name_used _ _ _ _ QS]
 refine wpAny_bind (wpAny_standAt (wpAny_bind ?_))
 show wpAny _ X.A (do let _ ← comprehension (.ListComp elt [⟨tg,iter,[c],0⟩] scope pos) scope X.env _ (newList []) false (eval iter X.env) (some (assign (.Name y py) X.env))) _ _ s
 refine wpAny_bind (wpAny_mono (qy (ifs:=[c]) (tt:=some t) N4 Oc hk nc lo fh ag fr hi hg ht he hs I (show ya wi g (some t) te ts js σ H (λx H1=>D.nx (σ.set i (some x)) H1) from h) (some (assign (.Name y py) X.env)) (λ_ s'=>SP X NX D .next s') λDd H' s' C Io q hm f=>?_) (λ_ s' hq=>wpAny_pure (wpAny_pure hq)) λ_ _ e=>e)
 show wpAny _ X.A (assign (.Name y py) X.env (.ref Dd)) _ _ s'
 refine wpAny_assign_Name (nh Io hN Q6 hy (v:=.ref Dd) rfl (λRN I'' ⟨a,sb,ha⟩=>?_) hf)
 obtain⟨m,hn⟩:=hm
 obtain⟨f0,f1,f2,f3,f4,f5⟩:=f
 have naC:a≠C:=by
  rcases ha with z | z
  ·rw[z];exact λw=>f1 w.symm
  ·exact f4 y a z
 refine⟨m,hn.sameBut sb (Ne.symm naC),λh' QR=>?_⟩
 exact⟨_,H',I''.other ⟨f0,f1,f2,f3,f4,f5⟩ QR,q⟩
variable{u:af->M Bool}
section
variable{tg elt iter:Expr}{cl:List (Str×Addr)}{pos:Pos}{g:TG}{set:PV->af->M af}{fs:List Str}
theorem Dl{σ:St}{H:Hp}{Q:VK}(hv:ym E wi it)(Qk:∀ E,C2 E g set)(so:lJ set)(q:tO E (bF it set (some u) f ts.length js) σ H Q):wW wi g (tT EF u) (tE EF f) ts js σ H Q:=by
 refine hv σ H _ ?_
 obtain⟨B,H₀,Hs,env,sr,q⟩:=q
 refine⟨B,H₀,Hs,env,sr,(av.bind q).imp (λxs hp J N7 H1 gr ok D hD=>?_) λe he=>he⟩
 obtain⟨hz,hp⟩:=av.cC hp
 have hp:=av.yS hp
 have QH:=sr.grow gr
 refine⟨λi m σ H=>m=xs.length-i/\i<=xs.length/\Jc set (some u) f Q N7 H1 D xs i σ H,⟨xs.length,by simp,Nat.zero_le _,N7,_,[],[],QH.block hD,dw,aB,?_,.nil,Nat.le_refl _,hp.imp (λzs hz vs p N8 H2 g2 r n=>hz vs p N8 H2 (gr.trans g2) r n) λ_ z=>z⟩,?_⟩
 ·cases z:N7 D with
  | none=>rfl
  | some o=>have:=gr.sub _ _ z;rw[hD] at this;cases this
 rintro i m σ' H2 ⟨rfl,hi,N8,env2,ys,vs,Oi,n2,d1,d2,r2,l2,h2⟩
 by_cases Oy:i<xs.length
 ·refine .inr ⟨ok.go i N8 H2 Oi.gr.st Oi.gr.sub Oy,Jc set (some u) f Q N7 H1 D xs (i+1),fun σ3 H3 j=>⟨xs.length-(i+1),by omega,rfl,Oy,j⟩,λx H3 y=>?_⟩
  obtain⟨p,Pe,ep,g3,r3⟩:=ok.tR i N8 H2 x H3 Oi.gr.st Oi.gr.sub Oy y
  have hd:xs.drop i=p::xs.drop (i+1):=by
   rw[List.drop_eq_getElem_cons Oy]
   rw[List.getElem?_eq_getElem Oy] at ep
   rw[Option.some.inj ep]
  rw[hd] at h2
  have h3:=av.bind h2
  have PX:=Oi.grow g3
  refine Qk (λ_ _ _=>False) N7 H1 Pe H3 σ' env2 p x _ (λ_=>False) PX r3 ?_
  cases hset:set p env2 with
  | none=>rw[hset] at h3;exact h3
  | some z=>cases z with
   | error e=>rw[hset] at h3;exact h3
   | ok e3 =>
    rw[hset] at h3
    intro σ4 sr4
    have n4:=so p env2 e3 hset n2
    refine⟨N7,H1,Pe,e3,sr4,(av.bind h3).imp (λb hb QK H5 g5=>?_) λ_ z=>z.elim⟩
    have d5:=g5.al _ _ (g3.al _ _ d1)
    have e5:=g5.nw _ _ (g3.nw _ _ d2 d1) (g3.al _ _ d1)
    cases b with
    | true =>
     refine⟨N7,H1,QK,e3,sr4.grow g5,(av.bind hb).imp (λy hy v Hs6 H6 g6 r6=>?_) λ_ z=>z.elim⟩
     exact Jc.put (set:=set) (t:=some u) (f:=f) hD ((sr4.grow g5).grow g6) n4 (g6.al _ _ d5) (g6.nw _ _ e5 d5) (((r2.mono g3.st).mono g5.st).mono g6.st) l2 (by omega) r6 hy
    | false=>exact⟨QK,e3,ys,vs,sr4.grow g5,n4,d5,e5,(r2.mono g3.st).mono g5.st,by omega,hb⟩
 ·refine .inl ⟨ok.stop i N8 H2 Oi.gr.st Oi.gr.sub (by omega),?_⟩
  exact Jc.done (set:=set) (t:=some u) (f:=f) (xs:=xs) (N7:=N7) (H1:=H1) (i:=i) hD ⟨N8,env2,ys,vs,Oi,n2,d1,d2,r2,l2,h2⟩ (by omega)
variable{E:XK}{py Po:Pos}
theorem vp(N4:X.calm=true)
  (Oc:closureFor scope X.env=pure cl) (hk:scope.kind=.function) (nc:eQ scope.names=true) (lo:fK scope.names=true) (fh:fN cl scope.names=true) (ag:dP X cl) (fr:g9 X scope cl fs js)
  (hi:PI X tg iter wi) (hv:ym (λ_=>E) wi it) (hg:∀ C s₀ H₀ ex NX,PG (mw X scope cl (ts++fs) C s₀ H₀ ex NX) tg g) (Qk:∀ E,C2 E g set) (so:lJ set) (ht:∀ C s₀ H₀ ex NX,PT (mw X scope cl (ts++fs) C s₀ H₀ ex NX) c (tT EF u)) (he:∀ C s₀ H₀ ex NX,PE (mw X scope cl (ts++fs) C s₀ H₀ ex NX) elt (tE EF f))
  (hN:X.N.Nodup) (Q6:X.N[i]?=some y) (hy:Loc X.env.scope y)
  (hs:autoParam (∀ x,foldedSetIterable iter X.env x=pure x) aI._auto_1) (QS:autoParam (swapsWith (.ListComp elt [⟨tg,iter,[c],0⟩] scope pos) (some (.Name y py)) Po.line X.env=pure true) aR._auto_1)
  (hf:autoParam (X.fn y=true\/X.env.scope.names.lookup y=some .local) aF._auto_1) :
  PS X (.Assign [.Name y py] (.ListComp elt [⟨tg,iter,[c],0⟩] scope pos) Po) (tS E (bf i (bM (bF it set (some u) f ts.length js)))):=by
 refine(CD hN Q6 hy N4 Oc hk nc lo fh ag fr hi hg ht he hs QS hf).imp λD σ H q=>?_
 refine Dl hv Qk so ?_
 obtain⟨B,H₀,Hs,env,sr,q⟩:=q
 refine⟨B,H₀,Hs,env,sr,(av.bind (av.bind q)).imp (λps hp vs p N2 H' g r n=>?_) λe he=>he.grow sr.gr⟩
 have gn:=bP.new (o:=.lst vs) g.sub n
 exact hp _ _ _ ((sr.grow (g.trans gn)).set (.lst aB (r.mono gn.st)))
end
def ou:PV->PV->M PV:=nU (λi j=>decide (0<=j/\j<=1000000/\i.natAbs<2^64)) λi j=>i*2^j.toNat
theorem Ez:kE E (rI By λi j=>.int (i*2^j.toNat)) ou:=pG λi j z=>(of_decide_eq_true z:0<=j/\j<=1000000/\i.natAbs<2^64)
def yW:PV->PV->M PV:=nU (λ_ j=>decide (0<=j)) λi j=>i/2^j.toNat
theorem E_:kE E (rI (λ_ j=>0<=j) λi j=>.int (i/2^j.toNat)) yW:=pG λi j z=>of_decide_eq_true z
def vB:PV->PV->M PV
 | .int i,.int j=>M.ok (.int (Builtin.bitAnd i j))
 | _,_=>none
theorem Bn:kE E (wj λi j=>.int (Builtin.bitAnd i j)) vB:=by
 intro σ Hs H p q v u Q s rp rq h
 cases rp with
 | int i=>cases rq with
  | int j=>exact⟨i,j,rfl,rfl,dO.flat h s (.int _)⟩
  | _=>exact h.elim
 | _=>exact h.elim
section
variable{o:Expr}{apos Oa:Pos}
def FW:V->List V->Hp->VK->Prop:=λx vs H Q=>∃ i,x=.int i/\vs=[]/\Q (.int ((Builtin.Int.intBits i:Nat):Int)) H
theorem DI:Lz X "int.bit_length" FW:=by
 intro NX s σ H x vs v us Q I rx rv h
 obtain⟨i,rfl,rfl,q⟩:=h
 obtain⟨t,rfl⟩:=rx
 cases rv
 exact call_gives F.slot_int_bit_length (typeIs_int s i t) F.entry_int_bit_length (F.args_int_bit_length_1 _) (AutoIntG2.int_bit_length_int_0 i t) ⟨.int _,H,I.tok _,⟨_,rfl⟩,q⟩
def FY:PV->M PV
 | .int i=>M.ok (.int ((Builtin.Int.intBits i:Nat):Int))
 | _=>none
def Be(f:af->M PV):af->M PV:=λenv=>(f env).bind FY
theorem Es(ho:PE X o (tE E f))(OW:autoParam (attributeBase o "bit_length" X.env (eval o X.env)=eval o X.env) aR._auto_1)(OY:autoParam ((apos.endLine==Oa.line)=true) aR._auto_1):PE X (.Call (.Attribute o "bit_length" apos) [] [] Oa) (tE E (Be f)) :=
 (G2 PySem.F.plainAttrs_int PySem.F.slot_int_bit_length PySem.F.type_int_bit_length DI ho OW OY).imp fun σ H Q q=>F1 (r:=λx H Q=>Lg X.K "int" x H/\FW x [] H Q) q λHs H1 p v s rp h=>by
  cases rp with
  | int i=>exact⟨rfl,i,rfl,rfl,dO.flat h s (.int _)⟩
  | _=>exact h.elim
end
theorem JC{a b:List Stmt}{pos:Pos}{g h:af->M Out}(hc:PT X c (tT E u))(ha:kq X a (Jp E g))(hb:kq X b (Jp E h)):kq X [.If c a b pos] (Jp E (jQ u g h)):=by
 intro NX s σ H D I q
 refine oW (F7 hc ha hb) sR NX s σ H D I ?_
 obtain⟨B,H₀,Hs,env,sr,q⟩:=q
 refine⟨B,H₀,Hs,env,sr,(av.bind q).imp (λp hp N2 H' g'=>?_) λe he=>he⟩
 cases p with
 | true=>exact⟨B,H₀,N2,env,sr.grow g',hp.imp (λ_ z=>z) λe he=>he.grow g'⟩
 | false=>exact⟨B,H₀,N2,env,sr.grow g',hp.imp (λ_ z=>z) λe he=>he.grow g'⟩
variable{k:Nat}
theorem cv.Nt{A:Around}(r:cv k A):A.units+65<cLine:=by have:=r.un;omega
section
open PySem.SeqAt (shaped)
def Jo(s:Shared)(d:PyData)(w:Value):Bool:=@decide (∃ d' as,Reads s.heap w d' as/\d'.canLay0=true/\PyData.eqv d' d=true) (Classical.propDecidable _)
theorem Ap{s:Shared}{d d':PyData}{w:Value}{as:List Addr}(r:Reads s.heap w d' as)(h:d'.canLay0=true):Jo s d w=PyData.eqv d' d:=by
 unfold Jo
 cases e:PyData.eqv d' d with
 | true=>exact @decide_eq_true _ (Classical.propDecidable _) ⟨d',as,r,h,e⟩
 | false =>
  refine @decide_eq_false _ (Classical.propDecidable _) ?_
  rintro⟨d2,as2,r2,h2,e2⟩
  rw[SeqAt.Reads.unique d' d2 w as as2 h r r2,e2] at e
  cases e
def Kb(K:PySem.W.Frag):R2:=λx y H Q=>∃ Hs p ps vs a d ds,bB Hs H/\Rep Hs p x/\y=.ref a/\gS K H a vs/\aS Hs ps vs/\dat p=some d/\kr ps=some ds/\shaped d=true/\ds.all shaped=true/\Q (.bl (ds.any λe=>PyData.eqv e d)) H
theorem yC{NX:List (Addr×Obj)}{σ:St}{H Hs:Hp}{s:Shared}(I:Inv X NX σ H s)(sm:bB Hs H){d:PyData}:∀ {ps:List PV} {vs:List V} {us:List Value} {ds:List PyData},aS Hs ps vs->Vals vs us->kr ps=some ds->ds.all shaped=true->us.any (Jo s d)=(ds.any λe=>PyData.eqv e d)/\∀ w∈us,∃ d' as,Reads s.heap w d' as/\shaped d'=true
 | [],_,_,_,.nil,.nil,e,_=>by cases e;exact⟨rfl,by simp⟩
 | p::r,_,_,_,.cons h t,.cons h2 t2,e,hs=>by
  obtain⟨d1,e1,e2⟩:=Option.bind_eq_some_iff.mp e
  obtain⟨ds,e3,rfl⟩:=Option.map_eq_some_iff.mp e2
  obtain⟨as,rd⟩:=Rep.reads I sm h h2 e1
  rw[List.all_cons,Bool.and_eq_true] at hs
  obtain⟨a,b⟩:=yC I sm t t2 e3 hs.2
  refine⟨by rw[List.any_cons,List.any_cons,a,Ap rd (SeqAt.canLay_of_shaped hs.1)],λw hw=>?_⟩
  rcases List.mem_cons.mp hw with rfl | hw
  ·exact⟨_,_,rd,hs.1⟩
  ·exact b w hw
theorem Hg(hu:X.A.units+65<cLine):f_ X (compareOp .In) (Kb X.K):=by
 intro NX s σ H x y v u Q I rx ry h
 obtain⟨Hs,p,ps,vs,a,d,ds,sm,rp,rfl,hq,rl,hd,Q3,h1,h2,q⟩:=h
 cases ry
 obtain⟨NZ,r,pl,hz⟩:=I.list hq
 obtain⟨as,rv⟩:=Rep.reads I sm rp rx hd
 obtain⟨e1,e2⟩:=yC (d:=d) I sm rl r Q3 h2
 refine SeqAt.in_listAt (Jo s d) pl.isList (λw hw=>?_) ⟨.bl _,H,I,rfl,?_⟩
 ·obtain⟨d',as',rd,hs⟩:=e2 w (by simpa using hw)
  rw[Ap rd (SeqAt.canLay_of_shaped hs)]
  exact SeqAt.eqAt_reads d' d _ _ _ _ _ _ rd rv (SeqAt.canLay_of_shaped hs) (SeqAt.canLay_of_shaped h1) (SeqAt.room_of_shaped hs (show X.A.units+1+64<cLine by omega))
 ·rw[show NZ.toArray.any (Jo s d)=NZ.any (Jo s d) by simp,e1]
  exact q
def inD(p q:PV):M PV:=match dat p,q with
 | some d,.lst ps=>(match kr ps with
  | some ds=>cC (shaped d=true/\ds.all shaped=true) (M.ok (.bl (ds.any λe=>PyData.eqv e d)))
  | none=>none)
 | _,_=>none
theorem Hi{K:PySem.W.Frag}:kE E (Kb K) inD:=by
 intro σ Hs H p q v u Q s rp rq h
 unfold inD at h
 split at h
 ·rename_i d ps e1
  split at h
  ·rename_i ds e2
   obtain⟨⟨h1,h2⟩,h⟩:=av.cC h
   cases rq with
   | lst ha hx=>exact⟨Hs,p,ps,_,_,d,ds,s,rp,rfl,gS.of (s _ _ ha),hx,e1,e2,h1,h2,dO.flat h s (.bl _)⟩
  ·exact h.elim
 ·exact h.elim
end
variable{α β:Type}
variable{x0:Option SV}
variable{p:PV}
variable{b:af->M Out}
variable{j:Int}
variable{xs:List PV}
variable{body:af->M Out}
variable{n:Nat}
section
open PySem.SeqAt (shaped noMix noMixAll)
theorem M.aE(a:α)(f:α->M β):M.bind (M.ok a) f=f a:=Eq.trans rfl rfl
theorem M.Bx(e:EX)(f:α->M β):M.bind (some (Except.error e)) f=some (.error e):=Eq.trans rfl rfl
theorem M.bind_none(f:α->M β):M.bind none f=none:=Eq.trans rfl rfl
theorem M.bind_some(a:α)(f:α->M β):M.bind (some (Except.ok a)) f=f a:=Eq.trans rfl rfl
theorem M.bind_assoc{γ:Type}(x:M α)(f:α->M β)(g:β->M γ):M.bind (M.bind x f) g=M.bind x λa=>M.bind (f a) g:=by
 cases x with
 | none=>rfl
 | some x=>cases x <;> rfl
theorem ar{c:Prop}[Decidable c]{x:M α}(h:c):cC c x=x:=if_pos h
theorem H0(a:α):yS (M.ok a)=M.ok a:=Eq.trans rfl rfl
theorem zZ(x:PV):dJ (some x)=M.ok x:=Eq.trans rfl rfl
theorem vj(g:af->M Out)(env:af):BK g (.nx env)=g env:=Eq.trans rfl rfl
theorem uP(g:af->M Out)(p:PV):BK g (.rt p)=M.ok (.rt p):=Eq.trans rfl rfl
theorem E6(b:Bool):wO (.bl b)=M.ok b:=Eq.trans rfl rfl
theorem EM(p:PV):Gy (.rt p)=M.ok p:=Eq.trans rfl rfl
theorem EH(e:af):Gy (.nx e)=M.ok .da:=Eq.trans rfl rfl
def tI(xs:List Int):PV:=.tup (xs.map PV.int)
def lI(xs:List Int):PV:=.lst (xs.map PV.int)
theorem Fx(xs:List Int):bX (tI xs)=some (xs.map PV.int):=Eq.trans rfl rfl
theorem Et(xs:List Int):bX (lI xs)=some (xs.map PV.int):=Eq.trans rfl rfl
theorem Dj(xs:List PV):bX (.tup xs)=some xs:=Eq.trans rfl rfl
theorem qF(xs:List PV):bX (.lst xs)=some xs:=Eq.trans rfl rfl
theorem Df(xs:List PV):bX (.jN xs)=some xs:=Eq.trans rfl rfl
theorem EI(xs:List Int):s_ (tI xs)=M.ok (.int xs.length):=by simp[s_,tI,bX,dJ]
theorem D9(xs:List Int):s_ (lI xs)=M.ok (.int xs.length):=by simp[s_,lI,bX,dJ]
theorem CF(xs:List PV):s_ (.tup xs)=M.ok (.int xs.length):=Eq.trans rfl rfl
theorem CS(xs:List PV):s_ (.lst xs)=M.ok (.int xs.length):=Eq.trans rfl rfl
theorem BV(xs:List PV):s_ (.jN xs)=M.ok (.int xs.length):=Eq.trans rfl rfl
theorem qq(xs:List Int):qW [.lst (xs.map PV.int)]=M.ok (.int xs.sum):=by simp[qW,Ku,rJ,dJ]
theorem vD(xs:List Bool):vg [.lst (xs.map PV.bl)]=M.ok (.bl (xs.all id)):=by simp[vg,all1,o8,dJ]
theorem dQ{inj h:α->PV}{rest:af}(xs:List α)(H:∀ a∈xs,f (some (.sh (inj a))::rest)=M.ok (h a)):bo (bw 0) none f (xs.map inj) (x0::rest)=M.ok (xs.map h):=by
 induction xs generalizing x0 with
 | nil=>rfl
 | cons a r ih =>
  rw[List.map_cons,bo]
  show M.bind (M.ok ((x0::rest).set 0 (some (.sh (inj a))))) _=_
  rw[M.aE,List.set_cons_zero]
  show M.bind (f _) _=_
  rw[H a List.mem_cons_self,M.aE,ih λb hb=>H b (List.mem_cons_of_mem _ hb)]
  rfl
theorem iL{p q h:α->PV}{rest:af}{x1:Option SV}(xs:List α)(H:∀ a∈xs,f (some (.sh (p a))::some (.sh (q a))::rest)=M.ok (h a)):bo (bR 0 1) none f (xs.map λa=>.tup [p a,q a]) (x0::x1::rest)=M.ok (xs.map h):=by
 induction xs generalizing x0 x1 with
 | nil=>rfl
 | cons a r ih =>
  rw[List.map_cons,bo]
  show M.bind (M.ok (((x0::x1::rest).set 0 (some (.sh (p a)))).set 1 (some (.sh (q a))))) _=_
  rw[M.aE,List.set_cons_zero,List.set_cons_succ,List.set_cons_zero]
  show M.bind (f _) _=_
  rw[H a List.mem_cons_self,M.aE,ih λb hb=>H b (List.mem_cons_of_mem _ hb)]
  rfl
theorem BM{p q s h:α->PV}{rest:af}{x1 x2:Option SV}(xs:List α)(H:∀ a∈xs,f (some (.sh (p a))::some (.sh (q a))::some (.sh (s a))::rest)=M.ok (h a)):bo (nL 0 1 2) none f (xs.map λa=>.tup [p a,q a,s a]) (x0::x1::x2::rest)=M.ok (xs.map h):=by
 induction xs generalizing x0 x1 x2 with
 | nil=>rfl
 | cons a r ih =>
  rw[List.map_cons,bo]
  show M.bind (M.ok ((((x0::x1::x2::rest).set 0 (some (.sh (p a)))).set 1 (some (.sh (q a)))).set 2 (some (.sh (s a))))) _=_
  rw[M.aE,List.set_cons_zero,List.set_cons_succ,List.set_cons_zero,List.set_cons_succ,List.set_cons_succ,List.set_cons_zero]
  show M.bind (f _) _=_
  rw[H a List.mem_cons_self,M.aE,ih λb hb=>H b (List.mem_cons_of_mem _ hb)]
  rfl
theorem dY{f:α->PV}{g:β->PV}{q:PV}(xs:List α)(ys:List β)(hp:bX p=some (xs.map f))(hq:bX q=some (ys.map g)):zip2 [p,q]=M.ok ((xs.zip ys).map λz=>.tup [f z.1,g z.2]):=by
 simp only[zip2,hp,hq]
 congr 2
 rw[List.zipWith_map,List.zip_eq_zipWith,List.map_zipWith]
theorem u_{γ:Type}{f:α->PV}{g:β->PV}{h:γ->PV}{q r:PV}(xs:List α)(ys:List β)(zs:List γ)(hp:bX p=some (xs.map f))(hq:bX q=some (ys.map g))(hr:bX r=some (zs.map h)):wo [p,q,r]=M.ok ((xs.zip (ys.zip zs)).map λz=>.tup [f z.1,g z.2.1,h z.2.2]):=by
 simp only[wo,hp,hq,hr]
 congr 2
 clear hp hq hr
 induction xs generalizing ys zs with
 | nil=>cases ys <;> cases zs <;> rfl
 | cons a r ih =>
  cases ys with
  | nil=>rfl
  | cons b s =>
   cases zs with
   | nil=>rfl
   | cons c t=>simp only[List.map_cons,jP,List.zip_cons_cons,ih]
theorem yP{f:α->PV}(xs:List α):ik (xs.map f)=(xs.zipIdx).map λz=>.tup [.int (z.2:Int),f z.1]:=by
 unfold ik
 rw[List.mapIdx_eq_zipIdx_map,List.zipIdx_map,List.map_map]
 rfl
theorem vV{set:PV->af->M af}{body:af->M Out}{α:Type}{inj:α->PV}(J:List α->af->Prop)
  (H:∀ a r env,J (a::r) env->∃ e' N1,set (inj a) env=M.ok e'/\body e'=M.ok (.nx N1)/\J r N1):∀ (xs:List α) (env:af),J xs env->∃ N1,j_ set body (xs.map inj) env=M.ok (.nx N1)/\J [] N1
 | [],env,h=>⟨env,rfl,h⟩
 | a::r,env,h=>by
  obtain⟨e',N1,h1,h2,h3⟩:=H a r env h
  obtain⟨Qm,h4,h5⟩:=vV J H r N1 h3
  refine⟨Qm,?_,h5⟩
  rw[List.map_cons,j_,h1,M.aE,h2,M.aE]
  exact h4
theorem rQ(J:af->Prop)(m:af->Nat)
  (H:∀ env,J env->(u env=M.ok false)\/(u env=M.ok true/\∃ N1,b env=M.ok (.nx N1)/\J N1/\m N1<m env)) (env:af) (h:J env):∃ N1,lB u b env=M.ok (.nx N1)/\J N1/\u N1=M.ok false:=by
 have key:∀ (n:Nat) (env:af),J env->m env<n->∃ N1,cQ u b n env=M.ok (.nx N1)/\J N1/\u N1=M.ok false:=by
  intro n
  induction n with
  | zero=>intro env _ hn;omega
  | succ n ih =>
   intro env h hn
   rcases H env h with hu | ⟨hu,N1,hb,hj,hm⟩
   ·exact⟨env,by rw[cQ,hu,M.aE];rfl,h,hu⟩
   ·obtain⟨Qm,h1,h2,h3⟩:=ih N1 hj (by omega)
    exact⟨Qm,by rw[cQ,hu,M.aE,if_pos rfl,hb,M.aE];exact h1,h2,h3⟩
 obtain⟨N1,h1,h2,h3⟩:=key (m env+1) env h (Nat.lt_succ_self _)
 refine⟨N1,?_,h2,h3⟩
 rw[yM (n:=m env+1) (by rw[h1];exact λz=>nomatch z),h1]
theorem log2_small{i:Int}(h:i.natAbs<2^k)(hk:k<=9000):i.natAbs.log2<67108864:=by
 by_cases z:i.natAbs=0
 ·rw[z];decide
 ·have:=(Nat.log2_lt z).mpr h
  omega
theorem bx{i:Int}{l:Nat}(hi:i.natAbs<2^k)(hj:j.natAbs<2^l)(hk:autoParam (k<=9000) aD._auto_1)(hl:autoParam (l<=9000) aD._auto_1):cp (.int i) (.int j)=M.ok (.int (i*j)):=by
 rw[cp,ar ⟨log2_small hi hk,log2_small hj hl⟩]
theorem r9{i:Int}(h0:j≠0)(h:j.natAbs<2^9000):cy (.int i) (.int j)=M.ok (.int (i.fdiv j)):=by
 show cC _ _=_
 refine ar (decide_eq_true ⟨h0,(Nat.log2_lt (by omega)).mpr h⟩)
theorem B6{i:Int}(h0:j≠0):cz (.int i) (.int j)=M.ok (.int (i.fmod j)):=by
 show cC _ _=_
 exact ar (decide_eq_true h0)
theorem bG{i:Int}(h0:0<j)(h:j<2^64):cy (.int i) (.int j)=M.ok (.int (i/j)):=by
 rw[r9 (by omega) (Nat.lt_of_lt_of_le (show j.natAbs<2^64 by omega) (Nat.pow_le_pow_right (by decide) (by decide))),Int.fdiv_eq_ediv_of_nonneg _ (by omega)]
theorem aO{i:Int}(h0:0<j):cz (.int i) (.int j)=M.ok (.int (i%j)):=by
 rw[B6 (by omega),Int.fmod_eq_emod_of_nonneg _ (by omega)]
theorem bC{j:Nat}{x:PV}(hs:bX p=some xs)(h:xs[j]?=some x):aP p (.int (j:Int))=M.ok x:=by
 cases p with
 | tup ys=>cases hs;simp only[aP,sW h,dJ]
 | lst ys=>cases hs;simp only[aP,sW h,dJ]
 | jN ys=>cases hs;simp only[aP,sW h,dJ]
 | _=>cases hs
section
variable{b:String->Bool}{ob oe:Addr->Option Bool}
theorem GA(xs:List Int):xI b ob oe (tI xs)=M.ok (.bl (b "tuple")):=Eq.trans rfl rfl
theorem Gp(xs:List Int):xI b ob oe (lI xs)=M.ok (.bl (b "list")):=Eq.trans rfl rfl
theorem Fn(xs:List PV):xI b ob oe (.tup xs)=M.ok (.bl (b "tuple")):=Eq.trans rfl rfl
theorem EK(xs:List PV):xI b ob oe (.lst xs)=M.ok (.bl (b "list")):=Eq.trans rfl rfl
theorem E3(i:Int):xI b ob oe (.int i)=M.ok (.bl (b "int")):=Eq.trans rfl rfl
theorem GB(i:Bool):xI b ob oe (.bl i)=M.ok (.bl (b "bool")):=Eq.trans rfl rfl
theorem Fl:xI b ob oe .da=M.ok (.bl (b "NoneType")):=Eq.trans rfl rfl
theorem Er(x:Str):xI b ob oe (.str x)=M.ok (.bl (b "str")):=Eq.trans rfl rfl
theorem DE:xI b ob oe .emp=M.ok (.bl (b "dict")):=Eq.trans rfl rfl
end
theorem Ek(i j:Int):oq (.int i) (.int j)=M.ok (.bl (!decide (i=j))):=by
 simp only[oq,om,dat,ED,shaped,PyData.canLay0,PyData.depth,noMix]
 rw[ar ⟨rfl,rfl,trivial⟩]
 unfold same
 rw[M.aE];congr
theorem EY(i j:Int):my (.int i) (.int j)=M.ok (.bl (decide (i=j))):=by
 simp only[my,om,dat,ED,shaped,PyData.canLay0,PyData.depth,noMix]
 rw[ar ⟨rfl,rfl,trivial⟩]
 unfold same
 rw[M.aE];congr
theorem Il(i j:Bool):oq (.bl i) (.bl j)=M.ok (.bl (!decide (i=j))):=by
 simp only[oq,om,dat,ED,shaped,PyData.canLay0,PyData.depth,noMix]
 rw[ar ⟨rfl,rfl,trivial⟩]
 unfold same
 rw[M.aE];congr
theorem HQ(i j:Bool):my (.bl i) (.bl j)=M.ok (.bl (decide (i=j))):=by
 simp only[my,om,dat,ED,shaped,PyData.canLay0,PyData.depth,noMix]
 rw[ar ⟨rfl,rfl,trivial⟩]
 unfold same
 rw[M.aE];congr
theorem kI(xs:List Int):kr (xs.map PV.int)=some (xs.map PyData.int):=by
 induction xs with
 | nil=>rfl
 | cons a r ih=>simp[kr,dat,ih]
theorem f7(xs:List Int):PyData.canLayAll0 (xs.map PyData.int)=true:=by
 induction xs with
 | nil=>rfl
 | cons a r ih=>simp[PyData.canLayAll0,PyData.canLay0,ih]
theorem g_(xs:List Int):PyData.depthAll (xs.map PyData.int)=0:=by
 induction xs with
 | nil=>rfl
 | cons a r ih=>simp[PyData.depthAll,PyData.depth,ih]
theorem noMix_ints:∀ (xs ys:List Int),noMixAll (xs.map PyData.int) (ys.map PyData.int)=true
 | [],[]=>by simp[noMixAll]
 | [],_::_=>by simp[noMixAll]
 | _::_,[]=>by simp[noMixAll]
 | a::r,b::s=>by simp[noMixAll,noMix,noMix_ints r s]
theorem same_ints:∀ (xs ys:List Int),sameAll (xs.map PyData.int) (ys.map PyData.int)=decide (xs=ys)
 | [],[]=>by simp[sameAll]
 | [],_::_=>by simp[sameAll]
 | _::_,[]=>by simp[sameAll]
 | a::r,b::s=>by
  simp only[List.map_cons,sameAll,same_ints r s]
  unfold same
  rw[Bool.eq_iff_iff];simp
theorem sC(xs:List (List Int)):kr (xs.map tI)=some (xs.map λr=>.tuple (r.map PyData.int)):=by
 induction xs with
 | nil=>rfl
 | cons a r ih=>simp[kr,dat,tI,kI] at ih ⊢;simp[ih]
theorem u7(xs:List (List Int)):PyData.canLayAll0 (xs.map λr=>.tuple (r.map PyData.int))=true:=by
 induction xs with
 | nil=>rfl
 | cons a r ih=>simp[PyData.canLayAll0,PyData.canLay0,ih,f7]
theorem pT(xs:List (List Int)):PyData.depthAll (xs.map λr=>.tuple (r.map PyData.int))<=1:=by
 induction xs with
 | nil=>exact Nat.zero_le _
 | cons a r ih=>simp[PyData.depthAll,PyData.depth,g_,ih]
theorem pR:∀ (xs ys:List (List Int)),noMixAll (xs.map λr=>.tuple (r.map PyData.int)) (ys.map λr=>.tuple (r.map PyData.int))=true
 | [],[]=>by simp[noMixAll]
 | [],_::_=>by simp[noMixAll]
 | _::_,[]=>by simp[noMixAll]
 | a::r,b::s=>by simp[noMixAll,noMix,noMix_ints,pR r s]
theorem r_:∀ (xs ys:List (List Int)),sameAll (xs.map λr=>.tuple (r.map PyData.int)) (ys.map λr=>.tuple (r.map PyData.int))=decide (xs=ys)
 | [],[]=>by simp[sameAll]
 | [],_::_=>by simp[sameAll]
 | _::_,[]=>by simp[sameAll]
 | a::r,b::s=>by
  simp only[List.map_cons,sameAll,r_ r s]
  unfold same
  rw[same_ints,Bool.eq_iff_iff];simp
theorem HC(xs ys:List Int):my (tI xs) (tI ys)=M.ok (.bl (decide (xs=ys))):=by
 simp only[my,om,dat,tI,kI,Option.map_some,ED]
 rw[ar (by simp[shaped,PyData.canLay0,PyData.depth,f7,g_,noMix,noMix_ints])]
 unfold same
 rw[same_ints];rfl
theorem xJ(xs ys:List Int):oq (tI xs) (tI ys)=M.ok (.bl (!decide (xs=ys))):=by
 simp only[oq,om,dat,tI,kI,Option.map_some,ED]
 rw[ar (by simp[shaped,PyData.canLay0,PyData.depth,f7,g_,noMix,noMix_ints])]
 unfold same
 rw[same_ints];rfl
theorem DS(i j:Int):As (.int i) (.int j)=M.ok (.bl (decide (i<j))):=Eq.trans rfl rfl
theorem DP(i j:Int):Cm (.int i) (.int j)=M.ok (.bl (decide (i<=j))):=Eq.trans rfl rfl
theorem Ea(i j:Int):FV (.int i) (.int j)=M.ok (.bl (decide (j<i))):=Eq.trans rfl rfl
theorem DR(i j:Int):JA (.int i) (.int j)=M.ok (.bl (decide (j<=i))):=Eq.trans rfl rfl
theorem Cb(i j:Int):eT (.int i) (.int j)=M.ok (.int (i+j)):=Eq.trans rfl rfl
theorem De(i j:Int):jU (.int i) (.int j)=M.ok (.int (i-j)):=Eq.trans rfl rfl
theorem cZ{n:Int}(h:0<=n)(h2:n<2^62):kd [.int n]=M.ok ((List.range n.toNat).map λ(i:Nat)=>.int (i:Int)):=by
 show cC (-(2^62)<=n/\n<2^62) _=_
 rw[ar (by omega)]
 simp
theorem eH{set:PV->af->M af}{inj:α->PV}{k:Out->M β}{r:M β}(xs:List α)(J:List α->af->Prop){env:af}(h:J xs env)
  (H:∀ a r env,J (a::r) env->∃ e' N1,set (inj a) env=M.ok e'/\body e'=M.ok (.nx N1)/\J r N1) (hk:∀ N1,J [] N1->k (.nx N1)=r):M.bind (j_ set body (xs.map inj) env) k=r:=by
 obtain⟨N1,e,h'⟩:=vV J H xs env h
 rw[e,M.aE];exact hk N1 h'
theorem wy{k:Out->M β}{r:M β}(J:af->Prop)(m:af->Nat){env:af}(h:J env)
  (H:∀ env,J env->(u env=M.ok false)\/(u env=M.ok true/\∃ N1,b env=M.ok (.nx N1)/\J N1/\m N1<m env)) (hk:∀ N1,J N1->u N1=M.ok false->k (.nx N1)=r):M.bind (lB u b env) k=r:=by
 obtain⟨N1,e,h',h2⟩:=rQ J m H env h
 rw[e,M.aE];exact hk N1 h' h2
theorem aL(h:n<=1000):n<=sizeLine:=Nat.le_of_lt (mM h)
def tupK(ps:List PV):M PV:=cC (ps.length<=sizeLine) (M.ok (.tup ps))
def lstK(ps:List PV):M PV:=cC (ps.length<=sizeLine) (M.ok (.lst ps))
theorem El(fs:af->M (List PV))(env:af):lH fs env=(fs env).bind tupK:=rfl
theorem En(fs:af->M (List PV))(env:af):mC fs env=(fs env).bind lstK:=rfl
theorem Iv:tupK []=M.ok (.tup []):=ar (aL (show 0<=1000 by decide))
theorem Hr:lstK []=M.ok (.lst []):=ar (aL (show 0<=1000 by decide))
theorem He(a:PV):tupK [a]=M.ok (.tup [a]):=ar (aL (show 1<=1000 by decide))
theorem IZ(a:PV):lstK [a]=M.ok (.lst [a]):=ar (aL (show 1<=1000 by decide))
theorem HG(a b:PV):tupK [a,b]=M.ok (.tup [a,b]):=ar (aL (show 2<=1000 by decide))
theorem Iw(a b:PV):lstK [a,b]=M.ok (.lst [a,b]):=ar (aL (show 2<=1000 by decide))
theorem GH(a b c:PV):tupK [a,b,c]=M.ok (.tup [a,b,c]):=ar (aL (show 3<=1000 by decide))
theorem Hz(a b c:PV):lstK [a,b,c]=M.ok (.lst [a,b,c]):=ar (aL (show 3<=1000 by decide))
theorem Hu(a b c d:PV):tupK [a,b,c,d]=M.ok (.tup [a,b,c,d]):=ar (aL (show 4<=1000 by decide))
theorem GU(a b c d:PV):lstK [a,b,c,d]=M.ok (.lst [a,b,c,d]):=ar (aL (show 4<=1000 by decide))
theorem GF(a b c d e:PV):tupK [a,b,c,d,e]=M.ok (.tup [a,b,c,d,e]):=ar (aL (show 5<=1000 by decide))
theorem Gq(a b c d e:PV):lstK [a,b,c,d,e]=M.ok (.lst [a,b,c,d,e]):=ar (aL (show 5<=1000 by decide))
theorem HE(a b c d e f:PV):tupK [a,b,c,d,e,f]=M.ok (.tup [a,b,c,d,e,f]):=ar (aL (show 6<=1000 by decide))
theorem Gs(a b c d e f:PV):lstK [a,b,c,d,e,f]=M.ok (.lst [a,b,c,d,e,f]):=ar (aL (show 6<=1000 by decide))
end
def kZ(m:M α)(Q:α->Prop):Prop:=∃ a,m=M.ok a/\Q a
section
variable{γ:Type}{Q Q':α->Prop}{m:M α}
theorem kZ.eq{a:α}(h:kZ m λx=>x=a):m=M.ok a:=by obtain⟨b,e,rfl⟩:=h;exact e
def Tn(J:af->Prop)(B:af->Prop)(R:PV->Prop):Out->Prop
 | .nx e=>J e
 | .ct e=>J e
 | .bk e=>B e
 | .rt p=>R p
theorem kZ.CT{set:PV->af->M af}{body:af->M Out}{inj:γ->PV}{B:af->Prop}{R:PV->Prop}(J:List γ->af->Prop)
  (H:∀ a r env,J (a::r) env->kZ (M.bind (set (inj a) env) body) (Tn (J r) B R)):∀ (xs:List γ) (env:af),J xs env->kZ (j_ set body (xs.map inj) env) λo=>(∃ e,o=.nx e/\(J [] e\/B e))\/∃ p,o=.rt p/\R p
 | [],env,h=>⟨_,rfl,.inl ⟨_,rfl,.inl h⟩⟩
 | a::r,env,h=>by
  obtain⟨o,e,q⟩:=H a r env h
  rw[List.map_cons,j_,← M.bind_assoc,e,M.aE]
  cases o with
  | nx e'=>exact kZ.CT J H r e' q
  | ct e'=>exact kZ.CT J H r e' q
  | bk e'=>exact⟨_,rfl,.inl ⟨_,rfl,.inr q⟩⟩
  | rt p=>exact⟨_,rfl,.inr ⟨_,rfl,q⟩⟩
theorem kZ.loop{R:β->Prop}{set:PV->af->M af}{inj:γ->PV}{k:Out->M β}{xs:List γ}{env:af}(J:List γ->af->Prop)(h:J xs env)
  (H:∀ a r env,J (a::r) env->kZ (M.bind (set (inj a) env) body) (Tn (J r) (λ_=>False) λ_=>False)) (hk:∀ N1,J [] N1->kZ (k (.nx N1)) R):kZ (M.bind (j_ set body (xs.map inj) env) k) R:=by
 obtain⟨o,e,q⟩:=kZ.CT J H xs env h
 rw[e,M.aE]
 rcases q with ⟨e',rfl,q | q⟩ | ⟨p,_,q⟩
 ·exact hk e' q
 ·exact q.elim
 ·exact q.elim
end
def K9(i:Nat)(env:af)(xs:List PV)(p:PV):M Out:=if xs.length<sizeLine then M.ok (.nx (env.set i (some (.ow (xs++[p]))))) else none
theorem l4(i:Nat)(f:af->M PV)(env:af):nP i f env=(ownAt i env).bind λxs=>(f env).bind λp=>K9 i env xs p:=by
 unfold nP ownAt
 rcases env[i]? with _ | _ | (_ | _ | _) <;> rfl
theorem lQ{env:af}(h:xs.length<1000):K9 i env xs p=M.ok (.nx (env.set i (some (.ow (xs++[p]))))):=if_pos (mM (Nat.le_of_lt h))
def qu(C:Addr)(m:Str)(sem:List PV->M PV)(p:PV)(x:M (List PV)):M PV:=match p with
 | .obj C' fl=>cC (C'=C/\fl.lookup m=none) (x.bind λps=>sem (.obj C' fl::ps))
 | _=>none
theorem cL(C:Addr)(m:Str)(sem:List PV->M PV)(g:af->M PV)(fs:af->M (List PV))(env:af):bJ C m sem g fs env=(g env).bind λp=>qu C m sem p (fs env):=rfl
variable{sem:List PV->M PV}{C:Addr}
theorem iW{m:Str}{fl:List (Str×PV)}{x:M (List PV)}(h:fl.lookup m=none):qu C m sem (.obj C fl) x=x.bind λps=>sem (.obj C fl::ps):=ar ⟨rfl,h⟩
def xO(ok:Addr->Bool)(f:Str)(p:PV):M PV:=match p with
 | .obj C fs=>cC (ok C=true) (dJ (fs.lookup f))
 | _=>none
theorem ij(ok:Addr->Bool)(f:Str)(g:af->M PV)(env:af):d_ ok f g env=(g env).bind (xO ok f):=rfl
theorem ku{ok:Addr->Bool}{f:Str}{fs:List (Str×PV)}{x:PV}(h:ok C=true)(hl:fs.lookup f=some x):xO ok f (.obj C fs)=M.ok x:=by
 show cC _ _=_
 rw[ar h,hl];rfl
theorem rW(xs:List Int)(x:Int):xs.map PV.int++[.int x]=(xs++[x]).map PV.int:=by simp
theorem uw{f:α->PV}(xs:List α)(h:bX p=some (xs.map f)):Dy [p]=M.ok (xs.zipIdx.map λz=>.tup [.int (z.2:Int),f z.1]):=by
 show MZ p=_
 unfold MZ
 rw[h]
 show M.ok (ik _)=_
 rw[yP]
theorem Bh(xs:List Int):Dy [lI xs]=M.ok (xs.zipIdx.map λz=>.tup [.int (z.2:Int),.int z.1]):=uw xs rfl
theorem tf{f:α->PV}(xs:List α):Dy [.lst (xs.map f)]=M.ok (xs.zipIdx.map λz=>.tup [.int (z.2:Int),f z.1]):=uw xs rfl
theorem xU(f:af->M Out)(hs:List Hd)(env:af):Fe f hs env=w8 (f env) λx=>iX hs x env:=rfl
theorem o7(x:EX)(k:EX->M Out):w8 (some (.error x)) k=k x:=Eq.trans rfl rfl
theorem pU(t:Addr->Option Bool)(o:Option Nat)(h:af->M Out)(r:List Hd)(x:EX)(env:af):iX ((t,o,h)::r) x env=uq (t x.1) (pW o h x env) (iX r x env):=Eq.trans rfl rfl
theorem Aq(x y:M Out):uq (some true) x y=x:=Eq.trans rfl rfl
theorem uT(i:Nat)(h:af->M Out)(x:EX)(env:af):pW (some i) h x env=(yS (h (env.set i (some (.sh (.exc x.1 x.2)))))).bind λout=>M.ok (pM i out):=Eq.trans rfl rfl
theorem ND{us:List α}(h:us.length=1):∃ a,us=[a]:=by
 cases us with
 | nil=>cases h
 | cons a t=>cases t with
  | nil=>exact⟨a,rfl⟩
  | cons b t=>cases h
theorem ln2{us:List α}(h:us.length=2):∃ a b,us=[a,b]:=by
 cases us with
 | nil=>cases h
 | cons a t=>obtain⟨b,rfl⟩:=ND (Nat.succ.inj h);exact⟨a,b,rfl⟩
theorem Nz{us:List α}(h:us.length=3):∃ a b c,us=[a,b,c]:=by
 cases us with
 | nil=>cases h
 | cons a t=>obtain⟨b,c,rfl⟩:=ln2 (Nat.succ.inj h);exact⟨a,b,c,rfl⟩
theorem NC{us:List α}(h:us.length=4):∃ a b c d,us=[a,b,c,d]:=by
 cases us with
 | nil=>cases h
 | cons a t=>obtain⟨b,c,d,rfl⟩:=Nz (Nat.succ.inj h);exact⟨a,b,c,d,rfl⟩
def yz(K:PySem.W.Frag):Bool:=K.all λp=>match p.2.cls with
 | .type t=>t != "list"
 | _=>true
theorem Cg{K:PySem.W.Frag}(h:yz K=true){a:Addr}{o:Obj}(e:K.lookup a=some o):o.cls≠.type "list" := by
 induction K with
 | nil=>cases e
 | cons p r ih =>
  obtain⟨b,u⟩:=p
  rw[yz,List.all_cons,Bool.and_eq_true] at h
  rw[List.lookup_cons] at e
  cases q:a==b with
  | true =>
   rw[q] at e;cases e
   intro z
   have h1:=h.1
   simp only[z] at h1
   exact absurd h1 (by decide)
  | false=>rw[q] at e;exact ih h.2 e
theorem sd{H:Hp}:∀ ns:List Int,aS H (ns.map PV.int) (ns.map V.int)
 | []=>.nil
 | i::r=>.cons (.int i) (sd r)
variable{x:Str}
theorem xh{l:PySem.W.OpenLaw}{q:Program}{loose:List Str}{XP:(Str->Option Value)->Heap->Prop}{YP:World->Heap->Prop}{d:DefRec}{K:Params->PySem.W.Frag}
  (hn:l.most=some n) (QQ:n<=sizeLine) (hdf:d.params.defaults=[]) (hr:cv k callerA)
  (hY:∀ (w:World) (h:Heap),YP w h->(K w.params).In h)
  (hK:∀ w:World,yz (K w.params)=true)
  (F:∀ (w:World) (mg:Str->Option Value) (fa:Addr) (h:Heap),(K w.params).In h->h.Ns mainGlobals mg->mg d.name=some (.ref fa) ->
   ∃ fd:FuncData,(∀ (s:Shared) (u:Value),BindsTo s fd ⟨[u],[]⟩ [(x,u)]) ∧
    ∀ base:Heap,(K w.params).In base->base.Ns mainGlobals mg->aQ l.prog w (K w.params) mg base (bQ l.prog w) k fa fd [x] (dc 1 sem))
  (Q9:∀ ns:List Int,ns.length<=n->(∀ i∈ns,Builtin.Int.intBits i<=1048576)->sem [.jN (ns.map PV.int)]=M.ok (.bl true)) :
  PySem.W.WalkO q loose XP YP l.row.toRowW d [] (λf vs=>PySem.call f vs):=by
 intro w s₀ s₁ mg mb G Y fa o pm cd doc dV kV ho hd OX hD hmg hg args vals as zV hlay hrd hwl hlo
 obtain rfl:dV=.none:=PySem.W.Dflts.none hD hdf
 obtain rfl:kV=.none:=PySem.W.Dflts.noKw hD
 obtain⟨a,vs,ns,rfl,rfl,hobj,hints,hlen⟩:=Att.zK hn zV hwl
 have Rq:∀ i∈ns,Builtin.Int.intBits i<=1048576:=λi hi=>by
  have h1:=PySem.W.layableW_arg hlay _ (List.mem_singleton.mpr rfl)
  have h2:=PySem.W.layableW_item h1 (.int i) (List.mem_map.mpr ⟨i,hi,rfl⟩)
  exact intBits_le_of_layable h2
 have KX:=hY w _ Y
 obtain⟨fd,hb,hF⟩:=F w mg fa _ KX G.T.g hmg
 have hs:=Q9 ns hlen Rq
 refine PySem.W.enter_call (codeAny_mono (A7 KX G.T.g G.T.b G.T.builtins G.T.nolimit hg hobj hints (Nat.le_trans hlen QQ) hr hF hb (λH hO hS=>⟨rfl,H,[.jN (ns.map PV.int)],λ_ _ e=>e,?_,?_⟩) λH e s' z=>?_) λr s' hq=>?_)
 ·rcases hS with (hS | ⟨ob,hS⟩) | ⟨ob,NZ,m,e1,e2,_⟩
  ·rcases hO a with z | ⟨ob,xs,z⟩
   ·rw[z] at hS;cases hS
   ·rw[z] at hS;cases hS
  ·exact .cons (.jN hS (sd ns)) .nil
  ·exact absurd e2 (Cg (hK w) e1)
 ·rw[hs]
  intro v N2 H' g r
  cases r;rfl
 ·obtain⟨ea,T,C,dd,Hc,_,_,_,_,_,_,_,_,z⟩:=z;exact z
 ·obtain⟨rfl,h2,h3,h4⟩:=hq
  exact⟨.inl ⟨.bool true,.bool true,[],rfl,λ_=>rfl,.bool true,Att.Ab l _,λ_=>⟨List.Pairwise.nil,λ_ hm=>(nomatch hm)⟩⟩,h2,h3,h4⟩
abbrev xC(x q:Str)(t:Stmt)(s:Value)(c:Addr):FuncData:=PySem.W.fnOf x q (ic t) (eU t) (aZ t) .none .none .none s none (.ref c) .none
variable{t:Stmt}
theorem bc.of{K:PySem.W.Frag}{q:Str}{dv kV doc pm:Value}{an:Option Addr}{Oh ct:Value}{f:Addr}(h1:K.lookup f=some ⟨.type "function", none,.func (PySem.W.fnOf x q (ic t) (eU t) (aZ t) dv kV doc pm an Oh ct),⟨[]⟩⟩)(h2:PySem.W.codeIn K Oh q=true)(h3:PySem.W.keepIn K (.ref f)=true):bc K x q t dv f (PySem.W.fnOf x q (ic t) (eU t) (aZ t) dv kV doc pm an Oh ct):=⟨⟨_,_,_,_,_,_,_,_,_,rfl,h1,h2⟩,h3⟩
section
variable{P:List α->Prop}
theorem Js(h:∀ a b,P [a,b]):∀ us,us.length=2->P us:=λus hl=>by obtain⟨a,b,rfl⟩:=ln2 hl;exact h a b
end
theorem cx.of{N P:List Str}{sc:Scope}(h1:autoParam (sc.kind=.function) aR._auto_1)(h2:autoParam (sc.isCoroutine=false) aR._auto_1)(h3:autoParam (sc.isGenerator=false) aR._auto_1)(h4:autoParam (N.Nodup) aN._auto_1)(h5:autoParam (N.take P.length=P) aR._auto_1)(h6:autoParam (∀ x∈P,sc.names.lookup x=some .local\/sc.names.lookup x=some .cell) aN._auto_1)(h7:autoParam (∀ y∈sc.names,y.2≠.free) aN._auto_1):cx N P sc:=⟨h1,h2,h3,h4,h5,h6,h7⟩
theorem aJ{pos:Pos}(hN:X.N.Nodup)(hi:autoParam (X.N[i]?=some x) aR._auto_1)(hx:autoParam (Loc X.env.scope x) aG._auto_1)(hf:autoParam (X.fn x=true\/X.env.scope.names.lookup x=some .local) aG._auto_1):PG X (.Name x pos) (aC i):=DB hN hi hx hf
def Ey:Nat->(List Value->Prop)->Prop
 | 0,P=>P []
 | n+1,P=>∀ a,Ey n λl=>P (a::l)
theorem uu:∀ {n:Nat} {P:List Value->Prop},Ey n P->∀ us:List Value,us.length=n->P us
 | 0,_,h,[],_=>h
 | n+1,_,h,a::r,e=>uu (h a) r (Nat.succ.inj e)
variable{ps:List Str}{mg:Str->Option Value}
section
variable{K:PySem.W.Frag}{h:Heap}{q:Str}{m:Nat}{tO:List PV->M (List PV)}
theorem gT(P:Program)(w:World)(base:Heap)(X:K.In h)(G:h.Ns mainGlobals mg)(a c:Addr)(s:Value)(ok:bc K x q t .none a (xC x q t s c)->aQ P w K mg base (bQ P w) n a (xC x q t s c) ps (dc m (bp m sem)))
  (h1:autoParam (K.lookup a=some ⟨.type "function", none,.func (xC x q t s c),⟨[]⟩⟩) aK._auto_1) (h2:autoParam (PySem.W.codeIn K (.ref c) q=true) aK._auto_1) (h3:autoParam (PySem.W.keepIn K (.ref a)=true) aK._auto_1) (h4:autoParam (PySem.W.nsIn K mainGlobals x=some (some (.ref a))) aK._auto_1)
  (h5:autoParam (ps.length=m) aR._auto_1) (h6:Ey ps.length λus=>bindArgs (xC x q t s c) ⟨us,[]⟩=pure (ps.zip us):=by (repeat intro _);rfl):cT P w K mg base n x m sem :=
 ⟨⟨a,_,ps,PySem.W.mg_of X G h4,h3,h5,.all (uu h6),ok (.of h1 h2 h3)⟩⟩
theorem EN(P:Program)(w:World)(base:Heap)(cc:kP K C)(a c:Addr)(s:Value)(ok:bc K x q t .none a (xC x q t s c)->aQ P w K mg base (bQ P w) n a (xC x q t s c) ps (dc m (bp m sem)))
  (h1:autoParam (K.lookup a=some ⟨.type "function", none,.func (xC x q t s c),⟨[]⟩⟩) aK._auto_1) (h2:autoParam (PySem.W.codeIn K (.ref c) q=true) aK._auto_1) (h3:autoParam (PySem.W.keepIn K (.ref a)=true) aK._auto_1) (h4:autoParam (PySem.W.findIn K (.ref C) x=some (some (.ref a))) aK._auto_1) (h5:autoParam (PySem.W.isFn K (.ref a)=true) aK._auto_1)
  (h6:Ey ps.length λus=>bindArgs (xC x q t s c) ⟨us,[]⟩=pure (ps.zip us):=by (repeat intro _);rfl):kz P w K mg base C n x m sem :=
 ⟨⟨a,_,ps,cc,⟨h4,h5,h3⟩,.all (uu h6),ok (.of h1 h2 h3)⟩⟩
end
theorem bc.eY{P:Program}{w:World}{K:PySem.W.Frag}{base:Heap}{qual:Str}{st:Stmt}{dv:Value}{f:Addr}{fd:FuncData}{g:af->M Out}(F:bc K x qual st dv f fd)(N:List Str)
  (hb:N.Nodup->∀ (Oh:Value) (A:Around) (outer:List Env) (s:Shared) (H:Hp) (E:XK),cv k (A.deeper (envOfC qual (aZ st) s.heap.objs.size f Oh))->eZ ((lO (bQ P w) P w K mg base N qual (aZ st) f Oh A outer s H E).out λ_=>E) (λ_=>E)->kq ((lO (bQ P w) P w K mg base N qual (aZ st) f Oh A outer s H E).out λ_=>E) (eU st) (tS E g))
  (S:cx N ps (aZ st):=by exact .of):aQ P w K mg base (bQ P w) (k+1) f fd ps (dc ps.length (bp ps.length (ay N.length g))):=F.NG S (hb S.nd)
end L2
namespace HD
open PySem PySem.W L2
abbrev pw:Program:=PySem.Challenge.pw_dialvault_k34_what_picked_levers_can_do
noncomputable section
noncomputable def st(s:String)(t:Nat):Value:=.str (Str.ofString s) t
def en(P:Params)(s:String)(t:Nat)(v:Value):DictEntry:=⟨PyData.keyHash P (Str.ofString s),st s t,v⟩
def tu(xs:List Value):Obj:=⟨.type "tuple", none,.seq ⟨xs⟩ 0,⟨[]⟩⟩
def di(n:Nat)(es:List DictEntry):Obj:=⟨.type "dict", none,.dict ⟨es⟩ n,⟨[]⟩⟩
def tp(i:Nat):Stmt:=pw.main.body.getD i (.Pass ⟨0,0,0,0⟩)
def mp(i j:Nat):Stmt:=inClass (tp i) j
def co(a b:String)(t:Nat)(l n:Int)(x1 x2 x3 x4 x5:Nat)(u:Nat):Obj:=⟨.type "code", none,.fields ⟨[st a t,st b (t+1),st "/claim/cut.py" (t+2),.int l 0,.int n 0,.int 0 0,.int 0 0,.int 3 0,.ref x1,.bool true,.int 181 0,.ref x2,.none,.ref x3,.ref x4,.ref x5,.int u 0,.int l 0,st "/claim/cut.py" (u+1)]⟩,⟨[]⟩⟩
def ft(a b:String)(s:Stmt):Obj:=⟨.none,none,.func ⟨Str.ofString a,Str.ofString b,ic s,.stmts (eU s),aZ s,0,[],.none,.none,.none,.none,none,.none,.none,0⟩,⟨[]⟩⟩
def fo(a b:String)(s:Stmt)(df pm:Value)(cd:Nat):Obj:=⟨.type "function", none,.func ⟨Str.ofString a,Str.ofString b,ic s,.stmts (eU s),aZ s,3,[],df,.none,.none,pm,none,.ref cd,.none,0⟩,⟨[]⟩⟩
def Iu:List Obj->List Obj
 | []=>[]
 | [a]=>[a]
 | a::_::r=>a::Iu r
def bt:Nat->List Obj->BT
 | 0,_=>.nil
 | _+1,[]=>.nil
 | n+1,a::r=>.node a (bt n (Iu r)) (bt n (Iu (r.drop 1)))
def S(L:Params->List Obj)(n k:Nat)(w:World)(os:OsState):SharedT:=⟨bt 14 (L w.params),n,{},⟨[]⟩,⟨0,0,0,0⟩,k,os⟩
def F(L:Params->List Obj)(k:Nat)(w:World)(os:OsState):Shared:=⟨⟨⟨L w.params⟩,{}⟩,⟨[]⟩,⟨0,0,0,0⟩,k,os⟩
def cc(a:String)(t:Nat)(l:Int)(x y u:Nat):Obj:=⟨.type "code", none,.fields ⟨[st a t,st a (t+1),st "/claim/cut.py" (t+2),.int l 0,.int 0 0,.int 0 0,.int 0 0,.int 0 0,.ref x,.bool false,.int 181 0,.ref y,.none,.none,.none,.none,.int u 0,.int l 0,st "/claim/cut.py" (u+1)]⟩,⟨[]⟩⟩
def fr(a b:Nat)(s:String)(t:Nat):Obj:=⟨.type "frame", none,.plain,⟨[some (.ref a),some (.ref 3),some (.ref b),none,some (st s t),none,some (.ref 0)]⟩⟩
def su(a:Nat):Obj:=⟨.type "super", none,.fields ⟨[.ref a,.ref a,.ref a]⟩,⟨[]⟩⟩
def ii(a:Nat):Obj:=⟨.type "builtin_function_or_method", none,.fields ⟨[.builtin "object.__init_subclass__", .ref a]⟩,⟨[]⟩⟩
def wa:List Nat->List Value
 | a::b::c::r=>.int a 0::.int b 0::.ref c::wa r
 | _=>[]
def fi(xs:List Nat):Obj:=⟨.none,none,.fields ⟨wa xs⟩,⟨[]⟩⟩
def cl(n:Str)(bs ms:List Value)(k:Nat)(ss:List Value)(sl:List (Option Value)):Obj:=⟨.type "type", none,.cls ⟨n,bs,ms,k,n,true,[],ss,false,none,false⟩,⟨sl⟩⟩
def pt(L:List Obj)(us:List (Nat×Obj))(ns:List Obj):List Obj:=us.foldl (λl u=>l.set u.1 u.2) L++ns
abbrev b0:=boot_o_0
abbrev b1:=boot_o_1
abbrev b2:=boot_o_2
abbrev b3:=boot_o_3
abbrev b4:=boot_o_4
abbrev b5:=boot_o_5
abbrev b6:=boot_o_6
abbrev b7:=boot_o_7
abbrev b8:=boot_o_8
abbrev b9:=boot_o_9
abbrev Nu:=boot_o_10
def m0:Value:=st "__main__" 164
def m1:Value:=st "dialvault.errors" 194
def m2:Value:=st "dialvault.wholes" 386
def m3:Value:=st "dialvault.vault" 434
def m4:Value:=st "dialvault.papers" 585
def m5:Value:=st "dialvault.rungs" 728
def m6:Value:=st "dialvault.classes" 914
def m7:Value:=st "law_dialvault_k34_what_picked_levers_can_do" 941
def nl:List String->Nat->List Value
 | [],_=>[]
 | x::r,t=>st x t::nl r (t+1)
def fA(P:Params)(a t:Nat)(x q:String)(s:Stmt)(l n:Int)(vs:List String)(df pm:Value):List Obj:=[b7 P,b8 P,tu (nl vs (t+3)),b7 P,ft x q s,co x q t l n a (a+1) (a+2) (a+3) (a+4) (t+3+vs.length),fo x q s df pm (a+5)]
def fT(P:Params)(a t:Nat)(x:String)(s:Stmt)(l n:Int)(vs:List String)(pm:Value):List Obj:=fA P a t x x s l n vs .none pm
def fB(P:Params)(a t:Nat)(x q:String)(s:Stmt)(l n:Int)(df pm:Value):List Obj:=[b7 P,b8 P,ft x q s,⟨.type "code", none,.fields ⟨[st x t,st q (t+1),st "/claim/cut.py" (t+2),.int l 0,.int n 0,.int 0 0,.int 0 0,.int 3 0,.ref a,.bool true,.int 181 0,.ref (a+1),.none,.none,.none,.ref (a+2),.int (t+3) 0,.int l 0,st "/claim/cut.py" (t+4)]⟩,⟨[]⟩⟩,fo x q s df pm (a+3)]
def dB(P:Params)(n t:Nat)(m:Value)(l:Int)(r:List DictEntry):Obj:=di n (en P "__module__" t m::en P "__firstlineno__" (t+4) (.int l (t+3))::r)
def dA(P:Params)(n t:Nat)(m:Value)(x:String)(l:Int)(r:List DictEntry):Obj:=di n (en P "__module__" t m::en P "__qualname__" (t+2) (st x (t+1))::en P "__firstlineno__" (t+4) (.int l (t+3))::r)
def gw(t a:Nat):Obj:=⟨.type "getset_descriptor", none,.fields ⟨[st "__weakref__" t,.ref a,.builtin "ExceptionGroup.__weakref__", .none]⟩,⟨[]⟩⟩
def gd(t a:Nat):Obj:=⟨.type "getset_descriptor", none,.fields ⟨[st "__dict__" t,.ref a,.builtin "function.__dict__", .builtin "function.__dict__#set"]⟩,⟨[]⟩⟩
def ce(x:String)(b a k:Nat)(ss:List Value)(d t u:Nat):Obj:=cl x [.ref b] [.ref a,.ref b,.type "ValueError", .type "Exception", .type "BaseException", .type "object"] k ss [some (.ref d),none,some (st x t),some (st x u),some (.builtin "ValueError.__new__"),some (.bool true)]
def gl P:=[en P "__doc__" 166 .none,en P "__package__" 167 .none,en P "__loader__" 168 (.builtin "__main__.__loader__#opaque"),en P "__spec__" 169 .none,en P "__annotations__" 170 (.ref 6),en P "__builtins__" 171 (.ref 4),en P "__file__" 173 (st "/claim/cut.py" 172),en P "__cached__" 174 .none,en P "_wall" 193 (.ref 21),en P "VaultError" 220 (.ref 38),en P "NoNumber" 243 (.ref 58),en P "NoDial" 275 (.ref 84),en P "NoLever" 307 (.ref 110),en P "NoPrice" 339 (.ref 136),en P "NoSetting" 362 (.ref 155),en P "TooMany" 385 (.ref 174),en P "is_whole" 394 (.ref 183),en P "is_row" 400 (.ref 188),en P "common" 412 (.ref 195),en P "multiple_of" 421 (.ref 202),en P "unit_row" 427 (.ref 207),en P "rest_sum" 433 (.ref 212),en P "MOST_DIALS" 437 (.int 6 436),en P "LEAST_SIZE" 439 (.int 2 438),en P "MOST_SIZE" 441 (.int 360 440),en P "MOST_LEVERS" 443 (.int 8 442),en P "LEAST_PRICE" 445 (.int 1 444),en P "MOST_PRICE" 447 (.int 1000 446),en P "Vault" 505 (.ref 256),en P "is_within" 514 (.ref 267),en P "need_sizes" 523 (.ref 274),en P "need_levers" 533 (.ref 281),en P "prices_for" 542 (.ref 288),en P "rests" 548 (.ref 293),en P "nought" 555 (.ref 300),en P "is_setting" 561 (.ref 305),en P "need_setting" 569 (.ref 312),en P "added" 575 (.ref 317),en P "between" 584 (.ref 324),en P "weigh" 592 (.ref 329),en P "Paper" 636 (.ref 360),en P "Way" 685 (.ref 402),en P "Bar" 727 (.ref 435),en P "mixed" 735 (.ref 442),en P "mixed_made" 747 (.ref 449),en P "unpulled" 755 (.ref 456),en P "pulled_once" 764 (.ref 463),en P "step_size" 774 (.ref 470),en P "taken_in" 789 (.ref 477),en P "lowered" 801 (.ref 484),en P "in_spans" 811 (.ref 491),en P "Rungs" 895 (.ref 556),en P "first_turned" 901 (.ref 565),en P "bring" 913 (.ref 572),en P "all_bits" 922 (.ref 579),en P "places_in" 928 (.ref 584),en P "picked" 934 (.ref 589),en P "enough" 940 (.ref 594),en P "_law_cell" 950 (.ref 601),en P "_law_mixed" 959 (.ref 608),en P "_law_whole" 966 (.ref 615),en P "_law_digits" 976 (.ref 622),en P "_law_dials" 982 (.ref 627),en P "_law_lever" 996 (.ref 634),en P "_law_kept" 1002 (.ref 639),en P "_law_divisor" 1010 (.ref 646),en P "_law_round" 1019 (.ref 653),en P "_law_weighs" 1025 (.ref 658),en P "_law_numbers" 1031 (.ref 663),en P "_law_leads" 1037 (.ref 668),en P "_law_bars" 1043 (.ref 673),en P "_law_levers" 1049 (.ref 678),en P "_law_picks" 1055 (.ref 683),en P "_law_papers" 1061 (.ref 688),en P "_law_refused" 1072 (.ref 695),en P "law" 1078 (.ref 700)]
def LA(P:Params):List Obj:=[b0 P,b1 P,b2 P,b3 P,b4 P,b5 P,b6 P,b7 P,b8 P,b9 P,Nu P,b7 P,b8 P,cc "<module>" 182 1 11 12 185,fr 13 3 "__main__" 164]
def o9:Obj:=⟨.type "builtin_function_or_method", none,(.fields ⟨[.builtin "type.__prepare__", .type "type"]⟩),⟨[]⟩⟩
def NH:Obj:=gw 216 38
def Jx:=tu [.ref 38]
def L0 P:=pt (LA P) [(3,di 15 (en P "__name__" 165 m1::(gl P).take 14)),(12,fi [1,0,20,5,0,27,9,0,47,13,0,66,20,0,92,27,0,118])] (fT P 15 187 "_wall" (tp 0) 1 1 ["k"] m0++([tu [.type "ValueError"],o9,dA P 5 203 m1 "VaultError" 5 [en P "word" 214 (.ref 35),en P "__static_attributes__" 215 (.ref 36)],b7 P,fi [7,4,34],cc "VaultError" 198 5 25 26 201,fr 27 24 "dialvault.errors" 194]++(fA P 29 208 "word" "VaultError.word" (mp 2 0) 7 1 ["self"] .none m1++([b7 P,dB P 3 203 m1 5 [en P "word" 214 (.ref 35),en P "__static_attributes__" 215 (.ref 36),en P "__weakref__" 217 (.ref 39),en P "__doc__" 218 .none],cl "VaultError" [.type "ValueError"] [.ref 38,.type "ValueError", .type "Exception", .type "BaseException", .type "object"] 37 [.ref 58,.ref 84,.ref 110,.ref 136] [some (.ref 22),none,some (st "VaultError" 196),some (st "VaultError" 204),some (.builtin "ValueError.__new__"),some (.bool true)],NH,su 38,ii 38,Jx,o9,dA P 5 228 m1 "NoNumber" 9 [en P "word" 239 (.ref 55),en P "__static_attributes__" 240 (.ref 56)],b7 P,fi [11,4,54],cc "NoNumber" 223 9 45 46 226,fr 47 44 "dialvault.errors" 194]++(fA P 49 233 "word" "NoNumber.word" (mp 3 0) 11 1 ["self"] .none m1++([b7 P,dB P 2 228 m1 9 [en P "word" 239 (.ref 55),en P "__static_attributes__" 240 (.ref 56),en P "__doc__" 241 .none],ce "NoNumber" 38 58 57 [] 42 221 229,su 58,ii 58,Jx,o9,dA P 6 251 m1 "NoDial" 13 [en P "__init__" 263 (.ref 74),en P "word" 270 (.ref 81),en P "__static_attributes__" 272 (.ref 82)],b7 P,fi [15,4,73,18,4,80],cc "NoDial" 246 13 64 65 249,fr 66 63 "dialvault.errors" 194]++(fA P 68 256 "__init__" "NoDial.__init__" (mp 4 0) 15 2 ["self", "dial"] .none m1++(fA P 75 264 "word" "NoDial.word" (mp 4 1) 18 1 ["self"] .none m1++([tu [st "dial" 271],dB P 2 251 m1 13 [en P "__init__" 263 (.ref 74),en P "word" 270 (.ref 81),en P "__static_attributes__" 272 (.ref 82),en P "__doc__" 273 .none],ce "NoDial" 38 84 83 [] 61 244 252,su 84,ii 84,Jx,o9,dA P 6 283 m1 "NoLever" 20 [en P "__init__" 295 (.ref 100),en P "word" 302 (.ref 107),en P "__static_attributes__" 304 (.ref 108)],b7 P,fi [22,4,99,25,4,106],cc "NoLever" 278 20 90 91 281,fr 92 89 "dialvault.errors" 194]++(fA P 94 288 "__init__" "NoLever.__init__" (mp 5 0) 22 2 ["self", "lever"] .none m1++(fA P 101 296 "word" "NoLever.word" (mp 5 1) 25 1 ["self"] .none m1++([tu [st "lever" 303],dB P 2 283 m1 20 [en P "__init__" 295 (.ref 100),en P "word" 302 (.ref 107),en P "__static_attributes__" 304 (.ref 108),en P "__doc__" 305 .none],ce "NoLever" 38 110 109 [] 87 276 284,su 110,ii 110,Jx,o9,dA P 6 315 m1 "NoPrice" 27 [en P "__init__" 327 (.ref 126),en P "word" 334 (.ref 133),en P "__static_attributes__" 336 (.ref 134)],b7 P,fi [29,4,125,32,4,132],cc "NoPrice" 310 27 116 117 313,fr 118 115 "dialvault.errors" 194]++(fA P 120 320 "__init__" "NoPrice.__init__" (mp 6 0) 29 2 ["self", "lever"] .none m1++(fA P 127 328 "word" "NoPrice.word" (mp 6 1) 32 1 ["self"] .none m1++([tu [st "lever" 335],dB P 2 315 m1 27 [en P "__init__" 327 (.ref 126),en P "word" 334 (.ref 133),en P "__static_attributes__" 336 (.ref 134),en P "__doc__" 337 .none],ce "NoPrice" 38 136 135 [] 113 308 316,su 136,ii 136])))))))))))))))
def M_:Obj:=gd 499 256
def L4:Obj:=gw 501 256
def L1 P:=pt (L0 P) [(3,di 41 (en P "__name__" 165 m4::(gl P).take 40)),(12,fi [1,0,20,5,0,27,9,0,47,13,0,66,20,0,92,27,0,118,34,0,144,38,0,163,43,0,182,45,0,187,49,0,194,60,0,201,65,0,206,67,0,211,76,0,218,97,0,266,99,0,273,107,0,280,113,0,287,122,0,292,124,0,299,126,0,304,131,0,311,134,0,316,137,0,323,142,0,328]),(38,cl "VaultError" [.type "ValueError"] [.ref 38,.type "ValueError", .type "Exception", .type "BaseException", .type "object"] 37 [.ref 58,.ref 84,.ref 110,.ref 136,.ref 155,.ref 174] [some (.ref 22),none,some (st "VaultError" 196),some (st "VaultError" 204),some (.builtin "ValueError.__new__"),some (.bool true)])] ([Jx,o9,dA P 5 347 m1 "NoSetting" 34 [en P "word" 358 (.ref 152),en P "__static_attributes__" 359 (.ref 153)],b7 P,fi [36,4,151],cc "NoSetting" 342 34 142 143 345,fr 144 141 "dialvault.errors" 194]++(fA P 146 352 "word" "NoSetting.word" (mp 7 0) 36 1 ["self"] .none m1++([b7 P,dB P 2 347 m1 34 [en P "word" 358 (.ref 152),en P "__static_attributes__" 359 (.ref 153),en P "__doc__" 360 .none],ce "NoSetting" 38 155 154 [] 139 340 348,su 155,ii 155,Jx,o9,dA P 5 370 m1 "TooMany" 38 [en P "word" 381 (.ref 171),en P "__static_attributes__" 382 (.ref 172)],b7 P,fi [40,4,170],cc "TooMany" 365 38 161 162 368,fr 163 160 "dialvault.errors" 194]++(fA P 165 375 "word" "TooMany.word" (mp 8 0) 40 1 ["self"] .none m1++([b7 P,dB P 2 370 m1 38 [en P "word" 381 (.ref 171),en P "__static_attributes__" 382 (.ref 172),en P "__doc__" 383 .none],ce "TooMany" 38 174 173 [] 158 363 371,su 174,ii 174]++(fT P 177 388 "is_whole" (tp 10) 43 1 ["thing"] m2++(fB P 184 395 "is_row" "is_row" (tp 11) 45 2 .none m2++(fT P 189 401 "common" (tp 12) 49 2 ["one", "other", "row", "behind", "times", "rest"] m2++(fT P 196 413 "multiple_of" (tp 13) 60 1 ["numbers", "multiple", "number"] m2++(fB P 203 422 "unit_row" "unit_row" (tp 14) 65 2 .none m2++(fB P 208 428 "rest_sum" "rest_sum" (tp 15) 67 3 .none m2++([b7 P,o9,dA P 9 455 m3 "Vault" 76 [en P "__init__" 465 (.ref 225),en P "sizes" 472 (.ref 232),en P "levers" 479 (.ref 239),en P "prices" 486 (.ref 246),en P "around" 493 (.ref 253),en P "__static_attributes__" 498 (.ref 254)],b7 P,fi [78,4,224,86,4,231,89,4,238,92,4,245,95,4,252],cc "Vault" 450 76 216 217 453,fr 218 215 "dialvault.vault" 434,tu [.none]]++(fB P 221 460 "__init__" "Vault.__init__" (mp 23 0) 78 4 (.ref 220) m3++(fA P 226 466 "sizes" "Vault.sizes" (mp 23 1) 86 1 ["self"] .none m3++(fA P 233 473 "levers" "Vault.levers" (mp 23 2) 89 1 ["self"] .none m3++(fA P 240 480 "prices" "Vault.prices" (mp 23 3) 92 1 ["self"] .none m3++(fA P 247 487 "around" "Vault.around" (mp 23 4) 95 1 ["self"] .none m3++([tu [st "dial_sizes" 494,st "least_round" 495,st "lever_prices" 496,st "lever_settings" 497],dB P 4 455 m3 76 [en P "__init__" 465 (.ref 225),en P "sizes" 472 (.ref 232),en P "levers" 479 (.ref 239),en P "prices" 486 (.ref 246),en P "around" 493 (.ref 253),en P "__static_attributes__" 498 (.ref 254),en P "__dict__" 500 (.ref 257),en P "__weakref__" 502 (.ref 258),en P "__doc__" 503 .none],cl "Vault" [.type "object"] [.ref 256,.type "object"] 255 [] [none,none,some (st "Vault" 448),some (st "Vault" 456),some (.builtin "object.__new__"),some (.bool true)],M_,L4,su 256,ii 256]++(fT P 261 506 "is_within" (tp 24) 97 3 ["thing", "least", "most"] m3++(fT P 268 515 "need_sizes" (tp 25) 99 1 ["sizes", "dial", "size"] m3++(fT P 275 524 "need_levers" (tp 26) 107 2 ["levers", "dials", "place", "lever"] m3++(fT P 282 534 "prices_for" (tp 27) 113 2 ["levers", "prices", "place"] m3++(fB P 289 543 "rests" "rests" (tp 28) 122 2 .none m3++(fT P 294 549 "nought" (tp 29) 124 1 ["vault"] m3++(fB P 301 556 "is_setting" "is_setting" (tp 30) 126 2 .none m3++(fT P 306 562 "need_setting" (tp 31) 131 2 ["vault", "thing"] m3++(fB P 313 570 "added" "added" (tp 32) 134 4 .none m3++(fT P 318 576 "between" (tp 33) 137 3 ["vault", "one", "other"] m3++(fB P 325 587 "weigh" "weigh" (tp 35) 142 3 .none m4)))))))))))))))))))))))))))))
def Ng:Obj:=gd 630 360
def LQ:Obj:=gw 632 360
def JF:=tu [.ref 360]
def L2 P:=pt (L1 P) [(3,di 52 (en P "__name__" 165 m5::(gl P).take 51)),(12,fi [1,0,20,5,0,27,9,0,47,13,0,66,20,0,92,27,0,118,34,0,144,38,0,163,43,0,182,45,0,187,49,0,194,60,0,201,65,0,206,67,0,211,76,0,218,97,0,266,99,0,273,107,0,280,113,0,287,122,0,292,124,0,299,126,0,304,131,0,311,134,0,316,137,0,323,142,0,328,148,0,335,158,0,370,171,0,410,182,0,441,184,0,448,187,0,455,189,0,462,192,0,469,195,0,476,204,0,483,209,0,490])] ([b7 P,o9,dA P 7 600 m4 "Paper" 148 [en P "brings" 611 (.ref 343),en P "shows" 621 (.ref 350),en P "words" 628 (.ref 357),en P "__static_attributes__" 629 (.ref 358)],b7 P,fi [150,4,342,153,4,349,156,4,356],cc "Paper" 595 148 333 334 598,fr 335 332 "dialvault.papers" 585]++(fA P 337 605 "brings" "Paper.brings" (mp 36 0) 150 1 ["self"] .none m4++(fA P 344 612 "shows" "Paper.shows" (mp 36 1) 153 4 ["self", "vault", "one", "other"] .none m4++(fA P 351 622 "words" "Paper.words" (mp 36 2) 156 1 ["self"] .none m4++([b7 P,dB P 4 600 m4 148 [en P "brings" 611 (.ref 343),en P "shows" 621 (.ref 350),en P "words" 628 (.ref 357),en P "__static_attributes__" 629 (.ref 358),en P "__dict__" 631 (.ref 361),en P "__weakref__" 633 (.ref 362),en P "__doc__" 634 .none],cl "Paper" [.type "object"] [.ref 360,.type "object"] 359 [.ref 402,.ref 435] [none,none,some (st "Paper" 593),some (st "Paper" 601),some (.builtin "object.__new__"),some (.bool true)],Ng,LQ,su 360,ii 360,JF,o9,dA P 8 644 m4 "Way" 158 [en P "__init__" 656 (.ref 378),en P "brings" 663 (.ref 385),en P "shows" 673 (.ref 392),en P "words" 680 (.ref 399),en P "__static_attributes__" 682 (.ref 400)],b7 P,fi [160,4,377,163,4,384,166,4,391,169,4,398],cc "Way" 639 158 368 369 642,fr 370 367 "dialvault.papers" 585]++(fA P 372 649 "__init__" "Way.__init__" (mp 37 0) 160 2 ["self", "pulls"] .none m4++(fA P 379 657 "brings" "Way.brings" (mp 37 1) 163 1 ["self"] .none m4++(fA P 386 664 "shows" "Way.shows" (mp 37 2) 166 4 ["self", "vault", "one", "other"] .none m4++(fA P 393 674 "words" "Way.words" (mp 37 3) 169 1 ["self"] .none m4++([tu [st "pulls" 681],dB P 2 644 m4 158 [en P "__init__" 656 (.ref 378),en P "brings" 663 (.ref 385),en P "shows" 673 (.ref 392),en P "words" 680 (.ref 399),en P "__static_attributes__" 682 (.ref 400),en P "__doc__" 683 .none],cl "Way" [.ref 360] [.ref 402,.ref 360,.type "object"] 401 [] [some (.ref 365),none,some (st "Way" 637),some (st "Way" 645),some (.builtin "object.__new__"),some (.bool true)],su 402,ii 402,JF,o9,dA P 7 693 m4 "Bar" 171 [en P "__init__" 705 (.ref 418),en P "shows" 715 (.ref 425),en P "words" 722 (.ref 432),en P "__static_attributes__" 724 (.ref 433)],b7 P,fi [173,4,417,176,4,424,179,4,431],cc "Bar" 688 171 408 409 691,fr 410 407 "dialvault.papers" 585]++(fA P 412 698 "__init__" "Bar.__init__" (mp 38 0) 173 2 ["self", "weights"] .none m4++(fA P 419 706 "shows" "Bar.shows" (mp 38 1) 176 4 ["self", "vault", "one", "other"] .none m4++(fA P 426 716 "words" "Bar.words" (mp 38 2) 179 1 ["self"] .none m4++([tu [st "weights" 723],dB P 2 693 m4 171 [en P "__init__" 705 (.ref 418),en P "shows" 715 (.ref 425),en P "words" 722 (.ref 432),en P "__static_attributes__" 724 (.ref 433),en P "__doc__" 725 .none],cl "Bar" [.ref 360] [.ref 435,.ref 360,.type "object"] 434 [] [some (.ref 405),none,some (st "Bar" 686),some (st "Bar" 694),some (.builtin "object.__new__"),some (.bool true)],su 435,ii 435]++(fB P 438 730 "mixed" "mixed" (tp 40) 182 4 .none m5++(fT P 443 736 "mixed_made" (tp 41) 184 5 ["sizes", "made", "times", "other", "others", "doing"] m5++(fT P 450 748 "unpulled" (tp 42) 187 2 ["vault", "setting"] m5++(fT P 457 756 "pulled_once" (tp 43) 189 2 ["vault", "lever", "levers"] m5++(fT P 464 765 "step_size" (tp 44) 192 3 ["sizes", "made_rows", "dial", "notch"] m5++(fT P 471 775 "taken_in" (tp 45) 195 3 ["sizes", "made_rows", "left", "wider", "dial", "made", "step", "notch", "found"] m5++(fT P 478 790 "lowered" (tp 46) 204 4 ["sizes", "made_rows", "made", "first", "dial", "times"] m5++(fT P 485 802 "in_spans" (tp 47) 209 2 ["pulls", "idle_rows", "lever", "row"] m5))))))))))))))))))))))
def MC:Obj:=gd 889 556
def Ml:Obj:=gw 891 556
def L3 P:=pt (L2 P) [(3,di 77 (en P "__name__" 165 m7::gl P)),(12,fi [1,0,20,5,0,27,9,0,47,13,0,66,20,0,92,27,0,118,34,0,144,38,0,163,43,0,182,45,0,187,49,0,194,60,0,201,65,0,206,67,0,211,76,0,218,97,0,266,99,0,273,107,0,280,113,0,287,122,0,292,124,0,299,126,0,304,131,0,311,134,0,316,137,0,323,142,0,328,148,0,335,158,0,370,171,0,410,182,0,441,184,0,448,187,0,455,189,0,462,192,0,469,195,0,476,204,0,483,209,0,490,214,0,497,266,0,564,268,0,571,276,0,578,278,0,583,280,0,588,287,0,593,291,0,600,295,0,607,299,0,614,301,0,621,307,0,626,312,0,633,323,0,638,325,0,645,329,0,652,334,0,657,337,0,662,341,0,667,348,0,672,357,0,677,369,0,682,375,0,687,387,0,694,397,0,699])] ([b7 P,o9,dA P 13 819 m5 "Rungs" 214 [en P "__init__" 829 (.ref 503),en P "steps" 835 (.ref 508),en P "rows" 842 (.ref 515),en P "spans" 849 (.ref 522),en P "idle" 856 (.ref 529),en P "brought_down" 864 (.ref 536),en P "least" 872 (.ref 543),en P "pulls_to" 878 (.ref 548),en P "weights_at" 884 (.ref 553),en P "__static_attributes__" 888 (.ref 554)],b7 P,fi [216,4,502,228,4,507,232,4,514,235,4,521,238,4,528,241,4,535,245,4,542,248,4,547,254,4,552],cc "Rungs" 814 214 495 496 817,fr 497 494 "dialvault.rungs" 728]++(fB P 499 824 "__init__" "Rungs.__init__" (mp 48 0) 216 2 .none m5++(fB P 504 830 "steps" "Rungs.steps" (mp 48 1) 228 1 .none m5++(fA P 509 836 "rows" "Rungs.rows" (mp 48 2) 232 1 ["self"] .none m5++(fA P 516 843 "spans" "Rungs.spans" (mp 48 3) 235 1 ["self"] .none m5++(fA P 523 850 "idle" "Rungs.idle" (mp 48 4) 238 1 ["self"] .none m5++(fA P 530 857 "brought_down" "Rungs.brought_down" (mp 48 5) 241 2 ["self", "setting"] .none m5++(fA P 537 865 "least" "Rungs.least" (mp 48 6) 245 2 ["self", "setting"] .none m5++(fB P 544 873 "pulls_to" "Rungs.pulls_to" (mp 48 7) 248 2 .none m5++(fB P 549 879 "weights_at" "Rungs.weights_at" (mp 48 8) 254 2 .none m5++([tu [st "idle_rows" 885,st "made_rows" 886,st "vault" 887],dB P 4 819 m5 214 [en P "__init__" 829 (.ref 503),en P "steps" 835 (.ref 508),en P "rows" 842 (.ref 515),en P "spans" 849 (.ref 522),en P "idle" 856 (.ref 529),en P "brought_down" 864 (.ref 536),en P "least" 872 (.ref 543),en P "pulls_to" 878 (.ref 548),en P "weights_at" 884 (.ref 553),en P "__static_attributes__" 888 (.ref 554),en P "__dict__" 890 (.ref 557),en P "__weakref__" 892 (.ref 558),en P "__doc__" 893 .none],cl "Rungs" [.type "object"] [.ref 556,.type "object"] 555 [] [none,none,some (st "Rungs" 812),some (st "Rungs" 820),some (.builtin "object.__new__"),some (.bool true)],MC,Ml,su 556,ii 556]++(fB P 561 896 "first_turned" "first_turned" (tp 49) 266 1 .none m5++(fT P 566 902 "bring" (tp 50) 268 3 ["vault", "one", "other", "difference", "rungs", "pulls"] m5++(fT P 573 916 "all_bits" (tp 52) 276 1 ["vault"] m6++(fB P 580 923 "places_in" "places_in" (tp 53) 278 1 .none m6++(fB P 585 929 "picked" "picked" (tp 54) 280 2 .none m6++(fB P 590 935 "enough" "enough" (tp 55) 287 2 .none m6++(fT P 595 943 "_law_cell" (tp 57) 291 2 ["_law_script", "_law_k"] m7++(fT P 602 951 "_law_mixed" (tp 58) 295 2 ["_law_cell_here", "_law_k", "_law_number"] m7++(fT P 609 960 "_law_whole" (tp 59) 299 1 ["_law_found"] m7++(fT P 616 967 "_law_digits" (tp 60) 301 2 ["_law_rest", "_law_sizes", "_law_found", "_law_size"] m7++(fB P 623 977 "_law_dials" "_law_dials" (tp 61) 307 1 .none m7++(fT P 628 983 "_law_lever" (tp 62) 312 2 ["_law_cell_here", "_law_sizes", "_law_by", "_law_far", "_law_lever_here", "_law_k", "_law_number", "_law_turns"] m7++(fB P 635 997 "_law_kept" "_law_kept" (tp 63) 323 2 .none m7++(fT P 640 1003 "_law_divisor" (tp 64) 325 2 ["_law_one", "_law_other"] m7++(fT P 647 1011 "_law_round" (tp 65) 329 1 ["_law_sizes", "_law_found", "_law_size"] m7++(fB P 654 1020 "_law_weighs" "_law_weighs" (tp 66) 334 3 .none m7++(fB P 659 1026 "_law_numbers" "_law_numbers" (tp 67) 337 2 .none m7++(fB P 664 1032 "_law_leads" "_law_leads" (tp 68) 341 4 .none m7++(fB P 669 1038 "_law_bars" "_law_bars" (tp 69) 348 4 .none m7++(fB P 674 1044 "_law_levers" "_law_levers" (tp 70) 357 2 .none m7++(fB P 679 1050 "_law_picks" "_law_picks" (tp 71) 369 5 .none m7++(fB P 684 1056 "_law_papers" "_law_papers" (tp 72) 375 4 .none m7++(fT P 689 1062 "_law_refused" (tp 73) 387 3 ["_law_vault", "_law_way", "_law_thing", "_law_kinds", "e"] m7++(fB P 696 1073 "law" "law" (tp 74) 397 1 .none m7)))))))))))))))))))))))))))))))))))
def LF(P:Params):=L3 P
def bE:List Stmt:=behindTheImports pw
def env:Env:={ scope:=pw.main.scope,locals:=mainNs,globals:=mainNs,cells:=[],code:=.ref 13,frame:=some 14 }
def cE:Code:=.body bE env
abbrev B:List Frame:=[topFrame ⟨0,0,0,0⟩]
abbrev ann:Option Value:=(some (.ref 6))
def IJ:List Stmt:=(bE.drop 0).take 7
def IH:List Stmt:=(bE.drop 7).take 29
def Ir:List Stmt:=(bE.drop 36).take 12
def Hv:List Stmt:=(bE.drop 48).take 27
end
theorem zV:∀ w:World,(λos=>topGo treeTable pw w 11 ann 12 ⟨boot_heap w.params,⟨[]⟩,boot_drawn,boot_toks,os⟩ (topStub pw))=λos=>some (F LA 187 w os,⟨denote treeTable cE,cE,⟨0,0,0,0⟩,B⟩):=λw=>by
 rw[PySem.W.Fast.te15667345088766844465,PySem.W.Fast.te14364793385576792824,PySem.W.Fast.te11892475500146522536]
 kernel_rfl
theorem Mb:∀ w:World,(λos=>segRun treeTable pw w 11 ann 1 1 (F LA 187 w os) (blockOf bE env cE ⟨0,0,0,0⟩ B))=λos=>some (Flow.next,(S LA 15 187 w os).abs,cE,⟨0,0,0,0⟩):=λw=>by
 rw[PySem.W.Fast.te14374325043358763698,PySem.W.Fast.te14364793385576792824]
 kernel_rfl
theorem NL:∀ w:World,(λos=>segRunT treeTable pw w 11 ann 1 1326 (S LA 15 187 w os) (piecesOf IJ env cE ⟨0,0,0,0⟩ B))=λos=>some (Flow.next,S L0 139 340 w os,cE,⟨27,0,33,16⟩):=λw=>by
 rw[PySem.W.Fast.te10110043849684766642,PySem.W.Fast.te14364793385576792824]
 kernel_rfl
theorem NR:∀ w:World,(λos=>segRunT treeTable pw w 11 ann 1 1405 (S L0 139 340 w os) (piecesOf IH env cE ⟨27,0,33,16⟩ B))=λos=>some (Flow.next,S L1 330 593 w os,cE,⟨142,0,147,44⟩):=λw=>by
 rw[PySem.W.Fast.te10110043849684766642,PySem.W.Fast.te14364793385576792824]
 kernel_rfl
theorem Jt:∀ w:World,(λos=>segRunT treeTable pw w 11 ann 1 1202 (S L1 330 593 w os) (piecesOf Ir env cE ⟨142,0,147,44⟩ B))=λos=>some (Flow.next,S L2 492 812 w os,cE,⟨209,0,213,16⟩):=λw=>by
 rw[PySem.W.Fast.te10110043849684766642,PySem.W.Fast.te14364793385576792824]
 kernel_rfl
theorem NK:∀ w:World,(λos=>segRunT treeTable pw w 11 ann 1 1159 (S L2 492 812 w os) (piecesOf Hv env cE ⟨209,0,213,16⟩ B))=λos=>some (Flow.next,S L3 701 1079 w os,cE,⟨397,0,411,15⟩):=λw=>by
 rw[PySem.W.Fast.te10110043849684766642,PySem.W.Fast.te14364793385576792824]
 kernel_rfl
theorem G4:∀ w:World,(λos=>topRun treeTable pw w 11 ann 2 (S L3 701 1079 w os).abs ⟨doneF .next,cE,⟨397,0,411,15⟩,B⟩)=λos=>some (F LF 1079 w os):=λw=>by
 rw[PySem.W.Fast.te14082659384304107361,PySem.W.Fast.te14364793385576792824]
 kernel_rfl
theorem NM:bE=(IJ++(IH++(Ir++(Hv++[])))):=by kernel_rfl
theorem Cu(w:World)(os:OsState):topRun treeTable pw w 11 ann (1326+(1405+(1202+(1159+2)))) (S LA 15 187 w os).abs (restOf bE env cE ⟨0,0,0,0⟩ B)=some (F LF 1079 w os):=by
 rw[show restOf bE env cE ⟨0,0,0,0⟩ B=restOf (IJ++(IH++(Ir++(Hv++[])))) env cE ⟨0,0,0,0⟩ B from congrArg (λb=>restOf b env cE ⟨0,0,0,0⟩ B) NM]
 exact piece_app (segRun_of (congrFun (NL w) os)) (piece_app (segRun_of (congrFun (NR w) os)) (piece_app (segRun_of (congrFun (Jt w) os)) (piece_app (segRun_of (congrFun (NK w) os)) (piece_nil (congrFun (G4 w) os)))))
theorem L9(w:World)(os:OsState):topRun treeTable pw w 11 ann (12+(1+(1326+(1405+(1202+(1159+2)))))) ⟨boot_heap w.params,⟨[]⟩,boot_drawn,boot_toks,os⟩ (topStub pw)=some (F LF 1079 w os) :=
 go_top (congrFun (zV w) os) (piece_block (congrFun (Mb w) os) (Cu w os))
end HD
namespace HD
open PySem PySem.W L2
noncomputable section
def vw:Program:=PySem.W.view pw [0,2,3,4,5,6,7,8,10,11,12,13,14,15,17,18,19,20,21,22,23,24,25,26,27,28,29,30,31,32,33,35,36,37,38,40,41,42,43,44,45,46,47,48,49,50,52,53,54,55,57,58,59,60,61,62,63,64,65,66,67,68,69,70,71,72,73,74]
def loose:List Str:=[]
noncomputable def as:List Addr:=[2,3,15,17,18,20,21,22,29,31,32,34,35,36,37,38,39,42,49,51,52,54,55,56,57,58,61,68,70,71,73,74,75,77,78,80,81,82,83,84,87,94,96,97,99,100,101,103,104,106,107,108,109,110,113,120,122,123,125,126,127,129,130,132,133,134,135,136,139,146,148,149,151,152,153,154,155,158,165,167,168,170,171,172,173,174,177,179,180,182,183,184,187,188,189,191,192,194,195,196,198,199,201,202,203,206,207,208,211,212,220,221,224,225,226,228,229,231,232,233,235,236,238,239,240,242,243,245,246,247,249,250,252,253,254,255,256,257,258,261,263,264,266,267,268,270,271,273,274,275,277,278,280,281,282,284,285,287,288,289,292,293,294,296,297,299,300,301,304,305,306,308,309,311,312,313,316,317,318,320,321,323,324,325,328,329,337,339,340,342,343,344,346,347,349,350,351,353,354,356,357,358,359,360,361,362,365,372,374,375,377,378,379,381,382,384,385,386,388,389,391,392,393,395,396,398,399,400,401,402,405,412,414,415,417,418,419,421,422,424,425,426,428,429,431,432,433,434,435,438,441,442,443,445,446,448,449,450,452,453,455,456,457,459,460,462,463,464,466,467,469,470,471,473,474,476,477,478,480,481,483,484,485,487,488,490,491,499,502,503,504,507,508,509,511,512,514,515,516,518,519,521,522,523,525,526,528,529,530,532,533,535,536,537,539,540,542,543,544,547,548,549,552,553,554,555,556,557,558,561,564,565,566,568,569,571,572,573,575,576,578,579,580,583,584,585,588,589,590,593,594,595,597,598,600,601,602,604,605,607,608,609,611,612,614,615,616,618,619,621,622,623,626,627,628,630,631,633,634,635,638,639,640,642,643,645,646,647,649,650,652,653,654,657,658,659,662,663,664,667,668,669,672,673,674,677,678,679,682,683,684,687,688,689,691,692,694,695,696,699,700]
def K(P:Params):Frag:=as.map λa=>(a,(LF P).getD a (su 0))
def hook:Hook:=kHook K as (λ_=>by kernel_rfl)
abbrev rr:RowW:=(PySem.Challenge.rw_dialvault_k34_what_picked_levers_can_do.row).toRowW
def Xt:Shared->Bool:=λs=>xlAt vw [] s&&recOk (RowW.records rr) s
def H1(P:Params):Heap:=⟨⟨LF P⟩,{}⟩
end
theorem Ky:∀ w:World,((boot_heap w.params).isNs mainGlobals&&(Array.mk []:Array GenState).size==0,(boot_heap w.params).objs.size,(boot_heap w.params).nsMap mainGlobals "__annotations__")=(true,11,ann):=λw=>by
 rw[PySem.W.Fast.te8920871248978507458]
 kernel_rfl
theorem Ny(w:World):staticsOk (importedModules pw.main.body) (boot_heap w.params) (H1 w.params)=true:=by
 first | (rw[PySem.W.Fast.te4187177175401517315,PySem.W.Fast.te5923862056798008813];kernel_rfl) | (rw[PySem.W.Fast.te4187177175401517315];kernel_rfl) | (rw[PySem.W.Fast.te5923862056798008813];kernel_rfl) | (kernel_rfl)
theorem NW(w:World):namesBound pw (H1 w.params)=true:=by
 first | (rw[PySem.W.Fast.te4187177175401517315,PySem.W.Fast.te5923862056798008813];kernel_rfl) | (rw[PySem.W.Fast.te4187177175401517315];kernel_rfl) | (rw[PySem.W.Fast.te5923862056798008813];kernel_rfl) | (kernel_rfl)
theorem Nv(w:World)(os:_):gensDone ⟨H1 w.params,⟨[]⟩,⟨0,0,0,0⟩,1079,os⟩=true:=by
 first | (rw[PySem.W.Fast.te4187177175401517315,PySem.W.Fast.te5923862056798008813];kernel_rfl) | (rw[PySem.W.Fast.te4187177175401517315];kernel_rfl) | (rw[PySem.W.Fast.te5923862056798008813];kernel_rfl) | (kernel_rfl)
theorem NB(w:World):laidKept (boot_heap w.params) (H1 w.params)=true:=by
 first | (rw[PySem.W.Fast.te4187177175401517315,PySem.W.Fast.te5923862056798008813];kernel_rfl) | (rw[PySem.W.Fast.te4187177175401517315];kernel_rfl) | (rw[PySem.W.Fast.te5923862056798008813];kernel_rfl) | (kernel_rfl)
theorem NO(w:World)(os:_):openSeen vw loose (importedModules pw.main.body) Xt true ⟨H1 w.params,⟨[]⟩,⟨0,0,0,0⟩,1079,os⟩=openGood vw loose:=by
 first | (rw[PySem.W.Fast.te4187177175401517315,PySem.W.Fast.te5923862056798008813];kernel_rfl) | (rw[PySem.W.Fast.te4187177175401517315];kernel_rfl) | (rw[PySem.W.Fast.te5923862056798008813];kernel_rfl) | (kernel_rfl)
theorem NU(w:World)(os:_):Hook.obs hook ⟨H1 w.params,⟨[]⟩,⟨0,0,0,0⟩,1079,os⟩=Hook.val hook w:=by
 first | (rw[PySem.W.Fast.te4187177175401517315,PySem.W.Fast.te5923862056798008813];kernel_rfl) | (rw[PySem.W.Fast.te4187177175401517315];kernel_rfl) | (rw[PySem.W.Fast.te5923862056798008813];kernel_rfl) | (kernel_rfl)
theorem GW:∀ w:World,(λos=>((staticsOk (importedModules pw.main.body) (boot_heap w.params) (H1 w.params)&&namesBound pw (H1 w.params)&&gensDone ⟨H1 w.params,⟨[]⟩,⟨0,0,0,0⟩,1079,os⟩&&laidKept (boot_heap w.params) (H1 w.params)),
  openSeen vw loose (importedModules pw.main.body) Xt true ⟨H1 w.params,⟨[]⟩,⟨0,0,0,0⟩,1079,os⟩,Hook.obs hook ⟨H1 w.params,⟨[]⟩,⟨0,0,0,0⟩,1079,os⟩))=λ_=>(true,openGood vw loose,Hook.val hook w):=λw=>funext λos=>by
 rw[Ny,NW,Nv,NB,NO,NU];rfl
theorem JL:LeftO pw vw loose Xt (Hook.obs hook) (Hook.val hook) 10302 :=
 LeftO.of_pieces (H₀:=boot_heap) (H₁:=H1) (gs₀:=⟨[]⟩) (gs₁:=⟨[]⟩) (d₀:=boot_drawn) (d₁:=⟨0,0,0,0⟩) (k₀:=boot_toks) (k₁:=1079) (m₀:=11) (ann:=ann) (M:=(12+(1+(1326+(1405+(1202+(1159+2)))))))
  (boot_open (by kernel_rfl) (by kernel_rfl) (λs=>by kernel_rfl)) Ky L9 (by kernel_rfl) GW
end HD
open PySem PySem.W
theorem HD.said:PySem.Challenge.rw_dialvault_k34_what_picked_levers_can_do.wellSaid=true:=by
 decide +kernel
namespace wb
open PySem L2 PyProof.Rows
def cY:Addr:=435
def dq:Addr:=84
def eB:Addr:=110
def bq:Addr:=58
def dH:Addr:=136
def eG:Addr:=155
def aA:Addr:=556
def fu:Addr:=174
def au:Addr:=256
def lZ:Addr:=38
def de:Addr:=402
def fI:List Addr:=[dq,eB,bq,dH,eG,fu]
def fO:List Addr:=[]
def t_:List Addr:=[]
def t8:List Addr:=[]
def mz:List Addr:=[cY]
def mP:List Addr:=[aA,au,de]
def eF:List Addr:=[bq]
def eE:List Addr:=[dq,eB,dH,eG,fu]
def iA:List Addr:=[]
def ig:List Addr:=[]
def p_:List Addr:=[]
def qa:List Addr:=[]
def jn:List Addr:=[de]
def jv:List Addr:=[cY,aA,au]
def Nc:List Addr:=[dq,eB,bq,dH,eG,fu]
abbrev cI(i:Int):af->M PV:=λ_=>M.ok (.int i)
def jy:af->M Out :=
 (ao (retS (Cd (vJ (λa=>lX a "int") pH pH (ae 0)) (Fi (vJ (λa=>lX a "bool") pH pH (ae 0)))))
 aq)
def fm:List PV->M PV:=bp 1 (ay 1 jy)
def j5:af->M Out :=
 (ao (jQ (C0 (ia (cX (vJ (λa=>["list", "tuple"].any λt=>lX a t) pH pH (ae 0)))) (cX (aj oq (ai cR (aa (ae 0) ak)) (ae 1)))) (ao (retS (λ_=>M.ok (.bl false)))
 aq) aq)
 (ao (retS (ai vg (aa (bM (bF (itemsOf (ae 0)) (bw 0) none (ai fm (aa (ae 0) ak)) 1 [])) ak)))
 aq))
def gc:List PV->M PV:=bp 2 (ay 2 j5)
def j3:af->M Out :=
 (ao (bf 2 (lH (aa (ae 0) (aa (cI 1) (aa (cI 0) ak)))))
 (ao (bf 3 (lH (aa (ae 1) (aa (cI 0) (aa (cI 1) ak)))))
 (ao (lB (cX (aj oq (aj aP (ae 3) (cI 0)) (cI 0))) (ao (bf 4 (aj cy (aj aP (ae 2) (cI 0)) (aj aP (ae 3) (cI 0))))
 (ao (bf 5 (lH (aa (aj jU (aj aP (ae 2) (cI 0)) (aj cp (ae 4) (aj aP (ae 3) (cI 0)))) (aa (aj jU (aj aP (ae 2) (cI 1)) (aj cp (ae 4) (aj aP (ae 3) (cI 1)))) (aa (aj jU (aj aP (ae 2) (cI 2)) (aj cp (ae 4) (aj aP (ae 3) (cI 2)))) ak)))))
 (ao (bf 2 (ae 3))
 (ao (bf 3 (ae 5))
 aq)))))
 (ao (jQ (cX (aj As (aj aP (ae 2) (cI 0)) (cI 0))) (ao (retS (lH (aa (jV (aj aP (ae 2) (cI 0))) (aa (jV (aj aP (ae 2) (cI 1))) (aa (jV (aj aP (ae 2) (cI 2))) ak)))))
 aq) aq)
 (ao (retS (ae 2))
 aq)))))
def gg:List PV->M PV:=bp 2 (ay 6 j3)
def fM:af->M Out :=
 (ao (bf 1 (cI 1))
 (ao (iS (itemsOf (ae 0)) (bw 2) (ao (bf 1 (aj cp (aj cy (ae 1) (aj aP (ai gg (aa (ae 1) (aa (ae 2) ak))) (cI 0))) (ae 2)))
 aq))
 (ao (retS (ae 1))
 aq)))
def fz:List PV->M PV:=bp 1 (ay 3 fM)
def jt:af->M Out :=
 (ao (retS (ai du (aa (bM (bF (ja kd (aa (ae 0) ak)) (bw 0) none (zX (cX (aj my (ae 0) (ae 1))) (cI 1) (cI 0)) 1 [1])) ak)))
 aq)
def jI:List PV->M PV:=bp 2 (ay 2 jt)
def jD:af->M Out :=
 (ao (retS (aj cz (ai qW (aa (bM (bF (ja zip2 (aa (ae 0) (aa (ae 1) ak))) (bR 0 1) none (aj cp (ae 0) (ae 1)) 2 [])) ak)) (ae 2)))
 aq)
def jj:List PV->M PV:=bp 3 (ay 3 jD)
def dh:af->M Out :=
 (ao (retS (Cd (ai fm (aa (ae 0) ak)) (gW Cm Cm (ae 1) (ae 0) (ae 2))))
 aq)
def bL:List PV->M PV:=bp 3 (ay 3 dh)
def gH:af->M Out :=
 (ao (jQ (cX (aj FV (ai cR (aa (ae 0) ak)) (cI 6))) (ao (kn fu (aa (λ_=>M.ok (.str "a vault has at most six dials")) ak))
 aq) aq)
 (ao (jQ (cX (aj my (ai cR (aa (ae 0) ak)) (cI 0))) (ao (jo dq "dial" (aa (cI 0) ak))
 aq) aq)
 (ao (iS (ja Dy (aa (ae 0) ak)) (bR 1 2) (ao (jQ (ia (cX (ai bL (aa (ae 2) (aa (cI 2) (aa (cI 360) ak)))))) (ao (jo dq "dial" (aa (ae 1) ak))
 aq) aq)
 aq))
 aq)))
def gP:List PV->M PV:=bp 1 (ay 3 gH)
def fW:af->M Out :=
 (ao (jQ (cX (aj FV (ai cR (aa (ae 0) ak)) (cI 8))) (ao (kn fu (aa (λ_=>M.ok (.str "a vault has at most eight levers")) ak))
 aq) aq)
 (ao (iS (ja Dy (aa (ae 0) ak)) (bR 2 3) (ao (jQ (ia (cX (ai gc (aa (ae 3) (aa (ae 1) ak))))) (ao (jo eB "lever" (aa (ae 2) ak))
 aq) aq)
 aq))
 aq))
def fS:List PV->M PV:=bp 2 (ay 4 fW)
def gD:af->M Out :=
 (ao (jQ (cX (aj B9 (ae 1) (λ_=>M.ok .da))) (ao (retS (aj cp (lH (aa (cI 1) ak)) (ai cR (aa (ae 0) ak))))
 aq) aq)
 (ao (iS (ja kd (aa (ai (vR λi j=>if j>i then j else i) (aa (ai cR (aa (ae 0) ak)) (aa (ai cR (aa (ae 1) ak)) ak))) ak)) (bw 2) (ao (jQ (C0 (cX (aj JA (ae 2) (ai cR (aa (ae 0) ak)))) (cX (aj JA (ae 2) (ai cR (aa (ae 1) ak))))) (ao (jo dH "lever" (aa (ae 2) ak))
 aq) aq)
 (ao (jQ (ia (cX (ai bL (aa (aj aP (ae 1) (ae 2)) (aa (cI 1) (aa (cI 1000) ak)))))) (ao (jo dH "lever" (aa (ae 2) ak))
 aq) aq)
 aq)))
 (ao (retS (ai du (aa (ae 1) ak)))
 aq)))
def gN:List PV->M PV:=bp 2 (ay 3 gD)
def kC:af->M Out :=
 (ao (retS (ai du (aa (bM (bF (ja zip2 (aa (ae 0) (aa (ae 1) ak))) (bR 0 1) none (aj cz (ae 0) (ae 1)) 2 [])) ak)))
 aq)
def jw:List PV->M PV:=bp 2 (ay 2 kC)
def l9:af->M Out :=
 (ao (retS (ai du (aa (bM (bF (ja zip2 (aa (ae 0) (aa (ae 2) ak))) (bR 0 1) none (aj eT (aj cp (ae 2) (ae 0)) (aj cp (ae 3) (ae 1))) 2 [1,3])) ak)))
 aq)
def kJ:List PV->M PV:=bp 4 (ay 4 l9)
def eO:af->M Out :=
 (ao (bf 5 (ai kJ (aa (aj aP (ae 1) (cI 0)) (aa (ae 2) (aa (aj aP (ae 3) (cI 0)) (aa (ae 4) ak))))))
 (ao (retS (lH (aa (ai jw (aa (ae 5) (aa (ae 0) ak))) (aa (ai kJ (aa (aj aP (ae 1) (cI 1)) (aa (ae 2) (aa (aj aP (ae 3) (cI 1)) (aa (ae 4) ak))))) ak))))
 aq))
def dN:List PV->M PV:=bp 5 (ay 6 eO)
def eD:af->M Out :=
 (ao (bf 3 (aj aP (aj aP (aj aP (ae 1) (ae 2)) (cI 0)) (ae 2)))
 (ao (retS (zX (cX (aj my (ae 3) (cI 0))) (aj aP (ae 0) (ae 2)) (ae 3)))
 aq))
def dj:List PV->M PV:=bp 3 (ay 4 eD)
def jl:af->M Out :=
 (ao (ue 3 (l7 ak))
 (ao (iS (ja Dy (aa (ae 1) ak)) (bR 4 5) (ao (bf 6 (ai dj (aa (ae 0) (aa (ae 1) (aa (ae 4) ak)))))
 (ao (bf 7 (aj aP (aj aP (ae 2) (cI 0)) (ae 4)))
 (ao (bf 8 (ai gg (aa (ae 6) (aa (ae 7) ak))))
 (ao (nP 3 (ai dN (aa (ae 0) (aa (ae 5) (aa (aj aP (ae 8) (cI 1)) (aa (ae 2) (aa (aj aP (ae 8) (cI 2)) ak)))))))
 (ao (bf 2 (ai dN (aa (ae 0) (aa (ae 2) (aa (aj cy (ae 6) (aj aP (ae 8) (cI 0))) (aa (ae 5) (aa (jV (aj cy (ae 7) (aj aP (ae 8) (cI 0)))) ak)))))))
 aq))))))
 (ao (sT [3] (retS (lH (aa (ae 3) (aa (aj aP (ae 2) (cI 1)) ak)))))
 aq)))
def jK:List PV->M PV:=bp 3 (ay 9 jl)
def iT:af->M Out :=
 (ao (iS (ja zd (aa (ae 3) (aa (ai cR (aa (ae 0) ak)) ak))) (bw 4) (ao (bf 5 (aj cy (aj aP (aj aP (ae 2) (cI 0)) (ae 4)) (ai dj (aa (ae 0) (aa (ae 1) (aa (ae 4) ak))))))
 (ao (bf 2 (ai dN (aa (ae 0) (aa (ae 2) (aa (cI 1) (aa (aj aP (ae 1) (ae 4)) (aa (jV (ae 5)) ak)))))))
 aq)))
 (ao (retS (ae 2))
 aq))
def fc:List PV->M PV:=bp 4 (ay 6 iT)
def gY:af->M Out :=
 (ao (iS (ja Af (aa (aj jU (ai cR (aa (ae 1) ak)) (cI 1)) (aa (jV (cI 1)) (aa (jV (cI 1)) ak)))) (bw 2) (ao (bf 3 (aj aP (ae 1) (ae 2)))
 (ao (bf 0 (ai kJ (aa (ae 0) (aa (cI 1) (aa (ae 3) (aa (jV (aj cy (aj aP (ae 0) (ae 2)) (aj aP (ae 3) (ae 2)))) ak))))))
 aq)))
 (ao (retS (ae 0))
 aq))
def gU:List PV->M PV:=bp 2 (ay 4 gY)
def eN:af->M Out :=
 (ao (retS (BL (bM (bF (itemsOf (ae 0)) (bw 0) none (aj oq (ae 0) (cI 0)) 1 [])) (λ_=>M.ok (.bl true))))
 aq)
def eW:List PV->M PV:=bp 1 (ay 1 eN)
def ir:af->M Out :=
 (ao (retS (bM (bF (ja kd (aa (Be (ae 0)) ak)) (bw 0) (some (cX (aj my (aj vB (aj yW (ae 1) (ae 0)) (cI 1)) (cI 1)))) (ae 0) 1 [0])))
 aq)
def iq:List PV->M PV:=bp 1 (ay 1 ir)
def gi:af->M Out :=
 (ao (jQ (cX (aj As (ae 1) (ai cR (aa (ae 0) ak)))) (ao (retS (aj aP (ae 0) (ae 1)))
 aq) aq)
 (ao (retS (cI 0))
 aq))
def ck:List PV->M PV:=bp 2 (ay 2 gi)
def cV:af->M Out :=
 (ao (bf 2 (aj cz (aj eT (aj eT (ae 0) (aj cp (cI 7919) (ae 1))) (cI 12345)) (cI 2147483629)))
 (ao (bf 2 (aj cz (aj eT (aj cp (ae 2) (ae 2)) (aj cp (cI 48271) (ae 1))) (cI 2147483629)))
 (ao (retS (aj cz (aj cp (ae 2) (ae 2)) (cI 2147483587)))
 aq)))
def aM:List PV->M PV:=bp 2 (ay 3 cV)
def jz:af->M Out :=
 (ao (retS (Cd (vJ (λa=>lX a "int") pH pH (ae 0)) (Fi (vJ (λa=>lX a "bool") pH pH (ae 0)))))
 aq)
def gE:List PV->M PV:=bp 1 (ay 1 jz)
def dW:af->M Out :=
 (ao (ue 2 (l7 ak))
 (ao (iS (itemsOf (ae 1)) (bw 3) (ao (nP 2 (aj cz (ae 0) (ae 3)))
 (ao (bf 0 (aj cy (ae 0) (ae 3)))
 aq)))
 (ao (sT [2] (retS (ae 2)))
 aq)))
def eh:List PV->M PV:=bp 2 (ay 4 dW)
def gz:af->M Out :=
 (ao (jQ (cX (aj my (aj cz (ae 0) (cI 2)) (cI 1))) (ao (retS (bM (bF (itemsOf (ai eh (aa (aj cy (ae 0) (cI 12)) (aa (aj cp (mC (aa (cI 359) ak)) (aj eT (cI 1) (aj cz (aj cy (ae 0) (cI 2)) (cI 6)))) ak)))) (bw 0) none (aj eT (cI 2) (ae 0)) 1 [])))
 aq) aq)
 (ao (bf 1 (aj aP (mC (aa (cI 12) (aa (cI 60) (aa (cI 360) ak)))) (aj cz (ai aM (aa (ae 0) (aa (cI 2) ak))) (cI 3))))
 (ao (retS (bM (bF (ja kd (aa (aj eT (cI 1) (aj cz (ai aM (aa (ae 0) (aa (cI 1) ak))) (cI 6))) ak)) (bw 0) none (aj eT (cI 2) (aj cz (ai aM (aa (ae 1) (aa (aj eT (cI 30) (ae 0)) ak))) (aj jU (ae 2) (cI 1)))) 1 [0,1])))
 aq)))
def gA:List PV->M PV:=bp 1 (ay 2 gz)
def gB:af->M Out :=
 (ao (jQ (cX (aj my (aj cz (ae 0) (cI 2)) (cI 1))) (ao (retS (ai eh (aa (aj cy (ae 0) (cI 2)) (aa (ae 1) ak))))
 aq) aq)
 (ao (bf 2 (aj aP (λ_=>M.ok (.lst (([1,1,2,3,4,6]:List Int).map PV.int))) (aj cz (ai aM (aa (ae 0) (aa (cI 5) ak))) (cI 6))))
 (ao (bf 3 (aj aP (mC (aa (cI 0) (aa (cI 1) (aa (aj xq (cI 10) (cI 24)) ak)))) (aj cz (ai aM (aa (ae 0) (aa (cI 6) ak))) (cI 3))))
 (ao (ue 4 (l7 ak))
 (ao (iS (ja kd (aa (ai cR (aa (ae 1) ak)) ak)) (bw 5) (ao (bf 6 (ai aM (aa (ae 0) (aa (aj eT (cI 40) (ae 5)) ak))))
 (ao (bf 7 (aj cp (aj jU (aj cz (ai aM (aa (ae 0) (aa (aj eT (cI 60) (ae 5)) ak))) (cI 2001)) (cI 1000)) (ae 3)))
 (ao (nP 4 (aj eT (aj cp (aj cp (ai (vR λi j=>if j<i then j else i) (aa (aj cz (ae 6) (cI 4)) (aa (cI 1) ak))) (ae 2)) (aj cz (aj cy (ae 6) (cI 4)) (cI 360))) (aj cp (aj aP (ae 1) (ae 5)) (ae 7))))
 aq))))
 (ao (sT [4] (retS (ae 4)))
 aq))))))
def gy:List PV->M PV:=bp 2 (ay 8 gB)
def iG:af->M Out :=
 (ao (retS (ai du (aa (bM (bF (ja zip2 (aa (ae 0) (aa (ae 1) ak))) (bR 0 1) none (aj cz (ae 0) (ae 1)) 2 [])) ak)))
 aq)
def f6:List PV->M PV:=bp 2 (ay 2 iG)
def eR:af->M Out :=
 (ao (lB (cX (aj FV (ae 1) (cI 0))) (ao (IF 0 1 (aa (ae 1) (aa (aj cz (ae 0) (ae 1)) ak)))
 aq))
 (ao (retS (ae 0))
 aq))
def dE:List PV->M PV:=bp 2 (ay 2 eR)
def gM:af->M Out :=
 (ao (bf 1 (cI 1))
 (ao (iS (itemsOf (ae 0)) (bw 2) (ao (bf 1 (aj cp (aj cy (ae 1) (ai dE (aa (ae 1) (aa (ae 2) ak)))) (ae 2)))
 aq))
 (ao (retS (ae 1))
 aq)))
def gK:List PV->M PV:=bp 1 (ay 3 gM)
def fE:af->M Out :=
 (ao (bf 3 (ai gK (aa (ae 2) ak)))
 (ao (retS (aj cz (ai qW (aa (bM (bF (ja wo (aa (ae 0) (aa (ae 1) (aa (ae 2) ak)))) (nL 0 1 2) none (aj cp (aj cp (ae 0) (ae 1)) (aj cy (ae 3) (ae 2))) 3 [3])) ak)) (ae 3)))
 aq))
def dU:List PV->M PV:=bp 3 (ay 4 fE)
def dz:af->M Out :=
 (ao (jQ (C0 (ia (cX (vJ (λa=>lX a "tuple") pH pH (ae 0)))) (cX (aj oq (ai cR (aa (ae 0) ak)) (ae 1)))) (ao (retS (λ_=>M.ok (.bl false)))
 aq) aq)
 (ao (retS (aj my (ai cR (aa (bM (bF (itemsOf (ae 0)) (bw 0) (some (cX (ai gE (aa (ae 0) ak)))) (ae 0) 1 [])) ak)) (ae 1)))
 aq))
def dr:List PV->M PV:=bp 2 (ay 2 dz)
def gv:af->M Out :=
 (ao (jQ (ia (cX (ai dr (aa (ae 1) (aa (ai cR (aa (ae 0) ak)) ak))))) (ao (retS (λ_=>M.ok (.bl false)))
 aq) aq)
 (ao (iS (ja Dy (aa (ae 2) ak)) (bR 4 5) (ao (jQ (cX (aj oq (aj cz (ai qW (aa (bM (bF (ja zip2 (aa (ae 1) (aa (ae 0) ak))) (bR 0 1) none (aj cp (ae 0) (aj aP (ae 1) (ae 2))) 2 [4])) ak)) (ae 5)) (aj aP (ae 3) (ae 4)))) (ao (retS (λ_=>M.ok (.bl false)))
 aq) aq)
 aq))
 (ao (retS (λ_=>M.ok (.bl true)))
 aq)))
def gG:List PV->M PV:=bp 4 (ay 6 gv)
def iC:af->M Out :=
 (ao (jQ (ia (cX (ai dr (aa (ae 1) (aa (ai cR (aa (ae 2) ak)) ak))))) (ao (retS (λ_=>M.ok (.bl false)))
 aq) aq)
 (ao (jQ (cX (aj oq (ai cR (aa (bM (bF (ja Dy (aa (ae 2) ak)) (bR 0 1) (some (cX (gW Cm As (cI 0) (aj aP (ae 2) (ae 0)) (ae 1)))) (ae 0) 2 [1])) ak)) (ai cR (aa (ae 2) ak)))) (ao (retS (λ_=>M.ok (.bl false)))
 aq) aq)
 (ao (iS (itemsOf (ae 0)) (bw 4) (ao (jQ (cX (aj oq (ai dU (aa (ae 1) (aa (ae 4) (aa (ae 2) ak)))) (cI 0))) (ao (retS (λ_=>M.ok (.bl false)))
 aq) aq)
 aq))
 (ao (retS (aj oq (ai dU (aa (ae 1) (aa (ae 3) (aa (ae 2) ak)))) (cI 0)))
 aq))))
def ib:List PV->M PV:=bp 4 (ay 5 iC)
def fV:af->M Out :=
 (ao (bf 2 (aj cz (ai aM (aa (ai ck (aa (ae 0) (aa (cI 1) ak))) (aa (cI 1) ak))) (cI 9)))
 (ao (ue 3 (l7 ak))
 (ao (iS (ja kd (aa (ae 2) ak)) (bw 4) (ao (bf 5 (ai ck (aa (ae 0) (aa (aj eT (cI 2) (ae 4)) ak))))
 (ao (bf 6 (ai gy (aa (ae 5) (aa (ae 1) ak))))
 (ao (jQ (Jm (cX (aj FV (ae 4) (cI 1))) (cX (aj my (aj cz (ai aM (aa (ae 5) (aa (cI 7) ak))) (cI 3)) (cI 0)))) (ao (bf 7 (Lp 3 (aj cz (ai aM (aa (ae 5) (aa (cI 8) ak))) (ae 4))))
 (ao (bf 8 (Lp 3 (aj cz (ai aM (aa (ae 5) (aa (cI 9) ak))) (ae 4))))
 (ao (bf 6 (bM (bF (ja wo (aa (ae 7) (aa (ae 8) (aa (ae 1) ak)))) (nL 0 1 2) none (aj cz (aj jU (ae 0) (aj cp (cI 2) (ae 1))) (ae 2)) 3 [])))
 aq))) aq)
 (ao (nP 3 (ae 6))
 aq)))))
 (ao (sT [3] (retS (ae 3)))
 aq))))
def fG:List PV->M PV:=bp 2 (ay 9 fV)
def jA:af->M Out :=
 (ao (i0 (ai gP (aa (ae 1) ak)))
 (ao (i0 (ai fS (aa (ae 2) (aa (ai cR (aa (ae 1) ak)) ak))))
 (ao (jB 0 au "dial_sizes" (ai du (aa (ae 1) ak)))
 (ao (jB 0 au "lever_settings" (ai du (aa (bM (bF (itemsOf (ae 2)) (bw 0) none (ai jw (aa (ae 0) (aa (ae 1) ak))) 1 [1])) ak)))
 (ao (jB 0 au "lever_prices" (ai gN (aa (ae 2) (aa (ae 3) ak))))
 (ao (jB 0 au "least_round" (ai fz (aa (ae 1) ak)))
 aq))))))
def fP:Addr->List PV->M (List (Str×PV)):=mF 4 (rA 4 jA au)
def bh:af->M Out :=
 (ao (retS (d_ (λc=>c==au) "dial_sizes" (ae 0)))
 aq)
def aX:List PV->M PV:=bp 1 (ay 1 bh)
def bD:af->M Out :=
 (ao (retS (d_ (λc=>c==au) "lever_settings" (ae 0)))
 aq)
def bg:List PV->M PV:=bp 1 (ay 1 bD)
def dD:af->M Out :=
 (ao (retS (d_ (λc=>c==au) "lever_prices" (ae 0)))
 aq)
def cK:List PV->M PV:=bp 1 (ay 1 dD)
def dC:af->M Out :=
 (ao (retS (d_ (λc=>c==au) "least_round" (ae 0)))
 aq)
def cN:List PV->M PV:=bp 1 (ay 1 dC)
def lu:af->M Out :=
 (ao (jB 0 de "pulls" (ae 1))
 aq)
def lh:Addr->List PV->M (List (Str×PV)):=mF 2 (rA 2 lu de)
def lx:af->M Out :=
 (ao (jB 0 cY "weights" (ae 1))
 aq)
def k9:Addr->List PV->M (List (Str×PV)):=mF 2 (rA 2 lx cY)
def fw:af->M Out :=
 (ao (bf 1 (bJ au "sizes" aX (d_ (λc=>c==aA) "vault" (ae 0)) ak))
 (ao (retS (ai du (aa (bM (bF (ja kd (aa (ai cR (aa (ae 1) ak)) ak)) (bw 0) none (ai dj (aa (ae 2) (aa (d_ (λc=>c==aA) "made_rows" (ae 1)) (aa (ae 0) ak)))) 1 [0,1])) ak)))
 aq))
def fX:List PV->M PV:=bp 1 (ay 2 fw)
def i6:af->M Out :=
 (ao (retS (aj cp (lH (aa (cI 0) ak)) (ai cR (aa (bJ au "sizes" aX (ae 0) ak) ak))))
 aq)
def gb:List PV->M PV:=bp 1 (ay 1 i6)
def gF:af->M Out :=
 (ao (bf 2 (bJ au "sizes" aX (ae 0) ak))
 (ao (jQ (C0 (ia (cX (vJ (λa=>lX a "tuple") pH pH (ae 1)))) (ia (cX (ai gc (aa (ae 1) (aa (ai cR (aa (ae 2) ak)) ak)))))) (ao (retS (λ_=>M.ok (.bl false)))
 aq) aq)
 (ao (retS (ai vg (aa (bM (bF (ja zip2 (aa (ae 1) (aa (ae 2) ak))) (bR 0 1) none (gW Cm As (cI 0) (ae 0) (ae 1)) 2 [])) ak)))
 aq)))
def gO:List PV->M PV:=bp 2 (ay 3 gF)
def cP:af->M Out :=
 (ao (jQ (ia (cX (ai gO (aa (ae 0) (aa (ae 1) ak))))) (ao (kn eG (aa (λ_=>M.ok (.str "this is no setting of the vault")) ak))
 aq) aq)
 aq)
def bU:List PV->M PV:=bp 2 (ay 2 cP)
def oK:af->M Out :=
 (ao (bf 4 (bM (bF (ja zip2 (aa (ae 1) (aa (ae 2) ak))) (bR 0 1) none (aj eT (ae 0) (aj cp (ae 2) (ae 1))) 2 [3])))
 (ao (retS (ai jw (aa (ae 4) (aa (bJ au "sizes" aX (ae 0) ak) ak))))
 aq))
def oC:List PV->M PV:=bp 4 (ay 5 oK)
def kH:af->M Out :=
 (ao (i0 (ai bU (aa (ae 0) (aa (ae 1) ak))))
 (ao (i0 (ai bU (aa (ae 0) (aa (ae 2) ak))))
 (ao (retS (ai oC (aa (ae 0) (aa (ae 2) (aa (ae 1) (aa (jV (cI 1)) ak))))))
 aq)))
def kD:List PV->M PV:=bp 3 (ay 3 kH)
def oM:af->M Out :=
 (ao (i0 (ai bU (aa (ae 0) (aa (ae 1) ak))))
 (ao (i0 (ai bU (aa (ae 0) (aa (ae 2) ak))))
 (ao (bf 3 (bJ au "around" cN (ae 0) ak))
 (ao (bf 4 (bM (bF (ja zip2 (aa (ae 1) (aa (bJ au "sizes" aX (ae 0) ak) ak))) (bR 0 1) none (aj cp (ae 0) (aj cy (ae 2) (ae 1))) 2 [3])))
 (ao (retS (ai jj (aa (ae 4) (aa (ae 2) (aa (ae 3) ak)))))
 aq)))))
def oE:List PV->M PV:=bp 3 (ay 5 oM)
def hV:af->M Out :=
 (ao (retS (lH (aa (ae 1) (aa (aj cp (lH (aa (cI 0) ak)) (ai cR (aa (bJ au "levers" bg (ae 0) ak) ak))) ak))))
 aq)
def fk:List PV->M PV:=bp 2 (ay 2 hV)
def fx:af->M Out :=
 (ao (bf 2 (bJ au "levers" bg (ae 0) ak))
 (ao (retS (lH (aa (aj aP (ae 2) (ae 1)) (aa (ai jI (aa (ai cR (aa (ae 2) ak)) (aa (ae 1) ak))) ak))))
 aq))
def fU:List PV->M PV:=bp 2 (ay 3 fx)
def jC:af->M Out :=
 (ao (retS (aj jU (aj ou (cI 1) (ai cR (aa (bJ au "levers" bg (ae 0) ak) ak))) (cI 1)))
 aq)
def jq:List PV->M PV:=bp 1 (ay 1 jC)
def gX:af->M Out :=
 (ao (jQ (ia (cX (ai bL (aa (ae 1) (aa (cI 0) (aa (ai jq (aa (ae 0) ak)) ak)))))) (ao (kn bq (aa (λ_=>M.ok (.str "this number picks no levers of the vault")) ak))
 aq) aq)
 (ao (bf 2 (ai iq (aa (ae 1) ak)))
 (ao (bf 3 (bJ au "levers" bg (ae 0) ak))
 (ao (bf 4 (bJ au "prices" cK (ae 0) ak))
 (ao (retS (ai (e_ au fP []) (aa (bJ au "sizes" aX (ae 0) ak) (aa (bM (bF (itemsOf (ae 2)) (bw 0) none (aj aP (ae 1) (ae 0)) 1 [3])) (aa (bM (bF (itemsOf (ae 2)) (bw 0) none (aj aP (ae 1) (ae 0)) 1 [4])) ak)))))
 aq)))))
def gf:List PV->M PV:=bp 2 (ay 5 gX)
def gu:af->M Out :=
 (ao (bf 5 (ai gf (aa (ae 0) (aa (ae 3) ak))))
 (ao (bf 6 (bM (bF (ja kd (aa (ai cR (aa (ae 1) ak)) ak)) (bw 0) (some (cX (aj my (aj cz (aj cy (ae 1) (aj ou (cI 1) (ae 0))) (cI 2)) (cI 1)))) (ae 0) 1 [3])))
 (ao (jQ (C0 (cX (aj oq (bJ au "sizes" aX (ae 5) ak) (ai du (aa (ae 4) ak)))) (cX (aj oq (bJ au "levers" bg (ae 5) ak) (ai du (aa (bM (bF (itemsOf (ae 6)) (bw 0) none (aj aP (ae 1) (ae 0)) 1 [1])) ak))))) (ao (retS (λ_=>M.ok (.bl false)))
 aq) aq)
 (ao (retS (aj my (bJ au "prices" cK (ae 5) ak) (ai du (aa (bM (bF (itemsOf (ae 6)) (bw 0) none (aj aP (ae 1) (ae 0)) 1 [2])) ak))))
 aq))))
def gQ:List PV->M PV:=bp 5 (ay 7 gu)
def jG:af->M Out :=
 (ao (bf 2 (bJ au "sizes" aX (ae 1) ak))
 (ao (bf 3 (bM (bF (itemsOf (ae 2)) (bw 0) none (ai fk (aa (ae 1) (aa (ai gb (aa (ae 1) ak)) ak))) 1 [1])))
 (ao (ue 4 (l7 ak))
 (ao (iS (ja kd (aa (ai cR (aa (bJ au "levers" bg (ae 1) ak) ak)) ak)) (bw 5) (ao (bf 6 (ai jK (aa (ae 2) (aa (ae 3) (aa (ai fU (aa (ae 1) (aa (ae 5) ak))) ak)))))
 (ao (bf 3 (aj aP (ae 6) (cI 0)))
 (ao (nP 4 (uI 4 (ai gU (aa (aj aP (ae 6) (cI 1)) (aa (ae 4) ak)))))
 aq))))
 (ao (jB 0 aA "vault" (ae 1))
 (ao (jB 0 aA "made_rows" (bM (bF (ja Dy (aa (ae 3) ak)) (bR 0 1) none (ai fc (aa (ae 2) (aa (ae 3) (aa (ae 1) (aa (aj eT (ae 0) (cI 1)) ak))))) 2 [2,3])))
 (ao (sT [4] (jB 0 aA "idle_rows" (ae 4)))
 aq)))))))
def iB:Addr->List PV->M (List (Str×PV)):=mF 2 (rA 7 jG aA)
def bT:af->M Out :=
 (ao (i0 (ai bU (aa (d_ (λc=>c==aA) "vault" (ae 0)) (aa (ae 1) ak))))
 (ao (retS (ai fc (aa (bJ au "sizes" aX (d_ (λc=>c==aA) "vault" (ae 0)) ak) (aa (d_ (λc=>c==aA) "made_rows" (ae 0)) (aa (ai fk (aa (d_ (λc=>c==aA) "vault" (ae 0)) (aa (ae 1) ak))) (aa (cI 0) ak))))))
 aq))
def bH:List PV->M PV:=bp 2 (ay 2 bT)
def fF:af->M Out :=
 (ao (retS (aj aP (bJ aA "brought_down" bH (ae 0) (aa (ae 1) ak)) (cI 0)))
 aq)
def fJ:List PV->M PV:=bp 2 (ay 2 fF)
def cO:af->M Out :=
 (ao (bf 2 (bJ aA "brought_down" bH (ae 0) (aa (ae 1) ak)))
 (ao (jQ (cX (aj oq (aj aP (ae 2) (cI 0)) (ai gb (aa (d_ (λc=>c==aA) "vault" (ae 0)) ak)))) (ao (retS (λ_=>M.ok .da))
 aq) aq)
 (ao (retS (ai gU (aa (ai du (aa (bM (bF (itemsOf (aj aP (ae 2) (cI 1))) (bw 0) none (jV (ae 0)) 1 [])) ak)) (aa (d_ (λc=>c==aA) "idle_rows" (ae 0)) ak))))
 aq)))
def cn:List PV->M PV:=bp 2 (ay 3 cO)
def cW:af->M Out :=
 (ao (bf 2 (bJ au "sizes" aX (d_ (λc=>c==aA) "vault" (ae 0)) ak))
 (ao (jQ (ia (cX (ai bL (aa (ae 1) (aa (cI 0) (aa (aj jU (ai cR (aa (ae 2) ak)) (cI 1)) ak)))))) (ao (jo dq "dial" (aa (ae 1) ak))
 aq) aq)
 (ao (bf 3 (bM (bF (ja zip2 (aa (ae 2) (aa (bJ aA "steps" fX (ae 0) ak) ak))) (bR 0 1) none (aj cy (ae 0) (ae 1)) 2 [])))
 (ao (ue 4 (Hf (mC (aa (cI 0) ak)) (ai cR (aa (ae 2) ak))))
 (ao (K1 4 (ae 1) (aj cz (aj aP (ae 3) (ae 1)) (aj aP (ae 2) (ae 1))))
 (ao (iS (ja Af (aa (aj jU (ae 1) (cI 1)) (aa (jV (cI 1)) (aa (jV (cI 1)) ak)))) (bw 5) (ao (bf 6 (uI 4 (ai oE (aa (d_ (λc=>c==aA) "vault" (ae 0)) (aa (ai du (aa (ae 4) ak)) (aa (aj aP (aj aP (d_ (λc=>c==aA) "made_rows" (ae 0)) (ae 5)) (cI 0)) ak))))))
 (ao (bf 7 (aj cy (bJ au "around" cN (d_ (λc=>c==aA) "vault" (ae 0)) ak) (aj aP (ae 3) (ae 5))))
 (ao (K1 4 (ae 5) (aj cz (jV (aj cy (ae 6) (ae 7))) (aj aP (ae 3) (ae 5))))
 aq))))
 (ao (sT [4] (retS (ai du (aa (ae 4) ak))))
 aq)))))))
def cU:List PV->M PV:=bp 2 (ay 8 cW)
def lK:af->M Out :=
 (ao (bf 3 (ai kD (aa (ae 0) (aa (ae 1) (aa (ae 2) ak)))))
 (ao (bf 4 (ai (e_ aA iB []) (aa (ae 0) ak)))
 (ao (bf 5 (bJ aA "pulls_to" cn (ae 4) (aa (ae 3) ak)))
 (ao (jQ (cX (aj kT (ae 5) (λ_=>M.ok .da))) (ao (retS (ai (e_ de lh []) (aa (ae 5) ak)))
 aq) aq)
 (ao (retS (ai (e_ cY k9 []) (aa (bJ aA "weights_at" cU (ae 4) (aa (ai eW (aa (bJ aA "least" fJ (ae 4) (aa (ae 3) ak)) ak)) ak)) ak)))
 aq)))))
def gq:List PV->M PV:=bp 3 (ay 6 lK)
def i5:af->M Out :=
 (ao (bf 2 (ai gf (aa (ae 0) (aa (ae 1) ak))))
 (ao (retS (bM (bF (itemsOf (bJ au "levers" bg (ae 0) ak)) (bw 0) none (ai gq (aa (ae 2) (aa (ai gb (aa (ae 1) ak)) (aa (ae 0) ak)))) 1 [0,2])))
 aq))
def hZ:List PV->M PV:=bp 2 (ay 3 i5)
def fv:af->M Out :=
 (ao (bf 4 (ai hZ (aa (ae 0) (aa (ae 2) ak))))
 (ao (bf 5 (bM (bF (ja kd (aa (ai cR (aa (ae 1) ak)) ak)) (bw 0) (some (cX (aj my (aj cz (aj cy (ae 2) (aj ou (cI 1) (ae 0))) (cI 2)) (cI 1)))) (aj aP (ae 1) (ae 0)) 1 [1,2])))
 (ao (jQ (C0 (ia (cX (vJ (λa=>lX a "list") pH pH (ae 4)))) (cX (aj oq (ai cR (aa (ae 4) ak)) (ai cR (aa (ae 1) ak))))) (ao (retS (λ_=>M.ok (.bl false)))
 aq) aq)
 (ao (iS (ja zip2 (aa (ae 4) (aa (ae 1) ak))) (bR 6 7) (ao (jQ (cX (vJ (λ_=>false) (k8 jn jv) (k8 p_ qa) (ae 6))) (ao (jQ (ia (cX (ai gG (aa (ae 5) (aa (d_ (λc=>c==de) "pulls" (ae 6)) (aa (ae 3) (aa (ae 7) ak))))))) (ao (retS (λ_=>M.ok (.bl false)))
 aq) aq)
 aq) (ao (jQ (C0 (ia (cX (vJ (λ_=>false) (k8 mz mP) (k8 t_ t8) (ae 6)))) (C0 (cX (aj inD (ae 7) (ae 5))) (ia (cX (ai ib (aa (ae 5) (aa (d_ (λc=>c==cY) "weights" (ae 6)) (aa (ae 3) (aa (ae 7) ak))))))))) (ao (retS (λ_=>M.ok (.bl false)))
 aq) aq)
 aq))
 aq))
 (ao (retS (λ_=>M.ok (.bl true)))
 aq)))))
def fD:List PV->M PV:=bp 4 (ay 8 fv)
def eS:af->M Out :=
 (ao (bf 3 (mC ak))
 (ao (Fe (jQ (cX (aj my (ae 1) (cI 0))) (i0 (ai gf (aa (ae 0) (aa (ae 2) ak)))) (i0 (ai hZ (aa (ae 0) (aa (ae 2) ak))))) [(k8 fI fO,some 4,(ao (bf 3 (mC (aa (vJ (λ_=>false) (k8 iA ig) (k8 eF eE) (ae 4)) (aa (Fv Nc (ae 4)) ak))))
 aq))])
 (ao (retS (aj my (ae 3) (mC (aa (λ_=>M.ok (.bl true)) (aa (λ_=>M.ok (.bl true)) ak)))))
 aq)))
def eJ:List PV->M PV:=bp 3 (ay 5 eS)
def Bw:af->M Out :=
 (ao (bf 1 (ai gA (aa (ai ck (aa (ae 0) (aa (cI 0) ak))) ak)))
 (ao (bf 2 (ai fG (aa (ae 0) (aa (ae 1) ak))))
 (ao (bf 3 (bM (bF (ja kd (aa (ai cR (aa (ae 2) ak)) ak)) (bw 0) none (aj eT (cI 1) (aj cz (ai aM (aa (ai ck (aa (ae 1) (aa (aj eT (cI 2) (ae 0)) ak))) (aa (cI 3) ak))) (cI 1000))) 1 [0])))
 (ao (bf 4 (ai (e_ au fP []) (aa (ai qG (aa (ae 1) ak)) (aa (bM (bF (itemsOf (ae 2)) (bw 0) none (ai qG (aa (ae 0) ak)) 1 [])) (aa (ai qG (aa (ae 3) ak)) ak)))))
 (ao (bf 5 (bM (bF (itemsOf (ae 2)) (bw 0) none (ai f6 (aa (ae 0) (aa (ae 1) ak))) 1 [1])))
 (ao (iS (itemsOf (wm (ae 0) (tj (cI 10)) (tj (cI 12)))) (bw 6) (ao (bf 7 (aj cz (ai aM (aa (ae 6) (aa (cI 1) ak))) (aj ou (cI 1) (ai cR (aa (ae 2) ak)))))
 (ao (jQ (C0 (ia (cX (ai gQ (aa (ae 4) (aa (ae 5) (aa (ae 3) (aa (ae 7) (aa (ae 1) ak)))))))) (ia (cX (ai fD (aa (ae 4) (aa (ae 5) (aa (ae 7) (aa (ae 1) ak)))))))) (ao (retS (λ_=>M.ok (.bl false)))
 aq) aq)
 aq)))
 (ao (iS (itemsOf (mC (aa (jV (cI 1)) (aa (aj ou (cI 1) (ai cR (aa (ae 2) ak))) (aa (aj eT (aj ou (cI 1) (ai cR (aa (ae 2) ak))) (aj cz (ai ck (aa (ae 0) (aa (cI 1) ak))) (aj xq (cI 10) (cI 29)))) (aa (λ_=>M.ok (.bl true)) (aa (λ_=>M.ok .da) (aa (λ_=>M.ok (.str "1")) (aa (mC (aa (cI 0) ak)) ak))))))))) (bw 8) (ao (iS (ja kd (aa (cI 2) ak)) (bw 9) (ao (jQ (ia (cX (ai eJ (aa (ae 4) (aa (ae 9) (aa (ae 8) ak)))))) (ao (retS (λ_=>M.ok (.bl false)))
 aq) aq)
 aq))
 aq))
 (ao (retS (λ_=>M.ok (.bl true)))
 aq))))))))
def sk:List PV->M PV:=bp 1 (ay 10 Bw)
end wb
namespace wb
open PySem L2 PyProof.Rows
local macro_rules | `(tactic| walk_at "s")=>`(tactic| exact⟨rfl,rfl,rfl,by decide +kernel,rfl,by decide +kernel,by decide +kernel⟩)
local macro_rules | `(tactic| walk_at "l")=>`(tactic| first | exact .inl rfl | exact .inr rfl)
local macro_rules | `(tactic| walk_at "pp")=>`(tactic| all_goals repeat' (first | ((with_reducible show kq _ _ (tS _ (ao _ _)));refine Dk ?_ ?_) | ((with_reducible show kq _ _ (tS _ aq));exact DM) | ((with_reducible show PE _ _ (tE _ (ae _)));exact vr _) | ((with_reducible show PA _ _ (tL _ (aa _ _)));refine yH ?_ ?_ (FJ rfl)) | ((with_reducible show PA _ _ (tL _ ak));exact BE) | ((with_reducible show PE _ _ (tE _ (λ_=>M.ok (.int _))));first | exact Bj | exact ma (K5 (by rfl) (by assumption)) λ_=>.int _) | ((with_reducible show PE _ _ (tE _ (λ_=>M.ok (.bl _))));exact Ka) | ((with_reducible show PE _ _ (tE _ (λ_=>M.ok .da)));exact Jg) | ((with_reducible show PE _ _ (tE _ (λ_=>M.ok (.str _))));exact Ie) | ((with_reducible show PE _ _ (tE _ (aj eT _ _)));refine jm ET I_ ?_ ?_) | ((with_reducible show PE _ _ (tE _ (aj jU _ _)));refine jm Hj HY ?_ ?_) | ((with_reducible show PE _ _ (tE _ (aj cp _ _)));refine jm ES Gn ?_ ?_) | ((with_reducible show PE _ _ (tE _ (aj cy _ _)));refine jm AO AW ?_ ?_) | ((with_reducible show PE _ _ (tE _ (aj cz _ _)));refine jm DU Fq ?_ ?_) | ((with_reducible show PE _ _ (tE _ (aj xq _ _)));refine jm Ic DG ?_ ?_) | ((with_reducible show PE _ _ (tE _ (aj ou _ _)));refine jm IX Ez ?_ ?_) | ((with_reducible show PE _ _ (tE _ (aj yW _ _)));refine jm G9 E_ ?_ ?_) | ((with_reducible show PE _ _ (tE _ (aj vB _ _)));refine jm IT Bn ?_ ?_) | ((with_reducible show PE _ _ (tE _ (aj aP _ _)));refine Hk ?_ ?_ ?_) | ((with_reducible show oJ _);exact λ_ _=>rfl) | ((with_reducible show PT _ _ (tT _ (cX (aj my _ _))));refine jc (Bv (cv.units (by assumption))) FF ?_ ?_ (dR _)) | ((with_reducible show PE _ _ (tE _ (aj my _ _)));refine kh (Bv (cv.units (by assumption))) FF ?_ ?_ (dR _)) | ((with_reducible show PT _ _ (tT _ (cX (aj oq _ _))));refine jc (BW (cv.units (by assumption))) FO ?_ ?_ (dR _)) | ((with_reducible show PE _ _ (tE _ (aj oq _ _)));refine kh (BW (cv.units (by assumption))) FO ?_ ?_ (dR _)) | ((with_reducible show PT _ _ (tT _ (cX (aj As _ _))));refine jc yr tZ ?_ ?_ (dR _)) | ((with_reducible show PE _ _ (tE _ (aj As _ _)));refine kh yr tZ ?_ ?_ (dR _)) | ((with_reducible show PT _ _ (tT _ (cX (aj Cm _ _))));refine jc rT mT ?_ ?_ (dR _)) | ((with_reducible show PE _ _ (tE _ (aj Cm _ _)));refine kh rT mT ?_ ?_ (dR _)) | ((with_reducible show PT _ _ (tT _ (cX (aj FV _ _))));refine jc FR Bi ?_ ?_ (dR _)) | ((with_reducible show PE _ _ (tE _ (aj FV _ _)));refine kh FR Bi ?_ ?_ (dR _)) | ((with_reducible show PT _ _ (tT _ (cX (aj JA _ _))));refine jc Gm AN ?_ ?_ (dR _)) | ((with_reducible show PE _ _ (tE _ (aj JA _ _)));refine kh Gm AN ?_ ?_ (dR _)) | ((with_reducible show PT _ _ (tT _ (cX (aj B9 _ _))));refine jc B5 Dr ?_ ?_ (dR _)) | ((with_reducible show PE _ _ (tE _ (aj B9 _ _)));refine kh B5 Dr ?_ ?_ (dR _)) | ((with_reducible show PT _ _ (tT _ (cX (aj kT _ _))));refine jc yF yq ?_ ?_ (dR _)) | ((with_reducible show PE _ _ (tE _ (aj kT _ _)));refine kh yF yq ?_ ?_ (dR _)) | ((with_reducible show PT _ _ (tT _ (ia _)));refine IV ?_) | ((with_reducible show PT _ _ (tT _ (cX (ai _ _))));refine sQ ?_) | ((with_reducible show PT _ _ (tT _ (cX (vJ _ _ _ _))));refine sQ ?_) | ((with_reducible show PT _ _ (tT _ (cX (bJ _ _ _ _ _))));refine sQ ?_) | ((with_reducible show PT _ _ (tT _ (cX (ae _))));refine sQ ?_) | ((with_reducible show PS _ _ (tS _ (retS _)));refine GQ ?_) | ((with_reducible show PS _ _ (tS _ (bf _ _)));refine Ha (by assumption) rfl (by walk_at "l") ?_) | ((with_reducible show PS _ _ (tS _ (jQ _ _ _)));refine KH ?_ ?_ ?_) | ((with_reducible show PS _ _ (tS _ (nP _ _)));refine zQ rfl (by first | exact .inl rfl | exact .inr (.inl rfl)) ?_) | ((with_reducible show PS _ _ (tS _ (ue _ _)));refine Eb (by assumption) rfl (by walk_at "l") ?_) | ((with_reducible show PE _ _ (tO _ (l7 _)));refine Jl ?_) | ((with_reducible show PS _ _ (tS _ (sT _ _)));refine G3 _ ?_) | ((with_reducible show PS _ _ (tS _ (i0 _)));refine E4 ?_) | ((with_reducible show PS _ _ (tS _ (kn _ _)));refine zm.raise (by assumption) (by assumption) rfl (by rfl) ?_) | ((with_reducible show PS _ _ (tS _ (jo _ _ _)));refine rC.raise (by assumption) (by assumption) (by omega) (by assumption) rfl (by rfl) ?_) | ((with_reducible show PE _ _ (tE _ (lH _)));refine ID ?_) | ((with_reducible show PE _ _ (tE _ (mC _)));refine CG ?_) | ((with_reducible show PE _ _ (tE _ (jV _)));refine GX ?_) | ((with_reducible show PE _ _ (tE _ (zX _ _ _)));refine IY ?_ ?_ ?_) | ((with_reducible show PE _ _ (tE _ (d_ _ _ _)));refine HP ?_ (by assumption) rfl) | ((with_reducible show PE _ _ (tE _ (ai cR _)));refine kv zx HZ (by rfl) (by assumption) PySem.boot_len ?_) | ((with_reducible show PE _ _ (tE _ (ai du _)));refine rZ rD Bf (by rfl) (by assumption) lL ?_) | ((with_reducible show PE _ _ (tE _ (ai qG _)));refine rZ sV E1 (by rfl) (by assumption) sU ?_) | ((with_reducible show PE _ _ (tE _ (ai qW _)));refine kv (zA rfl) Gu (by rfl) (by assumption) IA ?_) | ((with_reducible show PE _ _ (tE _ (ai vg _)));refine kv (Ae rfl) Gz (by rfl) (by assumption) Ja ?_) | ((with_reducible show PE _ _ (tE _ (ai (e_ _ _ _) _)));refine Al.make (by assumption) (by assumption) (by omega) (by rfl) (by first | assumption | exact xW) ?_) | ((with_reducible show PE _ _ (tE _ (ai _ _)));refine cT.call (by assumption) (by assumption) (by omega) (by rfl) (by first | assumption | exact xW) ?_) | ((with_reducible show PE _ _ (tE _ (bJ _ _ _ _ ak)));refine kz.KN (by assumption) (by assumption) (by omega) (by first | assumption | exact xW) ?_) | ((with_reducible show PE _ _ (tE _ (bJ _ _ _ _ _)));refine kz.call (by assumption) (by assumption) (by omega) (by first | assumption | exact xW) ?_ ?_) | ((with_reducible show PT _ _ (tT _ (cX (aj inD _ _))));refine jc (Hg (cv.Nt (by assumption))) Hi ?_ ?_ rfl)))
def top(i:Nat):Stmt:=PySem.Challenge.pw_dialvault_k34_what_picked_levers_can_do.main.body.getD i (.Pass ⟨0,0,0,0⟩)
structure Txt (K:PySem.W.Frag) (mg:Str->Option Value):Prop where
 mn:mg "ValueError" = none
 JV:mg "all" = none
 xp:mg "bool" = none
 dF:mg "enumerate" = none
 A4:mg "int" = none
 bu:mg "isinstance" = none
 JJ:mg "len" = none
 xt:mg "list" = none
 F_:mg "max" = none
 Gi:mg "min" = none
 cJ:mg "range" = none
 K3:mg "sum" = none
 oH:mg "tuple" = none
 i7:mg "zip" = none
 qJ:∃ u,mg "LEAST_PRICE" = some u/\RelV (.int 1) u
 sJ:∃ u,mg "LEAST_SIZE" = some u/\RelV (.int 2) u
 uo:∃ u,mg "MOST_DIALS" = some u/\RelV (.int 6) u
 qM:∃ u,mg "MOST_LEVERS" = some u/\RelV (.int 8) u
 sX:∃ u,mg "MOST_PRICE" = some u/\RelV (.int 1000) u
 uS:∃ u,mg "MOST_SIZE" = some u/\RelV (.int 360) u
 FE:kP K cY
 oA:kP K aA
 mi:kP K au
 FQ:kP K de
 xP:zm K mg bq "NoNumber"
 uO:zm K mg eG "NoSetting"
 zO:zm K mg fu "TooMany"
 jE:MU K mg "VaultError" lZ fI fO
 k9:G5 K mg "Bar" cY t_ t8 mz mP
 qb:G5 K mg "NoNumber" bq eF eE iA ig
 lh:G5 K mg "Way" de p_ qa jn jv
 Nk:∀ C∈Nc,f9 K C/\PySem.W.kitOne K (.ref C) (.type "ValueError")=some true
 lp:bN K cY "weights"
 iz:bN K aA "idle_rows"
 iE:bN K aA "made_rows"
 k_:bN K aA "vault"
 gZ:bN K au "dial_sizes"
 gm:bN K au "least_round"
 fY:bN K au "lever_prices"
 eP:bN K au "lever_settings"
 ny:bN K de "pulls"
 sM:∀ C,(C==au)=true->kP K C/\bN K C "dial_sizes"
 vm:∀ C,(C==aA)=true->kP K C/\bN K C "idle_rows"
 rf:∀ C,(C==au)=true->kP K C/\bN K C "least_round"
 pP:∀ C,(C==au)=true->kP K C/\bN K C "lever_prices"
 mD:∀ C,(C==au)=true->kP K C/\bN K C "lever_settings"
 vF:∀ C,(C==aA)=true->kP K C/\bN K C "made_rows"
 DN:∀ C,(C==de)=true->kP K C/\bN K C "pulls"
 Fd:∀ C,(C==aA)=true->kP K C/\bN K C "vault"
 zR:∀ C,(C==cY)=true->kP K C/\bN K C "weights"
local macro_rules | `(tactic| walk_at "t")=>`(tactic| (have z:=‹Txt _ _›;cases z))
variable{P:Program}{w:World}{K:PySem.W.Frag}{mg:Str->Option Value}{base:Heap}{f:Addr}{fd:FuncData}{dv:Value}
theorem vN(F:bc K "is_whole" "is_whole" (top 10) dv f fd)(T:Txt K mg)  : aQ P w K mg base (bQ P w) 1 f fd ["thing"] (dc 1 fm) :=
 F.eY ["thing"] λnd _ _ _ _ _ _ hr O=>by
 unfold jy;walk_at "t"
 walk_at "pp"
 refine(xo ?_ (xN ?_))
 walk_at "pp"
 refine(ly (T := "int") (by rfl) T.bu (fy (v:=.ty "int") (by rfl) T.A4 CW rfl) (by decide) lC lC ?_)
 walk_at "pp"
 refine(Dp ?_)
 walk_at "pp"
 refine(ly (T := "bool") (by rfl) T.bu (fy (v:=.ty "bool") (by rfl) T.xp yK rfl) (by decide) lC lC ?_)
 walk_at "pp"
theorem uV:((["number"]:List Str)++([]:List Str)).Nodup:=by decide +kernel
theorem yX(F:bc K "is_row" "is_row" (top 11) dv f fd)(T:Txt K mg)(OA:cT P w K mg base 1 "is_whole" 1 (ay 1 jy)):aQ P w K mg base (bQ P w) 2 f fd ["thing", "length"] (dc 2 gc) :=
 F.eY ["thing", "length"] λnd _ _ _ _ _ _ hr O=>by
 unfold j5;walk_at "t"
 walk_at "pp"
 refine(lR ?_ (j4 ?_)).pt
 walk_at "pp"
 refine(Ej (Ts:=["list", "tuple"]) (by rfl) T.bu (CV (dM (fy (v:=.ty "list") (by rfl) T.xt sU rfl) (dM (fy (v:=.ty "tuple") (by rfl) T.oH lL rfl) ko))) (fun σ H R h=>⟨by show 2<=sizeLine;decide,h⟩) (by decide) lC ?_)
 walk_at "pp"
 refine(bS (br (g:=(aC 0)) (ts:=["number"]) (fs:=[]) (js:=[]) (cl:=[]) rfl rfl rfl rfl rfl rfl .nil .nil (cM ?_) bV (λ_ _ _ _ _=>(aJ (i:=0) uV)) (λ_=>aW) aY (λ_ _ _ _ _=>?_)))
 walk_at "pp"
theorem zS(F:bc K "common" "common" (top 12) dv f fd)(T:Txt K mg)  : aQ P w K mg base (bQ P w) 1 f fd ["one", "other"] (dc 2 gg) :=
 F.eY ["one", "other", "row", "behind", "times", "rest"] λnd _ _ _ _ _ _ hr O=>by
 unfold j3;walk_at "t"
 walk_at "pp"
 refine(vd O ?_ ?_)
 walk_at "pp"
theorem pq(F:bc K "multiple_of" "multiple_of" (top 13) dv f fd)(T:Txt K mg)(O7:cT P w K mg base 1 "common" 2 (ay 6 j3)):aQ P w K mg base (bQ P w) 2 f fd ["numbers"] (dc 1 fz) :=
 F.eY ["numbers", "multiple", "number"] λnd _ _ _ _ _ _ hr O=>by
 unfold fM;walk_at "t"
 walk_at "pp"
 refine(cj (g:=(aC 2)) O rfl (cM ?_) bV (aJ (i:=2) nd) aW ?_)
 walk_at "pp"
theorem qX:((["other"]:List Str)++(["place"]:List Str)).Nodup:=by decide +kernel
theorem uX(F:bc K "unit_row" "unit_row" (top 14) dv f fd)(T:Txt K mg)  : aQ P w K mg base (bQ P w) 1 f fd ["length", "place"] (dc 2 jI) :=
 F.eY ["length", "place"] λnd _ _ _ _ _ _ hr O=>by
 unfold jt;walk_at "t"
 walk_at "pp"
 refine(bS (br (g:=(aC 0)) (ts:=["other"]) (fs:=["place"]) (js:=[1]) rfl rfl rfl rfl rfl rfl (.cons rfl .nil) (.cons rfl rfl (by walk_at "l") rfl rfl .nil) (cA (by rfl) T.cJ ?_) c8 (λ_ _ _ _ _=>(aJ (i:=0) qX)) (λ_=>aW) aY (λ_ _ _ _ _=>?_)))
 walk_at "pp"
theorem la:((["number", "other"]:List Str)++([]:List Str)).Nodup:=by decide +kernel
theorem ve(F:bc K "rest_sum" "rest_sum" (top 15) dv f fd)(T:Txt K mg)  : aQ P w K mg base (bQ P w) 1 f fd ["numbers", "others", "by"] (dc 3 jj) :=
 F.eY ["numbers", "others", "by"] λnd _ _ _ _ _ _ hr O=>by
 unfold jD;walk_at "t"
 walk_at "pp"
 refine(bS (br (g:=(iJ K 2 (bA (aC 0) (bA (aC 1) iQ)))) (ts:=["number", "other"]) (fs:=[]) (js:=[]) (cl:=[]) rfl rfl rfl rfl rfl rfl .nil .nil (iK (by rfl) T.i7 ?_) fH (λ_ _ _ _ _=>(c9 (n:=2) rfl (aH (aJ (i:=0) la) (aH (aJ (i:=1) la) cw)))) (λ_=>cH) cq (λ_ _ _ _ _=>?_)))
 walk_at "pp"
theorem uc(F:bc K "is_within" "is_within" (top 24) dv f fd)(T:Txt K mg)(OA:cT P w K mg base 1 "is_whole" 1 (ay 1 jy)):aQ P w K mg base (bQ P w) 2 f fd ["thing", "least", "most"] (dc 3 bL) :=
 F.eY ["thing", "least", "most"] λnd _ _ _ _ _ _ hr O=>by
 unfold dh;walk_at "t"
 walk_at "pp"
 refine(xo ?_ (xN ?_))
 walk_at "pp"
 refine(vq rT mT rT mT ?_ ?_ ?_)
 walk_at "pp"
theorem qS(F:bc K "need_sizes" "need_sizes" (top 25) dv f fd)(T:Txt K mg)(Pc:rC P w K mg base dq "NoDial" "dial")(N_:cT P w K mg base 2 "is_within" 3 (ay 3 dh)):aQ P w K mg base (bQ P w) 3 f fd ["sizes"] (dc 1 gP) :=
 F.eY ["sizes", "dial", "size"] λnd _ _ _ _ _ _ hr O=>by
 unfold gH;walk_at "t"
 walk_at "pp"
 refine(cj (g:=(iJ K 2 (bA (aC 1) (bA (aC 2) iQ)))) O rfl (mW (by rfl) T.dF ?_) kN (c9 (n:=2) rfl (aH (aJ (i:=1) nd) (aH (aJ (i:=2) nd) cw))) cH ?_)
 walk_at "pp"
theorem o_(F:bc K "need_levers" "need_levers" (top 26) dv f fd)(T:Txt K mg)(O9:cT P w K mg base 2 "is_row" 2 (ay 2 j5))(PR:rC P w K mg base eB "NoLever" "lever"):aQ P w K mg base (bQ P w) 3 f fd ["levers", "dials"] (dc 2 fS) :=
 F.eY ["levers", "dials", "place", "lever"] λnd _ _ _ _ _ _ hr O=>by
 unfold fW;walk_at "t"
 walk_at "pp"
 refine(cj (g:=(iJ K 2 (bA (aC 2) (bA (aC 3) iQ)))) O rfl (mW (by rfl) T.dF ?_) kN (c9 (n:=2) rfl (aH (aJ (i:=2) nd) (aH (aJ (i:=3) nd) cw))) cH ?_)
 walk_at "pp"
theorem qR(F:bc K "prices_for" "prices_for" (top 27) dv f fd)(T:Txt K mg)(PU:rC P w K mg base dH "NoPrice" "lever")(N_:cT P w K mg base 2 "is_within" 3 (ay 3 dh)):aQ P w K mg base (bQ P w) 3 f fd ["levers", "prices"] (dc 2 gN) :=
 F.eY ["levers", "prices", "place"] λnd _ _ _ _ _ _ hr O=>by
 unfold gD;walk_at "t"
 walk_at "pp"
 refine(cj (g:=(aC 2)) O rfl (cA (by rfl) T.cJ ?_) c8 (aJ (i:=2) nd) aW ?_)
 walk_at "pp"
 refine(kv (Ac rfl) yJ (by rfl) T.F_ G8 ?_)
 walk_at "pp"
 refine(lR ?_ (j4 ?_)).pt
 walk_at "pp"
theorem pK:((["number", "size"]:List Str)++([]:List Str)).Nodup:=by decide +kernel
theorem Dt(F:bc K "rests" "rests" (top 28) dv f fd)(T:Txt K mg)  : aQ P w K mg base (bQ P w) 1 f fd ["numbers", "sizes"] (dc 2 jw) :=
 F.eY ["numbers", "sizes"] λnd _ _ _ _ _ _ hr O=>by
 unfold kC;walk_at "t"
 walk_at "pp"
 refine(bS (br (g:=(iJ K 2 (bA (aC 0) (bA (aC 1) iQ)))) (ts:=["number", "size"]) (fs:=[]) (js:=[]) (cl:=[]) rfl rfl rfl rfl rfl rfl .nil .nil (iK (by rfl) T.i7 ?_) fH (λ_ _ _ _ _=>(c9 (n:=2) rfl (aH (aJ (i:=0) pK) (aH (aJ (i:=1) pK) cw)))) (λ_=>cH) cq (λ_ _ _ _ _=>?_)))
 walk_at "pp"
theorem qx:((["one", "two"]:List Str)++(["times", "others"]:List Str)).Nodup:=by decide +kernel
theorem Bs(F:bc K "mixed" "mixed" (top 40) dv f fd)(T:Txt K mg)  : aQ P w K mg base (bQ P w) 1 f fd ["row", "times", "other", "others"] (dc 4 kJ) :=
 F.eY ["row", "times", "other", "others"] λnd _ _ _ _ _ _ hr O=>by
 unfold l9;walk_at "t"
 walk_at "pp"
 refine(bS (br (g:=(iJ K 2 (bA (aC 0) (bA (aC 1) iQ)))) (ts:=["one", "two"]) (fs:=["times", "others"]) (js:=[1,3]) rfl rfl rfl rfl rfl rfl (.cons rfl (.cons rfl .nil)) (.cons rfl rfl (by walk_at "l") rfl rfl (.cons rfl rfl (by walk_at "l") rfl rfl .nil)) (iK (by rfl) T.i7 ?_) fH (λ_ _ _ _ _=>(c9 (n:=2) rfl (aH (aJ (i:=0) qx) (aH (aJ (i:=1) qx) cw)))) (λ_=>cH) cq (λ_ _ _ _ _=>?_)))
 walk_at "pp"
theorem rg(F:bc K "mixed_made" "mixed_made" (top 41) dv f fd)(T:Txt K mg)(Pp:cT P w K mg base 1 "mixed" 4 (ay 4 l9))(OK:cT P w K mg base 1 "rests" 2 (ay 2 kC)):aQ P w K mg base (bQ P w) 2 f fd ["sizes", "made", "times", "other", "others"] (dc 5 dN) :=
 F.eY ["sizes", "made", "times", "other", "others", "doing"] λnd _ _ _ _ _ _ hr O=>by
 unfold eO;walk_at "t"
 walk_at "pp"
theorem uC(F:bc K "step_size" "step_size" (top 44) dv f fd)(T:Txt K mg)  : aQ P w K mg base (bQ P w) 1 f fd ["sizes", "made_rows", "dial"] (dc 3 dj) :=
 F.eY ["sizes", "made_rows", "dial", "notch"] λnd _ _ _ _ _ _ hr O=>by
 unfold eD;walk_at "t"
 walk_at "pp"
theorem vi(F:bc K "taken_in" "taken_in" (top 45) dv f fd)(T:Txt K mg)(Ob:cT P w K mg base 1 "step_size" 3 (ay 4 eD))(O7:cT P w K mg base 1 "common" 2 (ay 6 j3))(Oo:cT P w K mg base 2 "mixed_made" 5 (ay 6 eO)):aQ P w K mg base (bQ P w) 3 f fd ["sizes", "made_rows", "left"] (dc 3 jK) :=
 F.eY ["sizes", "made_rows", "left", "wider", "dial", "made", "step", "notch", "found"] λnd _ _ _ _ _ _ hr O=>by
 unfold jl;walk_at "t"
 walk_at "pp"
 refine(cj (g:=(iJ K 2 (bA (aC 4) (bA (aC 5) iQ)))) O rfl (mW (by rfl) T.dF ?_) kN (c9 (n:=2) rfl (aH (aJ (i:=4) nd) (aH (aJ (i:=5) nd) cw))) cH ?_)
 walk_at "pp"
theorem xg(F:bc K "lowered" "lowered" (top 46) dv f fd)(T:Txt K mg)(Ob:cT P w K mg base 1 "step_size" 3 (ay 4 eD))(Oo:cT P w K mg base 2 "mixed_made" 5 (ay 6 eO)):aQ P w K mg base (bQ P w) 3 f fd ["sizes", "made_rows", "made", "first"] (dc 4 fc) :=
 F.eY ["sizes", "made_rows", "made", "first", "dial", "times"] λnd _ _ _ _ _ _ hr O=>by
 unfold iT;walk_at "t"
 walk_at "pp"
 refine(cj (g:=(aC 4)) O rfl (zq (by rfl) T.cJ ?_) BY (aJ (i:=4) nd) aW ?_)
 walk_at "pp"
theorem vG(F:bc K "in_spans" "in_spans" (top 47) dv f fd)(T:Txt K mg)(Pp:cT P w K mg base 1 "mixed" 4 (ay 4 l9)):aQ P w K mg base (bQ P w) 2 f fd ["pulls", "idle_rows"] (dc 2 gU) :=
 F.eY ["pulls", "idle_rows", "lever", "row"] λnd _ _ _ _ _ _ hr O=>by
 unfold gY;walk_at "t"
 walk_at "pp"
 refine(cj (g:=(aC 2)) O rfl (sv (by rfl) T.cJ ?_) vW (aJ (i:=2) nd) aW ?_)
 walk_at "pp"
theorem mv:((["notch"]:List Str)++([]:List Str)).Nodup:=by decide +kernel
theorem nX(F:bc K "first_turned" "first_turned" (top 49) dv f fd)(T:Txt K mg)  : aQ P w K mg base (bQ P w) 1 f fd ["setting"] (dc 1 eW) :=
 F.eY ["setting"] λnd _ _ _ _ _ _ hr O=>by
 unfold eN;walk_at "t"
 walk_at "pp"
 refine(Bq ?_ ?_)
 walk_at "pp"
 refine(bS (br (g:=(aC 0)) (ts:=["notch"]) (fs:=[]) (js:=[]) (cl:=[]) rfl rfl rfl rfl rfl rfl .nil .nil (cM ?_) bV (λ_ _ _ _ _=>(aJ (i:=0) mv)) (λ_=>aW) aY (λ_ _ _ _ _=>?_)))
 walk_at "pp"
theorem p5:((["place"]:List Str)++(["bits"]:List Str)).Nodup:=by decide +kernel
theorem tF(F:bc K "places_in" "places_in" (top 53) dv f fd)(T:Txt K mg)  : aQ P w K mg base (bQ P w) 1 f fd ["bits"] (dc 1 iq) :=
 F.eY ["bits"] λnd _ _ _ _ _ _ hr O=>by
 unfold ir;walk_at "t"
 walk_at "pp"
 refine(bS (pY (g:=(aC 0)) (ts:=["place"]) (fs:=["bits"]) (js:=[0]) rfl rfl rfl rfl rfl rfl (.cons rfl .nil) (.cons rfl rfl (by walk_at "l") rfl rfl .nil) (cA (by rfl) T.cJ ?_) c8 (λ_ _ _ _ _=>(aJ (i:=0) p5)) (λ_=>aW) aY (λ_ _ _ _ _=>?_) (λ_ _ _ _ _=>?_)))
 walk_at "pp"
 refine(Es ?_)
 walk_at "pp"
theorem tV(F:bc K "_law_cell" "_law_cell" (top 57) dv f fd)(T:Txt K mg)  : aQ P w K mg base (bQ P w) 1 f fd ["_law_script", "_law_k"] (dc 2 ck) :=
 F.eY ["_law_script", "_law_k"] λnd _ _ _ _ _ _ hr O=>by
 unfold gi;walk_at "t"
 walk_at "pp"
theorem qZ(F:bc K "_law_mixed" "_law_mixed" (top 58) dv f fd)(T:Txt K mg)  : aQ P w K mg base (bQ P w) 1 f fd ["_law_cell_here", "_law_k"] (dc 2 aM) :=
 F.eY ["_law_cell_here", "_law_k", "_law_number"] λnd _ _ _ _ _ _ hr O=>by
 unfold cV;walk_at "t"
 walk_at "pp"
theorem qT(F:bc K "_law_whole" "_law_whole" (top 59) dv f fd)(T:Txt K mg)  : aQ P w K mg base (bQ P w) 1 f fd ["_law_found"] (dc 1 gE) :=
 F.eY ["_law_found"] λnd _ _ _ _ _ _ hr O=>by
 unfold jz;walk_at "t"
 walk_at "pp"
 refine(xo ?_ (xN ?_))
 walk_at "pp"
 refine(ly (T := "int") (by rfl) T.bu (fy (v:=.ty "int") (by rfl) T.A4 CW rfl) (by decide) lC lC ?_)
 walk_at "pp"
 refine(Dp ?_)
 walk_at "pp"
 refine(ly (T := "bool") (by rfl) T.bu (fy (v:=.ty "bool") (by rfl) T.xp yK rfl) (by decide) lC lC ?_)
 walk_at "pp"
theorem qD(F:bc K "_law_digits" "_law_digits" (top 60) dv f fd)(T:Txt K mg)  : aQ P w K mg base (bQ P w) 1 f fd ["_law_rest", "_law_sizes"] (dc 2 eh) :=
 F.eY ["_law_rest", "_law_sizes", "_law_found", "_law_size"] λnd _ _ _ _ _ _ hr O=>by
 unfold dW;walk_at "t"
 walk_at "pp"
 refine(cj (g:=(aC 3)) O rfl (cM ?_) bV (aJ (i:=3) nd) aW ?_)
 walk_at "pp"
theorem oh:((["_law_number"]:List Str)++([]:List Str)).Nodup:=by decide +kernel
theorem nV:((["_law_k"]:List Str)++(["_law_cell_here", "_law_top"]:List Str)).Nodup:=by decide +kernel
theorem rn(F:bc K "_law_dials" "_law_dials" (top 61) dv f fd)(T:Txt K mg)(Oj:cT P w K mg base 1 "_law_digits" 2 (ay 4 dW))(N6:cT P w K mg base 1 "_law_mixed" 2 (ay 3 cV)):aQ P w K mg base (bQ P w) 2 f fd ["_law_cell_here"] (dc 1 gA) :=
 F.eY ["_law_cell_here", "_law_top"] λnd _ _ _ _ _ _ hr O=>by
 unfold gz;walk_at "t"
 walk_at "pp"
 refine(bS (br (g:=(aC 0)) (ts:=["_law_number"]) (fs:=[]) (js:=[]) (cl:=[]) rfl rfl rfl rfl rfl rfl .nil .nil (cM ?_) bV (λ_ _ _ _ _=>(aJ (i:=0) oh)) (λ_=>aW) aY (λ_ _ _ _ _=>?_)))
 walk_at "pp"
 refine(bS (br (g:=(aC 0)) (ts:=["_law_k"]) (fs:=["_law_cell_here", "_law_top"]) (js:=[0,1]) rfl rfl rfl rfl rfl rfl (.cons rfl (.cons rfl .nil)) (.cons rfl rfl (by walk_at "l") rfl rfl (.cons rfl rfl (by walk_at "l") rfl rfl .nil)) (cA (by rfl) T.cJ ?_) c8 (λ_ _ _ _ _=>(aJ (i:=0) nV)) (λ_=>aW) aY (λ_ _ _ _ _=>?_)))
 walk_at "pp"
theorem qN(F:bc K "_law_lever" "_law_lever" (top 62) dv f fd)(T:Txt K mg)(Oj:cT P w K mg base 1 "_law_digits" 2 (ay 4 dW))(N6:cT P w K mg base 1 "_law_mixed" 2 (ay 3 cV)):aQ P w K mg base (bQ P w) 2 f fd ["_law_cell_here", "_law_sizes"] (dc 2 gy) :=
 F.eY ["_law_cell_here", "_law_sizes", "_law_by", "_law_far", "_law_lever_here", "_law_k", "_law_number", "_law_turns"] λnd _ _ _ _ _ _ hr O=>by
 unfold gB;walk_at "t"
 walk_at "pp"
 exact(EL [1,1,2,3,4,6])
 walk_at "pp"
 refine(cj (g:=(aC 5)) O rfl (cA (by rfl) T.cJ ?_) c8 (aJ (i:=5) nd) aW ?_)
 walk_at "pp"
 refine(kv (Aj rfl) yJ (by rfl) T.Gi IP ?_)
 walk_at "pp"
theorem j9:((["_law_number", "_law_size"]:List Str)++([]:List Str)).Nodup:=by decide +kernel
theorem tK(F:bc K "_law_kept" "_law_kept" (top 63) dv f fd)(T:Txt K mg)  : aQ P w K mg base (bQ P w) 1 f fd ["_law_lever_here", "_law_sizes"] (dc 2 f6) :=
 F.eY ["_law_lever_here", "_law_sizes"] λnd _ _ _ _ _ _ hr O=>by
 unfold iG;walk_at "t"
 walk_at "pp"
 refine(bS (br (g:=(iJ K 2 (bA (aC 0) (bA (aC 1) iQ)))) (ts:=["_law_number", "_law_size"]) (fs:=[]) (js:=[]) (cl:=[]) rfl rfl rfl rfl rfl rfl .nil .nil (iK (by rfl) T.i7 ?_) fH (λ_ _ _ _ _=>(c9 (n:=2) rfl (aH (aJ (i:=0) j9) (aH (aJ (i:=1) j9) cw)))) (λ_=>cH) cq (λ_ _ _ _ _=>?_)))
 walk_at "pp"
theorem nY(F:bc K "_law_divisor" "_law_divisor" (top 64) dv f fd)(T:Txt K mg)  : aQ P w K mg base (bQ P w) 1 f fd ["_law_one", "_law_other"] (dc 2 dE) :=
 F.eY ["_law_one", "_law_other"] λnd _ _ _ _ _ _ hr O=>by
 unfold eR;walk_at "t"
 walk_at "pp"
 refine(vd O ?_ ?_)
 walk_at "pp"
 refine(Iz (i:=0) (j:=1) rfl nd rfl rfl (by decide) rfl rfl ?_ ?_)
 walk_at "pp"
 exact rfl
 walk_at "pp"
theorem q_(F:bc K "_law_round" "_law_round" (top 65) dv f fd)(T:Txt K mg)(OF:cT P w K mg base 1 "_law_divisor" 2 (ay 2 eR)):aQ P w K mg base (bQ P w) 2 f fd ["_law_sizes"] (dc 1 gK) :=
 F.eY ["_law_sizes", "_law_found", "_law_size"] λnd _ _ _ _ _ _ hr O=>by
 unfold gM;walk_at "t"
 walk_at "pp"
 refine(cj (g:=(aC 2)) O rfl (cM ?_) bV (aJ (i:=2) nd) aW ?_)
 walk_at "pp"
theorem fj:((["_law_here", "_law_there", "_law_size"]:List Str)++(["_law_whole_here"]:List Str)).Nodup:=by decide +kernel
theorem o3(F:bc K "_law_weighs" "_law_weighs" (top 66) dv f fd)(T:Txt K mg)(O5:cT P w K mg base 2 "_law_round" 1 (ay 3 gM)):aQ P w K mg base (bQ P w) 3 f fd ["_law_weights", "_law_setting", "_law_sizes"] (dc 3 dU) :=
 F.eY ["_law_weights", "_law_setting", "_law_sizes", "_law_whole_here"] λnd _ _ _ _ _ _ hr O=>by
 unfold fE;walk_at "t"
 walk_at "pp"
 refine(bS (br (g:=(iJ K 3 (bA (aC 0) (bA (aC 1) (bA (aC 2) iQ))))) (ts:=["_law_here", "_law_there", "_law_size"]) (fs:=["_law_whole_here"]) (js:=[3]) rfl rfl rfl rfl rfl rfl (.cons rfl .nil) (.cons rfl rfl (by walk_at "l") rfl rfl .nil) (xT (by rfl) T.i7 ?_) uM (λ_ _ _ _ _=>(c9 (n:=3) rfl (aH (aJ (i:=0) fj) (aH (aJ (i:=1) fj) (aH (aJ (i:=2) fj) cw))))) (λ_=>xZ) oO (λ_ _ _ _ _=>?_)))
 walk_at "pp"
theorem mj:((["_law_number"]:List Str)++([]:List Str)).Nodup:=by decide +kernel
theorem n_(F:bc K "_law_numbers" "_law_numbers" (top 67) dv f fd)(T:Txt K mg)(O6:cT P w K mg base 1 "_law_whole" 1 (ay 1 jz)):aQ P w K mg base (bQ P w) 2 f fd ["_law_found", "_law_many"] (dc 2 dr) :=
 F.eY ["_law_found", "_law_many"] λnd _ _ _ _ _ _ hr O=>by
 unfold dz;walk_at "t"
 walk_at "pp"
 refine(lR ?_ (j4 ?_)).pt
 walk_at "pp"
 refine(ly (T := "tuple") (by rfl) T.bu (fy (v:=.ty "tuple") (by rfl) T.oH lL rfl) (by decide) lC lC ?_)
 walk_at "pp"
 refine(bS (pY (g:=(aC 0)) (ts:=["_law_number"]) (fs:=[]) (js:=[]) (cl:=[]) rfl rfl rfl rfl rfl rfl .nil .nil (cM ?_) bV (λ_ _ _ _ _=>(aJ (i:=0) mj)) (λ_=>aW) aY (λ_ _ _ _ _=>?_) (λ_ _ _ _ _=>?_)))
 walk_at "pp"
theorem jO:((["_law_times", "_law_row"]:List Str)++(["_law_at"]:List Str)).Nodup:=by decide +kernel
theorem rh(F:bc K "_law_leads" "_law_leads" (top 68) dv f fd)(T:Txt K mg)(Of:cT P w K mg base 2 "_law_numbers" 2 (ay 2 dz)):aQ P w K mg base (bQ P w) 3 f fd ["_law_rows", "_law_pulls", "_law_sizes", "_law_gap"] (dc 4 gG) :=
 F.eY ["_law_rows", "_law_pulls", "_law_sizes", "_law_gap", "_law_at", "_law_size"] λnd _ _ _ _ _ _ hr O=>by
 unfold gv;walk_at "t"
 walk_at "pp"
 refine(cj (g:=(iJ K 2 (bA (aC 4) (bA (aC 5) iQ)))) O rfl (mW (by rfl) T.dF ?_) kN (c9 (n:=2) rfl (aH (aJ (i:=4) nd) (aH (aJ (i:=5) nd) cw))) cH ?_)
 walk_at "pp"
 refine(bS (br (g:=(iJ K 2 (bA (aC 0) (bA (aC 1) iQ)))) (ts:=["_law_times", "_law_row"]) (fs:=["_law_at"]) (js:=[4]) rfl rfl rfl rfl rfl rfl (.cons rfl .nil) (.cons rfl rfl (by walk_at "l") rfl rfl .nil) (iK (by rfl) T.i7 ?_) fH (λ_ _ _ _ _=>(c9 (n:=2) rfl (aH (aJ (i:=0) jO) (aH (aJ (i:=1) jO) cw)))) (λ_=>cH) cq (λ_ _ _ _ _=>?_)))
 walk_at "pp"
theorem ke:((["_law_at", "_law_size"]:List Str)++(["_law_weights"]:List Str)).Nodup:=by decide +kernel
theorem sZ(F:bc K "_law_bars" "_law_bars" (top 69) dv f fd)(T:Txt K mg)(Of:cT P w K mg base 2 "_law_numbers" 2 (ay 2 dz))(OQ:cT P w K mg base 3 "_law_weighs" 3 (ay 4 fE)):aQ P w K mg base (bQ P w) 4 f fd ["_law_rows", "_law_weights", "_law_sizes", "_law_gap"] (dc 4 ib) :=
 F.eY ["_law_rows", "_law_weights", "_law_sizes", "_law_gap", "_law_row"] λnd _ _ _ _ _ _ hr O=>by
 unfold iC;walk_at "t"
 walk_at "pp"
 refine(bS (pY (g:=(iJ K 2 (bA (aC 0) (bA (aC 1) iQ)))) (ts:=["_law_at", "_law_size"]) (fs:=["_law_weights"]) (js:=[1]) rfl rfl rfl rfl rfl rfl (.cons rfl .nil) (.cons rfl rfl (by walk_at "l") rfl rfl .nil) (mW (by rfl) T.dF ?_) kN (λ_ _ _ _ _=>(c9 (n:=2) rfl (aH (aJ (i:=0) ke) (aH (aJ (i:=1) ke) cw)))) (λ_=>cH) cq (λ_ _ _ _ _=>?_) (λ_ _ _ _ _=>?_)))
 walk_at "pp"
 refine(CK rT mT yr tZ ?_ ?_ ?_)
 walk_at "pp"
 refine(cj (g:=(aC 4)) O rfl (cM ?_) bV (aJ (i:=4) nd) aW ?_)
 walk_at "pp"
theorem fg:((["_law_here", "_law_there", "_law_size"]:List Str)++([]:List Str)).Nodup:=by decide +kernel
theorem p7(F:bc K "_law_levers" "_law_levers" (top 70) dv f fd)(T:Txt K mg)(Ot:cT P w K mg base 1 "_law_cell" 2 (ay 2 gi))(N6:cT P w K mg base 1 "_law_mixed" 2 (ay 3 cV))(O3:cT P w K mg base 2 "_law_lever" 2 (ay 8 gB)):aQ P w K mg base (bQ P w) 3 f fd ["_law_script", "_law_sizes"] (dc 2 fG) :=
 F.eY ["_law_script", "_law_sizes", "_law_many", "_law_levers_here", "_law_j", "_law_cell_here", "_law_lever_here", "_law_one", "_law_other"] λnd _ _ _ _ _ _ hr O=>by
 unfold fV;walk_at "t"
 walk_at "pp"
 refine(cj (g:=(aC 4)) O rfl (cA (by rfl) T.cJ ?_) c8 (aJ (i:=4) nd) aW ?_)
 walk_at "pp"
 refine(Hh ?_ (Em ?_)).pt
 walk_at "pp"
 refine(BI (i:=3) rfl (by first | exact .inl rfl | exact .inr (.inl rfl)) ?_ ?_)
 walk_at "pp"
 refine(BI (i:=3) rfl (by first | exact .inl rfl | exact .inr (.inl rfl)) ?_ ?_)
 walk_at "pp"
 refine(kO (i:=6) (g:=(iJ K 3 (bA (aC 0) (bA (aC 1) (bA (aC 2) iQ))))) (ts:=["_law_here", "_law_there", "_law_size"]) (fs:=[]) (js:=[]) (cl:=[]) rfl rfl rfl rfl rfl rfl .nil .nil (xT (by rfl) T.i7 ?_) uM (λ_ _ _ _ _=>(c9 (n:=3) rfl (aH (aJ (i:=0) fg) (aH (aJ (i:=1) fg) (aH (aJ (i:=2) fg) cw))))) (λ_=>xZ) oO (λ_ _ _ _ _=>?_) nd rfl (by walk_at "l"))
 walk_at "pp"
theorem lj:cx ["self", "sizes", "levers", "prices"] ["self", "sizes", "levers", "prices"] (aZ (inClass (top 23) 0)):=.of
theorem og:((["lever"]:List Str)++(["sizes"]:List Str)).Nodup:=by decide +kernel
theorem qQ(F:bc K "__init__" "Vault.__init__" (inClass (top 23) 0) dv f fd)(T:Txt K mg)(Pa:cT P w K mg base 3 "need_sizes" 1 (ay 3 gH))(OS:cT P w K mg base 3 "need_levers" 2 (ay 4 fW))(OK:cT P w K mg base 1 "rests" 2 (ay 2 kC))(Pb:cT P w K mg base 3 "prices_for" 2 (ay 3 gD))(OR:cT P w K mg base 2 "multiple_of" 1 (ay 3 fM)):aQ P w K mg base (bQ P w) 4 f fd ["self", "sizes", "levers", "prices"] (Dv 4 au fP) :=
 F.Li lj (by decide) λ_ _ _ _ _ _ hr O=>by
 unfold jA;have:=lj.nd;have T2:=T;cases T2
 walk_at "pp"
 refine(jL (i:=0) rfl (by first | exact .inl rfl | exact .inr (.inl rfl)) T.mi T.gZ ?_)
 walk_at "pp"
 refine(jL (i:=0) rfl (by first | exact .inl rfl | exact .inr (.inl rfl)) T.mi T.eP ?_)
 walk_at "pp"
 refine(bS (br (g:=(aC 0)) (ts:=["lever"]) (fs:=["sizes"]) (js:=[1]) rfl rfl rfl rfl rfl rfl (.cons rfl .nil) (.cons rfl rfl (by walk_at "l") rfl rfl .nil) (cM ?_) bV (λ_ _ _ _ _=>(aJ (i:=0) og)) (λ_=>aW) aY (λ_ _ _ _ _=>?_)))
 walk_at "pp"
 refine(jL (i:=0) rfl (by first | exact .inl rfl | exact .inr (.inl rfl)) T.mi T.fY ?_)
 walk_at "pp"
 refine(jL (i:=0) rfl (by first | exact .inl rfl | exact .inr (.inl rfl)) T.mi T.gm ?_)
 walk_at "pp"
theorem p9(F:bc K "sizes" "Vault.sizes" (inClass (top 23) 1) dv f fd)(T:Txt K mg)  : aQ P w K mg base (bQ P w) 1 f fd ["self"] (dc 1 aX) :=
 F.eY ["self"] λnd _ _ _ _ _ _ hr O=>by
 unfold bh;walk_at "t"
 walk_at "pp"
theorem nO(F:bc K "levers" "Vault.levers" (inClass (top 23) 2) dv f fd)(T:Txt K mg)  : aQ P w K mg base (bQ P w) 1 f fd ["self"] (dc 1 bg) :=
 F.eY ["self"] λnd _ _ _ _ _ _ hr O=>by
 unfold bD;walk_at "t"
 walk_at "pp"
theorem ot(F:bc K "prices" "Vault.prices" (inClass (top 23) 3) dv f fd)(T:Txt K mg)  : aQ P w K mg base (bQ P w) 1 f fd ["self"] (dc 1 cK) :=
 F.eY ["self"] λnd _ _ _ _ _ _ hr O=>by
 unfold dD;walk_at "t"
 walk_at "pp"
theorem nR(F:bc K "around" "Vault.around" (inClass (top 23) 4) dv f fd)(T:Txt K mg)  : aQ P w K mg base (bQ P w) 1 f fd ["self"] (dc 1 cN) :=
 F.eY ["self"] λnd _ _ _ _ _ _ hr O=>by
 unfold dC;walk_at "t"
 walk_at "pp"
theorem nF:cx ["self", "pulls"] ["self", "pulls"] (aZ (inClass (top 37) 0)):=.of
theorem v_(F:bc K "__init__" "Way.__init__" (inClass (top 37) 0) dv f fd)(T:Txt K mg)  : aQ P w K mg base (bQ P w) 1 f fd ["self", "pulls"] (Dv 2 de lh) :=
 F.Li nF (by decide) λ_ _ _ _ _ _ hr O=>by
 unfold lu;have:=nF.nd;have T2:=T;cases T2
 walk_at "pp"
 refine(jL (i:=0) rfl (by first | exact .inl rfl | exact .inr (.inl rfl)) T.FQ T.ny ?_)
 walk_at "pp"
theorem nJ:cx ["self", "weights"] ["self", "weights"] (aZ (inClass (top 38) 0)):=.of
theorem uY(F:bc K "__init__" "Bar.__init__" (inClass (top 38) 0) dv f fd)(T:Txt K mg)  : aQ P w K mg base (bQ P w) 1 f fd ["self", "weights"] (Dv 2 cY k9) :=
 F.Li nJ (by decide) λ_ _ _ _ _ _ hr O=>by
 unfold lx;have:=nJ.nd;have T2:=T;cases T2
 walk_at "pp"
 refine(jL (i:=0) rfl (by first | exact .inl rfl | exact .inr (.inl rfl)) T.FE T.lp ?_)
 walk_at "pp"
theorem mO:((["dial"]:List Str)++(["self", "sizes"]:List Str)).Nodup:=by decide +kernel
theorem pE(F:bc K "steps" "Rungs.steps" (inClass (top 48) 1) dv f fd)(T:Txt K mg)(NY:kz P w K mg base au 1 "sizes" 1 (ay 1 bh))(Ob:cT P w K mg base 1 "step_size" 3 (ay 4 eD)):aQ P w K mg base (bQ P w) 2 f fd ["self"] (dc 1 fX) :=
 F.eY ["self", "sizes"] λnd _ _ _ _ _ _ hr O=>by
 unfold fw;walk_at "t"
 walk_at "pp"
 refine(bS (br (g:=(aC 0)) (ts:=["dial"]) (fs:=["self", "sizes"]) (js:=[0,1]) rfl rfl rfl rfl rfl rfl (.cons rfl (.cons rfl .nil)) (.cons rfl rfl (by walk_at "l") rfl rfl (.cons rfl rfl (by walk_at "l") rfl rfl .nil)) (cA (by rfl) T.cJ ?_) c8 (λ_ _ _ _ _=>(aJ (i:=0) mO)) (λ_=>aW) aY (λ_ _ _ _ _=>?_)))
 walk_at "pp"
theorem zh(F:bc K "nought" "nought" (top 29) dv f fd)(T:Txt K mg)(NY:kz P w K mg base au 1 "sizes" 1 (ay 1 bh)):aQ P w K mg base (bQ P w) 2 f fd ["vault"] (dc 1 gb) :=
 F.eY ["vault"] λnd _ _ _ _ _ _ hr O=>by
 unfold i6;walk_at "t"
 walk_at "pp"
theorem jR:((["notch", "size"]:List Str)++([]:List Str)).Nodup:=by decide +kernel
theorem qL(F:bc K "is_setting" "is_setting" (top 30) dv f fd)(T:Txt K mg)(NY:kz P w K mg base au 1 "sizes" 1 (ay 1 bh))(O9:cT P w K mg base 2 "is_row" 2 (ay 2 j5)):aQ P w K mg base (bQ P w) 3 f fd ["vault", "thing"] (dc 2 gO) :=
 F.eY ["vault", "thing", "sizes"] λnd _ _ _ _ _ _ hr O=>by
 unfold gF;walk_at "t"
 walk_at "pp"
 refine(lR ?_ (j4 ?_)).pt
 walk_at "pp"
 refine(ly (T := "tuple") (by rfl) T.bu (fy (v:=.ty "tuple") (by rfl) T.oH lL rfl) (by decide) lC lC ?_)
 walk_at "pp"
 refine(bS (br (g:=(iJ K 2 (bA (aC 0) (bA (aC 1) iQ)))) (ts:=["notch", "size"]) (fs:=[]) (js:=[]) (cl:=[]) rfl rfl rfl rfl rfl rfl .nil .nil (iK (by rfl) T.i7 ?_) fH (λ_ _ _ _ _=>(c9 (n:=2) rfl (aH (aJ (i:=0) jR) (aH (aJ (i:=1) jR) cw)))) (λ_=>cH) cq (λ_ _ _ _ _=>?_)))
 walk_at "pp"
 refine(vq rT mT yr tZ ?_ ?_ ?_)
 walk_at "pp"
theorem n9(F:bc K "need_setting" "need_setting" (top 31) dv f fd)(T:Txt K mg)(O_:cT P w K mg base 3 "is_setting" 2 (ay 3 gF)):aQ P w K mg base (bQ P w) 4 f fd ["vault", "thing"] (dc 2 bU) :=
 F.eY ["vault", "thing"] λnd _ _ _ _ _ _ hr O=>by
 unfold cP;walk_at "t"
 walk_at "pp"
theorem pO:((["notch", "turn"]:List Str)++(["times"]:List Str)).Nodup:=by decide +kernel
theorem C8(F:bc K "added" "added" (top 32) dv f fd)(T:Txt K mg)(NY:kz P w K mg base au 1 "sizes" 1 (ay 1 bh))(OK:cT P w K mg base 1 "rests" 2 (ay 2 kC)):aQ P w K mg base (bQ P w) 2 f fd ["vault", "setting", "other", "times"] (dc 4 oC) :=
 F.eY ["vault", "setting", "other", "times", "numbers"] λnd _ _ _ _ _ _ hr O=>by
 unfold oK;walk_at "t"
 walk_at "pp"
 refine(kO (i:=4) (g:=(iJ K 2 (bA (aC 0) (bA (aC 1) iQ)))) (ts:=["notch", "turn"]) (fs:=["times"]) (js:=[3]) rfl rfl rfl rfl rfl rfl (.cons rfl .nil) (.cons rfl rfl (by walk_at "l") rfl rfl .nil) (iK (by rfl) T.i7 ?_) fH (λ_ _ _ _ _=>(c9 (n:=2) rfl (aH (aJ (i:=0) pO) (aH (aJ (i:=1) pO) cw)))) (λ_=>cH) cq (λ_ _ _ _ _=>?_) nd rfl (by walk_at "l"))
 walk_at "pp"
theorem wV(F:bc K "between" "between" (top 33) dv f fd)(T:Txt K mg)(N9:cT P w K mg base 4 "need_setting" 2 (ay 2 cP))(Qd:cT P w K mg base 2 "added" 4 (ay 5 oK)):aQ P w K mg base (bQ P w) 5 f fd ["vault", "one", "other"] (dc 3 kD) :=
 F.eY ["vault", "one", "other"] λnd _ _ _ _ _ _ hr O=>by
 unfold kH;walk_at "t"
 walk_at "pp"
theorem pj:((["weight", "size"]:List Str)++(["around"]:List Str)).Nodup:=by decide +kernel
theorem CN(F:bc K "weigh" "weigh" (top 35) dv f fd)(T:Txt K mg)(N9:cT P w K mg base 4 "need_setting" 2 (ay 2 cP))(Od:kz P w K mg base au 1 "around" 1 (ay 1 dC))(NY:kz P w K mg base au 1 "sizes" 1 (ay 1 bh))(PB:cT P w K mg base 1 "rest_sum" 3 (ay 3 jD)):aQ P w K mg base (bQ P w) 5 f fd ["vault", "weights", "setting"] (dc 3 oE) :=
 F.eY ["vault", "weights", "setting", "around", "worths"] λnd _ _ _ _ _ _ hr O=>by
 unfold oM;walk_at "t"
 walk_at "pp"
 refine(kO (i:=4) (g:=(iJ K 2 (bA (aC 0) (bA (aC 1) iQ)))) (ts:=["weight", "size"]) (fs:=["around"]) (js:=[3]) rfl rfl rfl rfl rfl rfl (.cons rfl .nil) (.cons rfl rfl (by walk_at "l") rfl rfl .nil) (iK (by rfl) T.i7 ?_) fH (λ_ _ _ _ _=>(c9 (n:=2) rfl (aH (aJ (i:=0) pj) (aH (aJ (i:=1) pj) cw)))) (λ_=>cH) cq (λ_ _ _ _ _=>?_) nd rfl (by walk_at "l"))
 walk_at "pp"
theorem vP(F:bc K "unpulled" "unpulled" (top 42) dv f fd)(T:Txt K mg)(N0:kz P w K mg base au 1 "levers" 1 (ay 1 bD)):aQ P w K mg base (bQ P w) 2 f fd ["vault", "setting"] (dc 2 fk) :=
 F.eY ["vault", "setting"] λnd _ _ _ _ _ _ hr O=>by
 unfold hV;walk_at "t"
 walk_at "pp"
theorem qm(F:bc K "pulled_once" "pulled_once" (top 43) dv f fd)(T:Txt K mg)(N0:kz P w K mg base au 1 "levers" 1 (ay 1 bD))(PD:cT P w K mg base 1 "unit_row" 2 (ay 2 jt)):aQ P w K mg base (bQ P w) 2 f fd ["vault", "lever"] (dc 2 fU) :=
 F.eY ["vault", "lever", "levers"] λnd _ _ _ _ _ _ hr O=>by
 unfold fx;walk_at "t"
 walk_at "pp"
theorem vy(F:bc K "all_bits" "all_bits" (top 52) dv f fd)(T:Txt K mg)(N0:kz P w K mg base au 1 "levers" 1 (ay 1 bD)):aQ P w K mg base (bQ P w) 2 f fd ["vault"] (dc 1 jq) :=
 F.eY ["vault"] λnd _ _ _ _ _ _ hr O=>by
 unfold jC;walk_at "t"
 walk_at "pp"
theorem vY:((["place"]:List Str)++(["prices"]:List Str)).Nodup:=by decide +kernel
theorem vE:((["place"]:List Str)++(["levers"]:List Str)).Nodup:=by decide +kernel
theorem yN(F:bc K "picked" "picked" (top 54) dv f fd)(T:Txt K mg)(Pz:cT P w K mg base 2 "all_bits" 1 (ay 1 jC))(N_:cT P w K mg base 2 "is_within" 3 (ay 3 dh))(Ph:cT P w K mg base 1 "places_in" 1 (ay 1 ir))(N0:kz P w K mg base au 1 "levers" 1 (ay 1 bD))(Oe:kz P w K mg base au 1 "prices" 1 (ay 1 dD))(NY:kz P w K mg base au 1 "sizes" 1 (ay 1 bh))(Om:Al P w K mg base au 4 "Vault" 4 [] fP):aQ P w K mg base (bQ P w) 6 f fd ["vault", "bits"] (dc 2 gf) :=
 F.eY ["vault", "bits", "places", "levers", "prices"] λnd _ _ _ _ _ _ hr O=>by
 unfold gX;walk_at "t"
 walk_at "pp"
 refine(bS (br (g:=(aC 0)) (ts:=["place"]) (fs:=["levers"]) (js:=[3]) rfl rfl rfl rfl rfl rfl (.cons rfl .nil) (.cons rfl rfl (by walk_at "l") rfl rfl .nil) (cM ?_) bV (λ_ _ _ _ _=>(aJ (i:=0) vE)) (λ_=>aW) aY (λ_ _ _ _ _=>?_)))
 walk_at "pp"
 refine(bS (br (g:=(aC 0)) (ts:=["place"]) (fs:=["prices"]) (js:=[4]) rfl rfl rfl rfl rfl rfl (.cons rfl .nil) (.cons rfl rfl (by walk_at "l") rfl rfl .nil) (cM ?_) bV (λ_ _ _ _ _=>(aJ (i:=0) vY)) (λ_=>aW) aY (λ_ _ _ _ _=>?_)))
 walk_at "pp"
theorem nZ:((["_law_at"]:List Str)++(["_law_bits"]:List Str)).Nodup:=by decide +kernel
theorem oz:((["_law_at"]:List Str)++(["_law_rows"]:List Str)).Nodup:=by decide +kernel
theorem nW:((["_law_at"]:List Str)++(["_law_prices"]:List Str)).Nodup:=by decide +kernel
theorem rB(F:bc K "_law_picks" "_law_picks" (top 71) dv f fd)(T:Txt K mg)(Ox:cT P w K mg base 6 "picked" 2 (ay 5 gX))(NY:kz P w K mg base au 1 "sizes" 1 (ay 1 bh))(N0:kz P w K mg base au 1 "levers" 1 (ay 1 bD))(Oe:kz P w K mg base au 1 "prices" 1 (ay 1 dD)):aQ P w K mg base (bQ P w) 7 f fd ["_law_vault", "_law_rows", "_law_prices", "_law_bits", "_law_sizes"] (dc 5 gQ) :=
 F.eY ["_law_vault", "_law_rows", "_law_prices", "_law_bits", "_law_sizes", "_law_some", "_law_places"] λnd _ _ _ _ _ _ hr O=>by
 unfold gu;walk_at "t"
 walk_at "pp"
 refine(vp (i:=6) (g:=(aC 0)) (ts:=["_law_at"]) (fs:=["_law_bits"]) (js:=[3]) rfl rfl rfl rfl rfl rfl (.cons rfl .nil) (.cons rfl rfl (by walk_at "l") rfl rfl .nil) (cA (by rfl) T.cJ ?_) c8 (λ_ _ _ _ _=>(aJ (i:=0) nZ)) (λ_=>aW) aY (λ_ _ _ _ _=>?_) (λ_ _ _ _ _=>?_) nd rfl (by walk_at "l"))
 walk_at "pp"
 refine(lR ?_ (j4 ?_)).pt
 walk_at "pp"
 refine(bS (br (g:=(aC 0)) (ts:=["_law_at"]) (fs:=["_law_rows"]) (js:=[1]) rfl rfl rfl rfl rfl rfl (.cons rfl .nil) (.cons rfl rfl (by walk_at "l") rfl rfl .nil) (cM ?_) bV (λ_ _ _ _ _=>(aJ (i:=0) oz)) (λ_=>aW) aY (λ_ _ _ _ _=>?_)))
 walk_at "pp"
 refine(bS (br (g:=(aC 0)) (ts:=["_law_at"]) (fs:=["_law_prices"]) (js:=[2]) rfl rfl rfl rfl rfl rfl (.cons rfl .nil) (.cons rfl rfl (by walk_at "l") rfl rfl .nil) (cM ?_) bV (λ_ _ _ _ _=>(aJ (i:=0) nW)) (λ_=>aW) aY (λ_ _ _ _ _=>?_)))
 walk_at "pp"
theorem iP:cx ["self", "vault", "sizes", "made_rows", "idle_rows", "lever", "taken"] ["self", "vault"] (aZ (inClass (top 48) 0)):=.of
theorem oa:((["size"]:List Str)++(["vault"]:List Str)).Nodup:=by decide +kernel
theorem jM:((["dial", "made"]:List Str)++(["sizes", "made_rows"]:List Str)).Nodup:=by decide +kernel
theorem qP(F:bc K "__init__" "Rungs.__init__" (inClass (top 48) 0) dv f fd)(T:Txt K mg)(NY:kz P w K mg base au 1 "sizes" 1 (ay 1 bh))(Ow:cT P w K mg base 2 "nought" 1 (ay 1 i6))(OB:cT P w K mg base 2 "unpulled" 2 (ay 2 hV))(N0:kz P w K mg base au 1 "levers" 1 (ay 1 bD))(OT:cT P w K mg base 2 "pulled_once" 2 (ay 3 fx))(PC:cT P w K mg base 3 "taken_in" 3 (ay 9 jl))(Oz:cT P w K mg base 2 "in_spans" 2 (ay 4 gY))(OJ:cT P w K mg base 3 "lowered" 4 (ay 6 iT)):aQ P w K mg base (bQ P w) 4 f fd ["self", "vault"] (Dv 2 aA iB) :=
 F.Li iP (by decide) λ_ _ _ _ _ _ hr O=>by
 unfold jG;have:=iP.nd;have T2:=T;cases T2
 walk_at "pp"
 refine(bS (br (g:=(aC 0)) (ts:=["size"]) (fs:=["vault"]) (js:=[1]) rfl rfl rfl rfl rfl rfl (.cons rfl .nil) (.cons rfl rfl (by walk_at "l") rfl rfl .nil) (cM ?_) bV (λ_ _ _ _ _=>(aJ (i:=0) oa)) (λ_=>aW) aY (λ_ _ _ _ _=>?_)))
 walk_at "pp"
 refine(cj (g:=(aC 5)) O rfl (cA (by rfl) T.cJ ?_) c8 (aJ (i:=5) iP.nd) aW ?_)
 walk_at "pp"
 refine(yA 4 ?_)
 walk_at "pp"
 refine(jL (i:=0) rfl (by first | exact .inl rfl | exact .inr (.inl rfl)) T.oA T.k_ ?_)
 walk_at "pp"
 refine(jL (i:=0) rfl (by first | exact .inl rfl | exact .inr (.inl rfl)) T.oA T.iE ?_)
 walk_at "pp"
 refine(bS (br (g:=(iJ K 2 (bA (aC 0) (bA (aC 1) iQ)))) (ts:=["dial", "made"]) (fs:=["sizes", "made_rows"]) (js:=[2,3]) rfl rfl rfl rfl rfl rfl (.cons rfl (.cons rfl .nil)) (.cons rfl rfl (by walk_at "l") rfl rfl (.cons rfl rfl (by walk_at "l") rfl rfl .nil)) (mW (by rfl) T.dF ?_) kN (λ_ _ _ _ _=>(c9 (n:=2) rfl (aH (aJ (i:=0) jM) (aH (aJ (i:=1) jM) cw)))) (λ_=>cH) cq (λ_ _ _ _ _=>?_)))
 walk_at "pp"
 refine(jL (i:=0) rfl (by first | exact .inl rfl | exact .inr (.inl rfl)) T.oA T.iz ?_)
 walk_at "pp"
theorem jY(F:bc K "brought_down" "Rungs.brought_down" (inClass (top 48) 5) dv f fd)(T:Txt K mg)(N9:cT P w K mg base 4 "need_setting" 2 (ay 2 cP))(OB:cT P w K mg base 2 "unpulled" 2 (ay 2 hV))(NY:kz P w K mg base au 1 "sizes" 1 (ay 1 bh))(OJ:cT P w K mg base 3 "lowered" 4 (ay 6 iT)):aQ P w K mg base (bQ P w) 5 f fd ["self", "setting"] (dc 2 bH) :=
 F.eY ["self", "setting"] λnd _ _ _ _ _ _ hr O=>by
 unfold bT;walk_at "t"
 walk_at "pp"
theorem qj(F:bc K "least" "Rungs.least" (inClass (top 48) 6) dv f fd)(T:Txt K mg)(N5:kz P w K mg base aA 5 "brought_down" 2 (ay 2 bT)):aQ P w K mg base (bQ P w) 6 f fd ["self", "setting"] (dc 2 fJ) :=
 F.eY ["self", "setting"] λnd _ _ _ _ _ _ hr O=>by
 unfold fF;walk_at "t"
 walk_at "pp"
theorem kY:((["times"]:List Str)++([]:List Str)).Nodup:=by decide +kernel
theorem l8(F:bc K "pulls_to" "Rungs.pulls_to" (inClass (top 48) 7) dv f fd)(T:Txt K mg)(N5:kz P w K mg base aA 5 "brought_down" 2 (ay 2 bT))(Ow:cT P w K mg base 2 "nought" 1 (ay 1 i6))(Oz:cT P w K mg base 2 "in_spans" 2 (ay 4 gY)):aQ P w K mg base (bQ P w) 6 f fd ["self", "setting"] (dc 2 cn) :=
 F.eY ["self", "setting", "made"] λnd _ _ _ _ _ _ hr O=>by
 unfold cO;walk_at "t"
 walk_at "pp"
 refine(bS (br (g:=(aC 0)) (ts:=["times"]) (fs:=[]) (js:=[]) (cl:=[]) rfl rfl rfl rfl rfl rfl .nil .nil (cM ?_) bV (λ_ _ _ _ _=>(aJ (i:=0) kY)) (λ_=>aW) aY (λ_ _ _ _ _=>?_)))
 walk_at "pp"
theorem fb:((["size", "step"]:List Str)++([]:List Str)).Nodup:=by decide +kernel
theorem kX(F:bc K "weights_at" "Rungs.weights_at" (inClass (top 48) 8) dv f fd)(T:Txt K mg)(NY:kz P w K mg base au 1 "sizes" 1 (ay 1 bh))(N_:cT P w K mg base 2 "is_within" 3 (ay 3 dh))(Pc:rC P w K mg base dq "NoDial" "dial")(ON:kz P w K mg base aA 2 "steps" 1 (ay 2 fw))(Qf:cT P w K mg base 5 "weigh" 3 (ay 5 oM))(Od:kz P w K mg base au 1 "around" 1 (ay 1 dC)):aQ P w K mg base (bQ P w) 6 f fd ["self", "dial"] (dc 2 cU) :=
 F.eY ["self", "dial", "sizes", "fills", "weights", "ahead", "weighed", "share"] λnd _ _ _ _ _ _ hr O=>by
 unfold cW;walk_at "t"
 walk_at "pp"
 refine(kO (i:=3) (g:=(iJ K 2 (bA (aC 0) (bA (aC 1) iQ)))) (ts:=["size", "step"]) (fs:=[]) (js:=[]) (cl:=[]) rfl rfl rfl rfl rfl rfl .nil .nil (iK (by rfl) T.i7 ?_) fH (λ_ _ _ _ _=>(c9 (n:=2) rfl (aH (aJ (i:=0) fb) (aH (aJ (i:=1) fb) cw)))) (λ_=>cH) cq (λ_ _ _ _ _=>?_) nd rfl (by walk_at "l"))
 walk_at "pp"
 refine(HV ?_ ?_)
 walk_at "pp"
 refine(FA (i:=4) rfl (by first | exact .inl rfl | exact .inr (.inl rfl)) ?_ ?_)
 walk_at "pp"
 refine(cj (g:=(aC 5)) O rfl (sv (by rfl) T.cJ ?_) vW (aJ (i:=5) nd) aW ?_)
 walk_at "pp"
 refine(yA 4 ?_)
 walk_at "pp"
 refine(FA (i:=4) rfl (by first | exact .inl rfl | exact .inr (.inl rfl)) ?_ ?_)
 walk_at "pp"
theorem Dm(F:bc K "bring" "bring" (top 50) dv f fd)(T:Txt K mg)(PQ:cT P w K mg base 5 "between" 3 (ay 3 kH))(OZ:Al P w K mg base aA 4 "Rungs" 2 [] iB)(Ov:kz P w K mg base aA 6 "pulls_to" 2 (ay 3 cO))(Py:Al P w K mg base de 1 "Way" 2 [] lh)(Oq:kz P w K mg base aA 6 "weights_at" 2 (ay 8 cW))(OM:kz P w K mg base aA 6 "least" 2 (ay 2 fF))(OH:cT P w K mg base 1 "first_turned" 1 (ay 1 eN))(Px:Al P w K mg base cY 1 "Bar" 2 [] k9):aQ P w K mg base (bQ P w) 7 f fd ["vault", "one", "other"] (dc 3 gq) :=
 F.eY ["vault", "one", "other", "difference", "rungs", "pulls"] λnd _ _ _ _ _ _ hr O=>by
 unfold lK;walk_at "t"
 walk_at "pp"
theorem vK:((["lever"]:List Str)++(["vault", "some"]:List Str)).Nodup:=by decide +kernel
theorem Ag(F:bc K "enough" "enough" (top 55) dv f fd)(T:Txt K mg)(Ox:cT P w K mg base 6 "picked" 2 (ay 5 gX))(N0:kz P w K mg base au 1 "levers" 1 (ay 1 bD))(Ow:cT P w K mg base 2 "nought" 1 (ay 1 i6))(Qe:cT P w K mg base 7 "bring" 3 (ay 6 lK)):aQ P w K mg base (bQ P w) 8 f fd ["vault", "bits"] (dc 2 hZ) :=
 F.eY ["vault", "bits", "some"] λnd _ _ _ _ _ _ hr O=>by
 unfold i5;walk_at "t"
 walk_at "pp"
 refine(bS (br (g:=(aC 0)) (ts:=["lever"]) (fs:=["vault", "some"]) (js:=[0,2]) rfl rfl rfl rfl rfl rfl (.cons rfl (.cons rfl .nil)) (.cons rfl rfl (by walk_at "l") rfl rfl (.cons rfl rfl (by walk_at "l") rfl rfl .nil)) (cM ?_) bV (λ_ _ _ _ _=>(aJ (i:=0) vK)) (λ_=>aW) aY (λ_ _ _ _ _=>?_)))
 walk_at "pp"
theorem mZ:((["_law_at"]:List Str)++(["_law_rows", "_law_bits"]:List Str)).Nodup:=by decide +kernel
theorem pd(F:bc K "_law_papers" "_law_papers" (top 72) dv f fd)(T:Txt K mg)(O8:cT P w K mg base 8 "enough" 2 (ay 3 i5))(O1:cT P w K mg base 3 "_law_leads" 4 (ay 6 gv))(Pf:cT P w K mg base 4 "_law_bars" 4 (ay 5 iC)):aQ P w K mg base (bQ P w) 9 f fd ["_law_vault", "_law_rows", "_law_bits", "_law_sizes"] (dc 4 fD) :=
 F.eY ["_law_vault", "_law_rows", "_law_bits", "_law_sizes", "_law_found", "_law_some", "_law_paper", "_law_row"] λnd _ _ _ _ _ _ hr O=>by
 unfold fv;walk_at "t"
 walk_at "pp"
 refine(vp (i:=5) (g:=(aC 0)) (ts:=["_law_at"]) (fs:=["_law_rows", "_law_bits"]) (js:=[1,2]) rfl rfl rfl rfl rfl rfl (.cons rfl (.cons rfl .nil)) (.cons rfl rfl (by walk_at "l") rfl rfl (.cons rfl rfl (by walk_at "l") rfl rfl .nil)) (cA (by rfl) T.cJ ?_) c8 (λ_ _ _ _ _=>(aJ (i:=0) mZ)) (λ_=>aW) aY (λ_ _ _ _ _=>?_) (λ_ _ _ _ _=>?_) nd rfl (by walk_at "l"))
 walk_at "pp"
 refine(lR ?_ (j4 ?_)).pt
 walk_at "pp"
 refine(ly (T := "list") (by rfl) T.bu (fy (v:=.ty "list") (by rfl) T.xt sU rfl) (by decide) lC lC ?_)
 walk_at "pp"
 refine(cj (g:=(iJ K 2 (bA (aC 6) (bA (aC 7) iQ)))) O rfl (iK (by rfl) T.i7 ?_) fH (c9 (n:=2) rfl (aH (aJ (i:=6) nd) (aH (aJ (i:=7) nd) cw))) cH ?_)
 walk_at "pp"
 refine(T.lh.is (by rfl) T.bu (by rfl) ?_)
 walk_at "pp"
 refine(lR ?_ (lR ?_ (j4 ?_))).pt
 walk_at "pp"
 refine(T.k9.is (by rfl) T.bu (by rfl) ?_)
 walk_at "pp"
theorem oj(F:bc K "_law_refused" "_law_refused" (top 73) dv f fd)(T:Txt K mg)(Ox:cT P w K mg base 6 "picked" 2 (ay 5 gX))(O8:cT P w K mg base 8 "enough" 2 (ay 3 i5)):aQ P w K mg base (bQ P w) 9 f fd ["_law_vault", "_law_way", "_law_thing"] (dc 3 eJ) :=
 F.eY ["_law_vault", "_law_way", "_law_thing", "_law_kinds", "e"] λnd _ _ _ _ _ _ hr O=>by
 unfold eS;walk_at "t"
 walk_at "pp"
 refine(IG rfl rfl (λpn E2 O2=>(JC ?_ (yp ?_) (yp ?_))) (.F6 (i:=4) (by rfl) T.jE.mg (by decide) nd rfl rfl T.jE.ok (λea=>?_) .nil))
 walk_at "pp"
 refine(T.qb.is (by rfl) T.bu (by rfl) ?_)
 walk_at "pp"
 refine(Fo (by rfl) T.bu (fy (v:=.ty "ValueError") (by rfl) T.mn rj rfl) T.Nk ?_)
 walk_at "pp"
theorem BC:((["_law_j"]:List Str)++(["_law_script"]:List Str)).Nodup:=by decide +kernel
theorem B8:((["_law_lever_here"]:List Str)++([]:List Str)).Nodup:=by decide +kernel
theorem BS:((["_law_lever_here"]:List Str)++(["_law_sizes"]:List Str)).Nodup:=by decide +kernel
theorem IC(F:bc K "law" "law" (top 74) dv f fd)(T:Txt K mg)(Ot:cT P w K mg base 1 "_law_cell" 2 (ay 2 gi))(O0:cT P w K mg base 2 "_law_dials" 1 (ay 2 gz))(OO:cT P w K mg base 3 "_law_levers" 2 (ay 9 fV))(N6:cT P w K mg base 1 "_law_mixed" 2 (ay 3 cV))(Om:Al P w K mg base au 4 "Vault" 4 [] fP)(Pg:cT P w K mg base 1 "_law_kept" 2 (ay 2 iG))(O4:cT P w K mg base 7 "_law_picks" 5 (ay 7 gu))(OP:cT P w K mg base 9 "_law_papers" 4 (ay 8 fv))(OG:cT P w K mg base 9 "_law_refused" 3 (ay 5 eS)):aQ P w K mg base (bQ P w) 10 f fd ["_law_script"] (dc 1 sk) :=
 F.eY ["_law_script", "_law_sizes", "_law_levers_here", "_law_prices", "_law_vault", "_law_rows", "_law_cell_here", "_law_bits", "_law_bad", "_law_way"] λnd _ _ _ _ _ _ hr O=>by
 unfold Bw;walk_at "t"
 walk_at "pp"
 refine(kO (i:=3) (g:=(aC 0)) (ts:=["_law_j"]) (fs:=["_law_script"]) (js:=[0]) rfl rfl rfl rfl rfl rfl (.cons rfl .nil) (.cons rfl rfl (by walk_at "l") rfl rfl .nil) (cA (by rfl) T.cJ ?_) c8 (λ_ _ _ _ _=>(aJ (i:=0) BC)) (λ_=>aW) aY (λ_ _ _ _ _=>?_) nd rfl (by walk_at "l"))
 walk_at "pp"
 refine(bS (br (g:=(aC 0)) (ts:=["_law_lever_here"]) (fs:=[]) (js:=[]) (cl:=[]) rfl rfl rfl rfl rfl rfl .nil .nil (cM ?_) bV (λ_ _ _ _ _=>(aJ (i:=0) B8)) (λ_=>aW) aY (λ_ _ _ _ _=>?_)))
 walk_at "pp"
 refine(kO (i:=5) (g:=(aC 0)) (ts:=["_law_lever_here"]) (fs:=["_law_sizes"]) (js:=[1]) rfl rfl rfl rfl rfl rfl (.cons rfl .nil) (.cons rfl rfl (by walk_at "l") rfl rfl .nil) (cM ?_) bV (λ_ _ _ _ _=>(aJ (i:=0) BS)) (λ_=>aW) aY (λ_ _ _ _ _=>?_) nd rfl (by walk_at "l"))
 walk_at "pp"
 refine(cj (g:=(aC 6)) O rfl (cM ?_) bV (aJ (i:=6) nd) aW ?_)
 walk_at "pp"
 refine(z7 ?_ (yk ?_) (yk ?_))
 walk_at "pp"
 refine(lR ?_ (j4 ?_)).pt
 walk_at "pp"
 refine(cj (g:=(aC 8)) O rfl (cM ?_) bV (aJ (i:=8) nd) aW ?_)
 walk_at "pp"
 refine(cj (g:=(aC 9)) O rfl (cA (by rfl) T.cJ ?_) c8 (aJ (i:=9) nd) aW ?_)
 walk_at "pp"
end wb
namespace wb
open PySem L2 PyProof.Rows
open PySem.W (nsIn findIn codeIn keepIn isFn mroIn specialIn takesIn hasDictIn typeIn plainGet plainOver makesIn mg_of mg_none_of fnOf excIn clsIn)
abbrev κ(w:World):PySem.W.Frag:=HD.K w.params
variable(w:World)
abbrev Jq:Value:=HD.st "dialvault.wholes" 386
abbrev xH:Value:=HD.st "dialvault.vault" 434
abbrev wc:Value:=HD.st "dialvault.rungs" 728
abbrev LC:Value:=HD.st "dialvault.classes" 914
abbrev uF:Value:=HD.st "law_dialvault_k34_what_picked_levers_can_do" 941
abbrev md5:Value:=HD.st "dialvault.papers" 585
abbrev MV:Value:=HD.st "dialvault.errors" 194
def iR:FuncData:=fnOf "__init__" "Vault.__init__" (ic (inClass (top 23) 0)) (eU (inClass (top 23) 0)) (aZ (inClass (top 23) 0)) (.ref 220) .none .none xH none (.ref 224) .none
theorem me:bc (κ w) "__init__" "Vault.__init__" (inClass (top 23) 0) (.ref 220) 225 iR:=.of (by kernel_rfl) (by kernel_rfl) (by kernel_rfl)
def ki:FuncData:=xC "__init__" "Way.__init__" (inClass (top 37) 0) md5 377
theorem xu:bc (κ w) "__init__" "Way.__init__" (inClass (top 37) 0) .none 378 ki:=.of (by kernel_rfl) (by kernel_rfl) (by kernel_rfl)
theorem xr:Binds (κ w) ki ["self", "pulls"] []:=Binds.all (Js λ_ _=>rfl)
def j6:FuncData:=xC "__init__" "Bar.__init__" (inClass (top 38) 0) md5 417
theorem w_:bc (κ w) "__init__" "Bar.__init__" (inClass (top 38) 0) .none 418 j6:=.of (by kernel_rfl) (by kernel_rfl) (by kernel_rfl)
theorem wG:Binds (κ w) j6 ["self", "weights"] []:=Binds.all (Js λ_ _=>rfl)
def iN:FuncData:=xC "__init__" "Rungs.__init__" (inClass (top 48) 0) wc 502
theorem ui:bc (κ w) "__init__" "Rungs.__init__" (inClass (top 48) 0) .none 503 iN:=.of (by kernel_rfl) (by kernel_rfl) (by kernel_rfl)
theorem sP:Binds (κ w) iN ["self", "vault"] []:=Binds.all (Js λ_ _=>rfl)
def xG:FuncData:=xC "law" "law" (top 74) uF 699
theorem J9:bc (κ w) "law" "law" (top 74) .none 700 xG:=.of (by kernel_rfl) (by kernel_rfl) (by kernel_rfl)
theorem kb:f9 (κ w) bq:=⟨(by kernel_rfl),(by kernel_rfl),(by kernel_rfl),(by kernel_rfl),(by kernel_rfl),(by kernel_rfl),(by kernel_rfl),(by kernel_rfl),(by kernel_rfl)⟩
theorem jJ:f9 (κ w) eG:=⟨(by kernel_rfl),(by kernel_rfl),(by kernel_rfl),(by kernel_rfl),(by kernel_rfl),(by kernel_rfl),(by kernel_rfl),(by kernel_rfl),(by kernel_rfl)⟩
theorem lr:f9 (κ w) fu:=⟨(by kernel_rfl),(by kernel_rfl),(by kernel_rfl),(by kernel_rfl),(by kernel_rfl),(by kernel_rfl),(by kernel_rfl),(by kernel_rfl),(by kernel_rfl)⟩
theorem kK:f9 (κ w) dq:=⟨(by kernel_rfl),(by kernel_rfl),(by kernel_rfl),(by kernel_rfl),(by kernel_rfl),(by kernel_rfl),(by kernel_rfl),(by kernel_rfl),(by kernel_rfl)⟩
def iF:FuncData:=xC "__init__" "NoDial.__init__" (inClass (top 4) 0) MV 73
theorem MH:(κ w).lookup 74=some ⟨.type "function", none,.func iF,⟨[]⟩⟩:=by kernel_rfl
theorem MY:codeIn (κ w) (.ref 73) "NoDial.__init__" = true:=by kernel_rfl
theorem wA:Binds (κ w) iF ["self", "dial"] []:=Binds.all (Js λ_ _=>rfl)
theorem wH:cx ["self", "dial"] ["self", "dial"] (aZ (inClass (top 4) 0)):=.of
theorem MJ:((clsIn (κ w) 84).any λcd=>gR cd.mro)=true:=by kernel_rfl
theorem MB:findIn (κ w) (.ref 84) "dial" = some none:=by kernel_rfl
theorem w5{P:Program}{w:World}{mg:Str->Option Value}{base:Heap}:aQ P w (κ w) mg base (bQ P w) 1 74 iF ["self", "dial"] (Aa (κ w) dq "dial") :=
 qh (n0 := "self") (n1 := "dial") (fl := "dial") (MH w) (MY w) wH (kK w) (MJ w) (MB w) (by first | exact .inl rfl | exact .inr (.inl rfl)) (by first | exact .inl rfl | exact .inr (.inl rfl)) (by decide) (by decide) (by decide) (by decide) (λ_=>rfl)
theorem ji:f9 (κ w) eB:=⟨(by kernel_rfl),(by kernel_rfl),(by kernel_rfl),(by kernel_rfl),(by kernel_rfl),(by kernel_rfl),(by kernel_rfl),(by kernel_rfl),(by kernel_rfl)⟩
def gJ:FuncData:=xC "__init__" "NoLever.__init__" (inClass (top 5) 0) MV 99
theorem ML:(κ w).lookup 100=some ⟨.type "function", none,.func gJ,⟨[]⟩⟩:=by kernel_rfl
theorem Mm:codeIn (κ w) (.ref 99) "NoLever.__init__" = true:=by kernel_rfl
theorem vL:Binds (κ w) gJ ["self", "lever"] []:=Binds.all (Js λ_ _=>rfl)
theorem vS:cx ["self", "lever"] ["self", "lever"] (aZ (inClass (top 5) 0)):=.of
theorem L5:((clsIn (κ w) 110).any λcd=>gR cd.mro)=true:=by kernel_rfl
theorem MQ:findIn (κ w) (.ref 110) "lever" = some none:=by kernel_rfl
theorem uK{P:Program}{w:World}{mg:Str->Option Value}{base:Heap}:aQ P w (κ w) mg base (bQ P w) 1 100 gJ ["self", "lever"] (Aa (κ w) eB "lever") :=
 qh (n0 := "self") (n1 := "lever") (fl := "lever") (ML w) (Mm w) vS (ji w) (L5 w) (MQ w) (by first | exact .inl rfl | exact .inr (.inl rfl)) (by first | exact .inl rfl | exact .inr (.inl rfl)) (by decide) (by decide) (by decide) (by decide) (λ_=>rfl)
theorem jH:f9 (κ w) dH:=⟨(by kernel_rfl),(by kernel_rfl),(by kernel_rfl),(by kernel_rfl),(by kernel_rfl),(by kernel_rfl),(by kernel_rfl),(by kernel_rfl),(by kernel_rfl)⟩
def gC:FuncData:=xC "__init__" "NoPrice.__init__" (inClass (top 6) 0) MV 125
theorem Mq:(κ w).lookup 126=some ⟨.type "function", none,.func gC,⟨[]⟩⟩:=by kernel_rfl
theorem LH:codeIn (κ w) (.ref 125) "NoPrice.__init__" = true:=by kernel_rfl
theorem u6:Binds (κ w) gC ["self", "lever"] []:=Binds.all (Js λ_ _=>rfl)
theorem vt:cx ["self", "lever"] ["self", "lever"] (aZ (inClass (top 6) 0)):=.of
theorem Mc:((clsIn (κ w) 136).any λcd=>gR cd.mro)=true:=by kernel_rfl
theorem LP:findIn (κ w) (.ref 136) "lever" = some none:=by kernel_rfl
theorem uL{P:Program}{w:World}{mg:Str->Option Value}{base:Heap}:aQ P w (κ w) mg base (bQ P w) 1 126 gC ["self", "lever"] (Aa (κ w) dH "lever") :=
 qh (n0 := "self") (n1 := "lever") (fl := "lever") (Mq w) (LH w) vt (jH w) (Mc w) (LP w) (by first | exact .inl rfl | exact .inr (.inl rfl)) (by first | exact .inl rfl | exact .inr (.inl rfl)) (by decide) (by decide) (by decide) (by decide) (λ_=>rfl)
theorem wD:kP (κ w) cY:=⟨(by kernel_rfl),(by kernel_rfl),(by kernel_rfl),(by kernel_rfl)⟩
theorem dX:kP (κ w) aA:=⟨(by kernel_rfl),(by kernel_rfl),(by kernel_rfl),(by kernel_rfl)⟩
theorem dZ:kP (κ w) au:=⟨(by kernel_rfl),(by kernel_rfl),(by kernel_rfl),(by kernel_rfl)⟩
theorem wB:kP (κ w) de:=⟨(by kernel_rfl),(by kernel_rfl),(by kernel_rfl),(by kernel_rfl)⟩
theorem Ks:findIn (κ w) (.ref 435) "weights" = some none:=by kernel_rfl
theorem JK:findIn (κ w) (.ref 556) "idle_rows" = some none:=by kernel_rfl
theorem J1:findIn (κ w) (.ref 556) "made_rows" = some none:=by kernel_rfl
theorem J4:findIn (κ w) (.ref 556) "vault" = some none:=by kernel_rfl
theorem JZ:findIn (κ w) (.ref 256) "dial_sizes" = some none:=by kernel_rfl
theorem JB:findIn (κ w) (.ref 256) "least_round" = some none:=by kernel_rfl
theorem Kw:findIn (κ w) (.ref 256) "lever_prices" = some none:=by kernel_rfl
theorem KJ:findIn (κ w) (.ref 256) "lever_settings" = some none:=by kernel_rfl
theorem Ke:findIn (κ w) (.ref 402) "pulls" = some none:=by kernel_rfl
theorem MG:nsIn (κ w) mainGlobals "LEAST_PRICE" = some (some (.int 1 444)):=by kernel_rfl
theorem M5:nsIn (κ w) mainGlobals "LEAST_SIZE" = some (some (.int 2 438)):=by kernel_rfl
theorem LN:nsIn (κ w) mainGlobals "MOST_DIALS" = some (some (.int 6 436)):=by kernel_rfl
theorem L7:nsIn (κ w) mainGlobals "MOST_LEVERS" = some (some (.int 8 442)):=by kernel_rfl
theorem LG:nsIn (κ w) mainGlobals "MOST_PRICE" = some (some (.int 1000 446)):=by kernel_rfl
theorem Mj:nsIn (κ w) mainGlobals "MOST_SIZE" = some (some (.int 360 440)):=by kernel_rfl
theorem LY:nsIn (κ w) mainGlobals "VaultError" = some (some (.ref 38)):=by kernel_rfl
theorem Mg:Am (λC=>PySem.W.exmOne (κ w) (.ref C) (.ref lZ)) fI fO=true:=by kernel_rfl
theorem Br:pB (κ w) cY:=⟨wD w,(by kernel_rfl),(by kernel_rfl),(by kernel_rfl),(by kernel_rfl)⟩
theorem v9:pB (κ w) aA:=⟨dX w,(by kernel_rfl),(by kernel_rfl),(by kernel_rfl),(by kernel_rfl)⟩
theorem uZ:pB (κ w) au:=⟨dZ w,(by kernel_rfl),(by kernel_rfl),(by kernel_rfl),(by kernel_rfl)⟩
theorem Cj:pB (κ w) de:=⟨wB w,(by kernel_rfl),(by kernel_rfl),(by kernel_rfl),(by kernel_rfl)⟩
theorem M8:nsIn (κ w) mainGlobals "Bar" = some (some (.ref 435)):=by kernel_rfl
theorem M1:(C4.all λa=>PySem.W.kitOne (κ w) (.type a) (.ref cY)==some false)=true:=by kernel_rfl
theorem M3:Am (λC=>PySem.W.kitOne (κ w) (.ref C) (.ref cY)) mz mP=true:=by kernel_rfl
theorem MX:Am (λC=>PySem.W.kitOne (κ w) (.ref C) (.ref cY)) t_ t8=true:=by kernel_rfl
theorem Mt:nsIn (κ w) mainGlobals "NoNumber" = some (some (.ref 58)):=by kernel_rfl
theorem LU:(C4.all λa=>PySem.W.kitOne (κ w) (.type a) (.ref bq)==some false)=true:=by kernel_rfl
theorem Mi:Am (λC=>PySem.W.kitOne (κ w) (.ref C) (.ref bq)) iA ig=true:=by kernel_rfl
theorem MF:Am (λC=>PySem.W.kitOne (κ w) (.ref C) (.ref bq)) eF eE=true:=by kernel_rfl
theorem MS:nsIn (κ w) mainGlobals "Way" = some (some (.ref 402)):=by kernel_rfl
theorem MM:(C4.all λa=>PySem.W.kitOne (κ w) (.type a) (.ref de)==some false)=true:=by kernel_rfl
theorem MD:Am (λC=>PySem.W.kitOne (κ w) (.ref C) (.ref de)) jn jv=true:=by kernel_rfl
theorem Mh:Am (λC=>PySem.W.kitOne (κ w) (.ref C) (.ref de)) p_ qa=true:=by kernel_rfl
theorem M9:(κ w).lookup 220=some (HD.tu [.none]):=by kernel_rfl
theorem sY:Binds (κ w) iR ["self", "sizes", "levers", "prices"] []:=(me w).binds (M9 w) rfl λ_ _ _ _ _ _ us hl=>by obtain⟨a,b,c,d,rfl⟩:=NC (show _=4 from (by simpa using hl));exact⟨_,rfl,rfl⟩
variable{h:Heap}
theorem txt{w:World}{mg:Str->Option Value}(X:PySem.W.Frag.In (κ w) h)(G:h.Ns mainGlobals mg):Txt (κ w) mg where
 mn:=mg_none_of X G (by kernel_rfl)
 JV:=mg_none_of X G (by kernel_rfl)
 xp:=mg_none_of X G (by kernel_rfl)
 dF:=mg_none_of X G (by kernel_rfl)
 A4:=mg_none_of X G (by kernel_rfl)
 bu:=mg_none_of X G (by kernel_rfl)
 JJ:=mg_none_of X G (by kernel_rfl)
 xt:=mg_none_of X G (by kernel_rfl)
 F_:=mg_none_of X G (by kernel_rfl)
 Gi:=mg_none_of X G (by kernel_rfl)
 cJ:=mg_none_of X G (by kernel_rfl)
 K3:=mg_none_of X G (by kernel_rfl)
 oH:=mg_none_of X G (by kernel_rfl)
 i7:=mg_none_of X G (by kernel_rfl)
 qJ:=⟨_,mg_of X G (MG w),⟨_,rfl⟩⟩
 sJ:=⟨_,mg_of X G (M5 w),⟨_,rfl⟩⟩
 uo:=⟨_,mg_of X G (LN w),⟨_,rfl⟩⟩
 qM:=⟨_,mg_of X G (L7 w),⟨_,rfl⟩⟩
 sX:=⟨_,mg_of X G (LG w),⟨_,rfl⟩⟩
 uS:=⟨_,mg_of X G (Mj w),⟨_,rfl⟩⟩
 FE:=wD w
 oA:=dX w
 mi:=dZ w
 FQ:=wB w
 xP:=⟨(by kernel_rfl),kb w,(by kernel_rfl),(by kernel_rfl),mg_of X G (by kernel_rfl)⟩
 uO:=⟨(by kernel_rfl),jJ w,(by kernel_rfl),(by kernel_rfl),mg_of X G (by kernel_rfl)⟩
 zO:=⟨(by kernel_rfl),lr w,(by kernel_rfl),(by kernel_rfl),mg_of X G (by kernel_rfl)⟩
 jE:=.of (mg_of X G (LY w)) (Mg w)
 k9:=.of (mg_of X G (M8 w)) (M1 w) (M3 w) (MX w) (sj (Br w) mE) (sj (v9 w) (sj (uZ w) (sj (Cj w) mE))) mE mE
 qb:=.of (mg_of X G (Mt w)) (LU w) (Mi w) (MF w) mE mE (sj (kb w) mE) (sj (kK w) (sj (ji w) (sj (jH w) (sj (jJ w) (sj (lr w) mE)))))
 lh:=.of (mg_of X G (MS w)) (MM w) (MD w) (Mh w) (sj (Cj w) mE) (sj (Br w) (sj (v9 w) (sj (uZ w) mE))) mE mE
 Nk:=(sj ⟨kK w,(by kernel_rfl)⟩ (sj ⟨ji w,(by kernel_rfl)⟩ (sj ⟨kb w,(by kernel_rfl)⟩ (sj ⟨jH w,(by kernel_rfl)⟩ (sj ⟨jJ w,(by kernel_rfl)⟩ (sj ⟨lr w,(by kernel_rfl)⟩ mE))))))
 lp:=(Ks w)
 iz:=(JK w)
 iE:=(J1 w)
 k_:=(J4 w)
 gZ:=(JZ w)
 gm:=(JB w)
 fY:=(Kw w)
 eP:=(KJ w)
 ny:=(Ke w)
 sM:=λC h=>by obtain rfl:=eq_of_beq h;exact⟨dZ w,(JZ w)⟩
 vm:=λC h=>by obtain rfl:=eq_of_beq h;exact⟨dX w,(JK w)⟩
 rf:=λC h=>by obtain rfl:=eq_of_beq h;exact⟨dZ w,(JB w)⟩
 pP:=λC h=>by obtain rfl:=eq_of_beq h;exact⟨dZ w,(Kw w)⟩
 mD:=λC h=>by obtain rfl:=eq_of_beq h;exact⟨dZ w,(KJ w)⟩
 vF:=λC h=>by obtain rfl:=eq_of_beq h;exact⟨dX w,(J1 w)⟩
 DN:=λC h=>by obtain rfl:=eq_of_beq h;exact⟨wB w,(Ke w)⟩
 Fd:=λC h=>by obtain rfl:=eq_of_beq h;exact⟨dX w,(J4 w)⟩
 zR:=λC h=>by obtain rfl:=eq_of_beq h;exact⟨wD w,(Ks w)⟩
theorem HK{P:Program}{w:World}{mg:Str->Option Value}(X:PySem.W.Frag.In (κ w) h)(G:h.Ns mainGlobals mg)(base:Heap):aQ P w (κ w) mg base (bQ P w) 10 700 xG ["_law_script"] (dc 1 sk):=by
 have T:=txt X G
 have Pc:rC P w (κ w) mg base dq "NoDial" "dial" := ⟨⟨74,iF,["self", "dial"],(by kernel_rfl),(by kernel_rfl),w5,wA w⟩,kK w,(by kernel_rfl),(by kernel_rfl),mg_of X G (by kernel_rfl)⟩
 have PR:rC P w (κ w) mg base eB "NoLever" "lever" := ⟨⟨100,gJ,["self", "lever"],(by kernel_rfl),(by kernel_rfl),uK,vL w⟩,ji w,(by kernel_rfl),(by kernel_rfl),mg_of X G (by kernel_rfl)⟩
 have PU:rC P w (κ w) mg base dH "NoPrice" "lever" := ⟨⟨126,gC,["self", "lever"],(by kernel_rfl),(by kernel_rfl),uL,u6 w⟩,jH w,(by kernel_rfl),(by kernel_rfl),mg_of X G (by kernel_rfl)⟩
 have OA:=gT P w base X G 183 182 Jq λD=>vN D T
 have O9:=gT P w base X G 188 187 Jq λD=>yX D T OA
 have O7:=gT P w base X G 195 194 Jq λD=>zS D T
 have OR:=gT P w base X G 202 201 Jq λD=>pq D T O7
 have PD:=gT P w base X G 207 206 Jq λD=>uX D T
 have PB:=gT P w base X G 212 211 Jq λD=>ve D T
 have N_:=gT P w base X G 267 266 xH λD=>uc D T OA
 have Pa:=gT P w base X G 274 273 xH λD=>qS D T Pc N_
 have OS:=gT P w base X G 281 280 xH λD=>o_ D T O9 PR
 have Pb:=gT P w base X G 288 287 xH λD=>qR D T PU N_
 have OK:=gT P w base X G 293 292 xH λD=>Dt D T
 have Pp:=gT P w base X G 442 441 wc λD=>Bs D T
 have Oo:=gT P w base X G 449 448 wc λD=>rg D T Pp OK
 have Ob:=gT P w base X G 470 469 wc λD=>uC D T
 have PC:=gT P w base X G 477 476 wc λD=>vi D T Ob O7 Oo
 have OJ:=gT P w base X G 484 483 wc λD=>xg D T Ob Oo
 have Oz:=gT P w base X G 491 490 wc λD=>vG D T Pp
 have OH:=gT P w base X G 565 564 wc λD=>nX D T
 have Ph:=gT P w base X G 584 583 LC λD=>tF D T
 have Ot:=gT P w base X G 601 600 uF λD=>tV D T
 have N6:=gT P w base X G 608 607 uF λD=>qZ D T
 have O6:=gT P w base X G 615 614 uF λD=>qT D T
 have Oj:=gT P w base X G 622 621 uF λD=>qD D T
 have O0:=gT P w base X G 627 626 uF λD=>rn D T Oj N6
 have O3:=gT P w base X G 634 633 uF λD=>qN D T Oj N6
 have Pg:=gT P w base X G 639 638 uF λD=>tK D T
 have OF:=gT P w base X G 646 645 uF λD=>nY D T
 have O5:=gT P w base X G 653 652 uF λD=>q_ D T OF
 have OQ:=gT P w base X G 658 657 uF λD=>o3 D T O5
 have Of:=gT P w base X G 663 662 uF λD=>n_ D T O6
 have O1:=gT P w base X G 668 667 uF λD=>rh D T Of
 have Pf:=gT P w base X G 673 672 uF λD=>sZ D T Of OQ
 have OO:=gT P w base X G 678 677 uF λD=>p7 D T Ot N6 O3
 have Om:Al P w (κ w) mg base au 4 "Vault" 4 [] fP:=⟨⟨225,iR,["self", "sizes", "levers", "prices"],[],[],mg_of X G (by kernel_rfl),⟨(by kernel_rfl),(by kernel_rfl),(by kernel_rfl),(by kernel_rfl)⟩,sY w,.nil,λ_=>.nil,qQ (me w) T Pa OS OK Pb OR⟩⟩
 have NY:=EN P w base (dZ w) 232 231 xH λD=>p9 D T
 have N0:=EN P w base (dZ w) 239 238 xH λD=>nO D T
 have Oe:=EN P w base (dZ w) 246 245 xH λD=>ot D T
 have Od:=EN P w base (dZ w) 253 252 xH λD=>nR D T
 have Py:Al P w (κ w) mg base de 1 "Way" 2 [] lh:=⟨⟨378,ki,["self", "pulls"],[],[],mg_of X G (by kernel_rfl),⟨(by kernel_rfl),(by kernel_rfl),(by kernel_rfl),(by kernel_rfl)⟩,xr w,.nil,λ_=>.nil,v_ (xu w) T ⟩⟩
 have Px:Al P w (κ w) mg base cY 1 "Bar" 2 [] k9:=⟨⟨418,j6,["self", "weights"],[],[],mg_of X G (by kernel_rfl),⟨(by kernel_rfl),(by kernel_rfl),(by kernel_rfl),(by kernel_rfl)⟩,wG w,.nil,λ_=>.nil,uY (w_ w) T ⟩⟩
 have ON:=EN P w base (dX w) 508 507 wc λD=>pE D T NY Ob
 have Ow:=gT P w base X G 300 299 xH λD=>zh D T NY
 have O_:=gT P w base X G 305 304 xH λD=>qL D T NY O9
 have N9:=gT P w base X G 312 311 xH λD=>n9 D T O_
 have Qd:=gT P w base X G 317 316 xH λD=>C8 D T NY OK
 have PQ:=gT P w base X G 324 323 xH λD=>wV D T N9 Qd
 have Qf:=gT P w base X G 329 328 md5 λD=>CN D T N9 Od NY PB
 have OB:=gT P w base X G 456 455 wc λD=>vP D T N0
 have OT:=gT P w base X G 463 462 wc λD=>qm D T N0 PD
 have Pz:=gT P w base X G 579 578 LC λD=>vy D T N0
 have Ox:=gT P w base X G 589 588 LC λD=>yN D T Pz N_ Ph N0 Oe NY Om
 have O4:=gT P w base X G 683 682 uF λD=>rB D T Ox NY N0 Oe
 have OZ:Al P w (κ w) mg base aA 4 "Rungs" 2 [] iB:=⟨⟨503,iN,["self", "vault"],[],[],mg_of X G (by kernel_rfl),⟨(by kernel_rfl),(by kernel_rfl),(by kernel_rfl),(by kernel_rfl)⟩,sP w,.nil,λ_=>.nil,qP (ui w) T NY Ow OB N0 OT PC Oz OJ⟩⟩
 have N5:=EN P w base (dX w) 536 535 wc λD=>jY D T N9 OB NY OJ
 have OM:=EN P w base (dX w) 543 542 wc λD=>qj D T N5
 have Ov:=EN P w base (dX w) 548 547 wc λD=>l8 D T N5 Ow Oz
 have Oq:=EN P w base (dX w) 553 552 wc λD=>kX D T NY N_ Pc ON Qf Od
 have Qe:=gT P w base X G 572 571 wc λD=>Dm D T PQ OZ Ov Py Oq OM OH Px
 have O8:=gT P w base X G 594 593 LC λD=>Ag D T Ox N0 Ow Qe
 have OP:=gT P w base X G 688 687 uF λD=>pd D T O8 O1 Pf
 have OG:=gT P w base X G 695 694 uF λD=>oj D T Ox O8
 exact IC (J9 w) T Ot O0 OO N6 Om Pg O4 OP OG
theorem MO:yz (κ w)=true:=by kernel_rfl
theorem L6:nsIn (κ w) mainGlobals "law" = some (some (.ref 700)):=by kernel_rfl
end wb
open PySem PySem.W
theorem wb.hold(said:PySem.Challenge.rw_dialvault_k34_what_picked_levers_can_do.wellSaid=true)(Q9:∀ ns:List Int,ns.length<=63->(∀ i∈ns,Builtin.Int.intBits i<=1048576)->wb.sk [.jN (ns.map L2.PV.int)]=L2.M.ok (.bl true)):PySem.Challenge.rw_dialvault_k34_what_picked_levers_can_do.Holds:=by
 refine holds_law said λsaid=>?_
 refine holds_open (q:=HD.vw) (loose:=HD.loose) (Xt:=HD.Xt) (XP:=XL HD.vw []) (Yf:=Hook.obs HD.hook) (Ya:=Hook.val HD.hook) (YP:=Hook.says HD.hook) HD.JL (Hook.of HD.hook) (Hook.keeps HD.hook) (λs e=>xl_of s (Bool.and_eq_true_iff.mp e).1) XL.keeps (by rfl) (by rfl) (by rfl) (λs e=>recFacts_of (Bool.and_eq_true_iff.mp e).2) (by rfl) said (by decide +kernel) ⟨rfl,rfl,rfl,rfl,rfl,by decide +kernel⟩ ?hw ?hc
 case hw=>w_witness2
 refine L2.xh (l:=PySem.Challenge.rw_dialvault_k34_what_picked_levers_can_do) (n:=63) (k:=10) (x := "_law_script") (K:=HD.K) (sem:=wb.sk) rfl (by decide) rfl ⟨rfl,by decide,by decide⟩ (λw h Y=>PySem.W.kIn_of Y) (λw=>wb.MO w) (λw mg fa h X G hmg=>?_) Q9
 have e:=hmg.symm.trans (PySem.W.mg_of X G (wb.L6 w))
 cases e
 exact⟨wb.xG,λs v=>.of_eq rfl,λbase X' G'=>wb.HK X' G' base⟩
namespace Eu
theorem si(a b:Int)(hb:b≠0):(a-a.fdiv b*b).natAbs<b.natAbs/\0<=(a-a.fdiv b*b)*b/\(0<=a*b->a.natAbs=(a.fdiv b).natAbs*b.natAbs+(a-a.fdiv b*b).natAbs):=by
 have pos:∀ (a b:Int),0<b->(a-a/b*b).natAbs<b.natAbs/\0<=(a-a/b*b)*b/\(0<=a*b->a.natAbs=(a/b).natAbs*b.natAbs+(a-a/b*b).natAbs):=by
  intro a b hb
  have e:a-a/b*b=a%b:=by
   have h:=Int.mul_ediv_add_emod a b
   rw[Int.mul_comm] at h
   omega
  have h0:=Int.emod_nonneg a (by omega:b≠0)
  have h1:=Int.emod_lt_of_pos a hb
  rw[e]
  refine⟨by omega,Int.mul_nonneg h0 (by omega),λhab=>?_⟩
  have ha:0<=a:=by
   rcases Int.lt_or_le a 0 with h | h
   ·have:=Int.mul_neg_of_neg_of_pos h hb
    omega
   ·exact h
  have hq:0<=a/b:=Int.ediv_nonneg ha (by omega)
  have h2:=Int.mul_ediv_add_emod a b
  have h3:((a/b).natAbs*b.natAbs:Nat)=(b*(a/b)).natAbs:=by
   rw[Int.natAbs_mul,Nat.mul_comm]
  rw[h3]
  have h4:0<=b*(a/b):=Int.mul_nonneg (by omega) hq
  omega
 rcases Int.lt_or_le 0 b with h | h
 ·rw[Int.fdiv_eq_ediv_of_nonneg a (by omega)]
  exact pos a b h
 ·have h':0 < -b:=by omega
  have e:a.fdiv b=(-a)/(-b):=by
   rw[← Int.fdiv_eq_ediv_of_nonneg (-a) (by omega:0<=-b),Int.neg_fdiv_neg]
  obtain⟨p1,p2,p3⟩:=pos (-a) (-b) h'
  have e2:-a-(-a)/(-b)*(-b)=-(a-a.fdiv b*b):=by
   rw[← e,Int.mul_neg]
   omega
  rw[e2] at p1 p2 p3
  rw[← e] at p3
  simp only[Int.natAbs_neg,Int.neg_mul_neg] at p1 p2 p3
  exact⟨p1,p2,p3⟩
structure St (a b:Int) (r s t r' s' t':Int):Prop where
 c0:r=s*a+t*b
 c1:r'=s'*a+t'*b
 dv:∀ d:Int,d∣r->d∣r'->d∣a/\d∣b
 bd:s'.natAbs*r.natAbs+s.natAbs*r'.natAbs<=b.natAbs
 sg:s'=0\/0<=r*r'
 b0:s.natAbs<=b.natAbs+1
 b1:s'.natAbs<=b.natAbs+1
 d0:t.natAbs<=a.natAbs+(b.natAbs+1)*a.natAbs+b.natAbs+1
 d1:t'.natAbs<=a.natAbs+(b.natAbs+1)*a.natAbs+b.natAbs+1
 m0:r.natAbs<=a.natAbs+b.natAbs
 m1:r'.natAbs<=b.natAbs
theorem start(a b:Int):St a b a 1 0 b 0 1 where
 c0:=by omega
 c1:=by omega
 dv:=λd h1 h2=>⟨h1,h2⟩
 bd:=by simp
 sg:=.inl rfl
 b0:=by omega
 b1:=by omega
 d0:=by simp
 d1:=by omega
 m0:=by omega
 m1:=by omega
theorem turn{a b r s t r' s' t':Int}(h:St a b r s t r' s' t')(h0:r'≠0) :
  St a b r' s' t' (r-r.fdiv r'*r') (s-r.fdiv r'*s') (t-r.fdiv r'*t')/\(r-r.fdiv r'*r').natAbs<r'.natAbs:=by
 obtain⟨f1,f2,f3⟩:=si r r' h0
 generalize hq:r.fdiv r'=q at *
 have hb:b≠0:=by
  intro z
  have:=h.m1
  omega
 have hr':1<=r'.natAbs:=by omega
 have c1':r-q*r'=(s-q*s')*a+(t-q*t')*b:=by
  rw[h.c0,h.c1,Int.sub_mul,Int.sub_mul,Int.mul_add,Int.mul_assoc,Int.mul_assoc]
  omega
 have bd':(s-q*s').natAbs*r'.natAbs+s'.natAbs*(r-q*r').natAbs<=b.natAbs:=by
  have wa:(s-q*s').natAbs<=s.natAbs+q.natAbs*s'.natAbs:=by
   rw[← Int.natAbs_mul]
   omega
  have hbd:=h.bd
  rcases h.sg with z | z
  ·subst z
   simp only[Int.mul_zero,Int.sub_zero,Int.natAbs_zero,Nat.zero_mul,Nat.zero_add,Nat.add_zero] at hbd ⊢
   exact hbd
  ·have e:=f3 z
   have k1:(s-q*s').natAbs*r'.natAbs<=(s.natAbs+q.natAbs*s'.natAbs)*r'.natAbs:=Nat.mul_le_mul_right _ wa
   have k2:(s.natAbs+q.natAbs*s'.natAbs)*r'.natAbs+s'.natAbs*(r-q*r').natAbs=s'.natAbs*r.natAbs+s.natAbs*r'.natAbs:=by
    rw[e,Nat.add_mul,Nat.mul_add,Nat.mul_comm q.natAbs s'.natAbs,Nat.mul_assoc]
    omega
   omega
 have b1':(s-q*s').natAbs<=b.natAbs:=by
  have:(s-q*s').natAbs*1<=(s-q*s').natAbs*r'.natAbs:=Nat.mul_le_mul_left _ hr'
  omega
 have mm:(r-q*r').natAbs<=b.natAbs:=by
  have:=h.m1
  omega
 have d1':(t-q*t').natAbs<=a.natAbs+(b.natAbs+1)*a.natAbs+b.natAbs+1:=by
  have e:(t-q*t')*b=(r-q*r')-(s-q*s')*a:=by omega
  have e1:((t-q*t')*b).natAbs<=(r-q*r').natAbs+((s-q*s')*a).natAbs:=by omega
  rw[Int.natAbs_mul,Int.natAbs_mul] at e1
  have k1:(t-q*t').natAbs*1<=(t-q*t').natAbs*b.natAbs:=Nat.mul_le_mul_left _ (by omega)
  have k2:(s-q*s').natAbs*a.natAbs<=(b.natAbs+1)*a.natAbs:=Nat.mul_le_mul_right _ (by omega)
  omega
 refine⟨⟨h.c1,c1',λd e1 e2=>?_,bd',?_,h.b1,by omega,h.d1,d1',?_,mm⟩,f1⟩
 ·refine h.dv d ?_ e1
  have e3:d∣q*r':=Int.dvd_trans e1 (Int.dvd_mul_left _ _)
  have e4:=Int.dvd_add e2 e3
  rwa [Int.sub_add_cancel] at e4
 ·exact .inr (by rw[Int.mul_comm];exact f2)
 ·have:=h.m1
  omega
theorem done{a b r s t s' t':Int}(h:St a b r s t 0 s' t'):r∣a/\r∣b:=h.dv r (Int.dvd_refl r) (Int.dvd_zero r)
end Eu
namespace Lc
def CO(ns:List Nat):Nat:=ns.foldl Nat.lcm 1
theorem yf:∀ (ns:List Nat) (m:Nat),m∣ns.foldl Nat.lcm m/\(∀ n∈ns,n∣ns.foldl Nat.lcm m)/\(∀ k,m∣k->(∀ n∈ns,n∣k)->ns.foldl Nat.lcm m∣k)
 | [],m=>⟨Nat.dvd_refl m,(λ_ h=>nomatch h),λk h _=>h⟩
 | n::ns,m=>by
  obtain⟨h1,h2,h3⟩:=yf ns (Nat.lcm m n)
  refine⟨Nat.dvd_trans (Nat.dvd_lcm_left m n) h1,λx hx=>?_,λk hm hk=>?_⟩
  ·rcases List.mem_cons.mp hx with e | hx
   ·rw[e];exact Nat.dvd_trans (Nat.dvd_lcm_right m n) h1
   ·exact h2 x hx
  ·exact h3 k (Nat.lcm_dvd hm (hk n List.mem_cons_self)) λx hx=>hk x (List.mem_cons_of_mem _ hx)
variable{ns:List Nat}
theorem lcm_dvd{n:Nat}(h:n∈ns):n∣CO ns:=(yf ns 1).2.1 n h
theorem nG:∀ (ns:List Nat) (m:Nat),0<m->(∀ n∈ns,0<n)->0<ns.foldl Nat.lcm m
 | [],m,h,_=>h
 | n::ns,m,h,hp=>nG ns (Nat.lcm m n) (Nat.lcm_pos h (hp n List.mem_cons_self)) λx hx=>hp x (List.mem_cons_of_mem _ hx)
theorem lcm_pos(h:∀ n∈ns,0<n):0<CO ns:=nG ns 1 (by decide) h
theorem oV(B:Nat):∀ (ns:List Nat) (m k:Nat),0<m->m<=2^k->(∀ n∈ns,0<n/\n<=2^B)->ns.foldl Nat.lcm m<=2^(k+B*ns.length)
 | [],m,k,_,h,_=>by simpa using h
 | n::ns,m,k,h0,h,hp=>by
  have hn:=hp n List.mem_cons_self
  have h1:Nat.lcm m n<=2^(k+B):=by
   have:Nat.lcm m n<=m*n:=Nat.le_of_dvd (Nat.mul_pos h0 hn.1) (Nat.lcm_dvd (Nat.dvd_mul_right m n) (Nat.dvd_mul_left n m))
   rw[Nat.pow_add]
   exact Nat.le_trans this (Nat.mul_le_mul h hn.2)
  have h2:=oV B ns (Nat.lcm m n) (k+B) (Nat.lcm_pos h0 hn.1) h1 λx hx=>hp x (List.mem_cons_of_mem _ hx)
  have e:k+B*(n::ns).length=k+B+B*ns.length:=by
   rw[List.length_cons,Nat.mul_succ];omega
  rw[e]
  exact h2
theorem C7(m n:Nat):m/Nat.gcd m n*n=Nat.lcm m n:=by
 unfold Nat.lcm
 rw[Nat.div_mul_right_comm (Nat.gcd_dvd_left m n)]
end Lc
namespace Rg
abbrev dG:=Nat->Int
def a_(s:dG)(D:Nat->dG)(d:Nat):Int:=if D d d=0 then s d else D d d
def G(n:Nat)(s:dG)(D:Nat->dG):Nat->Nat->dG->Prop
 | 0,_,v=>∀ i,i<n->s i∣v i
 | k+1,d,v=>a_ s D d∣v d/\G n s D k (d+1) λi=>v i-v d/a_ s D d*D d i
def U(i:Nat)(c:Int):dG:=λj=>if j=i then c else 0
variable{D:Nat->dG}{s:dG}{n:Nat}
theorem G.ext:∀ {k d:Nat} {v w:dG},d+k=n->(∀ i,i<n->v i=w i)->G n s D k d v->G n s D k d w
 | 0,d,v,w,_,e,h=>λi hi=>by rw[← e i hi];exact h i hi
 | k+1,d,v,w,hn,e,h=>by
  have ed:=e d (by omega)
  refine⟨by rw[← ed];exact h.1,G.ext (by omega) (λi hi=>?_) h.2⟩
  rw[e i hi,ed]
theorem G.add:∀ {k d:Nat} {v w:dG},d+k=n->G n s D k d v->G n s D k d w->G n s D k d λi=>v i+w i
 | 0,d,v,w,_,h,h'=>λi hi=>Int.dvd_add (h i hi) (h' i hi)
 | k+1,d,v,w,hn,h,h'=>by
  refine⟨Int.dvd_add h.1 h'.1,G.ext (by omega) (λi hi=>?_) (G.add (by omega) h.2 h'.2)⟩
  show _=v i+w i-(v d+w d)/a_ s D d*D d i
  rw[Int.add_ediv_of_dvd_left h.1,Int.add_mul]
  omega
theorem G.mul(c:Int):∀ {k d:Nat} {v:dG},d+k=n->G n s D k d v->G n s D k d λi=>c*v i
 | 0,d,v,_,h=>λi hi=>Int.dvd_trans (h i hi) (Int.dvd_mul_left _ _)
 | k+1,d,v,hn,h=>by
  refine⟨Int.dvd_trans h.1 (Int.dvd_mul_left _ _),G.ext (by omega) (λi hi=>?_) (G.mul c (by omega) h.2)⟩
  show _=c*v i-c*v d/a_ s D d*D d i
  rw[Int.mul_ediv_assoc c h.1,Int.mul_sub,Int.mul_assoc]
theorem G.zero:∀ {k d:Nat},d+k=n->G n s D k d λ_=>0
 | 0,d,_=>λi _=>Int.dvd_zero _
 | k+1,d,hn=>⟨Int.dvd_zero _,G.ext (by omega) (λi hi=>by simp) (G.zero (k:=k) (d:=d+1) (by omega))⟩
theorem G.skip{v:dG}:∀ {j k d:Nat},d+(j+k)=n->(∀ i,d<=i->i<d+j->v i=0)->G n s D k (d+j) v->G n s D (j+k) d v
 | 0,k,d,_,_,h=>by rw[Nat.zero_add];exact h
 | j+1,k,d,hn,hz,h=>by
  rw[show j+1+k=(j+k)+1 by omega]
  have z:=hz d (Nat.le_refl _) (by omega)
  refine⟨by rw[z];exact Int.dvd_zero _,G.ext (v:=v) (by omega) (λi hi=>by rw[z];simp) (G.skip (by omega) (λi h1 h2=>hz i (by omega) (by omega)) (by rw[show d+1+j=d+(j+1) by omega];exact h))⟩
structure Good (n:Nat) (s:dG) (D:Nat->dG):Prop where
 sp:∀ i,i<n->0<s i
 jg:∀ d,d<n->∀ i,i<n->0<=D d i/\D d i<s i
 wa:∀ d,d<n->∀ i,i<d->D d i=0
 dv:∀ d,d<n->a_ s D d∣s d
 JI:∀ d k,d+(k+1)=n->G n s D k (d+1) λi=>s d/a_ s D d*D d i
variable{d:Nat}
variable{k:Nat}
theorem Good.pos(g:Good n s D)(h:d<n):0<a_ s D d/\a_ s D d<=s d:=by
 have h1:=g.jg d h d h
 have h2:=g.sp d h
 unfold a_
 split <;> omega
theorem Good.diag(g:Good n s D)(h:d<n):s d∣D d d-a_ s D d:=by
 unfold a_
 split
 ·rename_i z;rw[z];exact⟨-1,by omega⟩
 ·rw[Int.sub_self];exact Int.dvd_zero _
theorem Good.turn(g:Good n s D):∀ {k d i:Nat} (c:Int),d+k=n->i<n->G n s D k d (U i (c*s i))
 | 0,d,i,c,_,hi=>λj hj=>by
  unfold U
  split
  ·rename_i z;rw[z];exact Int.dvd_mul_left _ _
  ·exact Int.dvd_zero _
 | k+1,d,i,c,hn,hi=>by
  have hd:d<n:=by omega
  by_cases z:i=d
  ·subst z
   have dv:=g.dv i hi
   refine⟨by show _∣U i _ i;rw[U,if_pos rfl];exact Int.dvd_trans dv (Int.dvd_mul_left _ _),?_⟩
   refine G.ext (by omega) (λj hj=>?_) (G.add (by omega) (g.turn (k:=k) (d:=i+1) (i:=i) c (by omega) hi) (G.mul (-c) (by omega) (g.JI i k hn)))
   show U i (c*s i) j+-c*(s i/a_ s D i*D i j)=U i (c*s i) j-U i (c*s i) i/a_ s D i*D i j
   rw[show U i (c*s i) i=c*s i by rw[U,if_pos rfl],Int.mul_ediv_assoc c dv,Int.neg_mul,Int.mul_assoc]
   omega
  ·have u0:U i (c*s i) d=0:=by rw[U,if_neg (Ne.symm z)]
   refine⟨by rw[u0];exact Int.dvd_zero _,G.ext (by omega) (λj hj=>?_) (g.turn (k:=k) (d:=d+1) (i:=i) c (by omega) hi)⟩
   rw[u0];simp
theorem G.u5{v w:dG}(ht:∀ i c,i<n->G n s D k d (U i (c*s i)))(hn:d+k=n)(h:∀ i,i<n->s i∣w i-v i)(hv:G n s D k d v):G n s D k d w:=by
 have key:∀ m,m<=n->G n s D k d λi=>if i<m then w i else v i:=by
  intro m
  induction m with
  | zero=>intro _;exact G.ext hn (λi _=>by simp) hv
  | succ m ih =>
   intro hm
   obtain⟨c,hc⟩:=h m (by omega)
   refine G.ext hn (λi hi=>?_) (G.add hn (ih (by omega)) (ht m c (by omega)))
   show (if i<m then w i else v i)+U m (c*s m) i=if i<m+1 then w i else v i
   unfold U
   by_cases z:i=m
   ·subst z
    rw[if_neg (by omega),if_pos rfl,if_pos (by omega),Int.mul_comm c]
    omega
   ·rw[if_neg z]
    by_cases q:i<m
    ·rw[if_pos q,if_pos (by omega)];omega
    ·rw[if_neg q,if_neg (by omega)];omega
 exact G.ext hn (λi hi=>by simp[hi]) (key n (Nat.le_refl _))
theorem Good.u5(g:Good n s D){k d:Nat}{v w:dG}(hn:d+k=n)(h:∀ i,i<n->s i∣w i-v i)(hv:G n s D k d v):G n s D k d w :=
 G.u5 (λi c hi=>g.turn c hn hi) hn h hv
theorem Good.sub(g:Good n s D){v w:dG}(hn:d+k=n)(hv:G n s D k d v)(hw:G n s D k d w):G n s D k d λi=>v i-w i :=
 G.ext hn (λi _=>by omega) (G.add hn hv (G.mul (-1) hn hw))
theorem Good.own(g:Good n s D)(hn:d+(k+1)=n):G n s D (k+1) d (D d):=by
 have hd:d<n:=by omega
 by_cases z:D d d=0
 ·have e:a_ s D d=s d:=by unfold a_;rw[if_pos z]
  have c:=g.JI d k hn
  rw[e] at c
  refine⟨by rw[z];exact Int.dvd_zero _,G.ext (by omega) (λi hi=>?_) c⟩
  rw[z,Int.ediv_self (by have:=g.sp d hd;omega)]
  simp
 ·have e:a_ s D d=D d d:=by unfold a_;rw[if_neg z]
  refine⟨by rw[e];exact Int.dvd_refl _,G.ext (by omega) (λi hi=>?_) (G.zero (k:=k) (d:=d+1) (by omega))⟩
  rw[e,Int.ediv_self z];omega
theorem Good.row(g:Good n s D)(hd:d<n):∀ {k e:Nat},e+k=n->e<=d->G n s D k e (D d):=by
 intro k e hn he
 have h:=g.own (d:=d) (k:=n-d-1) (by omega)
 have:=G.skip (n:=n) (s:=s) (D:=D) (v:=D d) (j:=d-e) (k:=n-d-1+1) (d:=e) (by omega) (λi h1 h2=>g.wa d hd i (by omega)) (by rw[show e+(d-e)=d by omega];exact h)
 rw[show d-e+(n-d-1+1)=k by omega] at this
 exact this
structure Tk (n:Nat) (s:dG) (D D' L:Nat->dG) (u v g:Nat->Int):Prop where
 gp:∀ d,d<n->0<g d
 bz:∀ d,d<n->u d*a_ s D d+v d*L d d=g d
 g1:∀ d,d<n->g d∣a_ s D d
 g2:∀ d,d<n->g d∣L d d
 La:∀ d,d<n->∀ i,i<n->D' d i=(u d*D d i+v d*L d i)%s i
 JQ:∀ d,d<n->∀ i,i<n->L (d+1) i=(a_ s D d/g d*L d i+-(L d d/g d)*D d i)%s i
 l0:∀ i,i<n->0<=L 0 i/\L 0 i<s i
variable{a b:Int}
section
variable{D' L:Nat->dG}{u v g:Nat->Int}
theorem eX(a b:Int):b∣a%b-a:=⟨-(a/b),by have:=Int.emod_def a b;rw[Int.mul_neg];omega⟩
theorem zi(a b:Int):b∣a-a%b:=⟨a/b,by have:=Int.emod_def a b;omega⟩
theorem Tk.kept(t:Tk n s D D' L u v g)(G:Good n s D):∀ d,d<=n->∀ i,i<n->0<=L d i/\L d i<s i:=by
 intro d hd i hi
 cases d with
 | zero=>exact t.l0 i hi
 | succ d =>
  rw[t.JQ d (by omega) i hi]
  have:=G.sp i hi
  exact⟨Int.emod_nonneg _ (by omega),Int.emod_lt_of_pos _ this⟩
theorem iY(h0:0<=a)(h1:a<b)(h:b∣a):a=0:=by
 obtain⟨c,rfl⟩:=h
 rcases Int.lt_or_le 0 c with hc | hc
 ·have:b*1<=b*c:=Int.mul_le_mul_of_nonneg_left hc (by omega)
  omega
 ·have:b*c<=0:=Int.mul_nonpos_of_nonneg_of_nonpos (by omega) hc
  omega
theorem Tk.zero(t:Tk n s D D' L u v g)(G:Good n s D):∀ d,d<=n->∀ i,i<d->L d i=0:=by
 intro d
 induction d with
 | zero=>intro _ i hi;omega
 | succ d ih =>
  intro hd i hi
  have QX:d<n:=by omega
  have k:=t.kept G (d+1) hd i (by omega)
  refine iY k.1 k.2 ?_
  rw[t.JQ d QX i (by omega)]
  rcases Nat.lt_or_ge i d with h | h
  ·rw[ih (by omega) i h,G.wa d QX i h]
   simp
  ·obtain rfl:i=d:=by omega
   refine Int.dvd_trans ?_ (Int.dvd_refl _)
   obtain⟨c,hc⟩:=G.diag QX
   obtain⟨a,ha⟩:=t.g1 i QX
   obtain⟨b,hb⟩:=t.g2 i QX
   have gp:=t.gp i QX
   have e1:a_ s D i/g i=a:=by rw[ha];exact Int.mul_ediv_cancel_left a (by omega)
   have e2:L i i/g i=b:=by rw[hb];exact Int.mul_ediv_cancel_left b (by omega)
   rw[e1,e2]
   have e3:a*L i i+-b*D i i=s i*(-b*c):=by
    have:D i i=a_ s D i+s i*c:=by omega
    rw[this,ha,hb];grind
   rw[e3,Int.mul_emod_right]
   exact Int.dvd_zero _
theorem Tk.step(t:Tk n s D D' L u v g)(G:Good n s D)(hd:d<n):a_ s D' d=g d:=by
 obtain⟨c,hc⟩:=G.diag hd
 have gp:=t.gp d hd
 have sp:=G.sp d hd
 have st:=G.pos hd
 have le:g d<=a_ s D d:=Int.le_of_dvd st.1 (t.g1 d hd)
 have e:D' d d=g d%s d:=by
  rw[t.La d hd d hd,← t.bz d hd]
  have:D d d=a_ s D d+s d*c:=by omega
  rw[this,show u d*(a_ s D d+s d*c)+v d*L d d=(u d*a_ s D d+v d*L d d)+s d*(u d*c) by grind,Int.add_mul_emod_self_left]
 unfold a_
 rw[e]
 by_cases z:g d=s d
 ·rw[z,Int.emod_self,if_pos rfl]
 ·rw[Int.emod_eq_of_lt (by omega) (by omega),if_neg (by omega)]
theorem Tk.main(t:Tk n s D D' L u v g)(Gd:Good n s D):∀ k d,d+k=n->(∀ w,G n s D k d w->G n s D' k d w)/\G n s D' k d (L d)
 | 0,d,hn=>by
  refine⟨λw h=>h,λi hi=>?_⟩
  rw[t.zero Gd d (by omega) i (by omega)];exact Int.dvd_zero _
 | k+1,d,hn=>by
  obtain⟨i1,i2⟩:=t.main Gd k (d+1) (by omega)
  have hd:d<n:=by omega
  have turn:∀ i c,i<n->G n s D' k (d+1) (U i (c*s i)):=λi c hi=>i1 _ (Gd.turn c (by omega) hi)
  have st:=t.step Gd hd
  have gp:=t.gp d hd
  obtain⟨a,ha⟩:=t.g1 d hd
  obtain⟨b,hb⟩:=t.g2 d hd
  have e1:a_ s D d/g d=a:=by rw[ha];exact Int.mul_ediv_cancel_left a (by omega)
  have e2:L d d/g d=b:=by rw[hb];exact Int.mul_ediv_cancel_left b (by omega)
  have bz:u d*a+v d*b=1:=by
   have:=t.bz d hd
   rw[ha,hb,show u d*(g d*a)+v d*(g d*b)=g d*(u d*a+v d*b) by grind] at this
   have h2:g d*(u d*a+v d*b)=g d*1:=by omega
   exact Int.eq_of_mul_eq_mul_left (by omega) h2
  have w1:∀ i,i<n->∃ c,D' d i=u d*D d i+v d*L d i+s i*c:=λi hi=>by
   obtain⟨c,hc⟩:=eX (u d*D d i+v d*L d i) (s i)
   exact⟨c,by rw[t.La d hd i hi];omega⟩
  have w2:∀ i,i<n->∃ c,L (d+1) i=a*L d i+-b*D d i+s i*c:=λi hi=>by
   obtain⟨c,hc⟩:=eX (a*L d i+-b*D d i) (s i)
   exact⟨c,by rw[t.JQ d hd i hi,e1,e2];omega⟩
  constructor
  ·intro w h
   obtain⟨h1,h2⟩:=h
   refine⟨by rw[st];exact Int.dvd_trans (t.g1 d hd) h1,?_⟩
   obtain⟨q,hq⟩:=h1
   have sp:=(Gd.pos hd).1
   have q1:w d/a_ s D d=q:=by rw[hq];exact Int.mul_ediv_cancel_left q (by omega)
   have q2:w d/a_ s D' d=q*a:=by
    rw[st,hq,ha,show g d*a*q=g d*(q*a) by grind];exact Int.mul_ediv_cancel_left _ (by omega)
   rw[q2]
   rw[q1] at h2
   refine G.u5 turn (by omega) (λi hi=>?_) (G.add (by omega) (i1 _ h2) (G.mul (q*-(v d)) (by omega) i2))
   obtain⟨c1,hc1⟩:=w1 i hi
   obtain⟨c2,QO⟩:=w2 i hi
   refine⟨q*(v d*c2-a*c1),?_⟩
   rw[hc1,QO];grind
  ·refine⟨by rw[st];exact t.g2 d hd,?_⟩
   rw[st,e2]
   refine G.u5 turn (by omega) (λi hi=>?_) (G.mul (u d) (by omega) i2)
   obtain⟨c1,hc1⟩:=w1 i hi
   obtain⟨c2,QO⟩:=w2 i hi
   refine⟨-(b*c1)-u d*c2,?_⟩
   rw[hc1,QO];grind
theorem Tk.good(t:Tk n s D D' L u v g)(Gd:Good n s D):Good n s D' where
 sp:=Gd.sp
 jg:=λd hd i hi=>by
  rw[t.La d hd i hi]
  have:=Gd.sp i hi
  exact⟨Int.emod_nonneg _ (by omega),Int.emod_lt_of_pos _ this⟩
 wa:=λd hd i hi=>by
  rw[t.La d hd i (by omega),Gd.wa d hd i hi,t.zero Gd d (by omega) i hi];simp
 dv:=λd hd=>by
  rw[t.step Gd hd];exact Int.dvd_trans (t.g1 d hd) (Gd.dv d hd)
 JI:=λd k hn=>by
  have hd:d<n:=by omega
  have h1:=(t.main Gd (k+1) d hn).1 _ (Gd.turn (i:=d) 1 hn hd)
  have h2:=(t.main Gd k (d+1) (by omega)).1 _ (Gd.turn (i:=d) 1 (by omega) hd)
  have h3:=h1.2
  have ud:U d (1*s d) d=s d:=by rw[U,if_pos rfl,Int.one_mul]
  rw[ud] at h3
  refine G.ext (by omega) (λi hi=>?_) (G.add (by omega) h2 (G.mul (-1) (by omega) h3))
  show U d (1*s d) i+-1*(U d (1*s d) i-s d/a_ s D' d*D' d i)=_
  omega
end
variable{W:Nat->dG}
variable{i:Nat}
section
variable{D':Nat->dG}
theorem Good.Fy(Gd:Good n s D)(jg:∀ d,d<n->∀ i,i<n->0<=D' d i/\D' d i<s i)(wa:∀ d,d<n->∀ i,i<d->D' d i=0)(dv:∀ d,d<n->a_ s D' d∣s d)
  (h:∀ k d,d+k=n->∀ w,G n s D k d w->G n s D' k d w):Good n s D' where
 sp:=Gd.sp
 jg:=jg
 wa:=wa
 dv:=dv
 JI:=λd k hn=>by
  have hd:d<n:=by omega
  have h1:=h (k+1) d hn _ (Gd.turn (i:=d) 1 hn hd)
  have h2:=h k (d+1) (by omega) _ (Gd.turn (i:=d) 1 (by omega) hd)
  have h3:=h1.2
  have ud:U d (1*s d) d=s d:=by rw[U,if_pos rfl,Int.one_mul]
  rw[ud] at h3
  refine G.ext (by omega) (λi hi=>?_) (G.add (by omega) h2 (G.mul (-1) (by omega) h3))
  show U d (1*s d) i+-1*(U d (1*s d) i-s d/a_ s D' d*D' d i)=_
  omega
structure Dn (n:Nat) (s:dG) (D:Nat->dG) (f:Nat) (W:Nat->dG):Prop where
 w0:∀ i,i<n->0<=W f i/\W f i<s i
 ws:∀ d,f<=d->d<n->∀ i,i<n->W (d+1) i=(1*W d i+-(W d d/a_ s D d)*D d i)%s i
variable{f:Nat}
theorem Dn.kept(h:Dn n s D f W)(Gd:Good n s D):∀ d,f<=d->d<=n->∀ i,i<n->0<=W d i/\W d i<s i:=by
 intro d hf hd i hi
 rcases Nat.lt_or_ge f d with q | q
 ·obtain⟨e,rfl⟩:∃ e,d=e+1:=⟨d-1,by omega⟩
  rw[h.ws e (by omega) (by omega) i hi]
  have:=Gd.sp i hi
  exact⟨Int.emod_nonneg _ (by omega),Int.emod_lt_of_pos _ this⟩
 ·obtain rfl:d=f:=by omega
  exact h.w0 i hi
theorem Dn.ahead(h:Dn n s D f W)(Gd:Good n s D)(hf:f<=d)(hd:d<n)(hi:i<d):W (d+1) i=W d i:=by
 have k:=h.kept Gd d hf (by omega) i (by omega)
 rw[h.ws d hf hd i (by omega),Gd.wa d hd i hi,Int.mul_zero,Int.add_zero,Int.one_mul,Int.emod_eq_of_lt k.1 k.2]
theorem Dn.at_(h:Dn n s D f W)(Gd:Good n s D)(hf:f<=d)(hd:d<n):W (d+1) d=W d d%a_ s D d:=by
 have k:=h.kept Gd d hf (by omega) d hd
 have p:=Gd.pos hd
 rw[h.ws d hf hd d hd]
 have e:=Int.emod_def (W d d) (a_ s D d)
 have q0:=Int.emod_nonneg (W d d) (show a_ s D d≠0 by omega)
 have q1:=Int.emod_lt_of_pos (W d d) p.1
 by_cases z:D d d=0
 ·have st:a_ s D d=s d:=by unfold a_;rw[if_pos z]
  rw[z,st,Int.emod_eq_of_lt k.1 k.2,Int.mul_zero,Int.add_zero,Int.one_mul,Int.emod_eq_of_lt k.1 k.2]
 ·have st:a_ s D d=D d d:=by unfold a_;rw[if_neg z]
  rw[← st,show 1*W d d+-(W d d/a_ s D d)*a_ s D d=W d d%a_ s D d by rw[e];grind]
  exact Int.emod_eq_of_lt q0 (by omega)
theorem Dn.low(h:Dn n s D f W)(Gd:Good n s D):∀ d,f<=d->d<=n->∀ e,f<=e->e<d->0<=W d e/\W d e<a_ s D e:=by
 intro d
 induction d with
 | zero=>intro _ _ e _ he;omega
 | succ d ih =>
  intro hf hd e he hed
  rcases Nat.lt_or_ge e d with q | q
  ·rw[h.ahead Gd (by omega) (by omega) q];exact ih (by omega) (by omega) e he q
  ·obtain rfl:e=d:=by omega
   have p:=Gd.pos (show e<n by omega)
   rw[h.at_ Gd he (by omega)]
   exact⟨Int.emod_nonneg _ (by omega),Int.emod_lt_of_pos _ p.1⟩
theorem Dn.front(h:Dn n s D f W)(Gd:Good n s D):∀ d,f<=d->d<=n->∀ i,i<f->W d i=W f i:=by
 intro d
 induction d with
 | zero=>intro h1 _ i hi;omega
 | succ d ih =>
  intro hf hd i hi
  rcases Nat.lt_or_ge d f with q | q
  ·rw[show d+1=f by omega]
  ·rw[h.ahead Gd q (by omega) (by omega)];exact ih q (by omega) i hi
theorem Dn.run(h:Dn n s D f W)(Gd:Good n s D):∀ k d,f<=d->d+k=n->G n s D k d (W d)->∀ i,i<n->W n i=0
 | 0,d,hf,hn,g,i,hi=>by
  rw[Nat.add_zero] at hn
  subst hn
  have k:=h.kept Gd d hf (Nat.le_refl _) i hi
  exact iY k.1 k.2 (g i hi)
 | k+1,d,hf,hn,g,i,hi=>by
  refine h.run Gd k (d+1) (by omega) (by omega) (Gd.u5 (by omega) (λj hj=>?_) g.2) i hi
  rw[h.ws d hf (by omega) j hj]
  have:=eX (1*W d j+-(W d d/a_ s D d)*D d j) (s j)
  rw[show 1*W d j+-(W d d/a_ s D d)*D d j=W d j-W d d/a_ s D d*D d j by grind] at this
  rw[show 1*W d j+-(W d d/a_ s D d)*D d j=W d j-W d d/a_ s D d*D d j by grind]
  exact this
theorem Dn.away(h:Dn n s D f W)(Gd:Good n s D):∀ d,f<=d->d<=n->∀ k,f+k=n->G n s D k f λi=>W f i-W d i:=by
 intro d
 induction d with
 | zero =>
  intro hf _ k hn
  obtain rfl:f=0:=by omega
  exact G.ext hn (λi _=>by omega) (G.zero hn)
 | succ d ih =>
  intro hf hd k hn
  rcases Nat.lt_or_ge d f with q | q
  ·rw[show d+1=f by omega]
   exact G.ext hn (λi _=>by omega) (G.zero hn)
  ·refine Gd.u5 hn (λi hi=>?_) (G.add hn (ih q (by omega) k hn) (G.mul (W d d/a_ s D d) hn (Gd.row (show d<n by omega) hn q)))
   rw[h.ws d q (by omega) i hi]
   have:=zi (1*W d i+-(W d d/a_ s D d)*D d i) (s i)
   obtain⟨c,hc⟩:=this
   exact⟨c,by rw[← hc];grind⟩
theorem G.small(Gd:Good n s D):∀ k d (v:dG),d+k=n->(∀ i,i<n->0<=v i/\v i<s i)->(∀ i,d<=i->i<n->v i<a_ s D i)->G n s D k d v->∀ i,i<n->v i=0
 | 0,d,v,hn,h0,_,g,i,hi=>iY (h0 i hi).1 (h0 i hi).2 (g i hi)
 | k+1,d,v,hn,h0,h1,g,i,hi=>by
  have z:v d=0:=iY (h0 d (by omega)).1 (h1 d (Nat.le_refl _) (by omega)) g.1
  refine G.small Gd k (d+1) v (by omega) h0 (λj hj=>h1 j (by omega)) (G.ext (by omega) (λj hj=>?_) g.2) i hi
  rw[z];simp
theorem vv(Gd:Good n s D)(W:Nat->Nat->dG)(hW:∀ d,d<n->Dn n s D (d+1) (W d))(h0:∀ d,d<n->∀ i,i<n->W d (d+1) i=D d i)(hD:∀ d,d<n->∀ i,i<n->D' d i=W d n i) :
  Good n s D'/\(∀ d,d<n->a_ s D' d=a_ s D d)/\(∀ d,d<n->∀ e,d<e->e<n->D' d e<a_ s D e)/\(∀ d,d<n->D' d d=0->∀ i,i<n->D' d i=0)/\(∀ k d,d+k=n->∀ w,G n s D k d w->G n s D' k d w):=by
 have dg:∀ d,d<n->∀ i,i<=d->D' d i=D d i:=λd hd i hi=>by
  rw[hD d hd i (by omega),(hW d hd).front Gd n (by omega) (Nat.le_refl _) i (by omega),h0 d hd i (by omega)]
 have st:∀ d,d<n->a_ s D' d=a_ s D d:=λd hd=>by
  unfold a_;rw[dg d hd d (Nat.le_refl _)]
 have RH:∀ k d,d+k=n->∀ w,G n s D k d w->G n s D' k d w:=by
  intro k
  induction k with
  | zero=>intro d _ w h;exact h
  | succ k ih =>
   intro d hn w h
   have hd:d<n:=by omega
   refine⟨by rw[st d hd];exact h.1,ih (d+1) (by omega) _ ?_⟩
   rw[st d hd]
   refine G.ext (by omega) (λi hi=>?_) (G.add (by omega) h.2 (G.mul (w d/a_ s D d) (by omega) ((hW d hd).away Gd n (by omega) (Nat.le_refl _) k (by omega))))
   show w i-w d/a_ s D d*D d i+w d/a_ s D d*(W d (d+1) i-W d n i)=_
   rw[h0 d hd i hi,hD d hd i hi];grind
 have good:Good n s D':=Gd.Fy (λd hd i hi=>by rw[hD d hd i hi];exact(hW d hd).kept Gd n (by omega) (Nat.le_refl _) i hi) (λd hd i hi=>by rw[dg d hd i (by omega)];exact Gd.wa d hd i hi) (λd hd=>by rw[st d hd];exact Gd.dv d hd) RH
 have lt:∀ d,d<n->∀ e,d<e->e<n->D' d e<a_ s D e:=λd hd e he hen=>by
  rw[hD d hd e hen];exact((hW d hd).low Gd n (by omega) (Nat.le_refl _) e (by omega) hen).2
 refine⟨good,st,lt,λd hd z=>?_,RH⟩
 have h1:=good.own (d:=d) (k:=n-d-1) (by omega)
 have h2:=h1.2
 refine G.small good (n-d-1) (d+1) (D' d) (by omega) (good.jg d hd) (λi h1 h2=>by rw[st i h2];exact lt d hd i (by omega) h2) (G.ext (by omega) (λi hi=>?_) h2)
 rw[z];simp
end
def c_:Nat->(Nat->Int)->Int
 | 0,_=>0
 | m+1,f=>c_ m f+f m
theorem kx(a b:Int)(f g h:Nat->Int):∀ m,(∀ l,l<m->h l=a*f l+b*g l)->c_ m h=a*c_ m f+b*c_ m g
 | 0,_=>by simp[c_]
 | m+1,e=>by
  rw[c_,c_,c_,kx a b f g h m λl hl=>e l (by omega),e m (by omega)];grind
theorem eM{f g:Nat->Int}:∀ {m:Nat},(∀ l,l<m->f l=g l)->c_ m f=c_ m g
 | 0,_=>rfl
 | m+1,e=>by rw[c_,c_,eM λl hl=>e l (by omega),e m (by omega)]
theorem i8:∀ m,c_ m (λ_=>0)=0
 | 0=>rfl
 | m+1=>by rw[c_,i8 m];rfl
theorem i9(k:Nat)(a:Int):∀ m,k<m->∀ f:Nat->Int,(∀ l,l<m->f l=if l=k then a else 0)->c_ m f=a
 | 0,h,_,_=>by omega
 | m+1,h,f,e=>by
  rw[c_]
  by_cases z:k=m
  ·subst z
   rw[eM (g:=λ_=>0) λl hl=>by rw[e l (by omega),if_neg (by omega)],i8,e k (by omega),if_pos rfl];omega
  ·rw[i9 k a m (by omega) f λl hl=>e l (by omega),e m (by omega),if_neg (by omega)];omega
def Led(n:Nat)(s:dG)(m:Nat)(A:Nat->dG)(v P:dG):Prop:=∀ i,i<n->s i∣v i-c_ m λl=>P l*A l i
variable{A:Nat->dG}{m:Nat}
theorem Led.mix{v w x P Q R:dG}(h1:Led n s m A v P)(h2:Led n s m A w Q)(hx:∀ i,i<n->s i∣x i-(a*v i+b*w i))(hR:∀ l,l<m->R l=a*P l+b*Q l):Led n s m A x R:=λi hi=>by
 obtain⟨c1,e1⟩:=h1 i hi
 obtain⟨c2,e2⟩:=h2 i hi
 obtain⟨c3,e3⟩:=hx i hi
 rw[kx a b (λl=>P l*A l i) (λl=>Q l*A l i) (λl=>R l*A l i) m λl hl=>by rw[hR l hl];grind]
 exact⟨a*c1+b*c2+c3,by grind⟩
def bI:Nat->(Nat->Int)->Int
 | 0,_=>1
 | m+1,f=>bI m f*f m
theorem rR{f g h:Nat->Int}:∀ {m:Nat},(∀ l,l<m->f l=g l*h l)->bI m f=bI m g*bI m h
 | 0,_=>rfl
 | m+1,e=>by rw[bI,bI,bI,rR λl hl=>e l (by omega),e m (by omega)];grind
theorem iV{f g:Nat->Int}:∀ {m:Nat},(∀ l,l<m->f l=g l)->bI m f=bI m g
 | 0,_=>rfl
 | m+1,e=>by rw[bI,bI,iV λl hl=>e l (by omega),e m (by omega)]
theorem kQ{f:Nat->Int}:∀ {m:Nat},(∀ l,l<m->0<f l)->0<bI m f
 | 0,_=>(by decide:(0:Int)<1)
 | m+1,e=>Int.mul_pos (kQ λl hl=>e l (by omega)) (e m (by omega))
def vf(xs:List Int):dG:=λi=>xs.getD i 0
variable{xs:List Int}
theorem aT(h:i<xs.length):vf xs i=xs[i]:=by
 unfold vf;rw[List.getD_eq_getElem?_getD,List.getElem?_eq_getElem h];rfl
theorem qp(h:xs.length<=i):vf xs i=0:=by
 unfold vf;rw[List.getD_eq_getElem?_getD,List.getElem?_eq_none h];rfl
def oo(xs:List Int)(a:Int)(ys:List Int)(b:Int):List Int:=(xs.zip ys).map λz=>a*z.1+b*z.2
def zJ(xs sizes:List Int):List Int:=(xs.zip sizes).map λz=>z.1%z.2
variable{ys:List Int}
theorem b_:(oo xs a ys b).length=min xs.length ys.length:=by simp[oo]
theorem i4:(zJ xs ys).length=min xs.length ys.length:=by simp[zJ]
theorem fq(h1:i<xs.length)(h2:i<ys.length):vf (oo xs a ys b) i=a*vf xs i+b*vf ys i:=by
 rw[aT (by rw[b_];omega),aT h1,aT h2]
 simp[oo]
theorem jr(h1:i<xs.length)(h2:i<ys.length):vf (zJ xs ys) i=vf xs i%vf ys i:=by
 rw[aT (by rw[i4];omega),aT h1,aT h2]
 simp[zJ]
theorem sS(hl:xs.length=ys.length)(h:∀ i,i<xs.length->vf xs i=vf ys i):xs=ys:=by
 refine List.ext_getElem hl λi h1 h2=>?_
 have:=h i h1
 rwa [aT h1,aT h2] at this
theorem g8(n:Nat)(i:Nat):vf (List.replicate n 0) i=0:=by
 rcases Nat.lt_or_ge i n with h | h
 ·rw[aT (by simpa using h)];simp
 ·rw[qp (by simpa using h)]
def Bd(B:Nat)(xs:List Int):Prop:=∀ x∈xs,x.natAbs<2^B
theorem Bd.mono{B C:Nat}(h:Bd B xs)(hc:B<=C):Bd C xs:=λx hx=>Nat.lt_of_lt_of_le (h x hx) (Nat.pow_le_pow_right (by decide) hc)
theorem Bd.vf{B:Nat}{xs:List Int}(h:Bd B xs)(i:Nat):(vf xs i).natAbs<2^B:=by
 rcases Nat.lt_or_ge i xs.length with q | q
 ·rw[aT q];exact h _ (List.getElem_mem q)
 ·rw[qp q];exact Nat.two_pow_pos B
theorem w6{A B:Nat}(ha:a.natAbs<2^A)(hb:b.natAbs<2^B):(a*b).natAbs<2^(A+B):=by
 rw[Int.natAbs_mul,Nat.pow_add]
 have h0:0<2^A:=Nat.two_pow_pos A
 have h1:0<2^B:=Nat.two_pow_pos B
 exact Nat.mul_lt_mul_of_lt_of_le ha (Nat.le_of_lt hb) h1
theorem Gv{A:Nat}(ha:a.natAbs<2^A)(hb:b.natAbs<2^A):(a+b).natAbs<2^(A+1):=by
 rw[Nat.pow_succ];omega
theorem Bd.mix{A B:Nat}(hx:Bd B xs)(hy:Bd B ys)(ha:a.natAbs<2^A)(hb:b.natAbs<2^A):Bd (A+B+1) (oo xs a ys b):=by
 intro z hz
 obtain⟨w,hw,rfl⟩:=List.mem_map.mp hz
 have:=List.of_mem_zip (a:=w.1) (b:=w.2) hw
 exact Gv (w6 ha (hx _ this.1)) (w6 hb (hy _ this.2))
abbrev Row:=List Int×List Int
def row(rows:List Row)(d:Nat):Row:=rows.getD d ([],[])
def DD(rows:List Row):Nat->dG:=λd=>vf (row rows d).1
def PP(rows:List Row):Nat->dG:=λd=>vf (row rows d).2
structure Wf (n m:Nat) (rows:List Row):Prop where
 len:rows.length=n
 l1:∀ r∈rows,r.1.length=n
 l2:∀ r∈rows,r.2.length=m
variable{rows:List Row}
theorem je(h:d<rows.length):row rows d=rows[d]:=by
 unfold row;rw[List.getD_eq_getElem?_getD,List.getElem?_eq_getElem h];rfl
theorem Wf.qI(w:Wf n m rows)(h:d<n):(row rows d).1.length=n:=by
 rw[je (by rw[w.len];exact h)];exact w.l1 _ (List.getElem_mem _)
theorem Wf.at2(w:Wf n m rows)(h:d<n):(row rows d).2.length=m:=by
 rw[je (by rw[w.len];exact h)];exact w.l2 _ (List.getElem_mem _)
def qH(sizes:List Int)(r:Row)(a:Int)(q:Row)(b:Int):Row:=(zJ (oo r.1 a q.1 b) sizes,oo r.2 a q.2 b)
def az(c:Int->Int->Int×Int)(sizes:List Int)(rows:List Row)(left:Row):Nat->Row
 | 0=>left
 | d+1 =>
  let l:=az c sizes rows left d
  let st:=a_ (vf sizes) (DD rows) d
  let nt:=vf l.1 d
  qH sizes l (st/(Int.gcd st nt:Nat)) (row rows d) (-(nt/(Int.gcd st nt:Nat)))
def eo(c:Int->Int->Int×Int)(sizes:List Int)(rows:List Row)(left:Row)(d:Nat):Row :=
 let l:=az c sizes rows left d
 let st:=a_ (vf sizes) (DD rows) d
 let nt:=vf l.1 d
 qH sizes (row rows d) (c st nt).1 l (c st nt).2
def cF(c:Int->Int->Int×Int)(sizes:List Int)(rows:List Row)(left:Row)(n:Nat):List Row:=(List.range n).map (eo c sizes rows left)
variable{left:Row}{sizes:List Int}{c:Int->Int->Int×Int}
theorem c7(w:Wf n m rows)(hs:sizes.length=n)(h1:left.1.length=n)(h2:left.2.length=m):∀ d,d<=n->(az c sizes rows left d).1.length=n/\(az c sizes rows left d).2.length=m
 | 0,_=>⟨h1,h2⟩
 | d+1,hd=>by
  obtain⟨i1,i2⟩:=c7 w hs h1 h2 d (by omega)
  have e1:=w.qI (d:=d) (by omega);have e2:=w.at2 (d:=d) (by omega)
  simp only[az,qH]
  rw[i4,b_,b_]
  exact⟨by omega,by omega⟩
theorem kL(h:d<n):row (cF c sizes rows left n) d=eo c sizes rows left d:=by
 rw[je (by simp[cF,h])];simp[cF]
theorem AS(w:Wf n m rows)(hs:sizes.length=n)(h1:left.1.length=n)(h2:left.2.length=m):Wf n m (cF c sizes rows left n):=by
 have key:∀ d,d<n->(eo c sizes rows left d).1.length=n/\(eo c sizes rows left d).2.length=m:=λd hd=>by
  obtain⟨i1,i2⟩:=c7 (c:=c) w hs h1 h2 d (by omega)
  have e1:=w.qI (d:=d) hd;have e2:=w.at2 (d:=d) hd
  simp only[eo,qH]
  rw[i4,b_,b_]
  exact⟨by omega,by omega⟩
 refine⟨by simp[cF],λr hr=>?_,λr hr=>?_⟩
 ·obtain⟨d,hd,rfl⟩:=List.mem_map.mp hr
  exact(key d (List.mem_range.mp hd)).1
 ·obtain⟨d,hd,rfl⟩:=List.mem_map.mp hr
  exact(key d (List.mem_range.mp hd)).2
theorem gL(h:0<a):0<(Int.gcd a b:Int):=by
 have:=Int.gcd_pos_of_ne_zero_left b (show a≠0 by omega);omega
theorem JH(w:Wf n m rows)(hs:sizes.length=n)(h1:left.1.length=n)(h2:left.2.length=m)(Gd:Good n (vf sizes) (DD rows))(h0:∀ i,i<n->0<=vf left.1 i/\vf left.1 i<vf sizes i)
  (hc:∀ d,d<n->(c (a_ (vf sizes) (DD rows) d) (vf (az c sizes rows left d).1 d)).1*a_ (vf sizes) (DD rows) d+(c (a_ (vf sizes) (DD rows) d) (vf (az c sizes rows left d).1 d)).2*vf (az c sizes rows left d).1 d=(Int.gcd (a_ (vf sizes) (DD rows) d) (vf (az c sizes rows left d).1 d):Nat)) :
  Tk n (vf sizes) (DD rows) (DD (cF c sizes rows left n)) (λd=>vf (az c sizes rows left d).1) (λd=>(c (a_ (vf sizes) (DD rows) d) (vf (az c sizes rows left d).1 d)).1) (λd=>(c (a_ (vf sizes) (DD rows) d) (vf (az c sizes rows left d).1 d)).2) (λd=>(Int.gcd (a_ (vf sizes) (DD rows) d) (vf (az c sizes rows left d).1 d):Nat)) where
 gp:=λd hd=>gL (Gd.pos hd).1
 bz:=hc
 g1:=λd hd=>Int.gcd_dvd_left ..
 g2:=λd hd=>Int.gcd_dvd_right ..
 La:=λd hd i hi=>by
  obtain⟨i1,i2⟩:=c7 (c:=c) w hs h1 h2 d (by omega)
  have e1:=w.qI (d:=d) hd
  show vf (row (cF c sizes rows left n) d).1 i=_
  rw[kL hd]
  simp only[eo,qH]
  rw[jr (by rw[b_];omega) (by omega),fq (by omega) (by omega)]
  rfl
 JQ:=λd hd i hi=>by
  obtain⟨i1,i2⟩:=c7 (c:=c) w hs h1 h2 d (by omega)
  have e1:=w.qI (d:=d) hd
  simp only[az,qH]
  rw[jr (by rw[b_];omega) (by omega),fq (by omega) (by omega)]
  rfl
 l0:=h0
def CB(c:Int->Int->Int×Int):Prop:=∀ a b:Int,0<a->a<=360->0<=b->b<=360->(c a b).1*a+(c a b).2*b=(Int.gcd a b:Nat)/\(c a b).1.natAbs<2^20/\(c a b).2.natAbs<2^20
theorem ka(h:0<a)(h2:a<=360):0<a/(Int.gcd a b:Nat)/\a/(Int.gcd a b:Nat)<=360:=by
 have g:=gL (b:=b) h
 obtain⟨q,hq⟩:((Int.gcd a b:Nat):Int)∣a:=Int.gcd_dvd_left ..
 have e:a/(Int.gcd a b:Nat)=q:=by
  have:((Int.gcd a b:Nat):Int)≠0:=by omega
  exact Int.ediv_eq_of_eq_mul_right this hq
 rw[e]
 have q0:0<q:=by
  rcases Int.lt_or_le 0 q with z | z
  ·exact z
  ·have:=Int.mul_nonpos_of_nonneg_of_nonpos (Int.le_of_lt g) z;omega
 refine⟨q0,?_⟩
 have:1*q<=(Int.gcd a b:Nat)*q:=Int.mul_le_mul_of_nonneg_right (by omega) (by omega)
 omega
theorem lY(h:0<a)(h1:0<=b)(h2:b<=360):0<=b/(Int.gcd a b:Nat)/\b/(Int.gcd a b:Nat)<=360:=by
 have g:=gL (b:=b) h
 exact⟨Int.ediv_nonneg h1 (by omega),Int.le_trans (Int.ediv_le_self _ h1) h2⟩
def Zf(k m:Nat)(P:dG):Prop:=∀ l,k<=l->l<m->P l=0
structure St (n m:Nat) (sizes:List Int) (A:Nat->dG) (k:Nat) (rows:List Row):Prop where
 wf:Wf n m rows
 hs:sizes.length=n
 sm:∀ i,i<n->vf sizes i<=360
 gd:Good n (vf sizes) (DD rows)
 led:∀ d,d<n->Led n (vf sizes) m A (DD rows d) (PP rows d)
 zf:∀ d,d<n->Zf k m (PP rows d)
 bd:∀ d,d<n->Bd (150*k+1) (row rows d).2
 cl:∀ l,l<k->G n (vf sizes) (DD rows) n 0 (A l)
structure Lv (n m:Nat) (sizes:List Int) (A:Nat->dG) (k:Nat) (left:Row):Prop where
 l1:left.1.length=n
 l2:left.2.length=m
 km:k<m
 at_:∀ i,i<n->vf left.1 i=A k i
 jg:∀ i,i<n->0<=A k i/\A k i<vf sizes i
 un:∀ l,l<m->vf left.2 l=if l=k then 1 else 0
theorem kG(h:St n m sizes A k rows)(L:Lv n m sizes A k left):∀ d,d<=n->∀ i,i<n->0<=vf (az c sizes rows left d).1 i/\vf (az c sizes rows left d).1 i<vf sizes i
 | 0,_,i,hi=>by show 0<=vf left.1 i/\vf left.1 i<vf sizes i;rw[L.at_ i hi];exact L.jg i hi
 | d+1,hd,i,hi=>by
  obtain⟨i1,i2⟩:=c7 (c:=c) h.wf h.hs L.l1 L.l2 d (by omega)
  have e1:=h.wf.qI (d:=d) (by omega)
  have hs:=h.hs
  simp only[az,qH]
  rw[jr (by rw[b_];omega) (by omega)]
  have:=h.gd.sp i hi
  exact⟨Int.emod_nonneg _ (by omega),Int.emod_lt_of_pos _ this⟩
theorem St.tk(h:St n m sizes A k rows)(L:Lv n m sizes A k left)(cb:CB c):Tk n (vf sizes) (DD rows) (DD (cF c sizes rows left n)) (λd=>vf (az c sizes rows left d).1) (λd=>(c (a_ (vf sizes) (DD rows) d) (vf (az c sizes rows left d).1 d)).1) (λd=>(c (a_ (vf sizes) (DD rows) d) (vf (az c sizes rows left d).1 d)).2) (λd=>(Int.gcd (a_ (vf sizes) (DD rows) d) (vf (az c sizes rows left d).1 d):Nat)) :=
 JH h.wf h.hs L.l1 L.l2 h.gd (λi hi=>by rw[L.at_ i hi];exact L.jg i hi) λd hd=>by
  have p:=h.gd.pos hd
  have q:=kG (c:=c) h L d (by omega) d hd
  have s:=h.sm d hd
  exact(cb _ _ p.1 (by omega) q.1 (by omega)).1
theorem qk(h:St n m sizes A k rows)(L:Lv n m sizes A k left):∀ d,d<=n->Led n (vf sizes) m A (vf (az c sizes rows left d).1) (vf (az c sizes rows left d).2)
 | 0,_=>λi hi=>by
  show vf sizes i∣vf left.1 i-c_ m λl=>vf left.2 l*A l i
  rw[L.at_ i hi,i9 k (A k i) m L.km (λl=>vf left.2 l*A l i) λl hl=>by
   rw[L.un l hl]
   by_cases z:l=k
   ·subst z;rw[if_pos rfl,if_pos rfl,Int.one_mul]
   ·rw[if_neg z,if_neg z,Int.zero_mul]]
  rw[Int.sub_self];exact Int.dvd_zero _
 | d+1,hd=>by
  obtain⟨i1,i2⟩:=c7 (c:=c) h.wf h.hs L.l1 L.l2 d (by omega)
  have e1:=h.wf.qI (d:=d) (by omega);have e2:=h.wf.at2 (d:=d) (by omega)
  have hs:=h.hs
  refine Led.mix (a:=a_ (vf sizes) (DD rows) d/(Int.gcd (a_ (vf sizes) (DD rows) d) (vf (az c sizes rows left d).1 d):Nat)) (b:=-(vf (az c sizes rows left d).1 d/(Int.gcd (a_ (vf sizes) (DD rows) d) (vf (az c sizes rows left d).1 d):Nat))) (qk h L d (by omega)) (h.led d (by omega)) (λi hi=>?_) λl hl=>?_
  ·simp only[az,qH]
   rw[jr (by rw[b_];omega) (by omega),fq (by omega) (by omega)]
   exact eX _ _
  ·simp only[az,qH]
   rw[fq (by omega) (by omega)];rfl
theorem tU(h:St n m sizes A k rows)(L:Lv n m sizes A k left):∀ d,d<=n->Zf (k+1) m (vf (az c sizes rows left d).2)/\vf (az c sizes rows left d).2 k=bI d λe=>a_ (vf sizes) (DD rows) e/(Int.gcd (a_ (vf sizes) (DD rows) e) (vf (az c sizes rows left e).1 e):Nat)
 | 0,_=>⟨λl h1 h2=>by show vf left.2 l=0;rw[L.un l h2,if_neg (by omega)],by show vf left.2 k=1;rw[L.un k L.km,if_pos rfl]⟩
 | d+1,hd=>by
  obtain⟨i1,i2⟩:=c7 (c:=c) h.wf h.hs L.l1 L.l2 d (by omega)
  have e2:=h.wf.at2 (d:=d) (by omega)
  obtain⟨j1,j2⟩:=tU h L d (by omega)
  have z:=h.zf d (by omega)
  have km:=L.km
  constructor
  ·intro l h1 h2
   simp only[az,qH]
   rw[fq (by omega) (by omega),j1 l h1 h2,show vf (row rows d).2 l=0 from z l (by omega) h2];simp
  ·rw[bI,← j2]
   simp only[az,qH]
   rw[fq (by omega) (by omega),show vf (row rows d).2 k=0 from z k (Nat.le_refl _) km]
   grind
theorem oF(h:St n m sizes A k rows)(L:Lv n m sizes A k left)(hn:n<=6):∀ d,d<=n->Bd (150*k+1+11*d) (az c sizes rows left d).2
 | 0,_=>λx hx=>by
  have hx:x∈left.2:=hx
  obtain⟨i,hi,rfl⟩:=List.mem_iff_getElem.mp hx
  have hm:i<m:=by rw[← L.l2];exact hi
  have e:=L.un i hm
  rw[aT hi] at e
  show (left.2[i]).natAbs<_
  rw[e]
  have:2^1<=2^(150*k+1+11*0):=Nat.pow_le_pow_right (by decide) (by omega)
  refine Nat.lt_of_lt_of_le ?_ this
  split
  ·decide
  ·decide
 | d+1,hd=>by
  have p:=h.gd.pos (show d<n by omega)
  have s:=h.sm d (by omega)
  have q:=kG (c:=c) h L d (by omega) d (by omega)
  have a1:=ka (b:=vf (az c sizes rows left d).1 d) p.1 (by omega)
  have a2:=lY (b:=vf (az c sizes rows left d).1 d) p.1 q.1 (by omega)
  have:=Bd.mix (A:=9+1) (oF h L hn d (by omega)) ((h.bd d (by omega)).mono (show 150*k+1<=150*k+1+11*d by omega)) (a:=a_ (vf sizes) (DD rows) d/(Int.gcd (a_ (vf sizes) (DD rows) d) (vf (az c sizes rows left d).1 d):Nat)) (b:=-(vf (az c sizes rows left d).1 d/(Int.gcd (a_ (vf sizes) (DD rows) d) (vf (az c sizes rows left d).1 d):Nat))) (by omega) (by omega)
  exact this.mono (by omega)
theorem St.next(h:St n m sizes A k rows)(L:Lv n m sizes A k left)(cb:CB c)(hn:n<=6):St n m sizes A (k+1) (cF c sizes rows left n):=by
 have T:=h.tk L cb
 have hs:=h.hs
 refine⟨AS h.wf h.hs L.l1 L.l2,h.hs,h.sm,T.good h.gd,λd hd=>?_,λd hd=>?_,λd hd=>?_,λl hl=>?_⟩
 ·obtain⟨i1,i2⟩:=c7 (c:=c) h.wf h.hs L.l1 L.l2 d (by omega)
  have e1:=h.wf.qI (d:=d) hd;have e2:=h.wf.at2 (d:=d) hd
  unfold DD PP
  rw[kL hd]
  refine Led.mix (a:=(c (a_ (vf sizes) (DD rows) d) (vf (az c sizes rows left d).1 d)).1) (b:=(c (a_ (vf sizes) (DD rows) d) (vf (az c sizes rows left d).1 d)).2) (h.led d hd) (qk (c:=c) h L d (by omega)) (λi hi=>?_) λl hl=>?_
  ·simp only[eo,qH]
   rw[jr (by rw[b_];omega) (by omega),fq (by omega) (by omega)]
   exact eX _ _
  ·simp only[eo,qH]
   rw[fq (by omega) (by omega)];rfl
 ·obtain⟨i1,i2⟩:=c7 (c:=c) h.wf h.hs L.l1 L.l2 d (by omega)
  have e2:=h.wf.at2 (d:=d) hd
  intro l h1 h2
  unfold PP
  rw[kL hd]
  simp only[eo,qH]
  rw[fq (by omega) (by omega),(tU (c:=c) h L d (by omega)).1 l h1 h2,show vf (row rows d).2 l=0 from h.zf d hd l (by omega) h2];simp
 ·rw[kL hd]
  have p:=h.gd.pos hd
  have s:=h.sm d hd
  have q:=kG (c:=c) h L d (by omega) d hd
  have b:=cb (a_ (vf sizes) (DD rows) d) (vf (az c sizes rows left d).1 d) p.1 (by omega) q.1 (by omega)
  have:=Bd.mix (A:=20) ((h.bd d hd).mono (show 150*k+1<=150*k+1+11*d by omega)) (oF (c:=c) h L hn d (by omega)) b.2.1 b.2.2
  exact this.mono (by omega)
 ·rcases Nat.lt_or_ge l k with q | q
  ·exact(T.main h.gd n 0 (by omega)).1 _ (h.cl l q)
  ·obtain rfl:l=k:=by omega
   exact G.ext (by omega) (λi hi=>L.at_ i hi) (T.main h.gd n 0 (by omega)).2
def aV(idle:List (List Int))(k:Nat)(P:List Int):Nat->List Int
 | 0=>P
 | c+1 =>
  let z:=aV idle k P c
  let r:=idle.getD (k-1-c) []
  oo z 1 r (-(vf z (k-1-c)/vf r (k-1-c)))
def II(idle:List (List Int)):Nat->dG:=λj=>vf (idle.getD j [])
structure zF (n m:Nat) (s:dG) (A:Nat->dG) (k:Nat) (idle:List (List Int)):Prop where
 len:idle.length=k
 l2:∀ j,j<k->(idle.getD j []).length=m
 pos:∀ j,j<k->0<II idle j j
 le:∀ j,j<k->II idle j j<2^60
 zero:∀ j,j<k->∀ l,j<l->l<m->II idle j l=0
 nf:∀ j,j<k->∀ l,l<j->0<=II idle j l/\II idle j l<II idle l l
 uE:∀ j,j<k->Led n s m A (λ_=>0) (II idle j)
variable{idle:List (List Int)}
variable{j:Nat}
section
variable{P:List Int}
theorem zF.bd(h:zF n m s A k idle)(hj:j<k)(hm:k<=m):Bd 60 (idle.getD j []):=λx hx=>by
 obtain⟨l,hl,rfl⟩:=List.mem_iff_getElem.mp hx
 rw[h.l2 j hj] at hl
 have e:II idle j l=(idle.getD j [])[l]'(by rw[h.l2 j hj];exact hl):=aT _
 rw[← e]
 rcases Nat.lt_or_ge l j with q | q
 ·have h1:=h.nf j hj l q
  have h2:=h.le l (by omega)
  omega
 ·rcases Nat.lt_or_ge j l with q2 | q2
  ·rw[h.zero j hj l q2 hl];exact Nat.two_pow_pos _
  ·obtain rfl:l=j:=by omega
   have h1:=h.pos l hj;have h2:=h.le l hj
   omega
theorem span_len(h:zF n m s A k idle)(hP:P.length=m):∀ c,c<=k->(aV idle k P c).length=m
 | 0,_=>hP
 | c+1,hc=>by
  simp only[aV]
  rw[b_,span_len h hP c (by omega),h.l2 _ (by omega)];omega
theorem oG(h:zF n m s A k idle)(hP:P.length=m){c l:Nat}(hc:c<k)(hl:l<m):vf (aV idle k P (c+1)) l=vf (aV idle k P c) l-vf (aV idle k P c) (k-1-c)/II idle (k-1-c) (k-1-c)*II idle (k-1-c) l:=by
 simp only[aV]
 rw[fq (by rw[span_len h hP c (by omega)];exact hl) (by rw[h.l2 _ (by omega)];exact hl)]
 unfold II
 grind
theorem v5(h:zF n m s A k idle)(hP:P.length=m):∀ c,c<=k->∀ l,k<=l->l<m->vf (aV idle k P c) l=vf P l
 | 0,_,_,_,_=>rfl
 | c+1,hc,l,h1,h2=>by
  rw[oG h hP (by omega) h2,h.zero _ (by omega) l (by omega) h2,v5 h hP c (by omega) l h1 h2];simp
theorem uD(h:zF n m s A k idle)(hP:P.length=m)(hm:k<=m):∀ c,c<=k->∀ l,k-c<=l->l<k->0<=vf (aV idle k P c) l/\vf (aV idle k P c) l<II idle l l
 | 0,_,l,h1,h2=>by omega
 | c+1,hc,l,h1,h2=>by
  rw[oG h hP (by omega) (by omega)]
  rcases Nat.lt_or_ge (k-1-c) l with q | q
  ·rw[h.zero _ (by omega) l q (by omega),Int.mul_zero,Int.sub_zero]
   exact uD h hP hm c (by omega) l (by omega) h2
  ·obtain rfl:l=k-1-c:=by omega
   have p:=h.pos (k-1-c) (by omega)
   have e:=Int.emod_def (vf (aV idle k P c) (k-1-c)) (II idle (k-1-c) (k-1-c))
   rw[Int.mul_comm (vf (aV idle k P c) (k-1-c)/_),← e]
   exact⟨Int.emod_nonneg _ (by omega),Int.emod_lt_of_pos _ p⟩
theorem qc(h:zF n m s A k idle)(hP:P.length=m){v:dG}(hv:Led n s m A v (vf P)):∀ c,c<=k->Led n s m A v (vf (aV idle k P c))
 | 0,_=>hv
 | c+1,hc=>by
  refine Led.mix (a:=1) (b:=-(vf (aV idle k P c) (k-1-c)/II idle (k-1-c) (k-1-c))) (qc h hP hv c (by omega)) (h.uE (k-1-c) (by omega)) (λi hi=>?_) λl hl=>?_
  ·rw[Int.mul_zero,Int.add_zero,Int.one_mul,Int.sub_self];exact Int.dvd_zero _
  ·rw[oG h hP (by omega) hl];grind
theorem yj(h:zF n m s A k idle)(hP:P.length=m)(hm:k<=m){B:Nat}(hB:60<=B)(hb:Bd B P):∀ c,c<=k->Bd (B+62*c) (aV idle k P c)
 | 0,_=>hb
 | c+1,hc=>by
  have ih:=yj h hP hm hB hb c (by omega)
  intro x hx
  obtain⟨l,hl,rfl⟩:=List.mem_iff_getElem.mp hx
  rw[span_len h hP (c+1) hc] at hl
  rw[← aT,oG h hP (by omega) hl]
  have p:=h.pos (k-1-c) (by omega)
  have q1:(vf (aV idle k P c) (k-1-c)/II idle (k-1-c) (k-1-c)).natAbs<2^(B+62*c+1):=by
   have h1:=ih.vf (k-1-c)
   have h2:=Int.natAbs_ediv_le_natAbs (vf (aV idle k P c) (k-1-c)) (II idle (k-1-c) (k-1-c))
   rw[Nat.pow_succ];omega
  have q2:(II idle (k-1-c) l).natAbs<2^60:=(h.bd (j:=k-1-c) (by omega) hm).vf l
  have q3:=w6 q1 q2
  have q4:=ih.vf l
  have q5:2^(B+62*c)<=2^(B+62*c+1+60):=Nat.pow_le_pow_right (by decide) (by omega)
  have q6:(2:Nat)^(B+62*(c+1))=2^(B+62*c+1+60)*2:=by rw[← Nat.pow_succ];congr 1
  rw[q6];omega
end
theorem Tk.order{s:dG}{D D' L:Nat->dG}{u v g:Nat->Int}(t:Tk n s D D' L u v g)(Gd:Good n s D):∀ (k d:Nat) (x:Int),d+k=n->G n s D k d (λi=>x*L d i)->bI n (λe=>a_ s D e/g e)∣x*bI d (λe=>a_ s D e/g e)
 | 0,d,x,hn,h=>by
  obtain rfl:d=n:=by omega
  exact Int.dvd_mul_left _ _
 | k+1,d,x,hn,h=>by
  have hd:d<n:=by omega
  obtain⟨a,ha⟩:=t.g1 d hd
  obtain⟨b,hb⟩:=t.g2 d hd
  have gp:=t.gp d hd
  have sp:=(Gd.pos hd).1
  have e1:a_ s D d/g d=a:=by rw[ha];exact Int.mul_ediv_cancel_left a (by omega)
  have e2:L d d/g d=b:=by rw[hb];exact Int.mul_ediv_cancel_left b (by omega)
  have bz:u d*a+v d*b=1:=by
   have:=t.bz d hd
   rw[ha,hb,show u d*(g d*a)+v d*(g d*b)=g d*(u d*a+v d*b) by grind] at this
   have h2:g d*(u d*a+v d*b)=g d*1:=by omega
   exact Int.eq_of_mul_eq_mul_left (by omega) h2
  obtain⟨q,hq⟩:=h.1
  have hax:a∣x:=by
   have h3:g d*(x*b)=g d*(a*q):=by
    have:x*L d d=a_ s D d*q:=hq
    rw[hb,ha] at this;grind
   have h4:x*b=a*q:=Int.eq_of_mul_eq_mul_left (by omega) h3
   exact⟨u d*x+v d*q,by
    have:x=x*(u d*a+v d*b):=by rw[bz,Int.mul_one]
    rw[this]
    have:x*(u d*a+v d*b)=a*(u d*x)+v d*(x*b):=by grind
    rw[this,h4];grind⟩
  obtain⟨y,hy⟩:=hax
  have Ou:q=b*y:=by
   have h3:g d*(a*q)=g d*(a*(b*y)):=by
    have:x*L d d=a_ s D d*q:=hq
    rw[hb,ha,hy] at this;grind
   have ap:a≠0:=by intro z;rw[z,Int.mul_zero] at ha;omega
   exact Int.eq_of_mul_eq_mul_left ap (Int.eq_of_mul_eq_mul_left (by omega) h3)
  have h2:=h.2
  have q1:x*L d d/a_ s D d=q:=by
   show x*L d d/a_ s D d=q
   rw[show x*L d d=a_ s D d*q from hq];exact Int.mul_ediv_cancel_left q (by omega)
  have:=t.order Gd k (d+1) y (by omega) (Gd.u5 (by omega) (λi hi=>?_) h2)
  ·rw[bI,e1] at this
   rw[hy,show a*y*bI d (λe=>a_ s D e/g e)=y*(bI d (λe=>a_ s D e/g e)*a) by grind]
   exact this
  ·show s i∣y*L (d+1) i-(x*L d i-x*L d d/a_ s D d*D d i)
   rw[q1,t.JQ d hd i hi,e1,e2]
   obtain⟨z,hz⟩:=eX (a*L d i+-b*D d i) (s i)
   refine⟨y*z,?_⟩
   have:(a*L d i+-b*D d i)%s i=a*L d i+-b*D d i+s i*z:=by omega
   rw[this,hy,Ou];grind
theorem G.sum(Gd:Good n (vf sizes) (DD rows)){P:dG}:∀ k',(∀ l,l<k'->G n (vf sizes) (DD rows) n 0 (A l))->G n (vf sizes) (DD rows) n 0 (λi=>c_ k' λl=>P l*A l i)
 | 0,_=>G.zero (by omega)
 | k'+1,h=>G.ext (by omega) (λi _=>rfl) (G.add (by omega) (G.sum Gd k' λl hl=>h l (by omega)) (G.mul (P k') (by omega) (h k' (by omega))))
def nq(m k:Nat):List Int:=(List.range m).map λl=>if l=k then 1 else 0
theorem va{l:Nat}(h:l<m):vf (nq m k) l=if l=k then 1 else 0:=by
 rw[aT (by simp[nq,h])];simp[nq]
def AA(Ls:List (List Int)):Nat->dG:=λl=>vf (Ls.getD l [])
def bW(Ls:List (List Int))(m k:Nat):Row:=(Ls.getD k [],nq m k)
def RK(c:Int->Int->Int×Int)(sizes:List Int)(Ls:List (List Int))(n m:Nat):Nat->List Row×List (List Int)
 | 0=>(List.replicate n (List.replicate n 0,List.replicate m 0),[])
 | k+1 =>
  (cF c sizes (RK c sizes Ls n m k).1 (bW Ls m k) n,(RK c sizes Ls n m k).2++[aV (RK c sizes Ls n m k).2 k (az c sizes (RK c sizes Ls n m k).1 (bW Ls m k) n).2 k])
structure Lb (n m:Nat) (sizes:List Int) (Ls:List (List Int)):Prop where
 len:Ls.length=m
 at_:∀ l,l<m->(Ls.getD l []).length=n
 jg:∀ l,l<m->∀ i,i<n->0<=AA Ls l i/\AA Ls l i<vf sizes i
structure AX (n m:Nat) (sizes:List Int) (Ls:List (List Int)) (k:Nat) (r:List Row×List (List Int)):Prop where
 st:St n m sizes (AA Ls) k r.1
 uE:zF n m (vf sizes) (AA Ls) k r.2
 pr:bI k (λj=>II r.2 j j)*bI n (a_ (vf sizes) (DD r.1))=bI n (vf sizes)
 ord:∀ j,j<k->∀ P:dG,Zf (j+1) m P->Led n (vf sizes) m (AA Ls) (λ_=>0) P->II r.2 j j∣P j
variable{x:List Int}
section
variable{Ls:List (List Int)}
theorem iI(h:j<idle.length):II (idle++[x]) j=II idle j:=by
 unfold II
 rw[List.getD_eq_getElem?_getD,List.getElem?_append_left h,← List.getD_eq_getElem?_getD]
theorem j0:II (idle++[x]) idle.length=vf x:=by
 unfold II
 rw[List.getD_eq_getElem?_getD,List.getElem?_append_right (Nat.le_refl _)];simp
theorem Bb(h:j<idle.length):(idle++[x]).getD j []=idle.getD j []:=by
 rw[List.getD_eq_getElem?_getD,List.getElem?_append_left h,← List.getD_eq_getElem?_getD]
theorem Bk:(idle++[x]).getD idle.length []=x:=by
 rw[List.getD_eq_getElem?_getD,List.getElem?_append_right (Nat.le_refl _)];simp
theorem qt{f:Nat->Int}{k:Nat}:∀ {m:Nat},k<m->(∀ l,k<l->l<m->f l=0)->c_ m f=c_ k f+f k
 | 0,h,_=>by omega
 | m+1,h,e=>by
  rw[c_]
  by_cases z:k=m
  ·subst z;rfl
  ·rw[qt (m:=m) (by omega) λl h1 h2=>e l h1 (by omega),e m (by omega) (by omega)];omega
theorem vC:∀ {n:Nat} {f:Nat->Int},(∀ i,i<n->0<f i/\f i<=360)->bI n f<=360^n
 | 0,f,_=>by simp[bI]
 | n+1,f,h=>by
  rw[bI,Int.pow_succ]
  exact Int.mul_le_mul (vC λi hi=>h i (by omega)) (h n (by omega)).2 (by have:=(h n (by omega)).1;omega) (Int.pow_nonneg (by decide))
theorem M7(h:n<=6):(360:Int)^n<=360^6:=by
 have:n=0\/n=1\/n=2\/n=3\/n=4\/n=5\/n=6:=by omega
 rcases this with rfl | rfl | rfl | rfl | rfl | rfl | rfl <;> decide
theorem AX.next{r:List Row×List (List Int)}(h:AX n m sizes Ls k r)(LL:Lb n m sizes Ls)(cb:CB c)(hn:n<=6)(hk:k<m) :
  AX n m sizes Ls (k+1) (cF c sizes r.1 (bW Ls m k) n,r.2++[aV r.2 k (az c sizes r.1 (bW Ls m k) n).2 k]):=by
 have L:Lv n m sizes (AA Ls) k (bW Ls m k):=⟨LL.at_ k hk,by simp[bW,nq],hk,λi hi=>rfl,LL.jg k hk,λl hl=>va hl⟩
 have T:=h.st.tk L cb
 have ll:=c7 (c:=c) h.st.wf h.st.hs L.l1 L.l2 n (Nat.le_refl _)
 have zf:=tU (c:=c) h.st L n (Nat.le_refl _)
 have led:=qk (c:=c) h.st L n (Nat.le_refl _)
 have l0:=T.zero h.st.gd n (Nat.le_refl _)
 have il:r.2.length=k:=h.uE.len
 have out:=v5 h.uE ll.2 k (Nat.le_refl _)
 have jk:vf (aV r.2 k (az c sizes r.1 (bW Ls m k) n).2 k) k=bI n λe=>a_ (vf sizes) (DD r.1) e/(Int.gcd (a_ (vf sizes) (DD r.1) e) (vf (az c sizes r.1 (bW Ls m k) e).1 e):Nat):=by
  rw[out k (Nat.le_refl _) hk];exact zf.2
 have pos:∀ e,e<n->0<a_ (vf sizes) (DD r.1) e/(Int.gcd (a_ (vf sizes) (DD r.1) e) (vf (az c sizes r.1 (bW Ls m k) e).1 e):Nat):=λe he=>by
  have p:=h.st.gd.pos he
  have s:=h.st.sm e he
  exact(ka p.1 (by omega)).1
 have pr:bI (k+1) (λj=>II (r.2++[aV r.2 k (az c sizes r.1 (bW Ls m k) n).2 k]) j j)*bI n (a_ (vf sizes) (DD (cF c sizes r.1 (bW Ls m k) n)))=bI n (vf sizes):=by
  rw[bI,show II (r.2++[aV r.2 k (az c sizes r.1 (bW Ls m k) n).2 k]) k=vf (aV r.2 k (az c sizes r.1 (bW Ls m k) n).2 k) by rw[← il];exact j0]
  rw[iV (g:=λj=>II r.2 j j) λj hj=>by rw[iI (by omega)],← h.pr,jk]
  rw[iV (g:=λd=>((Int.gcd (a_ (vf sizes) (DD r.1) d) (vf (az c sizes r.1 (bW Ls m k) d).1 d):Nat):Int)) λd hd=>T.step h.st.gd hd]
  rw[rR (f:=a_ (vf sizes) (DD r.1)) (g:=λd=>((Int.gcd (a_ (vf sizes) (DD r.1) d) (vf (az c sizes r.1 (bW Ls m k) d).1 d):Nat):Int)) (h:=λe=>a_ (vf sizes) (DD r.1) e/(Int.gcd (a_ (vf sizes) (DD r.1) e) (vf (az c sizes r.1 (bW Ls m k) e).1 e):Nat)) λd hd=>(Int.mul_ediv_cancel' (Int.gcd_dvd_left ..)).symm]
  grind
 have jpos:0<vf (aV r.2 k (az c sizes r.1 (bW Ls m k) n).2 k) k:=by rw[jk];exact kQ pos
 have St':=h.st.next L cb hn
 have jle:vf (aV r.2 k (az c sizes r.1 (bW Ls m k) n).2 k) k<2^60:=by
  have b:bI n (vf sizes)<=360^n:=vC λi hi=>⟨h.st.gd.sp i hi,h.st.sm i hi⟩
  have b2:(360:Int)^n<=360^6:=M7 hn
  have b3:(360:Int)^6<2^60:=by decide
  rw[bI,show II (r.2++[aV r.2 k (az c sizes r.1 (bW Ls m k) n).2 k]) k=vf (aV r.2 k (az c sizes r.1 (bW Ls m k) n).2 k) by rw[← il];exact j0] at pr
  have p1:0<bI k (λj=>II (r.2++[aV r.2 k (az c sizes r.1 (bW Ls m k) n).2 k]) j j):=kQ λj hj=>by rw[iI (by omega)];exact h.uE.pos j hj
  have p2:0<bI n (a_ (vf sizes) (DD (cF c sizes r.1 (bW Ls m k) n))):=kQ λd hd=>(St'.gd.pos hd).1
  generalize bI k (λj=>II (r.2++[aV r.2 k (az c sizes r.1 (bW Ls m k) n).2 k]) j j)=a at *
  generalize bI n (a_ (vf sizes) (DD (cF c sizes r.1 (bW Ls m k) n)))=b' at *
  generalize vf (aV r.2 k (az c sizes r.1 (bW Ls m k) n).2 k) k=x at *
  have e1:1*x<=a*x:=Int.mul_le_mul_of_nonneg_right (by omega) (by omega)
  have e2:a*x*1<=a*x*b':=Int.mul_le_mul_of_nonneg_left (by omega) (by omega)
  omega
 refine⟨St',⟨by simp[il],λj hj=>?_,λj hj=>?_,λj hj=>?_,λj hj l h1 h2=>?_,λj hj l hl=>?_,λj hj=>?_⟩,pr,λj hj P hz hP=>?_⟩
 all_goals
  rcases Nat.lt_or_ge j k with q | q
 ·rw[Bb (by omega)];exact h.uE.l2 j q
 ·obtain rfl:j=r.2.length:=by omega
  rw[Bk];exact span_len h.uE ll.2 k (Nat.le_refl _)
 ·rw[iI (by omega)];exact h.uE.pos j q
 ·obtain rfl:j=r.2.length:=by omega
  rw[j0,il];exact jpos
 ·rw[iI (by omega)];exact h.uE.le j q
 ·obtain rfl:j=r.2.length:=by omega
  rw[j0,il];exact jle
 ·rw[iI (by omega)];exact h.uE.zero j q l h1 h2
 ·obtain rfl:j=r.2.length:=by omega
  rw[j0,out l (by omega) h2];exact zf.1 l (by omega) h2
 ·rw[iI (by omega),iI (by omega)];exact h.uE.nf j q l hl
 ·obtain rfl:j=r.2.length:=by omega
  rw[j0,iI (by omega)];exact uD h.uE ll.2 (by omega) k (Nat.le_refl _) l (by omega) (by omega)
 ·rw[iI (by omega)];exact h.uE.uE j q
 ·obtain rfl:j=r.2.length:=by omega
  rw[j0]
  refine qc h.uE ll.2 (λi hi=>?_) k (Nat.le_refl _)
  have:=led i hi
  rw[show vf (az c sizes r.1 (bW Ls m k) n).1 i=0 from l0 i hi] at this
  exact this
 ·rw[iI (by omega)];exact h.ord j q P hz hP
 ·obtain rfl:j=k:=by omega
  rw[show II (r.2++[aV r.2 j (az c sizes r.1 (bW Ls m j) n).2 j]) j=vf (aV r.2 j (az c sizes r.1 (bW Ls m j) n).2 j) by rw[← il];exact j0,jk]
  have:=T.order h.st.gd n 0 (P j) (by omega) ?_
  ·rwa [bI,Int.mul_one] at this
  ·refine h.st.gd.u5 (by omega) (λi hi=>?_) (G.mul (-1) (by omega) (G.sum (A:=AA Ls) (P:=P) h.st.gd j h.st.cl))
   have e:=hP i hi
   rw[qt hk λl h1 h2=>by rw[hz l (by omega) h2,Int.zero_mul]] at e
   obtain⟨x,hx⟩:=e
   have hx:(0:Int)-(c_ j (λl=>P l*AA Ls l i)+P j*AA Ls j i)=vf sizes i*x:=hx
   show vf sizes i∣P j*AA Ls j i - -1*c_ j λl=>P l*AA Ls l i
   exact⟨-x,by rw[Int.mul_neg];omega⟩
theorem AX.start(hs:sizes.length=n)(hp:∀ i,i<n->0<vf sizes i/\vf sizes i<=360):AX n m sizes Ls 0 (List.replicate n (List.replicate n 0,List.replicate m 0),[]):=by
 have rw0:∀ d,d<n->row (List.replicate n (List.replicate n 0,List.replicate m 0)) d=(List.replicate n 0,List.replicate m 0):=λd hd=>by
  rw[je (by simpa using hd)];simp
 have D0:∀ d,d<n->∀ i,DD (List.replicate n (List.replicate n 0,List.replicate m 0)) d i=0:=λd hd i=>by
  unfold DD;rw[rw0 d hd];exact g8 n i
 have P0:∀ d,d<n->∀ i,PP (List.replicate n (List.replicate n 0,List.replicate m 0)) d i=0:=λd hd i=>by
  unfold PP;rw[rw0 d hd];exact g8 m i
 have st:∀ d,d<n->a_ (vf sizes) (DD (List.replicate n (List.replicate n 0,List.replicate m 0))) d=vf sizes d:=λd hd=>by
  unfold a_;rw[if_pos (D0 d hd d)]
 refine⟨⟨⟨by simp,λr hr=>by rw[List.eq_of_mem_replicate hr];simp,λr hr=>by rw[List.eq_of_mem_replicate hr];simp⟩,hs,λi hi=>(hp i hi).2,⟨λi hi=>(hp i hi).1,λd hd i hi=>?_,λd hd i hi=>D0 d hd i,λd hd=>by rw[st d hd];exact Int.dvd_refl _,λd k hn=>?_⟩,λd hd i hi=>?_,λd hd l _ _=>P0 d hd l,λd hd=>?_,λl hl=>by omega⟩,⟨rfl,λj hj=>by omega,λj hj=>by omega,λj hj=>by omega,λj hj=>by omega,λj hj=>by omega,λj hj=>by omega⟩,?_,λj hj=>by omega⟩
 ·rw[D0 d hd i];have:=(hp i hi).1;omega
 ·exact G.ext (by omega) (λi hi=>by rw[D0 d (by omega) i,Int.mul_zero]) (G.zero (by omega))
 ·rw[D0 d hd i,eM (g:=λ_=>0) λl hl=>by rw[P0 d hd l,Int.zero_mul],i8];exact Int.dvd_zero _
 ·rw[rw0 d hd]
  intro x hx
  rw[List.eq_of_mem_replicate hx];exact Nat.two_pow_pos _
 ·rw[bI,Int.one_mul];exact iV λd hd=>st d hd
theorem AX.all(hs:sizes.length=n)(hp:∀ i,i<n->0<vf sizes i/\vf sizes i<=360)(LL:Lb n m sizes Ls)(cb:CB c)(hn:n<=6):∀ k,k<=m->AX n m sizes Ls k (RK c sizes Ls n m k)
 | 0,_=>AX.start hs hp
 | k+1,hk=>(AX.all hs hp LL cb hn k (by omega)).next LL cb hn (by omega)
end
theorem sx(h:b∣a)(h1:-b<a)(h2:a<b):a=0:=by
 obtain⟨c,rfl⟩:=h
 rcases Int.lt_trichotomy c 0 with q | q | q
 ·have:b*c<=b*(-1):=Int.mul_le_mul_of_nonneg_left (by omega) (by omega)
  omega
 ·rw[q,Int.mul_zero]
 ·have:b*1<=b*c:=Int.mul_le_mul_of_nonneg_left (by omega) (by omega)
  omega
theorem G.diff(Gd:Good n s D):∀ k d (v:dG),d+k=n->(∀ i,i<n->-(s i)<v i/\v i<s i)->(∀ i,d<=i->i<n->-(a_ s D i)<v i/\v i<a_ s D i)->G n s D k d v->∀ i,i<n->v i=0
 | 0,d,v,hn,h0,_,g,i,hi=>sx (g i hi) (h0 i hi).1 (h0 i hi).2
 | k+1,d,v,hn,h0,h1,g,i,hi=>by
  have z:=sx g.1 (h1 d (Nat.le_refl _) (by omega)).1 (h1 d (Nat.le_refl _) (by omega)).2
  refine G.diff Gd k (d+1) v (by omega) h0 (λi hi=>h1 i (by omega)) (G.ext (by omega) (λi _=>?_) g.2) i hi
  show v i-v d/a_ s D d*D d i=v i
  rw[z];simp
def iH(n:Nat)(s:dG)(Q:Int)(w v:dG):Int:=c_ n λi=>w i*v i*(Q/s i)
variable{Q:Int}
variable{N3:Nat}
section
variable{D:Nat->dG}{w v u:dG}
theorem tY(a b:Int){x:dG}(h:∀ i,i<n->x i=a*v i+b*u i):iH n s Q w x=a*iH n s Q w v+b*iH n s Q w u :=
 kx a b _ _ _ n λi hi=>by rw[h i hi];grind
theorem vO{f:Nat->Int}{q:Int}:∀ {m:Nat},(∀ l,l<m->q∣f l)->q∣c_ m f
 | 0,_=>Int.dvd_zero _
 | m+1,h=>Int.dvd_add (vO λl hl=>h l (by omega)) (h m (by omega))
theorem Fw(hq:∀ i,i<n->s i∣Q)(h:∀ i,i<n->s i∣v i):Q∣iH n s Q w v:=vO λi hi=>by
 obtain⟨c,hc⟩:=h i hi
 obtain⟨e,he⟩:=hq i hi
 by_cases z:s i=0
 ·rw[hc,z];simp
 ·rw[hc,he,Int.mul_ediv_cancel_left _ z]
  exact⟨w i*c,by grind⟩
theorem BG(hq:∀ i,i<n->s i∣Q):∀ (k d:Nat) (v:dG),d+k=n->(∀ b,d<=b->b<n->Q∣iH n s Q w (D b))->G n s D k d v->Q∣iH n s Q w v
 | 0,d,v,_,_,g=>Fw hq g
 | k+1,d,v,hn,hD,g=>by
  have h1:=BG hq k (d+1) _ (by omega) (λb h1 h2=>hD b (by omega) h2) g.2
  have h2:=hD d (Nat.le_refl _) (by omega)
  have e:=tY (s:=s) (Q:=Q) (w:=w) (n:=n) 1 (v d/a_ s D d) (v:=λi=>v i-v d/a_ s D d*D d i) (u:=D d) (x:=v) λi _=>by omega
  rw[e]
  exact Int.dvd_add (Int.dvd_trans h1 (Int.dvd_mul_left _ _)) (Int.dvd_trans h2 (Int.dvd_mul_left _ _))
theorem Ft{c:Nat}(hc:c<n){x:Int}{w':dG}(h0:w c=0)(h1:w' c=x)(h2:∀ i,i<n->i≠c->w' i=w i):iH n s Q w' v=iH n s Q w v+x*v c*(Q/s c):=by
 have e1:iH n s Q w' v=1*iH n s Q w v+1*c_ n λi=>if i=c then x*v c*(Q/s c) else 0:=kx 1 1 _ _ _ n λi hi=>by
  by_cases z:i=c
  ·rw[z,h1,h0];simp
  ·rw[h2 i hi z];simp[z]
 have e2:=i9 c (x*v c*(Q/s c)) n hc (λi=>if i=c then x*v c*(Q/s c) else 0) λ_ _=>rfl
 rw[e1,e2];omega
theorem Bl(h:∀ i,i<n->w i*v i=0):iH n s Q w v=0:=by
 unfold iH
 rw[eM (g:=λ_=>0) λi hi=>by rw[h i hi];simp,i8]
def h9(s:dG)(D:Nat->dG)(d:Nat):Int:=s d/a_ s D d
theorem kW(g:Good n s D)(h:d<n):h9 s D d*a_ s D d=s d/\0<h9 s D d/\h9 s D d<=s d:=by
 have p:=g.pos h
 obtain⟨c,hc⟩:=g.dv d h
 have e:h9 s D d=c:=by unfold h9;rw[hc,Int.mul_ediv_cancel_left _ (by omega)]
 have sp:=g.sp d h
 have c0:0<c:=by
  rcases Int.lt_trichotomy c 0 with q | q | q
  ·have:=Int.mul_neg_of_pos_of_neg p.1 q;omega
  ·rw[q] at hc;omega
  ·exact q
 refine⟨by rw[e,hc,Int.mul_comm],by omega,?_⟩
 rw[e]
 have:1*c<=a_ s D d*c:=Int.mul_le_mul_of_nonneg_right (by omega) (by omega)
 omega
structure Wk (n:Nat) (s:dG) (D:Nat->dG) (Q:Int) (N3 a:Nat) (w:dG):Prop where
 beh:∀ i,N3<i->i<n->w i=0
 at_:w N3=h9 s D N3%s N3
 ah:∀ i,a<=i->i<N3->0<=w i/\w i<h9 s D i
 no:∀ i,i<a->w i=0
 kill:∀ b,a<=b->b<n->Q∣iH n s Q w (D b)
theorem Wk.start(g:Good n s D)(hq:∀ i,i<n->s i∣Q)(hd:N3<n){w:dG}(h:∀ i,i<n->w i=if i=N3 then h9 s D N3%s N3 else 0):Wk n s D Q N3 N3 w where
 beh:=λi h1 h2=>by rw[h i h2,if_neg (by omega)]
 at_:=by rw[h N3 hd,if_pos rfl]
 ah:=λi h1 h2=>by omega
 no:=λi hi=>by rw[h i (by omega),if_neg (by omega)]
 kill:=λb h1 h2=>by
  by_cases z:b=N3
  ·subst z
   obtain⟨f1,f2,f3⟩:=kW g h2
   obtain⟨e,he⟩:=hq b h2
   obtain⟨x,hx⟩:=g.diag h2
   obtain⟨y,hy⟩:=eX (h9 s D b) (s b)
   have sp:=g.sp b h2
   have e1:iH n s Q w (D b)=1*c_ n (λi=>if i=b then (h9 s D b%s b)*D b b*(Q/s b) else 0)+0*0:=by
    have:=kx 1 0 (λi=>if i=b then (h9 s D b%s b)*D b b*(Q/s b) else 0) (λ_=>0) (λi=>w i*D b i*(Q/s i)) n λi hi=>by
     rw[h i hi]
     by_cases z:i=b
     ·subst z;simp
     ·simp[z]
    rw[show iH n s Q w (D b)=c_ n λi=>w i*D b i*(Q/s i) from rfl,this];omega
   rw[e1,i9 b _ n h2 _ λ_ _=>rfl,he,Int.mul_ediv_cancel_left _ (by omega)]
   have hy':h9 s D b%s b=h9 s D b+s b*y:=by omega
   have RD:D b b=a_ s D b+s b*x:=by omega
   refine⟨1+h9 s D b*x+y*D b b,?_⟩
   rw[hy',RD]
   generalize h9 s D b=F at *
   generalize a_ s D b=T at *
   generalize s b=S at *
   subst f1
   grind
  ·rw[Bl λi hi=>?_]
   ·exact Int.dvd_zero _
   ·rcases Nat.lt_or_ge i b with q | q
    ·rw[g.wa b h2 i q];simp
    ·rw[h i hi,if_neg (by omega)];simp
theorem Wk.next(g:Good n s D)(hQ:0<Q)(hq:∀ i,i<n->s i∣Q){c:Nat}(hd:N3<n){w w':dG}(W:Wk n s D Q N3 (c+1) w)(hc:c<N3)(h1:w' c=-(iH n s Q w (D c)%Q/(Q/h9 s D c))%h9 s D c)(h2:∀ i,i<n->i≠c->w' i=w i):Wk n s D Q N3 c w':=by
 obtain⟨f1,f2,f3⟩:=kW g (show c<n by omega)
 obtain⟨e,he⟩:=hq c (by omega)
 have sp:=g.sp c (by omega)
 have sh:Q/h9 s D c=a_ s D c*e:=by
  rw[he,← f1,Int.mul_assoc,Int.mul_ediv_cancel_left _ (by omega)]
 have hs:Q/s c=e:=by rw[he,Int.mul_ediv_cancel_left _ (by omega)]
 have fQ:h9 s D c*(a_ s D c*e)=Q:=by rw[← Int.mul_assoc,f1,he]
 have sh0:0<a_ s D c*e:=by
  rcases Int.lt_trichotomy (a_ s D c*e) 0 with q | q | q
  ·have:=Int.mul_neg_of_pos_of_neg f2 q;omega
  ·rw[q] at fQ;omega
  ·exact q
 have cl:=g.JI c (n-(c+1)) (by omega)
 have k1:=BG (w:=w) hq (n-(c+1)) (c+1) _ (by omega) (λb h1 h2=>W.kill b h1 h2) cl
 rw[tY (s:=s) (Q:=Q) (w:=w) (n:=n) (h9 s D c) 0 (v:=D c) (u:=D c) (x:=λi=>s c/a_ s D c*D c i) λi _=>by unfold h9;omega] at k1
 obtain⟨x,hx⟩:=k1
 have dv:(a_ s D c*e)∣iH n s Q w (D c):=⟨x,by
  have:h9 s D c*iH n s Q w (D c)=h9 s D c*(a_ s D c*e*x):=by
   rw[← Int.mul_assoc,fQ];omega
  exact Int.eq_of_mul_eq_mul_left (by omega) this⟩
 have ed:=Int.emod_def (iH n s Q w (D c)) Q
 have dv2:(a_ s D c*e)∣iH n s Q w (D c)%Q:=by
  rw[ed]
  exact Int.dvd_sub dv (Int.dvd_trans ⟨h9 s D c,by rw[Int.mul_comm];exact fQ.symm⟩ (Int.dvd_mul_right _ _))
 obtain⟨q,Qj⟩:=dv2
 rw[sh] at h1
 have eq1:iH n s Q w (D c)%Q/(a_ s D c*e)=q:=by rw[Qj,Int.mul_ediv_cancel_left _ (by omega)]
 rw[eq1] at h1
 obtain⟨y,hy⟩:=eX (-q) (h9 s D c)
 obtain⟨z,hz⟩:=g.diag (show c<n by omega)
 refine⟨λi a b=>?_,?_,λi a b=>?_,λi a=>?_,λb a1 a2=>?_⟩
 ·rw[h2 i b (by omega)];exact W.beh i a b
 ·rw[h2 N3 hd (by omega)];exact W.at_
 ·by_cases q2:i=c
  ·rw[q2,h1]
   exact⟨Int.emod_nonneg _ (by omega),Int.emod_lt_of_pos _ f2⟩
  ·rw[h2 i (by omega) q2];exact W.ah i (by omega) b
 ·rw[h2 i (by omega) (by omega)];exact W.no i (by omega)
 ·rw[Ft (w:=w) (show c<n by omega) (W.no c (by omega)) rfl h2]
  by_cases q2:b=c
  ·subst q2
   rw[hs]
   have e1:w' b=-q+h9 s D b*y:=by omega
   have e2:D b b=a_ s D b+s b*z:=by omega
   have e3:iH n s Q w (D b)=Q*(iH n s Q w (D b)/Q)+a_ s D b*e*q:=by omega
   refine⟨iH n s Q w (D b)/Q+y+w' b*z,?_⟩
   rw[e2]
   generalize iH n s Q w (D b)/Q=p at *
   rw[e3,e1]
   generalize h9 s D b=F at *
   generalize a_ s D b=T at *
   generalize s b=S at *
   subst f1
   rw[he]
   grind
  ·rw[g.wa b a2 c (by omega)]
   simp only[Int.mul_zero,Int.zero_mul,Int.add_zero]
   exact W.kill b (by omega) a2
theorem Wk.first(g:Good n s D)(hQ:0<Q)(hq:∀ i,i<n->s i∣Q)(hd:N3<n){w l:dG}(W:Wk n s D Q N3 0 w)(l0:∀ i,i<N3->l i=0)(l1:0<l N3)(l2:l N3<a_ s D N3):¬ Q∣iH n s Q w l:=by
 obtain⟨f1,f2,f3⟩:=kW g hd
 obtain⟨e,he⟩:=hq N3 hd
 have sp:=g.sp N3 hd
 have lt:h9 s D N3<s N3:=by
  rcases Int.lt_or_eq_of_le f3 with q | q
  ·exact q
  ·rw[q] at f1
   have:a_ s D N3=1:=by
    have:s N3*a_ s D N3=s N3*1:=by rw[Int.mul_one];exact f1
    exact Int.eq_of_mul_eq_mul_left (by omega) this
   omega
 have wd:w N3=h9 s D N3:=by rw[W.at_,Int.emod_eq_of_lt (by omega) lt]
 have e1:iH n s Q w l=c_ n (λi=>if i=N3 then h9 s D N3*l N3*e else 0):=eM λi hi=>by
  by_cases z:i=N3
  ·rw[z,wd,he,Int.mul_ediv_cancel_left _ (by omega)];simp
  ·rcases Nat.lt_or_ge i N3 with q | q
   ·rw[l0 i q];simp[z]
   ·rw[W.beh i (by omega) hi];simp[z]
 rw[e1,i9 N3 _ n hd _ λ_ _=>rfl]
 rintro⟨c,hc⟩
 have e0:0<e:=by
  rcases Int.lt_trichotomy e 0 with q | q | q
  ·have:=Int.mul_neg_of_pos_of_neg sp q;omega
  ·rw[q] at he;omega
  ·exact q
 have e2:h9 s D N3*e*l N3=h9 s D N3*e*(a_ s D N3*c):=by
  rw[he,← f1] at hc
  grind
 have e3:l N3=a_ s D N3*c:=Int.eq_of_mul_eq_mul_left (by
  have:=Int.mul_pos f2 e0;omega) e2
 have:=iY (a:=l N3) (b:=a_ s D N3) (by omega) l2 ⟨c,e3⟩
 omega
end
end Rg
namespace wb
open PySem L2 PyProof.Rows Rg
local macro_rules | `(tactic| dsimp? [$ts,*])=>`(tactic| simp only[cI,bp,ay,lA,ao,vj,uP,retS,bf,ue,i0,jQ,aq,M.aE,M.bind_some,M.bind_none,M.Bx,M.bind_assoc,ae,aj,ai,aa,ak,El,En,Iv,Hr,He,IZ,HG,Iw,GH,Hz,Hu,GU,GF,Gq,HE,Gs,cX,ia,Jm,C0,Fi,Cd,NF,zX,jV,JY,gW,E6,itemsOf,ja,EM,EH,zZ,EI,D9,CF,CS,BV,Fx,Et,Dj,qF,Df,cR,du,qG,H0,List.length_cons,List.length_nil,List.map_cons,List.map_nil,List.cons_append,List.nil_append,List.replicate,List.getElem?_cons_zero,List.getElem?_cons_succ,List.getElem?_nil,List.set_cons_zero,List.set_cons_succ,List.set_nil,Nat.reduceAdd,Nat.reduceSub,if_true,if_false,Bool.not_true,Bool.not_false,Bool.false_eq_true,ite_true,ite_false,reduceIte,reduceCtorEq,Nat.sub_self,lF,bM,bF,Option.map_some,Option.map_none,vJ,GA,Gp,Fn,EK,E3,GB,Fl,Er,DE,lX,List.any_cons,List.any_nil,String.reduceBEq,Bool.or_false,Bool.or_true,Bool.true_or,Bool.false_or,Bool.and_true,Bool.and_false,Bool.true_and,Bool.false_and,Ek,EY,Il,HQ,DS,DP,Ea,DR,Cb,De,iS,sT,List.foldl_cons,List.foldl_nil,uA,ar trivial,$(⟨ts.elemsAndSeps⟩),*])
theorem mS(i:Int):fm [.int i]=M.ok (.bl true):=by rfl
variable{p:PV}{α:Type}
theorem xR{inj:α->PV}{h:α->Bool}(xs:List α)(n:Int)(hp:p=.tup (xs.map inj)\/p=.lst (xs.map inj))(H:∀ a∈xs,fm [inj a]=M.ok (.bl (h a)))(hz:xs.length<=sizeLine):gc [p,.int n]=M.ok (.bl (decide ((xs.length:Int)=n)&&xs.all h)):=by
 have key:bo (bw 0) none (ai fm (aa (ae 0) ak)) (xs.map inj) [none]=M.ok (xs.map λa=>.bl (h a)):=dQ xs λa ha=>by dsimp? [H a ha]
 have key2:vg [.lst (xs.map λa=>.bl (h a))]=M.ok (.bl (xs.all h)):=by
  have:=vD (xs.map h)
  rw[List.map_map] at this
  rw[show (λa=>PV.bl (h a))=PV.bl∘h from rfl,this]
  simp[List.all_map]
 unfold gc j5
 rcases hp with rfl | rfl
 all_goals
  dsimp? [List.length_map]
  by_cases e:(xs.length:Int)=n
  ·simp only[e,decide_true,Bool.not_true,M.aE,Bool.false_eq_true,if_false,vj,Bool.true_and]
   dsimp? [List.length_map,ar hz,key,key2]
  ·simp only[e,decide_false,Bool.not_false,M.aE,if_true,uP,Bool.false_and]
   dsimp? []
theorem AK(xs:List Int)(n:Int)(hz:xs.length<=sizeLine):gc [tI xs,.int n]=M.ok (.bl (decide ((xs.length:Int)=n))):=by
 exact(xR (p:=tI xs) (h:=λ_=>true) xs n (.inl rfl) (λa _=>mS a) hz).trans (by rw[List.all_eq_true.mpr λ_ _=>rfl,Bool.and_true])
theorem Iq(xs:List Int)(n:Int)(hz:xs.length<=sizeLine):gc [lI xs,.int n]=M.ok (.bl (decide ((xs.length:Int)=n))):=by
 exact(xR (p:=lI xs) (h:=λ_=>true) xs n (.inr rfl) (λa _=>mS a) hz).trans (by rw[List.all_eq_true.mpr λ_ _=>rfl,Bool.and_true])
theorem KD{f:List Int->PV}(hf:f=tI\/f=lI)(xs:List Int)(n:Int)(hz:xs.length<=sizeLine):gc [f xs,.int n]=M.ok (.bl (decide ((xs.length:Int)=n))):=by
 rcases hf with rfl | rfl
 ·exact AK xs n hz
 ·exact Iq xs n hz
theorem Ki{f:List Int->PV}(hf:f=tI\/f=lI)(xs:List Int):bX (f xs)=some (xs.map PV.int):=by rcases hf with rfl | rfl <;> rfl
theorem within_int(x a b:Int):bL [.int x,.int a,.int b]=M.ok (.bl (decide (a<=x/\x<=b))):=by
 unfold bL dh
 dsimp? [mS]
 by_cases h:a<=x
 ·simp only[h,decide_true,if_true,true_and];dsimp? []
 ·simp only[h,decide_false,false_and];dsimp? []
theorem hG{xs:List PV}(h:bX p=some xs):s_ p=M.ok (.int xs.length):=by
 cases p <;> first | (cases h;rfl) | cases h
theorem rm(xs:List Int)(hp:bX p=some (xs.map PV.int))(h1:1<=xs.length)(h6:xs.length<=6)(hx:∀ x∈xs,2<=x/\x<=360):gP [p]=M.ok .da:=by
 unfold gP gH
 have a1:¬ (6:Int)<xs.length:=by omega
 have a2:¬ (xs.length:Int)=0:=by omega
 dsimp? [a1,a2,decide_false,hG hp,List.length_map,uw xs hp]
 refine eH xs.zipIdx (λzs env=>(∃ b c,env=[some (.sh p),b,c])/\∀ z∈zs,2<=z.1/\z.1<=360) ⟨⟨_,_,rfl⟩,λz hz=>hx z.1 (List.fst_mem_of_mem_zipIdx hz)⟩ ?_ ?_
 ·rintro⟨a,i⟩ r env ⟨⟨b,c,rfl⟩,hz⟩
  have ha:=hz (a,i) List.mem_cons_self
  refine⟨_,[some (.sh p),some (.sh (.int i)),some (.sh (.int a))],rfl,?_,⟨_,_,rfl⟩,λz Qy=>hz z (List.mem_cons_of_mem _ Qy)⟩
  dsimp? [within_int,ha,and_self,decide_true]
 ·rintro N1 ⟨⟨b,c,rfl⟩,_⟩;rfl
theorem o5{f:List Int->PV}(hf:f=tI\/f=lI)(n:Nat)(xs:List (List Int))(h8:xs.length<=8)(hx:∀ x∈xs,x.length=n)(hn:n<=100):fS [.lst (xs.map f),.int n]=M.ok .da:=by
 unfold fS fW
 have a1:¬ (8:Int)<xs.length:=by omega
 dsimp? [a1,decide_false,List.length_map,tf]
 refine eH xs.zipIdx (λzs env=>(∃ b c,env=[some (.sh (.lst (xs.map f))),some (.sh (.int n)),b,c])/\∀ z∈zs,z.1.length=n) ⟨⟨_,_,rfl⟩,λz hz=>hx z.1 (List.fst_mem_of_mem_zipIdx hz)⟩ ?_ ?_
 ·rintro⟨a,i⟩ r env ⟨⟨b,c,rfl⟩,hz⟩
  have ha:a.length=n:=hz (a,i) List.mem_cons_self
  refine⟨_,[some (.sh (.lst (xs.map f))),some (.sh (.int n)),some (.sh (.int i)),some (.sh (f a))],rfl,?_,⟨_,_,rfl⟩,λz Qy=>hz z (List.mem_cons_of_mem _ Qy)⟩
  dsimp? [KD hf a n (aL (by omega)),ha,decide_true]
 ·rintro N1 ⟨⟨b,c,rfl⟩,_⟩;rfl
theorem qi(n:Nat)(p:PV):(List.replicate n [p]).flatten=List.replicate n p:=by
 induction n with
 | zero=>rfl
 | succ n ih=>rw[List.replicate_succ,List.flatten_cons,ih];rfl
theorem mul_one(p:PV)(n:Nat)(h8:n<=1000):cp (.tup [p]) (.int (n:Int))=M.ok (.tup (List.replicate n p)):=by
 have h2:[p].length*(n:Int).toNat<=sizeLine:=by
  rw[Int.toNat_natCast]
  exact aL (by show 1*n<=1000;omega)
 have h3:(n:Int)<2^63:=Int.lt_of_le_of_lt (Int.ofNat_le.mpr h8) (by decide)
 have h4:-(2^63)<=(n:Int):=Int.le_trans (by decide) (Int.natCast_nonneg n)
 rw[cp,ar ⟨rfl,h4,h3,h2⟩,Int.toNat_natCast,qi]
theorem kF(xs:List PV)(pr:List Int)(hp:p=tI pr\/p=lI pr)(h8:xs.length<=8)(hl:pr.length=xs.length)(hx:∀ x∈pr,1<=x/\x<=1000):gN [.lst xs,p]=M.ok (tI pr):=by
 have sq:bX p=some (pr.map PV.int):=by rcases hp with rfl | rfl <;> rfl
 have nn:B9 p .da=M.ok (.bl false):=by rcases hp with rfl | rfl <;> rfl
 have ix:∀ i:Nat,i<pr.length->aP p (.int (i:Int))=M.ok (.int (pr.getD i 0)):=λi hi=>by
  have e:(pr.map PV.int)[i]?=some (.int (pr.getD i 0)):=by rw[List.getElem?_map,List.getElem?_eq_getElem hi,List.getD_eq_getElem?_getD,List.getElem?_eq_getElem hi];rfl
  rcases hp with rfl | rfl
  ·exact bC (p:=tI pr) (j:=i) rfl e
  ·exact bC (p:=lI pr) (j:=i) rfl e
 have l1:=hG sq
 rw[List.length_map,hl] at l1
 have mx:vR (λi j=>if j>i then j else i) [.int (xs.length:Int),.int (xs.length:Int)]=M.ok (.int (xs.length:Int)):=by
  show M.ok (PV.int (if (xs.length:Int)>(xs.length:Int) then _ else _))=_
  rw[if_neg (by omega)]
 unfold gN gD
 dsimp? [nn,l1,mx,cZ (n:=(xs.length:Int)) (by omega) (by omega),Int.toNat_natCast]
 refine eH (List.range xs.length) (λzs env=>(∃ y,env=[some (.sh (.lst xs)),some (.sh p),y])/\∀ z∈zs,z<xs.length) ⟨⟨_,rfl⟩,λz hz=>List.mem_range.mp hz⟩ ?_ ?_
 ·rintro i r env ⟨⟨y,rfl⟩,hz⟩
  have hi:=hz i List.mem_cons_self
  have hv:=hx (pr.getD i 0) (by rw[List.getD_eq_getElem?_getD,List.getElem?_eq_getElem (by omega)];exact List.getElem_mem _)
  have n1:¬ (xs.length:Int)<=(i:Int):=by omega
  refine⟨_,[some (.sh (.lst xs)),some (.sh p),some (.sh (.int (i:Int)))],rfl,?_,⟨_,rfl⟩,λz h=>hz z (List.mem_cons_of_mem _ h)⟩
  dsimp? [l1,n1,decide_false,ix i (by omega),within_int,hv,and_self,decide_true]
 ·rintro N1 ⟨⟨y,rfl⟩,_⟩
  dsimp? [sq]
  rfl
def um(xs sizes:List Int):List Int:=(xs.zip sizes).map λz=>z.1%z.2
theorem ph(p q:PV)(xs sizes:List Int)(hp:bX p=some (xs.map PV.int))(hq:bX q=some (sizes.map PV.int))(hs:∀ s∈sizes,0<s)(hz:xs.length<=1000):jw [p,q]=M.ok (tI (um xs sizes)):=by
 have key:bo (bR 0 1) none (aj cz (ae 0) (ae 1)) ((xs.zip sizes).map λz=>.tup [.int z.1,.int z.2]) [none,none]=M.ok ((xs.zip sizes).map λz=>.int (z.1%z.2)):=by
  refine iL (p:=λz:Int×Int=>PV.int z.1) (q:=λz:Int×Int=>PV.int z.2) (xs.zip sizes) λz hz=>?_
  have:=hs z.2 (List.of_mem_zip (a:=z.1) (b:=z.2) hz).2
  dsimp? [aO this]
 unfold jw kC
 have hl:(xs.zip sizes).length<=sizeLine:=by rw[List.length_zip];exact aL (Nat.le_trans (Nat.min_le_left _ _) hz)
 dsimp? [dY xs sizes hp hq,List.length_map,ar hl,key]
 rw[tI,um,List.map_map];rfl
variable{n:Nat}
theorem Nw{i:Int}(h:i.natAbs<=n)(hn:n<2^200):i.natAbs<2^200:=by omega
theorem wF(a b c:PV):aP (.tup [a,b,c]) (.int 0)=M.ok a:=bC (j:=0) rfl rfl
theorem Hy(a b c:PV):aP (.tup [a,b,c]) (.int 1)=M.ok b:=bC (j:=1) rfl rfl
theorem Ik(a b c:PV):aP (.tup [a,b,c]) (.int 2)=M.ok c:=bC (j:=2) rfl rfl
theorem rM(a b:Int)(ha:a.natAbs<2^60)(hb:b.natAbs<2^60):∃ s t,gg [.int a,.int b]=M.ok (.tup [.int (Int.gcd a b),.int s,.int t])/\s*a+t*b=Int.gcd a b/\s.natAbs<=b.natAbs+1/\t.natAbs<=a.natAbs+(b.natAbs+1)*a.natAbs+b.natAbs+1:=by
 let J:af->Prop:=λenv=>∃ r s t r' s' t' x y,env=[some (.sh (.int a)),some (.sh (.int b)),some (.sh ((PV.tup [PV.int r,PV.int s,PV.int t]))),some (.sh ((PV.tup [PV.int r',PV.int s',PV.int t']))),x,y]/\Eu.St a b r s t r' s' t'
 let m:af->Nat:=λenv=>match env with
  | [_,_,_,some (.sh (.tup [.int r,_,_])),_,_]=>r.natAbs
  | _=>0
 have hk:(b.natAbs+1)*a.natAbs<=2^60*2^60:=Nat.mul_le_mul (by omega) (by omega)
 have hk2:(2:Nat)^60*2^60=2^120:=by decide
 have start:J [some (.sh (.int a)),some (.sh (.int b)),some (.sh ((PV.tup [PV.int a,PV.int 1,PV.int 0]))),some (.sh ((PV.tup [PV.int b,PV.int 0,PV.int 1]))),none,none]:=⟨_,_,_,_,_,_,_,_,rfl,Eu.start a b⟩
 have loop:=rQ (u:=cX (aj oq (aj aP (ae 3) (λ_=>M.ok (.int 0))) (λ_=>M.ok (.int 0)))) (b:=(ao (bf 4 (aj cy (aj aP (ae 2) (λ_=>M.ok (.int 0))) (aj aP (ae 3) (λ_=>M.ok (.int 0)))))
  (ao (bf 5 (lH (aa (aj jU (aj aP (ae 2) (λ_=>M.ok (.int 0))) (aj cp (ae 4) (aj aP (ae 3) (λ_=>M.ok (.int 0))))) (aa (aj jU (aj aP (ae 2) (λ_=>M.ok (.int 1))) (aj cp (ae 4) (aj aP (ae 3) (λ_=>M.ok (.int 1))))) (aa (aj jU (aj aP (ae 2) (λ_=>M.ok (.int 2))) (aj cp (ae 4) (aj aP (ae 3) (λ_=>M.ok (.int 2))))) ak)))))
  (ao (bf 2 (ae 3))
  (ao (bf 3 (ae 5))
  aq))))) J m ?_ _ start
 ·obtain⟨N1,e1,⟨r,s,t,r',s',t',x,y,rfl,st⟩,e2⟩:=loop
  have hr':r'=0:=by
   revert e2
   dsimp? [wF]
   intro e2
   have:(!decide (r'=0))=false:=by injection e2 with e2;injection e2
   simpa using this
  subst hr'
  obtain⟨d1,d2⟩:=Eu.done st
  have hg:(r.natAbs:Int)=Int.gcd a b:=by
   have h1:r.natAbs∣Int.gcd a b:=Int.dvd_gcd (Int.natAbs_dvd.mpr d1) (Int.natAbs_dvd.mpr d2)
   have h2:((Int.gcd a b:Nat):Int)∣r:=by
    rw[st.c0]
    exact Int.dvd_add (Int.dvd_trans (Int.gcd_dvd_left ..) (Int.dvd_mul_left _ _)) (Int.dvd_trans (Int.gcd_dvd_right ..) (Int.dvd_mul_left _ _))
   have h3:Int.gcd a b∣r.natAbs:=Int.ofNat_dvd_left.mp h2
   rw[Nat.dvd_antisymm h1 h3]
  unfold gg j3
  dsimp? []
  rw[e1]
  dsimp? [wF,Hy,Ik]
  by_cases hneg:r<0
  ·refine⟨-s,-t,?_,?_,by rw[Int.natAbs_neg];exact st.b0,by rw[Int.natAbs_neg];exact st.d0⟩
   ·simp only[hneg,decide_true,if_true];dsimp? []
    rw[show -r=(Int.gcd a b:Int) by omega]
   ·have:=st.c0
    rw[Int.neg_mul,Int.neg_mul];omega
  ·refine⟨s,t,?_,?_,st.b0,st.d0⟩
   ·simp only[hneg,decide_false,Bool.false_eq_true,if_false];dsimp? []
    rw[show r=(Int.gcd a b:Int) by omega]
   ·have:=st.c0;omega
 ·rintro env ⟨r,s,t,r',s',t',x,y,rfl,st⟩
  by_cases h0:r'=0
  ·refine .inl ?_
   dsimp? [wF]
   simp[h0]
  ·refine .inr ⟨?_,?_⟩
   ·dsimp? [wF]
    simp[h0]
   ·obtain⟨Q1,lt⟩:=Eu.turn st h0
    have b1:=st.m1;have b0:=st.m0;have c1:=st.b1;have c2:=st.d1;have c3:=Q1.m1
    have q1:(r.fdiv r').natAbs<=r.natAbs+1:=by
     obtain⟨f1,f2,f3⟩:=Eu.si r r' h0
     generalize r.fdiv r'=q at *
     have e:q*r'=r-(r-q*r'):=by omega
     have e2:(q*r').natAbs<=r.natAbs+(r-q*r').natAbs:=by omega
     rw[Int.natAbs_mul] at e2
     have:q.natAbs*1<=q.natAbs*r'.natAbs:=Nat.mul_le_mul_left _ (by omega)
     rcases Nat.lt_or_ge (r.natAbs+1) q.natAbs with h | h
     ·have h5:(r.natAbs+2)*r'.natAbs<=q.natAbs*r'.natAbs:=Nat.mul_le_mul_right _ (by omega)
      have h6:r.natAbs*1<=r.natAbs*r'.natAbs:=Nat.mul_le_mul_left _ (by omega)
      rw[Nat.add_mul] at h5
      omega
     ·exact h
    have q2:(r.fdiv r').natAbs<2^200:=by omega
    refine⟨[some (.sh (.int a)),some (.sh (.int b)),some (.sh ((PV.tup [PV.int r',PV.int s',PV.int t']))),some (.sh ((PV.tup [PV.int (r-r.fdiv r'*r'),PV.int (s-r.fdiv r'*s'),PV.int (t-r.fdiv r'*t')]))),some (.sh (.int (r.fdiv r'))),some (.sh ((PV.tup [PV.int (r-r.fdiv r'*r'),PV.int (s-r.fdiv r'*s'),PV.int (t-r.fdiv r'*t')])))],?_,⟨_,_,_,_,_,_,_,_,rfl,Q1⟩,lt⟩
    dsimp? [wF,Hy,Ik,r9 h0 (Nat.lt_of_lt_of_le (show r'.natAbs<2^200 by omega) (Nat.pow_le_pow_right (by decide) (by decide))),bx (k:=200) (l:=200) q2 (show r'.natAbs<2^200 by omega),bx (k:=200) (l:=200) q2 (show s'.natAbs<2^200 by omega),bx (k:=200) (l:=200) q2 (show t'.natAbs<2^200 by omega)]
def R(sizes:List Int):Int:=(Lc.CO (sizes.map Int.toNat):Nat)
structure Sz (sizes:List Int):Prop where
 h1:1<=sizes.length
 h6:sizes.length<=6
 hx:∀ x∈sizes,2<=x/\x<=360
variable{sizes:List Int}
theorem vM(h:Sz sizes):0<R sizes:=by
 refine Int.ofNat_lt.mpr (Lc.lcm_pos λn hn=>?_)
 obtain⟨x,hx,rfl⟩:=List.mem_map.mp hn
 have:=h.hx x hx;omega
theorem J3(h:Sz sizes):R sizes<2^60:=by
 have h1:=Lc.oV 9 (sizes.map Int.toNat) 1 0 (by decide) (by decide) λn hn=>by
  obtain⟨x,hx,rfl⟩:=List.mem_map.mp hn
  have:=h.hx x hx;omega
 have h2:(2:Nat)^(0+9*(sizes.map Int.toNat).length)<=2^54:=Nat.pow_le_pow_right (by decide) (by rw[List.length_map];have:=h.h6;omega)
 have h3:Lc.CO (sizes.map Int.toNat)<=2^54:=Nat.le_trans h1 h2
 unfold R;omega
variable{x:Int}
theorem K_(h:Sz sizes)(hx:x∈sizes):x∣R sizes:=by
 have h1:=Lc.lcm_dvd (ns:=sizes.map Int.toNat) (List.mem_map.mpr ⟨x,hx,rfl⟩)
 have h2:=Int.ofNat_dvd.mpr h1
 rw[Int.toNat_of_nonneg (by have:=h.hx x hx;omega)] at h2
 exact h2
structure Acc (sizes r:List Int) (acc:Nat):Prop where
 pos:0<acc
 le:acc<=2^(9*(6-r.length))
 len:r.length<=6
 val:(r.map Int.toNat).foldl Nat.lcm acc=Lc.CO (sizes.map Int.toNat)
 jg:∀ x∈r,2<=x/\x<=360
theorem Acc.start(h:Sz sizes):Acc sizes sizes 1:=⟨by decide,Nat.one_le_two_pow,h.h6,rfl,h.hx⟩
variable{acc:Nat}
theorem Acc.lt{r:List Int}(h:Acc sizes r acc):acc<2^60:=by
 have h2:(2:Nat)^(9*(6-r.length))<=2^54:=Nat.pow_le_pow_right (by decide) (by omega)
 have:=h.le;omega
theorem Acc.turn{r:List Int}(h:Acc sizes (x::r) acc):Acc sizes r (Nat.lcm acc x.toNat)/\(acc:Int)/(Int.gcd acc x:Nat)*x=(Nat.lcm acc x.toNat:Nat)/\(acc:Int)/(Int.gcd acc x:Nat)<=acc/\0<Int.gcd acc x:=by
 have hx:=h.jg x List.mem_cons_self
 have hp:=h.pos
 obtain⟨n,rfl⟩:=Int.eq_ofNat_of_zero_le (show 0<=x by omega)
 have hg:Int.gcd (acc:Int) (n:Int)=Nat.gcd acc n:=rfl
 refine⟨⟨Nat.lcm_pos hp (by omega),?_,?_,h.val,λy hy=>h.jg y (List.mem_cons_of_mem _ hy)⟩,?_,?_,?_⟩
 ·have h1:Nat.lcm acc n<=acc*n:=Nat.le_of_dvd (Nat.mul_pos hp (by omega)) (Nat.lcm_dvd (Nat.dvd_mul_right ..) (Nat.dvd_mul_left ..))
  have h2:acc*n<=2^(9*(6-(r.length+1)))*2^9:=Nat.mul_le_mul h.le (by omega)
  have hl:r.length+1<=6:=h.len
  rw[← Nat.pow_add,show 9*(6-(r.length+1))+9=9*(6-r.length) by omega] at h2
  exact Nat.le_trans h1 h2
 ·have hl:r.length+1<=6:=h.len
  omega
 ·rw[hg,Int.toNat_natCast,← Lc.C7];norm_cast
 ·rw[hg]
  exact Int.ofNat_le.mpr (Nat.div_le_self acc (Nat.gcd acc n))
 ·rw[hg];exact Nat.gcd_pos_of_pos_left _ hp
theorem iy(sizes:List Int)(hp:bX p=some (sizes.map PV.int))(h:Sz sizes):fz [p]=M.ok (.int (R sizes)):=by
 unfold fz fM
 dsimp? [hp]
 refine eH sizes (λr env=>∃ acc x,env=[some (.sh p),some (.sh (.int (acc:Nat))),x]/\Acc sizes r acc) ⟨1,_,rfl,.start h⟩ ?_ ?_
 ·rintro a r env ⟨acc,x,rfl,A⟩
  obtain⟨A2,e1,e2,e3⟩:=A.turn
  have l1:=A.lt
  have ha:=A.jg a List.mem_cons_self
  obtain⟨s,t,ec,_,_,_⟩:=rM (acc:Int) a (by omega) (by omega)
  have g1:Int.gcd acc a<=acc:=Nat.le_of_dvd A.pos (Int.ofNat_dvd.mp (Int.gcd_dvd_left ..))
  have d0:0<=(acc:Int)/(Int.gcd acc a:Nat):=Int.ediv_nonneg (by omega) (by omega)
  refine⟨_,[some (.sh p),some (.sh (.int (Nat.lcm acc a.toNat:Nat))),some (.sh (.int a))],rfl,?_,_,_,rfl,A2⟩
  dsimp? [ec,wF,bG (i:=(acc:Int)) (show (0:Int)<(Int.gcd acc a:Nat) by omega) (show ((Int.gcd acc a:Nat):Int)<2^64 by omega),bx (k:=64) (l:=64) (show ((acc:Int)/(Int.gcd acc a:Nat)).natAbs<2^64 by omega) (show a.natAbs<2^64 by omega),e1]
 ·rintro N1 ⟨acc,x,rfl,A⟩
  dsimp? []
  have:=A.val
  rw[R,← this];rfl
def n5(ns sizes:List Int)(levers:List (List Int)):List (Str×PV):=[("dial_sizes", tI sizes),("lever_settings", .tup (levers.map tI)),("lever_prices", tI ns),("least_round", .int (R sizes))]
def dS(ns sizes:List Int)(levers:List (List Int)):PV:=.obj au (n5 ns sizes levers)
structure Dw (sizes xs:List Int):Prop where
 len:xs.length=sizes.length
 jg:∀ z∈xs.zip sizes,0<=z.1/\z.1<z.2
variable{xs:List Int}
theorem Bt(h:Dw sizes xs):um xs sizes=xs:=by
 obtain⟨hl,hr⟩:=h
 unfold um
 induction xs generalizing sizes with
 | nil=>rfl
 | cons x r ih =>
  cases sizes with
  | nil=>cases hl
  | cons s t =>
   have h1:=hr (x,s) (by simp)
   rw[List.zip_cons_cons,List.map_cons,ih (Nat.succ.inj hl) λz hz=>hr z (by rw[List.zip_cons_cons];exact List.mem_cons_of_mem _ hz)]
   rw[show ((x,s):Int×Int).1%((x,s):Int×Int).2=x from Int.emod_eq_of_lt h1.1 h1.2]
theorem vb(f:Str)(p:PV):∀ fs:List (Str×PV),(tP f p fs).length<=fs.length+1
 | []=>by simp[tP]
 | (g,q)::r=>by
  have:=vb f p r
  unfold tP
  split
  ·simp
  ·simp;omega
theorem jh{f:Str}{fs:List (Str×PV)}(h:fs.length<=n):(tP f p fs).length<=n+1:=Nat.le_trans (vb f p fs) (by omega)
theorem gI(a C:Addr)(f:Str)(p:PV)(fs:List (Str×PV))(r:af)(h:fs.length<1000):A8 0 C f p (some (.bd a C fs)::r)=M.ok (.nx (some (.bd a C (tP f p fs))::r)):=by
 show cC _ _=_
 rw[ar ⟨rfl,h⟩];rfl
theorem DZ{pp:PV}{pr:List Int}{f:List Int->PV}(hf:f=tI\/f=lI)(sizes:List Int)(levers:List (List Int))(Rh:pp=tI pr\/pp=lI pr)(Og:pr.length=levers.length)(Ri:∀ x∈pr,1<=x/\x<=1000)(hp:bX p=some (sizes.map PV.int))(h:Sz sizes)(h8:levers.length<=8)(hl:∀ l∈levers,l.length=sizes.length):e_ au fP [] [p,.lst (levers.map f),pp]=M.ok (dS pr sizes (levers.map λl=>um l sizes)):=by
 have key:∀ a,fP a ([p,.lst (levers.map f),pp]++[])=M.ok (n5 pr sizes (levers.map λl=>um l sizes)):=by
  intro a
  have e1:bo (bw 0) none (ai jw (aa (ae 0) (aa (ae 1) ak))) (levers.map f) [none,some (.sh p)]=M.ok (levers.map λl=>tI (um l sizes)):=by
   refine dQ levers λl hm=>?_
   have hs:=hl l hm
   have:=ph (f l) p l sizes (Ki hf l) hp (λs hs=>by have:=h.hx s hs;omega) (by rw[hs];have:=h.h6;omega)
   dsimp? [this]
  unfold fP jA
  simp only[mF]
  rw[ar (show ([p,PV.lst (levers.map f),pp]++([]:List PV)).length+1=4 from rfl)]
  simp only[rA,uQ]
  dsimp? [hp,hG hp,rm sizes hp h.h1 h.h6 h.hx,o5 hf sizes.length levers h8 hl (by have:=h.h6;omega),jB,hp,hG hp,List.length_map,ar (aL (show levers.length<=1000 by omega)),e1,kF (levers.map f) pr Rh (show (levers.map f).length<=8 by rw[List.length_map];exact h8) (by rw[List.length_map];exact Og) Ri,iy sizes hp h]
  rw[gI _ _ _ _ _ _ (by simp)]
  dsimp? [jB,hp,hG hp,List.length_map,ar (aL (show levers.length<=1000 by omega)),e1,kF (levers.map f) pr Rh (show (levers.map f).length<=8 by rw[List.length_map];exact h8) (by rw[List.length_map];exact Og) Ri,iy sizes hp h]
  rw[gI _ _ _ _ _ _ (Nat.lt_of_le_of_lt (jh (Nat.zero_le 0)) (by decide))]
  dsimp? [jB,hp,hG hp,List.length_map,ar (aL (show levers.length<=1000 by omega)),e1,kF (levers.map f) pr Rh (show (levers.map f).length<=8 by rw[List.length_map];exact h8) (by rw[List.length_map];exact Og) Ri,iy sizes hp h]
  rw[gI _ _ _ _ _ _ (Nat.lt_of_le_of_lt (jh (jh (Nat.zero_le 0))) (by decide))]
  dsimp? [jB,hp,hG hp,List.length_map,ar (aL (show levers.length<=1000 by omega)),e1,kF (levers.map f) pr Rh (show (levers.map f).length<=8 by rw[List.length_map];exact h8) (by rw[List.length_map];exact Og) Ri,iy sizes hp h]
  rw[gI _ _ _ _ _ _ (Nat.lt_of_le_of_lt (jh (jh (jh (Nat.zero_le 0)))) (by decide))]
  dsimp? []
  show cC _ _=_
  rw[ar ⟨rfl,rfl⟩]
  rw[n5,List.map_map]
  rfl
 unfold e_
 rw[t7 key];rfl
theorem CM(sizes:List Int)(levers:List (List Int)):(n5 ns sizes levers).lookup (Str.ofString "dial_sizes")=some (tI sizes):=rfl
theorem yO(sizes:List Int)(levers:List (List Int)):(n5 ns sizes levers).lookup (Str.ofString "lever_settings")=some (.tup (levers.map tI)):=rfl
theorem Ax(sizes:List Int)(levers:List (List Int)):(n5 ns sizes levers).lookup (Str.ofString "least_round")=some (.int (R sizes)):=rfl
theorem K8(sizes:List Int)(levers:List (List Int)):(n5 ns sizes levers).lookup (Str.ofString "sizes")=none:=rfl
theorem Ld(sizes:List Int)(levers:List (List Int)):(n5 ns sizes levers).lookup (Str.ofString "levers")=none:=rfl
theorem vT(sizes:List Int)(levers:List (List Int)):aX [dS ns sizes levers]=M.ok (tI sizes):=by
 unfold aX bh
 dsimp? [d_,dS,beq_self_eq_true,CM]
theorem se(sizes:List Int)(levers:List (List Int)):bg [dS ns sizes levers]=M.ok (.tup (levers.map tI)):=by
 unfold bg bD
 dsimp? [d_,dS,beq_self_eq_true,yO]
variable{levers:List (List Int)}
theorem oB{g:af->M PV}{env:af}(h:g env=M.ok (dS ns sizes levers)):bJ au "sizes" aX g ak env=M.ok (tI sizes):=by
 have:=vT (ns:=ns) sizes levers
 rw[bJ,h,M.aE]
 show cC _ (M.bind (ak env) _)=_
 rw[ar ⟨rfl,K8 sizes levers⟩]
 exact this
theorem pV{g:af->M PV}{env:af}(h:g env=M.ok (dS ns sizes levers)):bJ au "levers" bg g ak env=M.ok (.tup (levers.map tI)):=by
 have:=se (ns:=ns) sizes levers
 rw[bJ,h,M.aE]
 show cC _ (M.bind (ak env) _)=_
 rw[ar ⟨rfl,Ld sizes levers⟩]
 exact this
def EO(sizes xs:List Int):Bool:=decide ((xs.length:Int)=sizes.length)&&(xs.zip sizes).all λz=>decide (0<=z.1/\z.1<z.2)
theorem DJ:EO sizes xs=true ↔ Dw sizes xs:=by
 unfold EO
 constructor
 ·intro h
  simp only[Bool.and_eq_true,decide_eq_true_eq,List.all_eq_true] at h
  exact⟨by omega,h.2⟩
 ·intro h
  simp only[Bool.and_eq_true,decide_eq_true_eq,List.all_eq_true]
  exact⟨by rw[h.len],h.jg⟩
theorem AV(x s:Int):∀ env:af,env=[some (.sh (.int x)),some (.sh (.int s))]->gW Cm As (λ_=>M.ok (.int 0)) (ae 0) (ae 1) env=M.ok (.bl (decide (0<=x/\x<s))):=by
 rintro env rfl
 dsimp? []
 by_cases h:0<=x
 ·simp only[h,decide_true,if_true,true_and]
  try dsimp? []
 ·simp only[h,decide_false,false_and]
  try dsimp? []
theorem Jh(h:α->Bool)(xs:List α):vg [.lst (xs.map λa=>.bl (h a))]=M.ok (.bl (xs.all h)):=by
 have:=vD (xs.map h)
 rw[List.map_map] at this
 rw[show (λa=>PV.bl (h a))=PV.bl∘h from rfl,this]
 simp[List.all_map]
theorem xw(h:Sz sizes)(xs:List Int)(hz:xs.length<=1000):gO [dS ns sizes levers,tI xs]=M.ok (.bl (EO sizes xs)):=by
 have key:bo (bR 0 1) none (gW Cm As (λ_=>M.ok (.int 0)) (ae 0) (ae 1)) ((xs.zip sizes).map λz=>.tup [.int z.1,.int z.2]) [none,none]=M.ok ((xs.zip sizes).map λz=>.bl (decide (0<=z.1/\z.1<z.2))) :=
  iL (p:=λz:Int×Int=>PV.int z.1) (q:=λz:Int×Int=>PV.int z.2) (xs.zip sizes) λz hz=>AV z.1 z.2 _ rfl
 have hl:(xs.zip sizes).length<=sizeLine:=by rw[List.length_zip];exact aL (Nat.le_trans (Nat.min_le_left _ _) hz)
 unfold gO gF
 dsimp? [oB (sizes:=sizes) (levers:=levers) (g:=ae 0) (env:=[some (.sh (dS ns sizes levers)),some (.sh (tI xs)),none]) rfl,AK xs sizes.length (aL hz)]
 unfold EO
 by_cases e:(xs.length:Int)=sizes.length
 ·simp only[e,decide_true,Bool.not_true,Bool.false_eq_true,if_false,Bool.true_and]
  dsimp? [dY (p:=tI xs) (q:=tI sizes) xs sizes rfl rfl,List.length_map,ar hl,key,Jh]
 ·simp only[e,decide_false,Bool.not_false,if_true,Bool.false_and]
  dsimp? []
theorem lS(h:Sz sizes)(hs:Dw sizes xs):bU [dS ns sizes levers,tI xs]=M.ok .da:=by
 unfold bU cP
 dsimp? [xw (levers:=levers) h xs (by rw[hs.len];have:=h.h6;omega),DJ.mpr hs]
variable{ys:List Int}
theorem kR{z:Int×Int}(h:z∈xs.zip ys):z.1∈xs/\z.2∈ys:=List.of_mem_zip (a:=z.1) (b:=z.2) h
theorem ur(h:Sz sizes)(hs:Dw sizes xs)(hx:x∈xs):0<=x/\x<360:=by
 obtain⟨i,hi,rfl⟩:=List.mem_iff_getElem.mp hx
 have hj:i<sizes.length:=by rw[← hs.len];exact hi
 have:=hs.jg (xs[i],sizes[i]) (by
  rw[List.mem_iff_getElem]
  exact⟨i,by rw[List.length_zip];omega,by rw[List.getElem_zip]⟩)
 have h2:=h.hx sizes[i] (List.getElem_mem hj)
 exact⟨this.1,by have:=this.2;simp only at this;omega⟩
theorem uj(xs sizes:List Int):um xs sizes=zJ xs sizes:=rfl
def cf(a b:Int):Int×Int:=open Classical in if h:∃ p:Int×Int,gg [.int a,.int b]=M.ok (.tup [.int (Int.gcd a b),.int p.1,.int p.2])/\p.1*a+p.2*b=Int.gcd a b/\p.1.natAbs<=b.natAbs+1/\p.2.natAbs<=a.natAbs+(b.natAbs+1)*a.natAbs+b.natAbs+1 then h.choose else (0,0)
theorem Ge(a b:Int)(ha:a.natAbs<2^60)(hb:b.natAbs<2^60):gg [.int a,.int b]=M.ok (.tup [.int (Int.gcd a b),.int (cf a b).1,.int (cf a b).2])/\(cf a b).1*a+(cf a b).2*b=Int.gcd a b/\(cf a b).1.natAbs<=b.natAbs+1/\(cf a b).2.natAbs<=a.natAbs+(b.natAbs+1)*a.natAbs+b.natAbs+1:=by
 have h:∃ p:Int×Int,gg [.int a,.int b]=M.ok (.tup [.int (Int.gcd a b),.int p.1,.int p.2])/\p.1*a+p.2*b=Int.gcd a b/\p.1.natAbs<=b.natAbs+1/\p.2.natAbs<=a.natAbs+(b.natAbs+1)*a.natAbs+b.natAbs+1:=by
  obtain⟨s,t,h⟩:=rM a b ha hb
  exact⟨(s,t),h⟩
 unfold cf
 rw[dif_pos h]
 exact h.choose_spec
theorem C6:CB cf:=λa b h1 h2 h3 h4=>by
 obtain⟨_,e,b1,b2⟩:=Ge a b (by omega) (by omega)
 refine⟨e,by omega,?_⟩
 have:(b.natAbs+1)*a.natAbs<=361*360:=Nat.mul_le_mul (by omega) (by omega)
 omega
def mk(r:Row):PV:=.tup [tI r.1,tI r.2]
theorem nI(r:Row):aP (mk r) (.int 0)=M.ok (tI r.1):=bC (p:=mk r) (j:=0) rfl rfl
theorem Ds(r:Row):aP (mk r) (.int 1)=M.ok (tI r.2):=bC (p:=mk r) (j:=1) rfl rfl
variable{i:Nat}
theorem iM(h:i<xs.length):aP (tI xs) (.int (i:Int))=M.ok (.int (vf xs i)) :=
 bC (p:=tI xs) rfl (by rw[List.getElem?_map,List.getElem?_eq_getElem h,aT h];rfl)
variable{d:Nat}{rows:List Row}
theorem pC(h:d<rows.length):aP (.lst (rows.map mk)) (.int (d:Int))=M.ok (mk (row rows d)) :=
 bC (p:=.lst (rows.map mk)) rfl (by rw[List.getElem?_map,List.getElem?_eq_getElem h,je h];rfl)
theorem pf{A B:Nat}(p q:PV)(xs ys:List Int)(a b:Int)(hp:bX p=some (xs.map PV.int))(hq:bX q=some (ys.map PV.int))(hx:Bd B xs)(hy:Bd B ys)(ha:a.natAbs<2^A)(hb:b.natAbs<2^A)(hB:B<=9000)(hA:A<=9000)(hz:xs.length<=1000):kJ [p,.int a,q,.int b]=M.ok (tI (oo xs a ys b)):=by
 have key:bo (bR 0 1) none (aj eT (aj cp (ae 2) (ae 0)) (aj cp (ae 3) (ae 1))) ((xs.zip ys).map λz=>.tup [.int z.1,.int z.2]) [none,none,some (.sh (.int a)),some (.sh (.int b))]=M.ok ((xs.zip ys).map λz=>.int (a*z.1+b*z.2)):=by
  refine iL (p:=λz:Int×Int=>PV.int z.1) (q:=λz:Int×Int=>PV.int z.2) (xs.zip ys) λz hz=>?_
  have m:=List.of_mem_zip (a:=z.1) (b:=z.2) hz
  dsimp? [bx (k:=A) (l:=B) ha (hx _ m.1) hA hB,bx (k:=A) (l:=B) hb (hy _ m.2) hA hB]
 have hl:(xs.zip ys).length<=sizeLine:=by rw[List.length_zip];exact aL (Nat.le_trans (Nat.min_le_left _ _) hz)
 unfold kJ l9
 dsimp? [dY xs ys hp hq,List.length_map,ar hl,key]
 rw[tI,oo,List.map_map];rfl
variable{r:Row}
theorem wx{A B:Nat}{q:Row}{a b:Int}(hs:∀ s∈sizes,0<s)(h1:Bd B r.1)(h2:Bd B r.2)(h3:Bd B q.1)(h4:Bd B q.2)(ha:a.natAbs<2^A)(hb:b.natAbs<2^A)(hB:B<=9000)(hA:A<=9000)(z1:r.1.length<=100)(z2:r.2.length<=100):dN [tI sizes,mk r,.int a,mk q,.int b]=M.ok (mk (qH sizes r a q b)):=by
 unfold dN eO
 dsimp? [nI,Ds,pf (tI r.1) (tI q.1) r.1 q.1 a b rfl rfl h1 h3 ha hb hB hA (by omega),pf (tI r.2) (tI q.2) r.2 q.2 a b rfl rfl h2 h4 ha hb hB hA (by omega),ph (tI (oo r.1 a q.1 b)) (tI sizes) (oo r.1 a q.1 b) sizes rfl rfl hs (by rw[b_];omega)]
 rfl
variable{m:Nat}
theorem tW(w:Wf n m rows)(hs:sizes.length=n)(hd:d<n):dj [tI sizes,.lst (rows.map mk),.int (d:Int)]=M.ok (.int (a_ (vf sizes) (DD rows) d)):=by
 unfold dj eD
 have e1:=w.qI hd
 dsimp? [pC (rows:=rows) (d:=d) (by rw[w.len];exact hd),nI,iM (xs:=(row rows d).1) (i:=d) (by omega)]
 unfold a_
 by_cases z:DD rows d d=0
 ·have z':vf (row rows d).1 d=0:=z
  simp only[z',z,decide_true,if_true]
  dsimp? [iM (xs:=sizes) (i:=d) (by omega)]
 ·have z':¬ vf (row rows d).1 d=0:=z
  simp only[z',z,decide_false,Bool.false_eq_true,if_false]
  dsimp? []
  rfl
theorem drop_cons{xs:List α}{a:α}{r:List α}(h:xs.drop d=a::r):d<xs.length/\xs[d]?=some a/\xs.drop (d+1)=r:=by
 have hd:d<xs.length:=by
  rcases Nat.lt_or_ge d xs.length with q | q
  ·exact q
  ·rw[List.drop_eq_nil_of_le q] at h;cases h
 rw[List.drop_eq_getElem_cons hd] at h
 injection h with h1 h2
 exact⟨hd,by rw[List.getElem?_eq_getElem hd,h1],h2⟩
theorem iU(env:af):l7 ak env=M.ok []:=by
 simp only[l7,ak,M.aE]
 exact if_pos (Nat.zero_le _)
theorem yI{f:af->M PV}{env:af}{xs:List PV}(h:env[i]?=some (some (.ow xs)))(hf:f env=M.ok p)(hz:xs.length<1000):nP i f env=M.ok (.nx (env.set i (some (.ow (xs++[p]))))):=by
 unfold nP
 rw[h]
 show M.bind (f env) _=_
 rw[hf,M.aE,if_pos (mM (Nat.le_of_lt hz))]
theorem uh(hl:xs.length=n)(h:∀ i,i<n->0<=vf xs i/\vf xs i<vf sizes i)(hs:∀ i,i<n->vf sizes i<=360):Bd 9 xs:=λx hx=>by
 obtain⟨i,hi,rfl⟩:=List.mem_iff_getElem.mp hx
 have h1:=h i (by omega);have h2:=hs i (by omega)
 rw[aT hi] at h1
 omega
theorem Au{a b:Int}(h1:-1000<=a)(h2:a<=1000)(h3:-1000<=b)(h4:b<=1000):zd [.int a,.int b]=M.ok ((List.range (b-a).toNat).map λ(i:Nat)=>.int (a+(i:Int))):=by
 have h:-(2^62)<=a/\a<2^62/\-(2^62)<=b/\b<2^62:=by omega
 show cC (-(2^62)<=a/\a<2^62/\-(2^62)<=b/\b<2^62) _=_
 rw[ar h]
variable{A:Nat->dG}{k:Nat}
section
variable{left:Row}
theorem St.A6(h:St n m sizes A k rows)(hd:d<n):Bd 9 (row rows d).1:=uh (h.wf.qI hd) (λi hi=>h.gd.jg d hd i hi) h.sm
theorem BQ(h:St n m sizes A k rows):∀ s∈sizes,0<s:=λs hs=>by
 obtain⟨i,hi,rfl⟩:=List.mem_iff_getElem.mp hs
 have:=h.gd.sp i (by rw[← h.hs];exact hi)
 rwa [aT hi] at this
theorem A9(h:St n m sizes A k rows)(L:Lv n m sizes A k left)(hn:n<=6)(hm:m<=8):jK [tI sizes,.lst (rows.map mk),mk left]=M.ok (.tup [.lst ((cF cf sizes rows left n).map mk),tI (az cf sizes rows left n).2]):=by
 have rl:=h.wf.len
 have hkm:=L.km
 unfold jK jl
 dsimp? [iU,tf]
 refine eH rows.zipIdx (λzs env=>∃ d x4 x5 x6 x7 x8,d<=n/\rows.zipIdx.drop d=zs/\env=[some (.sh (tI sizes)),some (.sh (.lst (rows.map mk))),some (.sh (mk (az cf sizes rows left d))),some (.ow ((cF cf sizes rows left d).map mk)),x4,x5,x6,x7,x8]) ⟨0,none,none,none,none,none,Nat.zero_le _,rfl,rfl⟩ ?_ ?_
 ·rintro⟨a,i⟩ zs env ⟨d,x4,x5,x6,x7,x8,hd,P4,rfl⟩
  obtain⟨h1,h2,h3⟩:=drop_cons P4
  rw[List.length_zipIdx,rl] at h1
  have h4:a=row rows d/\i=d:=by
   rw[List.getElem?_zipIdx] at h2
   rw[je (by rw[rl];exact h1)]
   rw[List.getElem?_eq_getElem (by rw[rl];exact h1)] at h2
   simp at h2
   exact⟨h2.1.symm,h2.2.symm⟩
  obtain⟨rfl,rfl⟩:=h4
  have ll:=c7 (c:=cf) h.wf h.hs L.l1 L.l2 i (by omega)
  have lk:=kG (c:=cf) h L i (by omega)
  have lb:=oF (c:=cf) h L hn i (by omega)
  have st:=h.gd.pos h1
  have sm:=h.sm i h1
  have nt:=lk i h1
  have e1:=h.wf.qI h1;have e2:=h.wf.at2 h1
  generalize Ol:a_ (vf sizes) (DD rows) i=OV at *
  generalize hnt:vf (az cf sizes rows left i).1 i=nt' at *
  obtain⟨c1,c2,c3,c4⟩:=Ge OV nt' (by omega) (by omega)
  have cb:=C6 OV nt' st.1 (by omega) nt.1 (by omega)
  have gp:=gL (b:=nt') st.1
  have gl:(Int.gcd OV nt':Int)<=OV:=Int.le_of_dvd st.1 (Int.gcd_dvd_left ..)
  have a1:=ka (b:=nt') st.1 (by omega)
  have a2:=lY (b:=nt') st.1 nt.1 (by omega)
  have B1:Bd 1300 (row rows i).1:=(St.A6 h h1).mono (by omega)
  have B2:Bd 1300 (row rows i).2:=(h.bd i h1).mono (by omega)
  have B3:Bd 1300 (az cf sizes rows left i).1:=(uh ll.1 lk h.sm).mono (by omega)
  have B4:Bd 1300 (az cf sizes rows left i).2:=lb.mono (by omega)
  have w1:=wx (A:=20) (sizes:=sizes) (BQ h) B1 B2 B3 B4 cb.2.1 cb.2.2 (by decide) (by decide) (by omega) (by omega)
  have w2:=wx (A:=20) (sizes:=sizes) (a:=OV/(Int.gcd OV nt':Nat)) (b:=-(nt'/(Int.gcd OV nt':Nat))) (BQ h) B3 B4 B1 B2 (by omega) (by omega) (by decide) (by decide) (by omega) (by omega)
  have ew:eo cf sizes rows left i=qH sizes (row rows i) (cf OV nt').1 (az cf sizes rows left i) (cf OV nt').2:=by
   simp only[eo,Ol,hnt]
  have el:az cf sizes rows left (i+1)=qH sizes (az cf sizes rows left i) (OV/(Int.gcd OV nt':Nat)) (row rows i) (-(nt'/(Int.gcd OV nt':Nat))):=by
   simp only[az,Ol,hnt]
  refine⟨_,[some (.sh (tI sizes)),some (.sh (.lst (rows.map mk))),some (.sh (mk (az cf sizes rows left (i+1)))),some (.ow ((cF cf sizes rows left (i+1)).map mk)),some (.sh (.int i)),some (.sh (mk (row rows i))),some (.sh (.int OV)),some (.sh (.int nt')),some (.sh (.tup [.int (Int.gcd OV nt'),.int (cf OV nt').1,.int (cf OV nt').2]))],rfl,?_,i+1,_,_,_,_,_,by omega,h3,rfl⟩
  have sok:=tW h.wf h.hs h1
  rw[Ol] at sok
  have nok:=iM (xs:=(az cf sizes rows left i).1) (i:=i) (by omega)
  rw[hnt] at nok
  dsimp? [sok,nI,nok,c1]
  rw[yI (i:=3) rfl (p:=mk (eo cf sizes rows left i)) (by dsimp? [Hy,Ik,w1,ew]) (by simp[cF];omega)]
  dsimp? [wF,bG (i:=OV) gp (by omega),bG (i:=nt') gp (by omega),w2,el]
  rw[cF,cF,List.range_succ,List.map_append,List.map_append]
  rfl
 ·rintro env ⟨d,x4,x5,x6,x7,x8,hd,P4,rfl⟩
  have QX:d=n:=by
   have:=congrArg List.length P4
   rw[List.length_drop,List.length_zipIdx,rl] at this
   simp at this
   omega
  subst QX
  dsimp? [Ds]
def bj(sizes:List Int)(rows:List Row)(r:Row)(f:Nat):Nat->Row
 | 0=>r
 | c+1 =>
  let l:=bj sizes rows r f c
  qH sizes l 1 (row rows (f+c)) (-(vf l.1 (f+c)/a_ (vf sizes) (DD rows) (f+c)))
theorem iD(h:St n m sizes A k rows){r:Row}{f:Nat}(h1:r.1.length=n)(h2:r.2.length=m):∀ c,f+c<=n->(bj sizes rows r f c).1.length=n/\(bj sizes rows r f c).2.length=m
 | 0,_=>⟨h1,h2⟩
 | c+1,hc=>by
  obtain⟨i1,i2⟩:=iD h (f:=f) h1 h2 c (by omega)
  have e1:=h.wf.qI (d:=f+c) (by omega);have e2:=h.wf.at2 (d:=f+c) (by omega)
  have hs:=h.hs
  simp only[bj,qH]
  rw[i4,b_,b_]
  exact⟨by omega,by omega⟩
theorem mR(h:St n m sizes A k rows){f:Nat}(h1:r.1.length=n)(h2:r.2.length=m)(h0:∀ i,i<n->0<=vf r.1 i/\vf r.1 i<vf sizes i):Dn n (vf sizes) (DD rows) f (λd=>vf (bj sizes rows r f (d-f)).1) where
 w0:=λi hi=>by rw[Nat.sub_self];exact h0 i hi
 ws:=λd hf hd i hi=>by
  obtain⟨c,rfl⟩:∃ c,d=f+c:=⟨d-f,by omega⟩
  obtain⟨i1,i2⟩:=iD h (f:=f) h1 h2 c (by omega)
  have e1:=h.wf.qI (d:=f+c) (by omega)
  have hs:=h.hs
  show vf (bj sizes rows r f (f+c+1-f)).1 i=_
  rw[show f+c+1-f=c+1 by omega,show f+c-f=c by omega]
  simp only[bj,qH]
  rw[jr (by rw[b_];omega) (by omega),fq (by omega) (by omega)]
  rfl
theorem sF(h:St n m sizes A k rows){r:Row}{f:Nat}(h1:r.1.length=n)(h2:r.2.length=m){P₀:dG}{B:dG}(hl:Led n (vf sizes) m A (λi=>vf r.1 i-B i) (λl=>vf r.2 l-P₀ l)):∀ c,f+c<=n->Led n (vf sizes) m A (λi=>vf (bj sizes rows r f c).1 i-B i) (λl=>vf (bj sizes rows r f c).2 l-P₀ l)
 | 0,_=>hl
 | c+1,hc=>by
  obtain⟨i1,i2⟩:=iD h (f:=f) h1 h2 c (by omega)
  have e1:=h.wf.qI (d:=f+c) (by omega);have e2:=h.wf.at2 (d:=f+c) (by omega)
  have hs:=h.hs
  refine Led.mix (a:=1) (b:=-(vf (bj sizes rows r f c).1 (f+c)/a_ (vf sizes) (DD rows) (f+c))) (sF h (f:=f) h1 h2 hl c (by omega)) (h.led (f+c) (by omega)) (λi hi=>?_) λl hl=>?_
  ·simp only[bj,qH]
   rw[jr (by rw[b_];omega) (by omega),fq (by omega) (by omega)]
   obtain⟨z,hz⟩:=eX (1*vf (bj sizes rows r f c).1 i+-(vf (bj sizes rows r f c).1 (f+c)/a_ (vf sizes) (DD rows) (f+c))*vf (row rows (f+c)).1 i) (vf sizes i)
   refine⟨z,?_⟩
   rw[← hz]
   unfold DD
   grind
  ·simp only[bj,qH]
   rw[fq (by omega) (by omega)]
   unfold PP
   grind
theorem uf(h:St n m sizes A k rows){r:Row}{f B:Nat}(h1:r.1.length=n)(h2:r.2.length=m)(h0:∀ i,i<n->0<=vf r.1 i/\vf r.1 i<vf sizes i)(hB:150*k+1<=B)(hb:Bd B r.2):∀ c,f+c<=n->Bd (B+11*c) (bj sizes rows r f c).2
 | 0,_=>hb
 | c+1,hc=>by
  have k0:=(mR h (f:=f) h1 h2 h0).kept h.gd (f+c) (by omega) (by omega) (f+c) (by omega)
  rw[show f+c-f=c by omega] at k0
  have sm:=h.sm (f+c) (by omega)
  have p:=h.gd.pos (d:=f+c) (by omega)
  have q:=Int.ediv_le_self (a_ (vf sizes) (DD rows) (f+c)) k0.1
  have q0:=Int.ediv_nonneg k0.1 (Int.le_of_lt p.1)
  have:=Bd.mix (A:=10) (uf h (f:=f) h1 h2 h0 hB hb c (by omega)) ((h.bd (f+c) (by omega)).mono (show 150*k+1<=B+11*c by omega)) (a:=1) (b:=-(vf (bj sizes rows r f c).1 (f+c)/a_ (vf sizes) (DD rows) (f+c))) (by decide) (by omega)
  exact this.mono (by omega)
theorem qA(h:St n m sizes A k rows){f B:Nat}(hn:n<=6)(hm:m<=8)(h1:r.1.length=n)(h2:r.2.length=m)(h0:∀ i,i<n->0<=vf r.1 i/\vf r.1 i<vf sizes i)(hB:150*k+1<=B)(hB2:B<=8000)(hb:Bd B r.2)(hf:f<=n):fc [tI sizes,.lst (rows.map mk),mk r,.int (f:Int)]=M.ok (mk (bj sizes rows r f (n-f))):=by
 have hs:=h.hs
 have rl:=h.wf.len
 unfold fc iT
 have jg:zd [.int (f:Int),.int (sizes.length:Int)]=M.ok ((List.range (n-f)).map λ(i:Nat)=>.int ((f+i:Nat):Int)):=by
  rw[Au (by omega) (by omega) (by omega) (by omega),hs,show ((n:Int)-(f:Int)).toNat=n-f by omega]
  simp
 dsimp? [jg]
 refine eH (List.range (n-f)) (λzs env=>∃ c x4 x5,c<=n-f/\(List.range (n-f)).drop c=zs/\env=[some (.sh (tI sizes)),some (.sh (.lst (rows.map mk))),some (.sh (mk (bj sizes rows r f c))),some (.sh (.int (f:Int))),x4,x5]) ⟨0,none,none,Nat.zero_le _,rfl,rfl⟩ ?_ ?_
 ·rintro i zs env ⟨c,x4,x5,hc,P4,rfl⟩
  obtain⟨c1,c2,c3⟩:=drop_cons P4
  rw[List.length_range] at c1
  obtain rfl:i=c:=by
   rw[List.getElem?_range c1] at c2;exact(Option.some.inj c2).symm
  have QY:f+i<n:=by omega
  have ll:=iD h (f:=f) h1 h2 i (by omega)
  have lk:=(mR h (f:=f) h1 h2 h0).kept h.gd (f+i) (by omega) (by omega)
  rw[show f+i-f=i by omega] at lk
  have k0:=lk (f+i) QY
  have sm:=h.sm (f+i) QY
  have p:=h.gd.pos QY
  have e1:=h.wf.qI QY;have e2:=h.wf.at2 QY
  have B1:Bd 8200 (row rows (f+i)).1:=(St.A6 h QY).mono (by omega)
  have B2:Bd 8200 (row rows (f+i)).2:=(h.bd _ QY).mono (by omega)
  have B3:Bd 8200 (bj sizes rows r f i).1:=(uh ll.1 lk h.sm).mono (by omega)
  have B4:Bd 8200 (bj sizes rows r f i).2:=(uf h (f:=f) h1 h2 h0 hB hb i (by omega)).mono (by omega)
  have q:=Int.ediv_le_self (a_ (vf sizes) (DD rows) (f+i)) k0.1
  have q0:=Int.ediv_nonneg k0.1 (Int.le_of_lt p.1)
  have w:=wx (A:=20) (sizes:=sizes) (a:=1) (b:=-(vf (bj sizes rows r f i).1 (f+i)/a_ (vf sizes) (DD rows) (f+i))) (BQ h) B3 B4 B1 B2 (by decide) (by omega) (by decide) (by decide) (by omega) (by omega)
  refine⟨_,[some (.sh (tI sizes)),some (.sh (.lst (rows.map mk))),some (.sh (mk (bj sizes rows r f (i+1)))),some (.sh (.int (f:Int))),some (.sh (.int ((f+i:Nat):Int))),some (.sh (.int (vf (bj sizes rows r f i).1 (f+i)/a_ (vf sizes) (DD rows) (f+i))))],rfl,?_,i+1,_,_,by omega,c3,rfl⟩
  dsimp? [nI,iM (xs:=(bj sizes rows r f i).1) (i:=f+i) (by omega),tW h.wf h.hs QY,bG (i:=vf (bj sizes rows r f i).1 (f+i)) p.1 (by omega),pC (rows:=rows) (d:=f+i) (by omega),w]
  rfl
 ·rintro env ⟨c,x4,x5,hc,P4,rfl⟩
  have:c=n-f:=by
   have:=congrArg List.length P4
   rw[List.length_drop,List.length_range] at this
   simp at this
   omega
  subst this
  dsimp? []
end
theorem E7(m k:Nat)(hm:m<=1000):jI [.int (m:Int),.int (k:Int)]=M.ok (tI (nq m k)):=by
 have key:bo (bw 0) none (zX (cX (aj my (ae 0) (ae 1))) (λ_=>M.ok (.int 1)) (λ_=>M.ok (.int 0))) ((List.range m).map λ(i:Nat)=>.int (i:Int)) [none,some (.sh (.int (k:Int)))]=M.ok ((List.range m).map λ(i:Nat)=>.int (if i=k then 1 else 0)):=by
  refine dQ (inj:=λ(i:Nat)=>PV.int (i:Int)) (List.range m) λi hi=>?_
  dsimp? []
  by_cases z:i=k
  ·subst z;simp only[decide_true,if_true]
  ·have z':¬ (i:Int)=(k:Int):=by omega
   simp only[z,z',decide_false,Bool.false_eq_true,if_false]
 unfold jI jt
 dsimp? [cZ (n:=(m:Int)) (by omega) (by omega),Int.toNat_natCast,List.length_map,List.length_range,ar (aL hm),key]
 rw[tI,nq,List.map_map];rfl
theorem rH{n:Int}(h:0<=n):Builtin.Range.rangeSize (n-1) (-1) (-1)=n:=by
 unfold Builtin.Range.rangeSize
 rw[if_neg (by decide)]
 split
 ·rw[show -(-1:Int)=1 from rfl,Int.ediv_one];omega
 ·omega
theorem DA{n:Int}(h:0<=n)(h2:n<=1000):C3 (n-1) (-1) (-1)=true:=by
 unfold C3 Builtin.Range.small
 have f:∀ x:Int,-(2^40)<x->x<2^40->Builtin.Range.rangeFitsLong x=true:=λx h1 h2=>by
  unfold Builtin.Range.rangeFitsLong
  simp only[Bool.and_eq_true,decide_eq_true_eq]
  omega
 simp only[rH h,f (n-1) (by omega) (by omega),f (-1) (by decide) (by decide),f n (by omega) (by omega),f (n-1+n*-1) (by omega) (by omega),Bool.and_true,Bool.true_and,Bool.and_self,Bool.and_eq_true,decide_eq_true_eq]
 refine⟨by decide,?_⟩
 rw[if_neg (by decide),f (-1+(-1+1)) (by decide) (by decide),Bool.or_true]
theorem vh(k:Nat)(hk:k<=1000):Af [.int ((k:Int)-1),.int (-1),.int (-1)]=M.ok ((List.range k).map λ(i:Nat)=>.int ((k:Int)-1+(i:Int)*-1)):=by
 show cC (C3 ((k:Int)-1) (-1) (-1)=true) _=_
 rw[ar (DA (by omega) (by omega)),rH (by omega),Int.toNat_natCast]
variable{j:Nat}{idle:List (List Int)}
theorem Dz(h:j<idle.length):aP (.lst (idle.map tI)) (.int (j:Int))=M.ok (tI (idle.getD j [])) :=
 bC (p:=.lst (idle.map tI)) rfl (by rw[List.getElem?_map,List.getElem?_eq_getElem h,List.getD_eq_getElem?_getD,List.getElem?_eq_getElem h];rfl)
theorem vQ{B:Nat}{s:dG}{P:List Int}(h:zF n m s A k idle)(hP:P.length=m)(hm:m<=8)(hk:k<=m)(hB:60<=B)(hB2:B<=8000)(hb:Bd B P):gU [tI P,.lst (idle.map tI)]=M.ok (tI (aV idle k P k)):=by
 have il:=h.len
 unfold gU gY
 dsimp? [List.length_map,il,vh k (by omega)]
 refine eH (List.range k) (λzs env=>∃ c x2 x3,c<=k/\(List.range k).drop c=zs/\env=[some (.sh (tI (aV idle k P c))),some (.sh (.lst (idle.map tI))),x2,x3]) ⟨0,none,none,Nat.zero_le _,rfl,rfl⟩ ?_ ?_
 ·rintro i zs env ⟨c,x2,x3,hc,P4,rfl⟩
  obtain⟨c1,c2,c3⟩:=drop_cons P4
  rw[List.length_range] at c1
  obtain rfl:i=c:=by
   rw[List.getElem?_range c1] at c2;exact(Option.some.inj c2).symm
  have hj:k-1-i<k:=by omega
  have ej:(k:Int)-1+(i:Int)*-1=((k-1-i:Nat):Int):=by omega
  have sl:=span_len h hP i (by omega)
  have rl:=h.l2 (k-1-i) hj
  have p:=h.pos (k-1-i) hj
  have pl60:=h.le (k-1-i) hj
  have zb:=yj h hP hk hB hb i (by omega)
  have B1:Bd 8600 (aV idle k P i):=zb.mono (by omega)
  have B2:Bd 8600 (idle.getD (k-1-i) []):=(h.bd hj hk).mono (by omega)
  have q:(-(vf (aV idle k P i) (k-1-i)/vf (idle.getD (k-1-i) []) (k-1-i))).natAbs<2^8600:=by
   rw[Int.natAbs_neg]
   exact Nat.lt_of_le_of_lt (Int.natAbs_ediv_le_natAbs ..) (B1.vf _)
  have w:=pf (A:=8600) (tI (aV idle k P i)) (tI (idle.getD (k-1-i) [])) (aV idle k P i) (idle.getD (k-1-i) []) 1 (-(vf (aV idle k P i) (k-1-i)/vf (idle.getD (k-1-i) []) (k-1-i))) rfl rfl B1 B2 (Nat.one_lt_two_pow (by decide)) q (by decide) (by decide) (by omega)
  refine⟨_,[some (.sh (tI (aV idle k P (i+1)))),some (.sh (.lst (idle.map tI))),some (.sh (.int ((k-1-i:Nat):Int))),some (.sh (tI (idle.getD (k-1-i) [])))],rfl,?_,i+1,_,_,by omega,c3,rfl⟩
  rw[ej]
  dsimp? [Dz (idle:=idle) (j:=k-1-i) (by omega),iM (xs:=aV idle k P i) (i:=k-1-i) (by omega),iM (xs:=idle.getD (k-1-i) []) (i:=k-1-i) (by omega),bG (i:=vf (aV idle k P i) (k-1-i)) (j:=vf (idle.getD (k-1-i) []) (k-1-i)) p (by show II idle (k-1-i) (k-1-i)<2^64;omega),w]
  rfl
 ·rintro env ⟨c,x2,x3,hc,P4,rfl⟩
  have:c=k:=by
   have:=congrArg List.length P4
   rw[List.length_drop,List.length_range] at this
   simp at this
   omega
  subst this
  dsimp? []
variable{Ls:List (List Int)}
theorem kS(h:sizes.length<=6):gb [dS ns sizes Ls]=M.ok (tI (List.replicate sizes.length 0)):=by
 unfold gb i6
 dsimp? [oB (sizes:=sizes) (levers:=Ls) (g:=ae 0) (env:=[some (.sh (dS ns sizes Ls))]) rfl,mul_one (.int 0) sizes.length (by omega)]
 rw[tI,List.map_replicate]
theorem ni(hm:Ls.length<=8)(xs:List Int):fk [dS ns sizes Ls,tI xs]=M.ok (mk (xs,List.replicate Ls.length 0)):=by
 unfold fk hV
 dsimp? [pV (sizes:=sizes) (levers:=Ls) (g:=ae 0) (env:=[some (.sh (dS ns sizes Ls)),some (.sh (tI xs))]) rfl,List.length_map,mul_one (.int 0) Ls.length (by omega)]
 rw[mk,tI,tI,List.map_replicate]
theorem DK(hm:Ls.length<=8)(hk:k<Ls.length):fU [dS ns sizes Ls,.int (k:Int)]=M.ok (mk (bW Ls Ls.length k)):=by
 have e:aP (.tup (Ls.map tI)) (.int (k:Int))=M.ok (tI (Ls.getD k [])):=bC (p:=.tup (Ls.map tI)) rfl (by rw[List.getElem?_map,List.getElem?_eq_getElem hk,List.getD_eq_getElem?_getD,List.getElem?_eq_getElem hk];rfl)
 unfold fU fx
 dsimp? [pV (sizes:=sizes) (levers:=Ls) (g:=ae 0) (env:=[some (.sh (dS ns sizes Ls)),some (.sh (.int (k:Int))),none]) rfl,List.length_map,e,E7 Ls.length k (by omega)]
 rfl
theorem A1:∀ xs:List Int,oP (tI xs)=true:=by
 intro xs
 have:∀ ys:List Int,mU (ys.map PV.int)=true:=by
  intro ys
  induction ys with
  | nil=>rfl
  | cons a r ih=>simp[mU,oP,ih]
 exact this xs
theorem JT(x y:PV):aP (.tup [x,y]) (.int 0)=M.ok x:=bC (j:=0) rfl rfl
theorem Kn(x y:PV):aP (.tup [x,y]) (.int 1)=M.ok y:=bC (j:=1) rfl rfl
def mJ(sizes:List Int)(rows:List Row)(n:Nat):List Row:=(List.range n).map λd=>bj sizes rows (row rows d) (d+1) (n-(d+1))
def vc(V:PV)(rows:List Row)(idle:List (List Int)):List (Str×PV):=[("vault", V),("made_rows", .lst (rows.map mk)),("idle_rows", .lst (idle.map tI))]
theorem Cc(hn1:1<=sizes.length)(hn:sizes.length<=6)(hm:Ls.length<=8)(hp:∀ i,i<sizes.length->0<vf sizes i/\vf sizes i<=360)(LL:Lb sizes.length Ls.length sizes Ls) :
  e_ aA iB [] [dS ns sizes Ls]=M.ok (.obj aA (vc (dS ns sizes Ls) (mJ sizes (RK cf sizes Ls sizes.length Ls.length Ls.length).1 sizes.length) (RK cf sizes Ls sizes.length Ls.length Ls.length).2)):=by
 have all:=λk hk=>AX.all (c:=cf) rfl hp LL C6 hn k hk
 have key:∀ a,iB a ([dS ns sizes Ls]++[])=M.ok (vc (dS ns sizes Ls) (mJ sizes (RK cf sizes Ls sizes.length Ls.length Ls.length).1 sizes.length) (RK cf sizes Ls sizes.length Ls.length Ls.length).2):=by
  intro a
  have e1:bo (bw 0) none (ai fk (aa (ae 1) (aa (ai gb (aa (ae 1) ak)) ak))) (sizes.map PV.int) [none,some (.sh (dS ns sizes Ls))]=M.ok ((List.replicate sizes.length ((List.replicate sizes.length (0:Int)),(List.replicate Ls.length (0:Int)))).map mk):=by
   rw[dQ (h:=λ_=>mk (List.replicate sizes.length 0,List.replicate Ls.length 0)) sizes λx _=>by dsimp? [kS (Ls:=Ls) hn,ni (sizes:=sizes) hm (List.replicate sizes.length 0)]]
   congr 1
   rw[List.map_const',List.map_replicate]
  have e2:bo (bR 0 1) none (ai fc (aa (ae 2) (aa (ae 3) (aa (ae 1) (aa (aj eT (ae 0) (λ_=>M.ok (.int 1))) ak))))) ((RK cf sizes Ls sizes.length Ls.length Ls.length).1.zipIdx.map λz=>.tup [.int (z.2:Int),mk z.1]) [none,none,some (.sh (tI sizes)),some (.sh (.lst ((RK cf sizes Ls sizes.length Ls.length Ls.length).1.map mk)))]=M.ok ((mJ sizes (RK cf sizes Ls sizes.length Ls.length Ls.length).1 sizes.length).map mk):=by
   have I:=all Ls.length (Nat.le_refl _)
   generalize RK cf sizes Ls sizes.length Ls.length Ls.length=rk at *
   have rl:=I.st.wf.len
   rw[iL (p:=λz:Row×Nat=>PV.int (z.2:Int)) (q:=λz:Row×Nat=>mk z.1) (h:=λz:Row×Nat=>mk (bj sizes rk.1 z.1 (z.2+1) (sizes.length-(z.2+1)))) rk.1.zipIdx λz hz=>?_]
   ·congr 1
    rw[mJ,List.map_map]
    refine List.ext_getElem (by simp[rl]) λi h1 h2=>?_
    have hi:i<rk.1.length:=by simpa using h1
    simp[je hi]
   ·obtain⟨i,hi,e⟩:=List.mem_iff_getElem.mp hz
    rw[List.length_zipIdx] at hi
    rw[List.getElem_zipIdx] at e
    have ez:z=(row rk.1 i,i):=by rw[← e,je hi];simp
    subst ez
    have hin:i<sizes.length:=by omega
    have:=qA (f:=i+1) (B:=150*Ls.length+1) I.st hn hm (I.st.wf.qI hin) (I.st.wf.at2 hin) (λj hj=>I.st.gd.jg i hin j hj) (Nat.le_refl _) (by omega) (I.st.bd i hin) (by omega)
    rw[show ((i+1:Nat):Int)=(i:Int)+1 by omega] at this
    dsimp? [this]
  have zl:sizes.length<=sizeLine:=aL (by omega)
  have I:=all Ls.length (Nat.le_refl _)
  have rl:=I.st.wf.len
  unfold iB jG
  simp only[mF]
  rw[ar (show ([dS ns sizes Ls]++([]:List PV)).length+1=2 from rfl)]
  simp only[rA,uQ]
  dsimp? [oB (sizes:=sizes) (levers:=Ls) (g:=ae 1) (env:=[some (.bd a aA []),some (.sh (dS ns sizes Ls)),none,none,none,none,none]) rfl,List.length_map,ar zl,e1,iU,pV (sizes:=sizes) (levers:=Ls) (g:=ae 1) (env:=[some (.bd a aA []),some (.sh (dS ns sizes Ls)),some (.sh (tI sizes)),some (.sh (.lst ((List.replicate sizes.length ((List.replicate sizes.length (0:Int)),(List.replicate Ls.length (0:Int)))).map mk))),some (.ow []),none,none]) rfl,cZ (n:=(Ls.length:Int)) (by omega) (by omega),Int.toNat_natCast]
  refine eH (List.range Ls.length) (λzs env=>∃ k x5 x6,k<=Ls.length/\(List.range Ls.length).drop k=zs/\env=[some (.bd a aA []),some (.sh (dS ns sizes Ls)),some (.sh (tI sizes)),some (.sh (.lst ((RK cf sizes Ls sizes.length Ls.length k).1.map mk))),some (.ow ((RK cf sizes Ls sizes.length Ls.length k).2.map tI)),x5,x6]) ⟨0,none,none,Nat.zero_le _,rfl,rfl⟩ ?_ ?_
  ·rintro i zs env ⟨k,x5,x6,hk,P4,rfl⟩
   obtain⟨c1,c2,c3⟩:=drop_cons P4
   rw[List.length_range] at c1
   obtain rfl:i=k:=by
    rw[List.getElem?_range c1] at c2;exact(Option.some.inj c2).symm
   have J:=all i hk
   have L:Lv sizes.length Ls.length sizes (AA Ls) i (bW Ls Ls.length i):=⟨LL.at_ i c1,by simp[bW,nq],c1,λj hj=>rfl,LL.jg i c1,λl hl=>va hl⟩
   have tk:=A9 J.st L hn hm
   have ll:=c7 (c:=cf) J.st.wf J.st.hs L.l1 L.l2 sizes.length (Nat.le_refl _)
   have lb:=oF (c:=cf) J.st L hn sizes.length (Nat.le_refl _)
   have sp:=vQ (B:=1400) J.uE ll.2 hm (by omega) (by decide) (by decide) (lb.mono (by omega))
   have il:=J.uE.len
   refine⟨_,[some (.bd a aA []),some (.sh (dS ns sizes Ls)),some (.sh (tI sizes)),some (.sh (.lst ((RK cf sizes Ls sizes.length Ls.length (i+1)).1.map mk))),some (.ow ((RK cf sizes Ls sizes.length Ls.length (i+1)).2.map tI)),some (.sh (.int (i:Int))),some (.sh (.tup [.lst ((cF cf sizes (RK cf sizes Ls sizes.length Ls.length i).1 (bW Ls Ls.length i) sizes.length).map mk),tI (az cf sizes (RK cf sizes Ls sizes.length Ls.length i).1 (bW Ls Ls.length i) sizes.length).2]))],rfl,?_,i+1,_,_,by omega,c3,rfl⟩
   dsimp? [DK (sizes:=sizes) hm c1,tk,JT]
   rw[yI (i:=4) rfl (p:=tI (aV (RK cf sizes Ls sizes.length Ls.length i).2 i (az cf sizes (RK cf sizes Ls sizes.length Ls.length i).1 (bW Ls Ls.length i) sizes.length).2 i)) (by
    dsimp? [uI,ownAt,Kn,sp]
    exact ar (A1 _)) (by simp[il];omega)]
   dsimp? [RK,List.map_append]
  ·rintro env ⟨k,x5,x6,hk,P4,rfl⟩
   have:k=Ls.length:=by
    have:=congrArg List.length P4
    rw[List.length_drop,List.length_range] at this
    simp at this
    omega
   subst this
   dsimp? [jB]
   rw[gI _ _ _ _ _ _ (by simp)]
   dsimp? [jB,tf,List.length_map,List.length_zipIdx,rl,ar zl,e2]
   rw[gI _ _ _ _ _ _ (Nat.lt_of_le_of_lt (jh (Nat.zero_le 0)) (by decide))]
   dsimp? [jB]
   rw[gI _ _ _ _ _ _ (Nat.lt_of_le_of_lt (jh (jh (Nat.zero_le 0))) (by decide))]
   dsimp? []
   show cC _ _=_
   rw[ar ⟨rfl,rfl⟩]
   rfl
 unfold e_
 rw[t7 key];rfl
theorem l_(h:d<n):row (mJ sizes rows n) d=bj sizes rows (row rows d) (d+1) (n-(d+1)):=by
 rw[je (by simp[mJ,h])];simp[mJ]
theorem GR(h:St n m sizes A m rows)(hn:n<=6)(hA:∀ i,A m i=0):St n m sizes A (m+1) (mJ sizes rows n):=by
 have hl:∀ d,d<n->(bj sizes rows (row rows d) (d+1) (n-(d+1))).1.length=n/\(bj sizes rows (row rows d) (d+1) (n-(d+1))).2.length=m:=λd hd=>iD h (h.wf.qI hd) (h.wf.at2 hd) _ (by omega)
 have lg:=vv (D':=DD (mJ sizes rows n)) h.gd (λd e=>vf (bj sizes rows (row rows d) (d+1) (e-(d+1))).1) (λd hd=>mR h (h.wf.qI hd) (h.wf.at2 hd) λi hi=>h.gd.jg d hd i hi) (λd hd i hi=>by
  show vf (bj sizes rows (row rows d) (d+1) (d+1-(d+1))).1 i=_
  rw[Nat.sub_self];rfl) λd hd i hi=>by
  unfold DD;rw[l_ hd]
 refine⟨⟨by simp[mJ],λr hr=>?_,λr hr=>?_⟩,h.hs,h.sm,lg.1,λd hd=>?_,λd hd l h1 h2=>by omega,λd hd=>?_,λl hl=>?_⟩
 ·obtain⟨d,hd,rfl⟩:=List.mem_map.mp hr
  exact(hl d (List.mem_range.mp hd)).1
 ·obtain⟨d,hd,rfl⟩:=List.mem_map.mp hr
  exact(hl d (List.mem_range.mp hd)).2
 ·unfold DD PP
  rw[l_ hd]
  have:=sF h (f:=d+1) (h.wf.qI hd) (h.wf.at2 hd) (P₀:=λ_=>0) (B:=λ_=>0) (by
   have q:=h.led d hd
   intro i hi
   have:=q i hi
   simp only[Int.sub_zero];exact this) (n-(d+1)) (by omega)
  intro i hi
  have:=this i hi
  simp only[Int.sub_zero] at this
  exact this
 ·rw[l_ hd]
  exact(uf h (f:=d+1) (h.wf.qI hd) (h.wf.at2 hd) (λi hi=>h.gd.jg d hd i hi) (Nat.le_refl _) (h.bd d hd) (n-(d+1)) (by omega)).mono (by omega)
 ·rcases Nat.lt_or_ge l m with q | q
  ·exact lg.2.2.2.2 n 0 (by omega) _ (h.cl l q)
  ·obtain rfl:l=m:=by omega
   exact G.ext (by omega) (λi _=>(hA i).symm) (G.zero (by omega))
def qE(ns sizes:List Int)(Ls:List (List Int))(R:List Row)(idle:List (List Int)):PV:=.obj aA (vc (dS ns sizes Ls) R idle)
section
variable{R:List Row}
theorem KR:(vc (dS ns sizes Ls) R idle).lookup (Str.ofString "vault")=some (dS ns sizes Ls):=rfl
theorem JW:(vc (dS ns sizes Ls) R idle).lookup (Str.ofString "made_rows")=some (.lst (R.map mk)):=rfl
theorem Mu:(vc (dS ns sizes Ls) R idle).lookup (Str.ofString "idle_rows")=some (.lst (idle.map tI)):=rfl
theorem Mv:(vc (dS ns sizes Ls) R idle).lookup (Str.ofString "brought_down")=none:=rfl
theorem Mx{g:af->M PV}{env:af}(h:g env=M.ok (qE ns sizes Ls R idle)):d_ (λc=>c==aA) "vault" g env=M.ok (dS ns sizes Ls):=by
 rw[d_,h,M.aE]
 show cC _ (dJ (List.lookup _ _))=_
 rw[ar (beq_self_eq_true _),KR];rfl
theorem NA{g:af->M PV}{env:af}(h:g env=M.ok (qE ns sizes Ls R idle)):d_ (λc=>c==aA) "made_rows" g env=M.ok (.lst (R.map mk)):=by
 rw[d_,h,M.aE]
 show cC _ (dJ (List.lookup _ _))=_
 rw[ar (beq_self_eq_true _),JW];rfl
theorem Nx{g:af->M PV}{env:af}(h:g env=M.ok (qE ns sizes Ls R idle)):d_ (λc=>c==aA) "idle_rows" g env=M.ok (.lst (idle.map tI)):=by
 rw[d_,h,M.aE]
 show cC _ (dJ (List.lookup _ _))=_
 rw[ar (beq_self_eq_true _),Mu];rfl
theorem tH(S:Sz sizes)(hm:Ls.length<=8)(h:St sizes.length Ls.length sizes A k R)(hk:k<=9)(hx:Dw sizes xs)(h0:∀ i,i<sizes.length->0<=vf xs i/\vf xs i<vf sizes i) :
  bH [qE ns sizes Ls R idle,tI xs]=M.ok (mk (bj sizes R (xs,List.replicate Ls.length 0) 0 sizes.length)):=by
 have lo:=qA (f:=0) (B:=150*k+1) (r:=(xs,List.replicate Ls.length 0)) h S.h6 hm hx.len (by simp) h0 (Nat.le_refl _) (by omega) (λx hx=>by rw[List.eq_of_mem_replicate hx];exact Nat.two_pow_pos _) (Nat.zero_le _)
 rw[Nat.sub_zero] at lo
 unfold bH bT
 dsimp? [Mx (sizes:=sizes) (Ls:=Ls) (R:=R) (idle:=idle) (g:=ae 0) (env:=[some (.sh (qE ns sizes Ls R idle)),some (.sh (tI xs))]) rfl,NA (sizes:=sizes) (Ls:=Ls) (R:=R) (idle:=idle) (g:=ae 0) (env:=[some (.sh (qE ns sizes Ls R idle)),some (.sh (tI xs))]) rfl,lS (levers:=Ls) S hx,ni (sizes:=sizes) hm xs,oB (sizes:=sizes) (levers:=Ls) (g:=d_ (λc=>c==aA) "vault" (ae 0)) (env:=[some (.sh (qE ns sizes Ls R idle)),some (.sh (tI xs))]) (Mx (R:=R) (idle:=idle) rfl),show fc [tI sizes,.lst (R.map mk),mk (xs,List.replicate Ls.length 0),.int 0]=_ from lo]
end
def qe(xs:List Int):List Int:=xs.map λx=>-x
theorem IE(xs:List Int)(i:Nat):vf (qe xs) i=-vf xs i:=by
 rcases Nat.lt_or_ge i xs.length with h | h
 ·rw[aT (by simpa [qe] using h),aT h];simp[qe]
 ·rw[qp (by simpa [qe] using h),qp h];rfl
theorem HR{B:Nat}(h:Bd B xs):Bd B (qe xs):=λx hx=>by
 obtain⟨y,hy,rfl⟩:=List.mem_map.mp hx
 rw[Int.natAbs_neg];exact h y hy
section
variable{R:List Row}
def told(sizes:List Int)(Ls:List (List Int))(R:List Row)(idle:List (List Int))(xs:List Int):List Int:=aV idle Ls.length (qe (bj sizes R (xs,List.replicate Ls.length 0) 0 sizes.length).2) Ls.length
theorem vz(S:Sz sizes)(hm:Ls.length<=8)(h:St sizes.length Ls.length sizes A k R)(hk:k<=9)(I:zF sizes.length Ls.length (vf sizes) A Ls.length idle)(hx:Dw sizes xs)(h0:∀ i,i<sizes.length->0<=vf xs i/\vf xs i<vf sizes i)(hg:G sizes.length (vf sizes) (DD R) sizes.length 0 (vf xs)) :
  cn [qE ns sizes Ls R idle,tI xs]=M.ok (tI (told sizes Ls R idle xs))/\(told sizes Ls R idle xs).length=Ls.length/\Led sizes.length (vf sizes) Ls.length A (vf xs) (vf (told sizes Ls R idle xs))/\∀ l,l<Ls.length->0<=vf (told sizes Ls R idle xs) l/\vf (told sizes Ls R idle xs) l<II idle l l:=by
 have l6:=S.h6
 have r2:(List.replicate Ls.length (0:Int)).length=Ls.length:=by simp
 have ll:=iD h (f:=0) (r:=(xs,List.replicate Ls.length 0)) hx.len r2 sizes.length (by omega)
 have dn:=mR h (f:=0) (r:=(xs,List.replicate Ls.length 0)) hx.len r2 h0
 have z:=dn.run h.gd sizes.length 0 (Nat.le_refl _) (by omega) (by rw[Nat.sub_self];exact hg)
 rw[Nat.sub_zero] at z
 have nz:(bj sizes R (xs,List.replicate Ls.length 0) 0 sizes.length).1=List.replicate sizes.length 0:=sS (by rw[ll.1];simp) λi hi=>by rw[z i (by omega),g8]
 have b:=uf h (f:=0) (B:=150*k+1) (r:=(xs,List.replicate Ls.length 0)) hx.len r2 h0 (Nat.le_refl _) (λx hx=>by rw[List.eq_of_mem_replicate hx];exact Nat.two_pow_pos _) sizes.length (by omega)
 have nl:(qe (bj sizes R (xs,List.replicate Ls.length 0) 0 sizes.length).2).length=Ls.length:=by rw[qe,List.length_map];exact ll.2
 have sp:=vQ (B:=1500) I nl hm (Nat.le_refl _) (by decide) (by decide) (HR (b.mono (by omega)))
 have led:=sF h (f:=0) (r:=(xs,List.replicate Ls.length 0)) hx.len r2 (P₀:=λ_=>0) (B:=vf xs) (by
  intro i hi
  rw[eM (g:=λ_=>0) λl hl=>by
   show (vf (List.replicate Ls.length 0) l-0)*A l i=0
   rw[g8];simp,i8]
  show vf sizes i∣vf xs i-vf xs i-0
  rw[Int.sub_self];exact Int.dvd_zero _) sizes.length (by omega)
 have led2:Led sizes.length (vf sizes) Ls.length A (vf xs) (vf (qe (bj sizes R (xs,List.replicate Ls.length 0) 0 sizes.length).2)):=by
  refine Led.mix (a:=-1) (b:=0) led led (λi hi=>?_) λl hl=>?_
  ·rw[z i hi]
   exact⟨0,by omega⟩
  ·rw[IE];omega
 refine⟨?_,span_len I nl _ (Nat.le_refl _),qc I nl led2 _ (Nat.le_refl _),λl hl=>uD I nl (Nat.le_refl _) _ (Nat.le_refl _) l (by omega) hl⟩
 have dk:=tH (idle:=idle) (ns:=ns) S hm h hk hx h0
 have md:∀ y,bJ aA "brought_down" bH (ae 0) (aa (ae 1) ak) [some (.sh (qE ns sizes Ls R idle)),some (.sh (tI xs)),y]=M.ok (mk (bj sizes R (xs,List.replicate Ls.length 0) 0 sizes.length)):=λy=>by
  show M.bind (M.ok (qE ns sizes Ls R idle)) _=_
  rw[M.aE]
  show cC _ (M.bind (M.ok [tI xs]) _)=_
  rw[ar ⟨rfl,Mv⟩,M.aE]
  exact dk
 have cm:bo (bw 0) none (jV (ae 0)) ((bj sizes R (xs,List.replicate Ls.length 0) 0 sizes.length).2.map PV.int) [none]=M.ok ((bj sizes R (xs,List.replicate Ls.length 0) 0 sizes.length).2.map λx=>.int (-x)):=dQ _ λx _=>by dsimp? []
 have lz:(bj sizes R (xs,List.replicate Ls.length 0) 0 sizes.length).2.length<=sizeLine:=by rw[ll.2];exact aL (by omega)
 have en:PV.tup ((bj sizes R (xs,List.replicate Ls.length 0) 0 sizes.length).2.map λx=>PV.int (-x))=tI (qe (bj sizes R (xs,List.replicate Ls.length 0) 0 sizes.length).2):=by rw[tI,qe,List.map_map];rfl
 unfold cn cO
 dsimp? [md,nI,Ds,Mx (sizes:=sizes) (Ls:=Ls) (R:=R) (idle:=idle) (g:=ae 0) (env:=[some (.sh (qE ns sizes Ls R idle)),some (.sh (tI xs)),some (.sh (mk (bj sizes R (xs,List.replicate Ls.length 0) 0 sizes.length)))]) rfl,kS (Ls:=Ls) l6,nz,xJ,decide_true,Nx (sizes:=sizes) (Ls:=Ls) (R:=R) (idle:=idle) (g:=ae 0) (env:=[some (.sh (qE ns sizes Ls R idle)),some (.sh (tI xs)),some (.sh (mk (bj sizes R (xs,List.replicate Ls.length 0) 0 sizes.length)))]) rfl,List.length_map,ar lz,cm,en,sp]
 rfl
end
theorem lP(ns:List Int)(k:Nat):∃ c,ck [.jN (ns.map PV.int),.int (k:Int)]=M.ok (.int c):=by
 unfold ck gi
 by_cases h:k<ns.length
 ·refine⟨ns[k],?_⟩
  have h':(k:Int)<((ns.length:Nat):Int):=by omega
  have e:=bC (p:=.jN (ns.map PV.int)) (xs:=ns.map PV.int) (j:=k) (x:=.int ns[k]) rfl (by rw[List.getElem?_map,List.getElem?_eq_getElem h];rfl)
  dsimp? [List.length_map,h',decide_true,e]
 ·refine⟨0,?_⟩
  have h':¬ (k:Int)<((ns.length:Nat):Int):=by omega
  dsimp? [List.length_map,h',decide_false]
theorem Ci(p:PV)(n:Nat)(h8:n<=1000):cp (.lst [p]) (.int (n:Int))=M.ok (.lst (List.replicate n p)):=by
 have h2:[p].length*(n:Int).toNat<=sizeLine:=by
  rw[Int.toNat_natCast]
  exact aL (by show 1*n<=1000;omega)
 have h3:(n:Int)<2^63:=Int.lt_of_le_of_lt (Int.ofNat_le.mpr h8) (by decide)
 have h4:-(2^63)<=(n:Int):=Int.le_trans (by decide) (Int.natCast_nonneg n)
 rw[cp,ar ⟨h4,h3,h2⟩,Int.toNat_natCast,qi]
theorem pick(l:List Int)(c:Int)(n:Nat)(hn:l.length=n)(h0:0<n):∃ x,x∈l/\aP (.lst (l.map PV.int)) (.int (c%(n:Int)))=M.ok (.int x):=by
 have h1:0<=c%(n:Int):=Int.emod_nonneg _ (by omega)
 have h2:c%(n:Int)<n:=Int.emod_lt_of_pos _ (by omega)
 obtain⟨j,hj⟩:=Int.eq_ofNat_of_zero_le h1
 have hj':j<l.length:=by omega
 refine⟨l[j],List.getElem_mem _,?_⟩
 rw[hj]
 exact bC (p:=.lst (l.map PV.int)) (j:=j) rfl (by rw[List.getElem?_map,List.getElem?_eq_getElem hj'];rfl)
theorem wJ(h:i<xs.length):aP (lI xs) (.int (i:Int))=M.ok (.int (vf xs i)) :=
 bC (p:=lI xs) rfl (by rw[List.getElem?_map,List.getElem?_eq_getElem h,aT h];rfl)
theorem getD_at{β:Type}(f:α->β){xs:List α}{a:α}{b:β}{l:Nat}(h:l<xs.length):(xs.map f).getD l b=f (xs.getD l a):=by
 rw[List.getD_eq_getElem?_getD,List.getD_eq_getElem?_getD,List.getElem?_map,List.getElem?_eq_getElem h];rfl
theorem getD_mem{xs:List α}{a:α}{l:Nat}(h:l<xs.length):xs.getD l a∈xs:=by
 rw[List.getD_eq_getElem?_getD,List.getElem?_eq_getElem h];exact List.getElem_mem h
variable{raw:List (List Int)}
theorem BX(S:Sz sizes)(hr:∀ l∈raw,l.length=sizes.length/\Bd 200 l):Lb sizes.length raw.length sizes (raw.map λl=>um l sizes)/\∀ l,l<raw.length->∀ i,i<sizes.length->AA (raw.map λl=>um l sizes) l i=vf (raw.getD l []) i%vf sizes i:=by
 have e:∀ l,l<raw.length->∀ i,i<sizes.length->AA (raw.map λl=>um l sizes) l i=vf (raw.getD l []) i%vf sizes i:=λl hl i hi=>by
  unfold AA
  rw[getD_at (a:=[]) _ hl,uj,jr (by rw[(hr _ (getD_mem hl)).1];exact hi) hi]
 refine⟨⟨by simp,λl hl=>?_,λl hl i hi=>?_⟩,e⟩
 ·rw[getD_at (a:=[]) _ hl,uj,i4,(hr _ (getD_mem hl)).1];omega
 ·rw[e l hl i hi]
  have:=S.hx _ (List.getElem_mem hi)
  rw[← aT hi] at this
  exact⟨Int.emod_nonneg _ (by omega),Int.emod_lt_of_pos _ (by omega)⟩
theorem lM(S:Sz sizes):∀ i,i<sizes.length->0<vf sizes i/\vf sizes i<=360:=λi hi=>by
 have:=S.hx _ (List.getElem_mem hi)
 rw[← aT hi] at this
 omega
theorem mB(h:xs.length=sizes.length)(h0:∀ i,i<sizes.length->0<=vf xs i/\vf xs i<vf sizes i):Dw sizes xs:=⟨h,λz hz=>by
 obtain⟨i,hi,rfl⟩:=List.mem_iff_getElem.mp hz
 rw[List.length_zip] at hi
 have:=h0 i (by omega)
 rw[aT (by omega),aT (by omega)] at this
 simpa using this⟩
def xV(ns:List Int)(a b:Nat):List Int:=(ns.drop (HT.dI ns.length 0 (some (a:Int)))).take (HT.dI ns.length ns.length (some (b:Int))-HT.dI ns.length 0 (some (a:Int)))
theorem DY(ns:List Int)(a b:Nat):Lq (.jN (ns.map PV.int)) (some (a:Int)) (some (b:Int))=M.ok (.lst ((xV ns a b).map PV.int)):=by
 show M.ok (PV.lst (qY (ns.map PV.int) _ _))=_
 rw[qY,xV,List.map_take,List.map_drop,List.length_map]
theorem p8{z:Int×Nat}(h:z∈xs.zipIdx):z.2<xs.length:=by
 obtain⟨i,hi,rfl⟩:=List.mem_iff_getElem.mp h
 simp at hi ⊢;exact hi
theorem HW(Ls:List (List Int))(i:Nat):AA Ls Ls.length i=0:=by
 unfold AA
 rw[List.getD_eq_getElem?_getD,List.getElem?_eq_none (Nat.le_refl _)]
 exact qp (Nat.zero_le _)
section
variable{R:List Row}
theorem wQ{m:Str}{sem:List PV->M PV}{x:M (List PV)}(h:(vc (dS ns sizes Ls) R idle).lookup m=none):qu aA m sem (qE ns sizes Ls R idle) x=x.bind λps=>sem (qE ns sizes Ls R idle::ps):=iW h
theorem Lm:xO (λc=>c==aA) "vault" (qE ns sizes Ls R idle)=M.ok (dS ns sizes Ls):=ku (beq_self_eq_true _) KR
theorem Nq:xO (λc=>c==aA) "made_rows" (qE ns sizes Ls R idle)=M.ok (.lst (R.map mk)):=ku (beq_self_eq_true _) JW
theorem Jw:qu au "sizes" aX (dS ns sizes Ls) (M.ok [])=M.ok (tI sizes):=(iW (fl:=n5 ns sizes Ls) rfl).trans (vT sizes Ls)
def lst(sizes:List Int)(Ls:List (List Int))(R:List Row)(xs:List Int):List Int:=(bj sizes R (xs,List.replicate Ls.length 0) 0 sizes.length).1
theorem yR(h:St sizes.length Ls.length sizes A k R)(hl:xs.length=sizes.length)(h0:∀ i,i<sizes.length->0<=vf xs i/\vf xs i<vf sizes i) :
  (lst sizes Ls R xs).length=sizes.length/\(∀ i,i<sizes.length->0<=vf (lst sizes Ls R xs) i/\vf (lst sizes Ls R xs) i<a_ (vf sizes) (DD R) i)/\(∀ i,i<sizes.length->0<=vf (lst sizes Ls R xs) i/\vf (lst sizes Ls R xs) i<vf sizes i)/\G sizes.length (vf sizes) (DD R) sizes.length 0 (λi=>vf xs i-vf (lst sizes Ls R xs) i):=by
 have r2:(List.replicate Ls.length (0:Int)).length=Ls.length:=by simp
 have ll:=iD h (f:=0) (r:=(xs,List.replicate Ls.length 0)) hl r2 sizes.length (by omega)
 have dn:=mR h (f:=0) (r:=(xs,List.replicate Ls.length 0)) hl r2 h0
 exact⟨ll.1,λi hi=>dn.low h.gd sizes.length (Nat.zero_le _) (Nat.le_refl _) i (Nat.zero_le _) hi,λi hi=>dn.kept h.gd sizes.length (Nat.zero_le _) (Nat.le_refl _) i hi,dn.away h.gd sizes.length (Nat.zero_le _) (Nat.le_refl _) sizes.length (by omega)⟩
theorem AG(S:Sz sizes)(hm:Ls.length<=8)(h:St sizes.length Ls.length sizes A k R)(hk:k<=9)(hl:xs.length=sizes.length)(h0:∀ i,i<sizes.length->0<=vf xs i/\vf xs i<vf sizes i) :
  fJ [qE ns sizes Ls R idle,tI xs]=M.ok (tI (lst sizes Ls R xs)):=by
 have dk:=tH (idle:=idle) (ns:=ns) S hm h hk (mB hl h0) h0
 unfold fJ fF
 dsimp? [cL,wQ (m := "brought_down") rfl,dk,nI]
 rfl
def lN(sizes:List Int)(R:List Row):List Int:=(List.range sizes.length).map λd=>a_ (vf sizes) (DD R) d
theorem kj:(lN sizes R).length=sizes.length:=by simp[lN]
theorem yu(h:i<sizes.length):vf (lN sizes R) i=a_ (vf sizes) (DD R) i:=by
 rw[aT (by rw[kj];exact h)];simp[lN]
theorem Cv(S:Sz sizes)(h:St sizes.length Ls.length sizes A k R):fX [qE ns sizes Ls R idle]=M.ok (tI (lN sizes R)):=by
 have l6:=S.h6
 have key:bo (bw 0) none (ai dj (aa (ae 2) (aa (d_ (λc=>c==aA) "made_rows" (ae 1)) (aa (ae 0) ak)))) ((List.range sizes.length).map λ(i:Nat)=>.int (i:Int)) [none,some (.sh (qE ns sizes Ls R idle)),some (.sh (tI sizes))]=M.ok ((List.range sizes.length).map λd=>.int (a_ (vf sizes) (DD R) d)):=by
  refine dQ (inj:=λ(i:Nat)=>PV.int (i:Int)) (List.range sizes.length) λi hi=>?_
  dsimp? [ij,Nq,tW h.wf h.hs (List.mem_range.mp hi)]
 unfold fX fw
 dsimp? [ij,Lm,cL,Jw,cZ (n:=(sizes.length:Int)) (by omega) (by omega),Int.toNat_natCast,List.length_map,List.length_range,ar (aL (show sizes.length<=1000 by omega)),key]
 rw[tI,lN,List.map_map];rfl
theorem Cr(S:Sz sizes)(hm:Ls.length<=8)(h:St sizes.length Ls.length sizes A k R)(hk:k<=9)(hl:xs.length=sizes.length)(h0:∀ i,i<sizes.length->0<=vf xs i/\vf xs i<vf sizes i)(hn:lst sizes Ls R xs≠List.replicate sizes.length 0) :
  cn [qE ns sizes Ls R idle,tI xs]=M.ok .da:=by
 have dk:=tH (idle:=idle) (ns:=ns) S hm h hk (mB hl h0) h0
 unfold cn cO
 dsimp? [cL,wQ (m := "brought_down") rfl,dk,nI,ij,Lm,kS (Ls:=Ls) S.h6,xJ]
 simp only[show ¬ (bj sizes R (xs,List.replicate Ls.length 0) 0 sizes.length).1=List.replicate sizes.length 0 from hn,decide_false]
 dsimp? []
end
section
variable{R:List Row}
theorem I0(S:Sz sizes):∀ s∈sizes,0<s:=λs hs=>by have:=S.hx s hs;omega
theorem x_(n:Nat):(List.replicate n (0:Int)).length=n:=by simp
theorem AE(S:Sz sizes):∀ i,i<sizes.length->0<=vf (List.replicate sizes.length 0) i/\vf (List.replicate sizes.length 0) i<vf sizes i:=λi hi=>by rw[g8];have:=lM S i hi;omega
theorem Km(I:zF sizes.length Ls.length (vf sizes) A Ls.length idle){T:List Int}(hT:T.length=Ls.length)(nf:∀ l,l<Ls.length->0<=vf T l/\vf T l<II idle l l):Bd 200 T:=λx hx=>by
 obtain⟨i,hi,rfl⟩:=List.mem_iff_getElem.mp hx
 have h2:=nf i (by omega)
 rw[aT hi] at h2
 have h3:=I.le i (by omega)
 omega
theorem oN(S:Sz sizes){F:List Int}(h:F.length=sizes.length)(k:∀ i,i<sizes.length->0<=vf F i/\vf F i<vf sizes i):Bd 200 F:=λx hx=>by
 obtain⟨i,hi,rfl⟩:=List.mem_iff_getElem.mp hx
 have h2:=k i (by omega)
 rw[aT hi] at h2
 have:=lM S i (by omega)
 omega
structure vI (ns:List Int) (sizes:List Int) (raw Ls:List (List Int)) (R:List Row) (idle:List (List Int)):Prop where
 S:Sz sizes
 hr:∀ l∈raw,l.length=sizes.length/\Bd 200 l
 eL:Ls=raw.map λl=>um l sizes
 hm:raw.length=Ls.length
 m8:Ls.length<=8
 eA:∀ l,l<raw.length->∀ i,i<sizes.length->AA Ls l i=vf (raw.getD l []) i%vf sizes i
 LL:Lb sizes.length Ls.length sizes Ls
 st:St sizes.length Ls.length sizes (AA Ls) (Ls.length+1) R
 I:zF sizes.length Ls.length (vf sizes) (AA Ls) Ls.length idle
 pr:bI Ls.length (λj=>II idle j j)*bI sizes.length (a_ (vf sizes) (DD R))=bI sizes.length (vf sizes)
 ord:∀ j,j<Ls.length->∀ P:dG,Zf (j+1) Ls.length P->Led sizes.length (vf sizes) Ls.length (AA Ls) (λ_=>0) P->II idle j j∣P j
 low:∀ d,d<sizes.length->∀ e,d<e->e<sizes.length->DD R d e<a_ (vf sizes) (DD R) e
 nul:∀ d,d<sizes.length->DD R d d=0->∀ i,i<sizes.length->DD R d i=0
 Lf:∀ {p pp:PV} {f:List Int->PV},(f=tI\/f=lI)->(pp=tI ns\/pp=lI ns)->bX p=some (sizes.map PV.int)->e_ au fP [] [p,.lst (raw.map f),pp]=M.ok (dS ns sizes Ls)
 Lj:e_ aA iB [] [dS ns sizes Ls]=M.ok (qE ns sizes Ls R idle)
theorem vI.get(ns:List Int)(S:Sz sizes)(Og:ns.length=raw.length)(Ri:∀ x∈ns,1<=x/\x<=1000)(r8:raw.length<=8)(hr:∀ l∈raw,l.length=sizes.length/\Bd 200 l):∃ Ls R idle,vI ns sizes raw Ls R idle:=by
 have l6:=S.h6
 have sp:=lM S
 obtain⟨LL,eA⟩:=BX S hr
 have Lf:=λ{p pp:PV} {f:List Int->PV} (hf:f=tI\/f=lI) (Rh:pp=tI ns\/pp=lI ns) hp=>DZ (p:=p) hf sizes raw Rh Og Ri hp S r8 λl h=>(hr l h).1
 have hm:raw.length=(raw.map λl=>um l sizes).length:=by simp
 generalize hLs:(raw.map λl=>um l sizes)=Ls at *
 rw[hm] at LL r8
 have K:=AX.all (c:=cf) rfl sp LL C6 l6 Ls.length (Nat.le_refl _)
 have Lj:=Cc (ns:=ns) S.h1 l6 r8 sp LL
 generalize RK cf sizes Ls sizes.length Ls.length Ls.length=rk at *
 have h:=K.st
 have hl:∀ d,d<sizes.length->(bj sizes rk.1 (row rk.1 d) (d+1) (sizes.length-(d+1))).1.length=sizes.length:=λd hd=>(iD h (h.wf.qI hd) (h.wf.at2 hd) _ (by omega)).1
 have lg:=vv (D':=DD (mJ sizes rk.1 sizes.length)) h.gd (λd e=>vf (bj sizes rk.1 (row rk.1 d) (d+1) (e-(d+1))).1) (λd hd=>mR h (h.wf.qI hd) (h.wf.at2 hd) λi hi=>h.gd.jg d hd i hi) (λd hd i hi=>by
  show vf (bj sizes rk.1 (row rk.1 d) (d+1) (d+1-(d+1))).1 i=_
  rw[Nat.sub_self];rfl) (λd hd i hi=>by unfold DD;rw[l_ hd])
 refine⟨Ls,mJ sizes rk.1 sizes.length,rk.2,S,hr,hLs.symm,hm,r8,eA,LL,GR K.st l6 (HW Ls),K.uE,?_,K.ord,?_,?_,Lf,Lj⟩
 ·rw[iV (f:=a_ (vf sizes) (DD (mJ sizes rk.1 sizes.length))) (g:=a_ (vf sizes) (DD rk.1)) lg.2.1]
  exact K.pr
 ·intro d hd e h1 h2
  rw[lg.2.1 e h2]
  exact lg.2.2.1 d hd e h1 h2
 ·exact lg.2.2.2.1
end
theorem yT(sizes:List Int)(levers:List (List Int)):cN [dS ns sizes levers]=M.ok (.int (R sizes)):=by
 unfold cN dC
 dsimp? [d_,dS,beq_self_eq_true,Ax]
theorem Nr:qu au "around" cN (dS ns sizes Ls) (M.ok [])=M.ok (.int (R sizes)):=(iW (fl:=n5 ns sizes Ls) rfl).trans (yT sizes Ls)
def LD(sizes ws xs:List Int):Int:=((((ws.zip sizes).map λz=>z.1*(R sizes/z.2)).zip xs).map λz=>z.1*z.2).sum%R sizes
theorem pZ(h:Sz sizes){s:Int}(hs:s∈sizes):0<=R sizes/s/\R sizes/s<2^60:=by
 have h1:=vM h;have h2:=J3 h;have h3:=h.hx s hs
 refine⟨Int.ediv_nonneg (by omega) (by omega),Int.lt_of_le_of_lt (Int.ediv_le_self s (by omega)) h2⟩
theorem CY(h:Sz sizes){w s:Int}(hw:0<=w/\w<360)(hs:s∈sizes):(w*(R sizes/s)).natAbs<2^80:=by
 have h1:=pZ h hs
 rw[Int.natAbs_mul]
 have:w.natAbs*(R sizes/s).natAbs<=2^9*2^60:=Nat.mul_le_mul (by omega) (by omega)
 exact Nat.lt_of_le_of_lt this (by decide)
theorem BU(h:Sz sizes){ws:List Int}(hw:Dw sizes ws)(hs:Dw sizes xs):oE [dS ns sizes levers,tI ws,tI xs]=M.ok (.int (LD sizes ws xs)):=by
 have l6:=h.h6
 have k1:bo (bR 0 1) none (aj cp (ae 0) (aj cy (ae 2) (ae 1))) ((ws.zip sizes).map λz=>.tup [.int z.1,.int z.2]) [none,none,some (.sh (.int (R sizes)))]=M.ok ((ws.zip sizes).map λz=>.int (z.1*(R sizes/z.2))):=by
  refine iL (p:=λz:Int×Int=>PV.int z.1) (q:=λz:Int×Int=>PV.int z.2) (ws.zip sizes) λz hz=>?_
  obtain⟨m1,m2⟩:=kR hz
  have a1:=h.hx z.2 m2;have a2:=ur h hw m1;have a3:=pZ h m2
  dsimp? [bG (i:=R sizes) (show 0<z.2 by omega) (show z.2<2^64 by omega),bx (k:=64) (l:=64) (show z.1.natAbs<2^64 by omega) (show (R sizes/z.2).natAbs<2^64 by omega)]
 have z1:(ws.zip sizes).length<=sizeLine:=by rw[List.length_zip];exact aL (Nat.le_trans (Nat.min_le_right _ _) (by omega))
 let us:=(ws.zip sizes).map λz=>z.1*(R sizes/z.2)
 have k2:bo (bR 0 1) none (aj cp (ae 0) (ae 1)) ((us.zip xs).map λz=>.tup [.int z.1,.int z.2]) [none,none]=M.ok ((us.zip xs).map λz=>.int (z.1*z.2)):=by
  refine iL (p:=λz:Int×Int=>PV.int z.1) (q:=λz:Int×Int=>PV.int z.2) (us.zip xs) λz hz=>?_
  obtain⟨m1,m2⟩:=kR hz
  obtain⟨y,hy,e⟩:=List.mem_map.mp m1
  obtain⟨n1,n2⟩:=kR hy
  have a1:=CY h (ur h hw n1) n2
  rw[e] at a1
  have a2:=ur h hs m2
  dsimp? [bx (k:=80) (l:=64) a1 (show z.2.natAbs<2^64 by omega)]
 have z2:(us.zip xs).length<=sizeLine:=by rw[List.length_zip];exact aL (Nat.le_trans (Nat.min_le_right _ _) (by rw[hs.len];omega))
 have k3:jj [.lst ((ws.zip sizes).map λz=>.int (z.1*(R sizes/z.2))),tI xs,.int (R sizes)]=M.ok (.int (LD sizes ws xs)):=by
  have e0:bX (.lst ((ws.zip sizes).map λz=>PV.int (z.1*(R sizes/z.2))))=some (us.map PV.int):=by
   rw[qF,List.map_map];rfl
  have e1:qW [.lst ((us.zip xs).map λz=>PV.int (z.1*z.2))]=M.ok (.int ((us.zip xs).map λz=>z.1*z.2).sum):=by
   have:=qq ((us.zip xs).map λz=>z.1*z.2)
   rw[List.map_map] at this
   exact this
  unfold jj jD
  dsimp? [dY (q:=tI xs) us xs e0 rfl,List.length_map,ar z2,k2,e1,aO (vM h)]
  rfl
 unfold oE oM
 dsimp? [lS (levers:=levers) h hw,lS (levers:=levers) h hs,cL,Nr,Jw,dY (p:=tI ws) (q:=tI sizes) ws sizes rfl rfl,List.length_map,ar z1,k1,k3]
theorem u9(xs:List Int):∀ m,m<=xs.length->(xs.take m).sum=c_ m (vf xs)
 | 0,_=>by simp[c_]
 | m+1,h=>by
  rw[c_,← u9 xs m (by omega),List.take_succ_eq_append_getElem (by omega),List.sum_append,aT (by omega)];simp
theorem oZ(xs:List Int):xs.sum=c_ xs.length (vf xs):=by
 rw[← u9 xs _ (Nat.le_refl _),List.take_length]
theorem EG{ws:List Int}(h1:ws.length=sizes.length)(h2:xs.length=sizes.length):LD sizes ws xs=iH sizes.length (vf sizes) (R sizes) (vf ws) (vf xs)%R sizes:=by
 unfold LD iH
 rw[oZ]
 have hl:((((ws.zip sizes).map λz=>z.1*(R sizes/z.2)).zip xs).map λz=>z.1*z.2).length=sizes.length:=by simp;omega
 rw[hl]
 congr 1
 refine eM λi hi=>?_
 rw[aT (by rw[hl];exact hi),aT (by omega),aT (by omega),aT (by omega)]
 simp only[List.getElem_map,List.getElem_zip]
 rw[Int.mul_assoc,Int.mul_comm (R sizes/_),← Int.mul_assoc]
variable{T:List Row}{ns:List Int}
variable{v:Int}
theorem Jb(S:Sz sizes):∀ i,i<sizes.length->vf sizes i∣R sizes:=λi hi=>by rw[aT hi];exact K_ S (List.getElem_mem hi)
def sO(sizes:List Int)(T:List Row):List Int:=(sizes.zip (lN sizes T)).map λz=>z.1/z.2
theorem oY:(sO sizes T).length=sizes.length:=by simp[sO,kj]
theorem xS(h:i<sizes.length):vf (sO sizes T) i=h9 (vf sizes) (DD T) i:=by
 have e:=yu (R:=T) h
 rw[aT (by rw[kj];exact h)] at e
 rw[aT (by rw[oY];exact h)]
 simp only[sO,List.getElem_map,List.getElem_zip]
 rw[e,← aT h];rfl
theorem IU(h:j<n):An n (j:Int)=some j:=by
 unfold An;rw[if_pos (by omega),if_pos (by omega)];simp
theorem v7{env:af}(h:j<xs.length):F4 i (xs.map PV.int) (.int v) env (.int (j:Int))=M.ok (.nx (env.set i (some (.ow ((xs.set j v).map PV.int))))):=by
 show (match An (xs.map PV.int).length (j:Int) with | some j=>_ | none=>_)=_
 rw[List.length_map,IU h,List.map_set]
theorem pX(h:i<xs.length):vf (xs.set j v) i=if i=j then v else vf xs i:=by
 rw[aT (by rw[List.length_set];exact h),List.getElem_set,aT h]
 by_cases z:i=j
 ·rw[if_pos z,if_pos z.symm]
 ·rw[if_neg z,if_neg (Ne.symm z)]
theorem Dg(x:Int):AZ (M.ok (.int x))=M.ok (.int x):=Eq.trans rfl rfl
theorem xD(Q:vI ns sizes raw Ls T idle)(hd:d<sizes.length):kZ (cU [qE ns sizes Ls T idle,.int (d:Int)]) λp=>∃ W:List Int,p=tI W/\W.length=sizes.length/\(∀ i,i<sizes.length->0<=vf W i/\vf W i<vf sizes i)/\Wk sizes.length (vf sizes) (DD T) (R sizes) d 0 (vf W):=by
 have l6:=Q.S.h6
 have l1:=Q.S.h1
 have g:=Q.st.gd
 have rl:=Q.st.wf.len
 have qd:=Jb Q.S
 have q0:=vM Q.S
 have q1:=J3 Q.S
 have so:=Cv (idle:=idle) (ns:=ns) Q.S Q.st
 have fl:∀ i,i<sizes.length->0<h9 (vf sizes) (DD T) i/\h9 (vf sizes) (DD T) i<=vf sizes i/\vf sizes i<=360:=λi hi=>⟨(kW g hi).2.1,(kW g hi).2.2,(lM Q.S i hi).2⟩
 have key:bo (bR 0 1) none (aj cy (ae 0) (ae 1)) ((sizes.zip (lN sizes T)).map λz=>.tup [.int z.1,.int z.2]) [none,none]=M.ok ((sizes.zip (lN sizes T)).map λz=>.int (z.1/z.2)):=by
  refine iL (p:=λz:Int×Int=>PV.int z.1) (q:=λz:Int×Int=>PV.int z.2) (sizes.zip (lN sizes T)) λz hz=>?_
  obtain⟨i,hi,e⟩:=List.mem_iff_getElem.mp (kR hz).2
  rw[kj] at hi
  have e2:=yu (R:=T) hi
  rw[aT (by rw[kj];exact hi),e] at e2
  have p:=g.pos hi
  have:=lM Q.S i hi
  dsimp? [bG (i:=z.1) (j:=z.2) (by omega) (by omega)]
 have zl:(sizes.zip (lN sizes T)).length<=sizeLine:=by rw[List.length_zip];exact aL (Nat.le_trans (Nat.min_le_left _ _) (by omega))
 have ef:PV.lst ((sizes.zip (lN sizes T)).map λz=>PV.int (z.1/z.2))=lI (sO sizes T):=by rw[lI,sO,List.map_map];rfl
 have wi:bL [.int (d:Int),.int 0,.int ((sizes.length:Int)-1)]=M.ok (.bl true):=by
  rw[within_int,decide_eq_true (by omega)]
 have e0:Aw (.lst [.int 0]) (.int (sizes.length:Int))=M.ok ((List.replicate sizes.length 0).map PV.int):=by
  rw[Aw,ar ⟨by omega,by omega,by rw[Int.toNat_natCast];exact aL (by show 1*sizes.length<=1000;omega)⟩,Int.toNat_natCast,qi,List.map_replicate]
 unfold cU cW
 dsimp? [ij,Lm,cL,Jw,wi,wQ (m := "steps") rfl,so,dY (p:=tI sizes) (q:=tI (lN sizes T)) sizes (lN sizes T) rfl rfl,List.length_map,ar zl,key,ef,Hf,e0,K1,ownAt,wJ (xs:=sO sizes T) (i:=d) (by rw[oY];exact hd),xS hd,iM (xs:=sizes) (i:=d) hd,aO (i:=h9 (vf sizes) (DD T) d) (j:=vf sizes d) (by have:=fl d hd;omega),v7 (i:=4) (xs:=List.replicate sizes.length 0) (j:=d) (by simp;exact hd),vh d (by omega)]
 refine kZ.loop (xs:=List.range d) (inj:=λ(i:Nat)=>.int ((d:Int)-1+(i:Int)*-1)) (λzs env=>∃ (c:Nat) (W:List Int) (y5 y6 y7:Option SV),env=[some (.sh (qE ns sizes Ls T idle)),some (.sh (.int (d:Int))),some (.sh (tI sizes)),some (.sh (lI (sO sizes T))),some (.ow (W.map PV.int)),y5,y6,y7]/\c<=d/\zs=(List.range d).drop c/\W.length=sizes.length/\(∀ i,i<sizes.length->0<=vf W i/\vf W i<vf sizes i)/\Wk sizes.length (vf sizes) (DD T) (R sizes) d (d-c) (vf W)) ⟨0,_,_,_,_,rfl,by omega,rfl,by simp,λi hi=>?_,Wk.start g qd hd λi hi=>?_⟩ ?_ ?_
 ·rw[pX (by simp;exact hi),g8]
  have:=fl i hi
  split
  ·rename_i z;subst z;exact⟨Int.emod_nonneg _ (by omega),Int.emod_lt_of_pos _ (by omega)⟩
  ·omega
 ·rw[pX (by simp;exact hi),g8]
 ·rintro k r env ⟨c,W,y5,y6,y7,rfl,hc,hz,Wl,W0,Wt⟩
  obtain⟨c1,c2,c3⟩:=drop_cons hz.symm
  rw[List.length_range] at c1
  have ek:k=c:=by rw[List.getElem?_range c1] at c2;exact(Option.some.inj c2).symm
  subst ek
  obtain⟨a,ha⟩:∃ a,a=d-1-k:=⟨_,rfl⟩
  have ea:((d:Int)-1+(k:Int)*-1)=(a:Int):=by omega
  have an:a<sizes.length:=by omega
  have fa:=fl a an
  have r1:=Q.st.wf.qI an
  have rk:∀ i,i<sizes.length->0<=vf (row T a).1 i/\vf (row T a).1 i<vf sizes i:=λi hi=>g.jg a an i hi
  have we:=BU (ns:=ns) (levers:=Ls) Q.S (mB Wl W0) (mB r1 rk)
  rw[EG Wl r1] at we
  have eq:vf (row T a).1=DD T a:=rfl
  rw[eq] at we
  have p0:0<=iH sizes.length (vf sizes) (R sizes) (vf W) (DD T a)%R sizes:=Int.emod_nonneg _ (by omega)
  have p1:iH sizes.length (vf sizes) (R sizes) (vf W) (DD T a)%R sizes<R sizes:=Int.emod_lt_of_pos _ q0
  have fR:h9 (vf sizes) (DD T) a∣R sizes:=Int.dvd_trans ⟨_,(kW g an).1.symm⟩ (qd a an)
  have s0:0<R sizes/h9 (vf sizes) (DD T) a:=by
   obtain⟨x,hx⟩:=fR
   rw[hx,Int.mul_ediv_cancel_left _ (by omega)]
   rcases Int.lt_trichotomy x 0 with q | q | q
   ·have:=Int.mul_neg_of_pos_of_neg fa.1 q;omega
   ·rw[q] at hx;omega
   ·exact q
  have s1:R sizes/h9 (vf sizes) (DD T) a<=R sizes:=Int.ediv_le_self _ (by omega)
  have tw:PV.tup (W.map PV.int)=tI W:=rfl
  dsimp? [bw,ea,uI,ownAt,uA,ij,Lm,tw,Nq,pC (rows:=T) (d:=a) (by omega),nI,we,Dg,cL,Nr,wJ (xs:=sO sizes T) (i:=a) (by rw[oY];exact an),xS an,bG (i:=R sizes) (j:=h9 (vf sizes) (DD T) a) (by omega) (by omega),bG (i:=iH sizes.length (vf sizes) (R sizes) (vf W) (DD T a)%R sizes) (j:=R sizes/h9 (vf sizes) (DD T) a) (by omega) (by omega),aO (i:=-(iH sizes.length (vf sizes) (R sizes) (vf W) (DD T a)%R sizes/(R sizes/h9 (vf sizes) (DD T) a))) (j:=h9 (vf sizes) (DD T) a) (by omega),K1,v7 (i:=4) (xs:=W) (j:=a) (by omega)]
  refine⟨_,rfl,k+1,_,_,_,_,rfl,by omega,c3.symm,by simpa using Wl,λi hi=>?_,?_⟩
  ·rw[pX (by omega)]
   split
   ·rename_i z;subst z
    have h1:=Int.emod_nonneg (-(iH sizes.length (vf sizes) (R sizes) (vf W) (DD T i)%R sizes/(R sizes/h9 (vf sizes) (DD T) i))) (show h9 (vf sizes) (DD T) i≠0 by omega)
    have h2:=Int.emod_lt_of_pos (-(iH sizes.length (vf sizes) (R sizes) (vf W) (DD T i)%R sizes/(R sizes/h9 (vf sizes) (DD T) i))) fa.1
    omega
   ·exact W0 i hi
  ·rw[show d-(k+1)=a by omega]
   refine Wk.next g q0 qd hd (w:=vf W) (by rw[show a+1=d-k by omega];exact Wt) (by omega) ?_ λi hi P1=>?_
   ·rw[pX (by omega),if_pos rfl]
   ·rw[pX (by omega),if_neg P1]
 ·rintro env ⟨c,W,y5,y6,y7,rfl,hc,hz,Wl,W0,Wt⟩
  have:c=d:=by
   have:=congrArg List.length hz
   rw[List.length_drop,List.length_range] at this
   simp at this;omega
  subst this
  rw[Nat.sub_self] at Wt
  exact⟨_,rfl,W,rfl,Wl,W0,Wt⟩
theorem D5(i j:Nat)(env:af)(p q:PV):K0 i j env [p,q]=M.ok (.nx ((env.set i (some (.sh p))).set j (some (.sh q)))):=rfl
variable{W:List Int}
theorem Lr:qu au "levers" bg (dS ns sizes Ls) (M.ok [])=M.ok (.tup (Ls.map tI)):=(iW (fl:=n5 ns sizes Ls) rfl).trans (se sizes Ls)
def ad(sizes xs ys:List Int)(t:Int):List Int:=um ((xs.zip ys).map λz=>z.1+t*z.2) sizes
theorem vk{t:Int}(S:Sz sizes)(h1:xs.length=sizes.length)(h2:ys.length=sizes.length):(ad sizes xs ys t).length=sizes.length/\∀ i,i<sizes.length->vf (ad sizes xs ys t) i=(vf xs i+t*vf ys i)%vf sizes i:=by
 have hl:((xs.zip ys).map λz=>z.1+t*z.2).length=sizes.length:=by simp;omega
 refine⟨by rw[ad,uj,i4,hl];simp,λi hi=>?_⟩
 rw[ad,uj,jr (by rw[hl];exact hi) hi,aT (by rw[hl];exact hi),aT (xs:=xs) (by omega),aT (xs:=ys) (by omega)]
 simp
theorem zD{t:Int}(S:Sz sizes)(h1:xs.length=sizes.length)(hy:Bd 200 ys)(ht:t.natAbs<2^200):oC [dS ns sizes Ls,tI xs,tI ys,.int t]=M.ok (tI (ad sizes xs ys t)):=by
 have l6:=S.h6
 have k1:bo (bR 0 1) none (aj eT (ae 0) (aj cp (ae 2) (ae 1))) ((xs.zip ys).map λz=>.tup [.int z.1,.int z.2]) [none,none,some (.sh (.int t))]=M.ok ((xs.zip ys).map λz=>.int (z.1+t*z.2)):=by
  refine iL (p:=λz:Int×Int=>PV.int z.1) (q:=λz:Int×Int=>PV.int z.2) (xs.zip ys) λz hz=>?_
  dsimp? [bx (k:=200) (l:=200) ht (hy _ (kR hz).2)]
 have z1:(xs.zip ys).length<=sizeLine:=by rw[List.length_zip];exact aL (Nat.le_trans (Nat.min_le_left _ _) (by omega))
 have e0:bX (.lst ((xs.zip ys).map λz=>PV.int (z.1+t*z.2)))=some (((xs.zip ys).map λz=>z.1+t*z.2).map PV.int):=by
  rw[qF,List.map_map];rfl
 have r:=ph (.lst ((xs.zip ys).map λz=>PV.int (z.1+t*z.2))) (tI sizes) _ sizes e0 rfl (I0 S) (by rw[List.length_map,List.length_zip];omega)
 unfold oC oK
 dsimp? [dY (p:=tI xs) (q:=tI ys) xs ys rfl rfl,List.length_map,ar z1,k1,cL,Jw,r]
 rfl
structure Ws (sizes:List Int) (T:List Row) (d:Nat) (W:List Int):Prop where
 len:W.length=sizes.length
 jg:∀ i,i<sizes.length->0<=vf W i/\vf W i<vf sizes i
 wk:Wk sizes.length (vf sizes) (DD T) (R sizes) d 0 (vf W)
theorem Ws.sm(S:Sz sizes)(h:Ws sizes T d W):∀ x∈W,0<=x/\x<360:=λx hx=>by
 obtain⟨i,hi,rfl⟩:=List.mem_iff_getElem.mp hx
 have Ql:i<sizes.length:=by have:=h.len;omega
 have a:=h.jg i Ql
 have b:=lM S i Ql
 rw[aT hi] at a
 omega
theorem Ws.kill(Q:vI ns sizes raw Ls T idle){d:Nat}{W:List Int}(h:Ws sizes T d W){v:dG}(g:G sizes.length (vf sizes) (DD T) sizes.length 0 v):R sizes∣iH sizes.length (vf sizes) (R sizes) (vf W) v :=
 BG (Jb Q.S) sizes.length 0 v (by omega) (λb _ hb=>h.wk.kill b (Nat.zero_le _) hb) g
variable{c:Nat}
def Kp(sizes xs:List Int):Prop:=xs.length=sizes.length/\∀ i,i<sizes.length->0<=vf xs i/\vf xs i<vf sizes i
theorem Kp.Lh(h:Kp sizes xs):Dw sizes xs:=mB h.1 h.2
theorem Kp.bd(S:Sz sizes)(h:Kp sizes xs):Bd 200 xs:=oN S h.1 h.2
theorem K7(S:Sz sizes){t:Int}(h1:xs.length=sizes.length)(h2:ys.length=sizes.length):Kp sizes (ad sizes xs ys t)/\∀ i,i<sizes.length->vf sizes i∣vf (ad sizes xs ys t) i-(vf xs i+t*vf ys i):=by
 obtain⟨a,b⟩:=vk (t:=t) S h1 h2
 refine⟨⟨a,λi hi=>?_⟩,λi hi=>?_⟩
 ·have:=lM S i hi
  rw[b i hi]
  exact⟨Int.emod_nonneg _ (by omega),Int.emod_lt_of_pos _ this.1⟩
 ·rw[b i hi]
  have:=Int.emod_def (vf xs i+t*vf ys i) (vf sizes i)
  exact⟨-((vf xs i+t*vf ys i)/vf sizes i),by rw[this];grind⟩
theorem wq(S:Sz sizes){one other:List Int}(h1:Kp sizes one)(h2:Kp sizes other):kD [dS ns sizes Ls,tI one,tI other]=M.ok (tI (ad sizes other one (-1))):=by
 unfold kD kH
 dsimp? [lS (levers:=Ls) S h1.Lh,lS (levers:=Ls) S h2.Lh,zD (Ls:=Ls) S h2.1 (h1.bd S) (show (-1:Int).natAbs<2^200 by decide)]
def Kf(P:List Int):List (Str×PV):=[("pulls", tI P)]
def JG(W:List Int):List (Str×PV):=[("weights", tI W)]
def way(P:List Int):PV:=.obj de (Kf P)
def bar(W:List Int):PV:=.obj cY (JG W)
theorem HB(P:List Int):e_ de lh [] [tI P]=M.ok (way P):=by
 have key:∀ a,lh a ([tI P]++[])=M.ok (Kf P):=by
  intro a
  unfold lh lu
  simp only[mF]
  rw[ar (show ([tI P]++([]:List PV)).length+1=2 from rfl)]
  simp only[rA,uQ]
  dsimp? [jB]
  rw[gI _ _ _ _ _ _ (by simp)]
  dsimp? []
  show cC _ _=_
  rw[ar ⟨rfl,rfl⟩]
  rfl
 unfold e_
 rw[t7 key];rfl
theorem HJ(W:List Int):e_ cY k9 [] [tI W]=M.ok (bar W):=by
 have key:∀ a,k9 a ([tI W]++[])=M.ok (JG W):=by
  intro a
  unfold k9 lx
  simp only[mF]
  rw[ar (show ([tI W]++([]:List PV)).length+1=2 from rfl)]
  simp only[rA,uQ]
  dsimp? [jB]
  rw[gI _ _ _ _ _ _ (by simp)]
  dsimp? []
  show cC _ _=_
  rw[ar ⟨rfl,rfl⟩]
  rfl
 unfold e_
 rw[t7 key];rfl
theorem BF{L:List Int}(hl:L.length<=1000)(hc:c<L.length)(h0:∀ i,i<c->vf L i=0)(h1:vf L c≠0):eW [tI L]=M.ok (.int (c:Int)):=by
 have key:bo (bw 0) none (aj oq (ae 0) (λ_=>M.ok (.int 0))) (L.map PV.int) [none]=M.ok ((L.map λx=>!decide (x=0)).map PV.bl):=by
  rw[List.map_map]
  refine dQ (inj:=PV.int) L λx _=>?_
  dsimp? []
  rfl
 have ef:(L.map λx=>!decide (x=0)).findIdx? (·==true)=some c:=by
  rw[List.findIdx?_eq_some_iff_getElem]
  refine⟨by simpa using hc,?_,λj hj=>?_⟩
  ·rw[aT hc] at h1
   simpa using h1
  ·have:=h0 j hj
   rw[aT (by omega)] at this
   simpa using this
 have e1:F0 (.lst ((L.map λx=>!decide (x=0)).map PV.bl)) (.bl true)=M.ok (.int (c:Int)):=by
  show dJ ((xA ((L.map λx=>!decide (x=0)).map PV.bl)).bind λbs=>(bs.findIdx? (·==true)).map λ(j:Nat)=>PV.int (j:Int))=_
  rw[o8,Option.bind_some,ef];rfl
 unfold eW eN
 dsimp? [BL,List.length_map,ar (aL hl),key,Kk,e1]
theorem Cn(Q:vI ns sizes raw Ls T idle){one other:List Int}(h1:Kp sizes one)(h2:Kp sizes other) :
  (G sizes.length (vf sizes) (DD T) sizes.length 0 (vf (ad sizes other one (-1)))/\gq [dS ns sizes Ls,tI one,tI other]=M.ok (way (told sizes Ls T idle (ad sizes other one (-1)))))
  \/ (¬ G sizes.length (vf sizes) (DD T) sizes.length 0 (vf (ad sizes other one (-1)))/\∃ (c:Nat) (W:List Int),c<sizes.length/\Ws sizes T c W/\gq [dS ns sizes Ls,tI one,tI other]=M.ok (bar W)/\¬ R sizes∣iH sizes.length (vf sizes) (R sizes) (vf W) (vf (ad sizes other one (-1)))):=by
 have S:=Q.S
 have m8:=Q.m8
 have l6:=S.h6
 have bt:=wq (ns:=ns) (Ls:=Ls) S h1 h2
 obtain⟨⟨dl,d0⟩,_⟩:=K7 (t:=-1) S h2.1 h1.1
 generalize ad sizes other one (-1)=d at *
 obtain⟨b1,b2,b3,b4⟩:=yR Q.st dl d0
 by_cases z:lst sizes Ls T d=List.replicate sizes.length 0
 ·have gx:G sizes.length (vf sizes) (DD T) sizes.length 0 (vf d):=G.ext (by omega) (λi hi=>by rw[z,g8];omega) b4
  obtain⟨et,_⟩:=vz (ns:=ns) (k:=Ls.length+1) S m8 Q.st (by omega) Q.I (mB dl d0) d0 gx
  refine .inl ⟨gx,?_⟩
  unfold gq lK
  dsimp? [bt,Q.Lj,cL,wQ (m := "pulls_to") rfl,et,show ∀ xs:List Int,kT (tI xs) .da=M.ok (.bl true) from λ_=>rfl,HB]
 ·have ng:¬ G sizes.length (vf sizes) (DD T) sizes.length 0 (vf d):=λgx=>z (by
   refine sS (by simpa using b1) λi hi=>?_
   have g:=Q.st.gd.sub (by omega) gx b4
   have:=G.diff Q.st.gd sizes.length 0 (λi=>vf (lst sizes Ls T d) i) (by omega) (λi hi=>by have:=b3 i hi;omega) (λi _ hi=>by have:=b2 i hi;omega) (G.ext (by omega) (λi _=>by omega) g) i (by omega)
   rw[g8];exact this)
  have ex:∃ c,c<sizes.length/\(∀ i,i<c->vf (lst sizes Ls T d) i=0)/\vf (lst sizes Ls T d) c≠0:=by
   have:¬ ∀ c,c<=sizes.length->∀ i,i<c->vf (lst sizes Ls T d) i=0:=λh=>z (sS (by simpa using b1) λi hi=>by rw[g8];exact h sizes.length (Nat.le_refl _) i (by omega))
   apply Classical.byContradiction
   intro no
   refine this λc=>?_
   induction c with
   | zero=>intro _ i hi;omega
   | succ c ih =>
    intro hc i hi
    have ih:=ih (by omega)
    rcases Nat.lt_succ_iff_lt_or_eq.mp hi with q | q
    ·exact ih i q
    ·subst q
     apply Classical.byContradiction
     intro P1
     exact no ⟨i,by omega,ih,P1⟩
  obtain⟨c,hc,c0,c1⟩:=ex
  obtain⟨_,e,W,rfl,w1,w2,w3⟩:=xD Q hc
  have w:Ws sizes T c W:=⟨w1,w2,w3⟩
  refine .inr ⟨ng,c,W,hc,w,?_,λhd=>?_⟩
  ·unfold gq lK
   dsimp? [bt,Q.Lj,cL,wQ (m := "pulls_to") rfl,Cr S m8 Q.st (show Ls.length+1<=9 by omega) dl d0 z,show kT .da .da=M.ok (.bl false) from rfl,wQ (m := "least") rfl,AG (idle:=idle) (ns:=ns) S m8 Q.st (show Ls.length+1<=9 by omega) dl d0,BF (L:=lst sizes Ls T d) (by omega) (c:=c) (by omega) c0 c1,wQ (m := "weights_at") rfl,e,HJ]
  ·have a:=b2 c hc
   have sp:=tY (n:=sizes.length) (s:=vf sizes) (Q:=R sizes) (w:=vf W) 1 1 (x:=vf d) (v:=λi=>vf d i-vf (lst sizes Ls T d) i) (u:=vf (lst sizes Ls T d)) λi _=>by omega
   rw[sp,Int.one_mul,Int.one_mul] at hd
   exact Wk.first Q.st.gd (vM S) (Jb S) hc w3 c0 (by omega) a.2 ((Int.dvd_add_right (w.kill Q b4)).mp hd)
theorem Mp(c k:Int)(hk:k.natAbs<2^31):∃ m:Int,aM [.int c,.int k]=M.ok (.int m)/\0<=m/\m<2^31:=by
 unfold aM cV
 have a1:=Int.emod_nonneg (c+7919*k+12345) (show (2147483629:Int)≠0 by decide)
 have a2:=Int.emod_lt_of_pos (c+7919*k+12345) (show (0:Int)<2147483629 by decide)
 generalize hn:(c+7919*k+12345)%2147483629=n at *
 have b1:=Int.emod_nonneg (n*n+48271*k) (show (2147483629:Int)≠0 by decide)
 have b2:=Int.emod_lt_of_pos (n*n+48271*k) (show (0:Int)<2147483629 by decide)
 generalize hm:(n*n+48271*k)%2147483629=m at *
 have c1:=Int.emod_nonneg (m*m) (show (2147483587:Int)≠0 by decide)
 have c2:=Int.emod_lt_of_pos (m*m) (show (0:Int)<2147483587 by decide)
 exact⟨m*m%2147483587,by dsimp? [bx (i:=7919) (j:=k) (k:=31) (l:=31) (by decide) hk,aO (i:=c+7919*k+12345) (j:=2147483629) (by decide),hn,bx (i:=n) (j:=n) (k:=31) (l:=31) (by omega) (by omega),bx (i:=48271) (j:=k) (k:=31) (l:=31) (by decide) hk,aO (i:=n*n+48271*k) (j:=2147483629) (by decide),hm,bx (i:=m) (j:=m) (k:=31) (l:=31) (by omega) (by omega),aO (i:=m*m) (j:=2147483587) (by decide)],c1,by omega⟩
def mx(c k:Int):Int:=open Classical in if h:∃ m:Int,aM [.int c,.int k]=M.ok (.int m)/\0<=m/\m<2^31 then h.choose else 0
theorem zP(c k:Int)(hk:k.natAbs<2^31):aM [.int c,.int k]=M.ok (.int (mx c k))/\0<=mx c k/\mx c k<2^31:=by
 have h:=Mp c k hk
 have e:mx c k=h.choose:=dif_pos h
 rw[e]
 exact h.choose_spec
theorem rG(c:Int)(p:PV)(bases:List Int)(hp:bX p=some (bases.map PV.int))(hb:∀ b∈bases,0<b/\b<2^60)(hl:bases.length<=100):kZ (eh [.int c,p]) λq=>∃ xs:List Int,q=lI xs/\xs.length=bases.length/\∀ i,i<bases.length->0<=vf xs i/\vf xs i<vf bases i:=by
 unfold eh dW
 dsimp? [iU,hp]
 refine kZ.loop (xs:=bases) (inj:=PV.int) (λzs env=>∃ (c:Int) (ss:List Int) (y:Option SV),env=[some (.sh (.int c)),some (.sh p),some (.ow (ss.map PV.int)),y]/\zs=bases.drop ss.length/\ss.length<=bases.length/\∀ i,i<ss.length->0<=vf ss i/\vf ss i<vf bases i) ⟨c,[],none,rfl,rfl,by simp,λi hi=>by simp at hi⟩ ?_ ?_
 ·rintro s r env ⟨c,ss,y,rfl,hd,QI,hs⟩
  obtain⟨c1,c2,c3⟩:=drop_cons hd.symm
  rw[List.getElem?_eq_getElem c1] at c2
  have e2:bases[ss.length]=s:=Option.some.inj c2
  have hz:=hb s (by rw[← e2];exact List.getElem_mem _)
  have hk:(ss.map PV.int).length<1000:=by simp;omega
  have m0:=Int.emod_nonneg c (show s≠0 by omega)
  have m1:=Int.emod_lt_of_pos c hz.1
  dsimp? [bw,aO (i:=c) (j:=s) hz.1,l4,ownAt,lQ hk,rW,bG (i:=c) (j:=s) hz.1 (by omega)]
  refine⟨_,rfl,_,ss++[c%s],_,rfl,by rw[List.length_append];exact c3.symm,by simp;omega,λi hi=>?_⟩
  have Ql:i<=ss.length:=by simp at hi;omega
  rw[aT hi]
  rcases Nat.lt_or_eq_of_le Ql with q | q
  ·rw[List.getElem_append_left q,← aT q];exact hs i q
  ·subst q
   rw[List.getElem_append_right (Nat.le_refl _),aT c1,e2]
   simp;omega
 ·rintro env ⟨c,ss,y,rfl,hd,QI,hs⟩
  have:=congrArg List.length hd
  rw[List.length_drop] at this
  simp at this
  exact⟨_,rfl,ss,rfl,by omega,λi hi=>hs i (by omega)⟩
theorem FG(h1:1<=xs.length)(h6:xs.length<=6)(hx:∀ x∈xs,2<=x/\x<=360):Sz xs:=⟨h1,h6,hx⟩
theorem CI(c:Int):kZ (gA [.int c]) λp=>∃ xs:List Int,p=lI xs/\Sz xs:=by
 unfold gA gz
 have m2:=aO (i:=c) (j:=2) (by decide)
 by_cases h:c%2=1
 ·obtain⟨n,hn⟩:=Int.eq_ofNat_of_zero_le (show 0<=1+c/2%6 by omega)
  have n1:1<=n/\n<=6:=by omega
  have em:cp (.lst [.int 359]) (.int (n:Int))=M.ok (lI (List.replicate n 359)):=by
   rw[Ci (.int 359) n (by omega),lI,List.map_replicate]
  obtain⟨_,ed,xs,rfl,xl,xb⟩:=rG (c/12) (lI (List.replicate n 359)) (List.replicate n 359) rfl (λb hb=>by rw[List.eq_of_mem_replicate hb];decide) (by simp;omega)
  have key:bo (bw 0) none (aj eT (λ_=>M.ok (.int 2)) (ae 0)) (xs.map PV.int) [none]=M.ok (xs.map λx=>.int (2+x)):=dQ (inj:=PV.int) xs λx hx=>by dsimp? []
  have e0:PV.lst (xs.map λx=>PV.int (2+x))=lI (xs.map (2+·)):=by rw[lI,List.map_map];rfl
  have xl':xs.length=n:=by simpa using xl
  dsimp? [m2,h,decide_true,bG (i:=c) (j:=12) (by decide) (by decide),bG (i:=c) (j:=2) (by decide) (by decide),aO (i:=c/2) (j:=6) (by decide),hn,em,ed,List.length_map,ar (aL (show xs.length<=1000 by omega)),key,e0]
  refine⟨_,rfl,_,rfl,FG (by simp;omega) (by simp;omega) λx hx=>?_⟩
  obtain⟨y,hy,rfl⟩:=List.mem_map.mp hx
  obtain⟨i,hi,rfl⟩:=List.mem_iff_getElem.mp hy
  have:=xb i (by simp;omega)
  rw[aT hi,aT (by simp;omega),List.getElem_replicate] at this
  omega
 ·obtain⟨e1,p1,p2⟩:=zP c 1 (by decide)
  obtain⟨e2,q1,q2⟩:=zP c 2 (by decide)
  obtain⟨t,ht,et⟩:=pick [12,60,360] (mx c 2) 3 rfl (by decide)
  rw[show ((3:Nat):Int)=3 from rfl] at et
  simp only[List.map_cons,List.map_nil] at et
  have ht':12<=t/\t<=360:=by simp at ht;omega
  obtain⟨n,hn⟩:=Int.eq_ofNat_of_zero_le (show 0<=1+mx c 1%6 by omega)
  have n1:1<=n/\n<=6:=by omega
  have key:bo (bw 0) none (aj eT (λ_=>M.ok (.int 2)) (aj cz (ai aM (aa (ae 1) (aa (aj eT (λ_=>M.ok (.int 30)) (ae 0)) ak))) (aj jU (ae 2) (λ_=>M.ok (.int 1))))) ((List.range n).map λ(i:Nat)=>.int (i:Int)) [none,some (.sh (.int c)),some (.sh (.int t))]=M.ok ((List.range n).map λ(i:Nat)=>.int (2+mx c (30+(i:Int))%(t-1))):=by
   refine dQ (inj:=λ(i:Nat)=>PV.int (i:Int)) (List.range n) λi hi=>?_
   have Ql:i<n:=List.mem_range.mp hi
   dsimp? [(zP c (30+(i:Int)) (by omega)).1,aO (i:=mx c (30+(i:Int))) (j:=t-1) (by omega)]
  have e0:PV.lst ((List.range n).map λ(i:Nat)=>PV.int (2+mx c (30+(i:Int))%(t-1)))=lI ((List.range n).map λ(i:Nat)=>2+mx c (30+(i:Int))%(t-1)):=by rw[lI,List.map_map];rfl
  have zr:(List.range n).length<=sizeLine:=by rw[List.length_range];exact aL (by omega)
  dsimp? [m2,h,decide_false,e2,aO (i:=mx c 2) (j:=3) (by decide)]
  rw[et]
  dsimp? [e1,aO (i:=mx c 1) (j:=6) (by decide),hn,cZ (n:=(n:Int)) (by omega) (by omega),Int.toNat_natCast,List.length_map,ar zr,key,e0]
  refine⟨_,rfl,_,rfl,FG (by simp;omega) (by simp;omega) λx hx=>?_⟩
  obtain⟨i,hi,rfl⟩:=List.mem_map.mp hx
  have a:=Int.emod_nonneg (mx c (30+(i:Int))) (show t-1≠0 by omega)
  have b:=Int.emod_lt_of_pos (mx c (30+(i:Int))) (show 0<t-1 by omega)
  omega
theorem Kg:xq (.int 10) (.int 24)=M.ok (.int (10^24)):=by
 rfl
theorem Cw(S:Sz sizes)(c:Int):kZ (gy [.int c,lI sizes]) λp=>∃ xs:List Int,p=lI xs/\xs.length=sizes.length/\Bd 200 xs:=by
 have l6:=S.h6
 unfold gy gB
 have m2:=aO (i:=c) (j:=2) (by decide)
 by_cases h:c%2=1
 ·obtain⟨_,ed,xs,rfl,xl,xb⟩:=rG (c/2) (lI sizes) sizes rfl (λb hb=>by have:=S.hx b hb;omega) (by omega)
  dsimp? [m2,h,decide_true,bG (i:=c) (j:=2) (by decide) (by decide),ed]
  refine⟨_,rfl,xs,rfl,xl,λx hx=>?_⟩
  obtain⟨i,hi,rfl⟩:=List.mem_iff_getElem.mp hx
  have a:=xb i (by omega)
  have b:=lM S i (by omega)
  rw[aT hi] at a
  omega
 ·obtain⟨e5,p1,p2⟩:=zP c 5 (by decide)
  obtain⟨e6,q1,q2⟩:=zP c 6 (by decide)
  obtain⟨y,hy,ey⟩:=pick [1,1,2,3,4,6] (mx c 5) 6 rfl (by decide)
  rw[show ((6:Nat):Int)=6 from rfl] at ey
  simp only[List.map_cons,List.map_nil] at ey
  have hy':1<=y/\y<=6:=by simp at hy;omega
  obtain⟨t,ht,et⟩:=pick [0,1,10^24] (mx c 6) 3 rfl (by decide)
  rw[show ((3:Nat):Int)=3 from rfl] at et
  simp only[List.map_cons,List.map_nil] at et
  have ht':0<=t/\t<=10^24:=by
   rcases List.mem_cons.mp ht with rfl | ht
   ·decide
   rcases List.mem_cons.mp ht with rfl | ht
   ·decide
   rw[List.mem_singleton.mp ht];decide
  dsimp? [m2,h,decide_false,e5,aO (i:=mx c 5) (j:=6) (by decide)]
  rw[ey]
  dsimp? [Kg,e6,aO (i:=mx c 6) (j:=3) (by decide)]
  rw[et]
  dsimp? [iU,cZ (n:=(sizes.length:Int)) (by omega) (by omega),Int.toNat_natCast]
  refine kZ.loop (xs:=List.range sizes.length) (inj:=λ(i:Nat)=>.int (i:Int)) (λzs env=>∃ (ss:List Int) (y5 y6 y7:Option SV),env=[some (.sh (.int c)),some (.sh (lI sizes)),some (.sh (.int y)),some (.sh (.int t)),some (.ow (ss.map PV.int)),y5,y6,y7]/\ss.length+zs.length=sizes.length/\Bd 200 ss/\∀ z∈zs,z<sizes.length) ⟨[],none,none,none,rfl,by simp,(λ_ h=>nomatch h),λz hz=>List.mem_range.mp hz⟩ ?_ ?_
  ·rintro i r env ⟨ss,y5,y6,y7,rfl,hl,hs,hm⟩
   have hi:=hm i List.mem_cons_self
   have QR:=S.hx sizes[i] (List.getElem_mem hi)
   obtain⟨ea,a1,a2⟩:=zP c (40+(i:Int)) (by omega)
   obtain⟨eb,b1,b2⟩:=zP c (60+(i:Int)) (by omega)
   generalize mx c (40+(i:Int))=a at *
   generalize mx c (60+(i:Int))=b at *
   have QI:(ss.map PV.int).length<1000:=by simp at hl ⊢;omega
   obtain⟨k,ek,hk⟩:∃ k:Int,vR (λi j=>if j<i then j else i) [.int (a%4),.int 1]=M.ok (.int k)/\0<=k/\k<=1:=⟨if 1<a%4 then 1 else a%4,rfl,by split <;> omega,by split <;> omega⟩
   have t1:(b%2001-1000).natAbs<2^31:=by omega
   have t2:t.natAbs<2^100:=by omega
   have t3:((b%2001-1000)*t).natAbs<2^120:=by
    rw[Int.natAbs_mul]
    have:(b%2001-1000).natAbs*t.natAbs<=2^11*2^100:=Nat.mul_le_mul (by omega) (by omega)
    exact Nat.lt_of_le_of_lt this (by decide)
   have t4:(k*y).natAbs<2^31:=by
    rcases(show k=0\/k=1 by omega) with rfl | rfl
    ·simp
    ·simp;omega
   have t5:(sizes[i]*((b%2001-1000)*t)).natAbs<2^150:=by
    rw[Int.natAbs_mul]
    have:sizes[i].natAbs*((b%2001-1000)*t).natAbs<=2^11*2^120:=Nat.mul_le_mul (by omega) (by omega)
    exact Nat.lt_of_le_of_lt this (by decide)
   have t6:(k*y*(a/4%360)).natAbs<2^62:=by
    rw[Int.natAbs_mul]
    have:(k*y).natAbs*(a/4%360).natAbs<=2^31*2^10:=Nat.mul_le_mul (by omega) (by omega)
    exact Nat.lt_of_le_of_lt this (by decide)
   have ix:aP (lI sizes) (.int (i:Int))=M.ok (.int sizes[i]):=by rw[wJ hi,aT hi]
   dsimp? [bw,ea,eb,aO (i:=b) (j:=2001) (by decide),bx (i:=b%2001-1000) (j:=t) (k:=31) (l:=100) t1 t2,aO (i:=a) (j:=4) (by decide),ek,bx (i:=k) (j:=y) (k:=31) (l:=31) (by omega) (by omega),bG (i:=a) (j:=4) (by decide) (by decide),aO (i:=a/4) (j:=360) (by decide),bx (i:=k*y) (j:=a/4%360) (k:=31) (l:=31) t4 (by omega),ix,bx (i:=sizes[i]) (j:=(b%2001-1000)*t) (k:=31) (l:=120) (by omega) t3,l4,ownAt,lQ QI,rW]
   refine⟨_,rfl,ss++[k*y*(a/4%360)+sizes[i]*((b%2001-1000)*t)],_,_,_,rfl,by simp at hl ⊢;omega,λs h'=>?_,λz hz=>hm z (List.mem_cons_of_mem _ hz)⟩
   rcases List.mem_append.mp h' with q | q
   ·exact hs s q
   ·rw[List.mem_singleton.mp q]
    have:=Int.natAbs_add_le (k*y*(a/4%360)) (sizes[i]*((b%2001-1000)*t))
    omega
  ·rintro env ⟨ss,y5,y6,y7,rfl,hl,hs,_⟩
   exact⟨_,rfl,ss,rfl,by simpa using hl,hs⟩
variable{l:List Int}
theorem Eh(S:Sz sizes)(hl:l.length=sizes.length):f6 [lI l,lI sizes]=M.ok (tI (um l sizes)):=by
 have l6:=S.h6
 have k1:bo (bR 0 1) none (aj cz (ae 0) (ae 1)) ((l.zip sizes).map λz=>.tup [.int z.1,.int z.2]) [none,none]=M.ok ((l.zip sizes).map λz=>.int (z.1%z.2)):=by
  refine iL (p:=λz:Int×Int=>PV.int z.1) (q:=λz:Int×Int=>PV.int z.2) (l.zip sizes) λz hz=>?_
  have:=S.hx _ (kR hz).2
  dsimp? [aO (i:=z.1) (j:=z.2) (by omega)]
 have z1:(l.zip sizes).length<=sizeLine:=by rw[List.length_zip];exact aL (by omega)
 unfold f6 iG
 dsimp? [dY (p:=lI l) (q:=lI sizes) l sizes rfl rfl,List.length_map,ar z1,k1]
 rw[tI,um,List.map_map];rfl
theorem xQ(a b:Nat):dE [.int (a:Int),.int (b:Int)]=M.ok (.int (Nat.gcd a b:Nat)):=by
 unfold dE eR
 dsimp? []
 refine wy (λenv=>∃ p q:Nat,env=[some (.sh (.int p)),some (.sh (.int q))]/\Nat.gcd p q=Nat.gcd a b) (λenv=>match env with
  | [_,some (.sh (.int q))]=>q.toNat
  | _=>0) ⟨a,b,rfl,rfl⟩ ?_ ?_
 ·rintro env ⟨p,q,rfl,hg⟩
  by_cases h0:(0:Int)<q
  ·refine .inr ⟨by dsimp? [h0,decide_true],[some (.sh (.int q)),some (.sh (.int ((p%q:Nat):Int)))],?_,⟨q,p%q,rfl,?_⟩,?_⟩
   ·dsimp? [IF,D5,aO (i:=(p:Int)) h0]
    rfl
   ·rw[← hg,Nat.gcd_comm p q,Nat.gcd_rec q p,Nat.gcd_comm]
   ·show ((p%q:Nat):Int).toNat<(q:Int).toNat
    have:=Nat.mod_lt p (show 0<q by omega)
    omega
  ·exact .inl (by dsimp? [h0,decide_false])
 ·rintro N1 ⟨p,q,rfl,hg⟩ hu
  have hq:q=0:=by
   revert hu
   dsimp? []
   intro hu
   have:(decide ((0:Int)<q))=false:=by injection hu with hu;injection hu
   simp at this
   omega
  subst hq
  rw[Nat.gcd_zero_right] at hg
  subst hg
  dsimp? []
theorem Bm(sizes:List Int)(h:Sz sizes):gK [lI sizes]=M.ok (.int (R sizes)):=by
 refine kZ.eq ?_
 unfold gK gM
 dsimp? []
 refine kZ.loop (xs:=sizes) (inj:=PV.int) (λzs env=>∃ (acc:Nat) (y:Option SV),env=[some (.sh (lI sizes)),some (.sh (.int (acc:Nat))),y]/\Acc sizes zs acc) ⟨1,_,rfl,Acc.start h⟩ ?_ ?_
 ·rintro a r env ⟨acc,y,rfl,A⟩
  obtain⟨A2,e1,e2,e3⟩:=A.turn
  have hl:=A.lt
  have ha:=A.jg a List.mem_cons_self
  have d0:0<=(acc:Int)/(Int.gcd acc a:Nat):=Int.ediv_nonneg (by omega) (by omega)
  have g1:Int.gcd acc a<=acc:=Nat.le_of_dvd A.pos (Int.ofNat_dvd.mp (Int.gcd_dvd_left ..))
  have ed:dE [.int (acc:Int),.int a]=M.ok (.int (Int.gcd acc a:Nat)):=by
   obtain⟨n,rfl⟩:=Int.eq_ofNat_of_zero_le (show 0<=a by omega)
   exact xQ acc n
  dsimp? [bw,ed,bG (i:=(acc:Int)) (show (0:Int)<(Int.gcd acc a:Nat) by omega) (show ((Int.gcd acc a:Nat):Int)<2^64 by omega),bx (k:=64) (l:=64) (show ((acc:Int)/(Int.gcd acc a:Nat)).natAbs<2^64 by omega) (show a.natAbs<2^64 by omega),e1]
  exact⟨_,rfl,_,_,rfl,A2⟩
 ·rintro env ⟨acc,y,rfl,A⟩
  dsimp? []
  have:=A.val
  exact⟨_,rfl,by rw[R,← this];rfl⟩
theorem rY(S:Sz sizes)(Wl:W.length=sizes.length)(W0:∀ x∈W,0<=x/\x<360)(yl:ys.length=sizes.length)(yb:Bd 200 ys):dU [tI W,tI ys,lI sizes]=M.ok (.int (iH sizes.length (vf sizes) (R sizes) (vf W) (vf ys)%R sizes)):=by
 have l6:=S.h6
 let tm:Int×Int×Int->Int:=λz=>z.1*z.2.1*(R sizes/z.2.2)
 have et:((W.zip (ys.zip sizes)).map tm).sum=iH sizes.length (vf sizes) (R sizes) (vf W) (vf ys):=by
  have hl:((W.zip (ys.zip sizes)).map tm).length=sizes.length:=by simp;omega
  rw[oZ,hl]
  refine eM λi hi=>?_
  rw[aT (by rw[hl];exact hi),aT (by omega),aT (by omega),aT (by omega)]
  simp[tm]
 have k1:bo (nL 0 1 2) none (aj cp (aj cp (ae 0) (ae 1)) (aj cy (ae 3) (ae 2))) ((W.zip (ys.zip sizes)).map λz=>.tup [.int z.1,.int z.2.1,.int z.2.2]) [none,none,none,some (.sh (.int (R sizes)))]=M.ok ((W.zip (ys.zip sizes)).map λz=>.int (tm z)):=by
  refine BM (p:=λz:Int×Int×Int=>PV.int z.1) (q:=λz=>PV.int z.2.1) (s:=λz=>PV.int z.2.2) (W.zip (ys.zip sizes)) λz hz=>?_
  obtain⟨m1,m2⟩:=List.of_mem_zip (a:=z.1) (b:=z.2) hz
  obtain⟨m3,m4⟩:=List.of_mem_zip (a:=z.2.1) (b:=z.2.2) m2
  have a1:=W0 _ m1;have a2:=yb _ m3;have a3:=pZ S m4;have a4:=S.hx _ m4
  have a5:(z.1*z.2.1).natAbs<2^210:=by
   rw[Int.natAbs_mul]
   have:z.1.natAbs*z.2.1.natAbs<=2^9*2^200:=Nat.mul_le_mul (by omega) (by omega)
   exact Nat.lt_of_le_of_lt this (by decide)
  dsimp? [bG (i:=R sizes) (j:=z.2.2) (by omega) (by omega),bx (k:=64) (l:=200) (show z.1.natAbs<2^64 by omega) a2,bx (k:=210) (l:=64) a5 (show (R sizes/z.2.2).natAbs<2^64 by omega)]
  rfl
 have es:qW [.lst ((W.zip (ys.zip sizes)).map λz=>.int (tm z))]=M.ok (.int ((W.zip (ys.zip sizes)).map tm).sum):=by
  have:=qq ((W.zip (ys.zip sizes)).map tm)
  rw[List.map_map] at this
  exact this
 have z1:(W.zip (ys.zip sizes)).length<=sizeLine:=by simp only[List.length_zip];exact aL (by omega)
 rw[← et]
 unfold dU fE
 dsimp? [Bm sizes S,u_ (p:=tI W) (q:=tI ys) (r:=lI sizes) W ys sizes rfl rfl rfl,List.length_map,ar z1,k1,es,aO (i:=((W.zip (ys.zip sizes)).map tm).sum) (j:=R sizes) (vM S)]
variable{x0:Option SV}{t:af->M Bool}
theorem Fb{f:af->M PV}{inj h:α->PV}{rest:af}(xs:List α)(T:∀ a∈xs,t (some (.sh (inj a))::rest)=M.ok true)(H:∀ a∈xs,f (some (.sh (inj a))::rest)=M.ok (h a)):bo (bw 0) (some t) f (xs.map inj) (x0::rest)=M.ok (xs.map h):=by
 induction xs generalizing x0 with
 | nil=>rfl
 | cons a r ih =>
  rw[List.map_cons,bo]
  show M.bind (M.ok ((x0::rest).set 0 (some (.sh (inj a))))) _=_
  rw[M.aE,List.set_cons_zero]
  show M.bind (t _) _=_
  rw[T a List.mem_cons_self,M.aE,if_pos rfl,H a List.mem_cons_self,M.aE,ih (λb hb=>T b (List.mem_cons_of_mem _ hb)) λb hb=>H b (List.mem_cons_of_mem _ hb)]
  rfl
theorem DX{f:af->M PV}{p q h:α->PV}{rest:af}{x1:Option SV}(xs:List α)(T:∀ a∈xs,t (some (.sh (p a))::some (.sh (q a))::rest)=M.ok true)(H:∀ a∈xs,f (some (.sh (p a))::some (.sh (q a))::rest)=M.ok (h a)):bo (bR 0 1) (some t) f (xs.map λa=>.tup [p a,q a]) (x0::x1::rest)=M.ok (xs.map h):=by
 induction xs generalizing x0 x1 with
 | nil=>rfl
 | cons a r ih =>
  rw[List.map_cons,bo]
  show M.bind (M.ok (((x0::x1::rest).set 0 (some (.sh (p a)))).set 1 (some (.sh (q a))))) _=_
  rw[M.aE,List.set_cons_zero,List.set_cons_succ,List.set_cons_zero]
  show M.bind (t _) _=_
  rw[T a List.mem_cons_self,M.aE,if_pos rfl,H a List.mem_cons_self,M.aE,ih (λb hb=>T b (List.mem_cons_of_mem _ hb)) λb hb=>H b (List.mem_cons_of_mem _ hb)]
  rfl
theorem oS(xs:List Int)(hl:xs.length<=100):dr [tI xs,.int (xs.length:Int)]=M.ok (.bl true):=by
 have k1:bo (bw 0) (some (cX (ai gE (aa (ae 0) ak)))) (ae 0) (xs.map PV.int) [none]=M.ok (xs.map PV.int):=Fb (inj:=PV.int) xs (λx _=>by dsimp? [show gE [.int x]=M.ok (.bl true) from rfl]) λx _=>by dsimp? []
 unfold dr dz
 dsimp? [decide_true,List.length_map,ar (aL (show xs.length<=1000 by omega)),k1]
variable{gap:List Int}
section
variable{P:List Int}
theorem BN(Q:vI ns sizes raw Ls T idle)(hg:Kp sizes gap)(hP:P.length=Ls.length)(hb:Bd 200 P)(led:Led sizes.length (vf sizes) Ls.length (AA Ls) (vf gap) (vf P)):gG [.lst (Ls.map tI),tI P,lI sizes,tI gap]=M.ok (.bl true):=by
 have S:=Q.S
 have l6:=S.h6
 have m8:=Q.m8
 have nk:=oS P (by omega)
 rw[hP] at nk
 refine kZ.eq ?_
 unfold gG gv
 dsimp? [List.length_map,nk,Bh]
 refine kZ.loop (xs:=sizes.zipIdx) (inj:=λz=>.tup [.int (z.2:Int),.int z.1]) (λzs env=>∃ y4 y5,env=[some (.sh (.lst (Ls.map tI))),some (.sh (tI P)),some (.sh (lI sizes)),some (.sh (tI gap)),y4,y5]/\∀ z∈zs,z∈sizes.zipIdx) ⟨_,_,rfl,λz h=>h⟩ ?_ ?_
 ·rintro⟨s,i⟩ r env ⟨y4,y5,rfl,hz⟩
  have hm:=hz _ List.mem_cons_self
  have hi:=p8 hm
  simp only at hi
  have es:sizes[i]=s:=by
   have:=List.mem_zipIdx hm
   simp at this
   exact this.2.symm▸rfl
  have sp:=S.hx s (List.fst_mem_of_mem_zipIdx hm)
  have k1:bo (bR 0 1) none (aj cp (ae 0) (aj aP (ae 1) (ae 2))) ((P.zip Ls).map λz=>.tup [.int z.1,tI z.2]) [none,none,some (.sh (.int (i:Int)))]=M.ok ((P.zip Ls).map λz=>.int (z.1*vf z.2 i)):=by
   refine iL (p:=λz:Int×List Int=>PV.int z.1) (q:=λz=>tI z.2) (P.zip Ls) λz hzz=>?_
   obtain⟨m1,m2⟩:=List.of_mem_zip (a:=z.1) (b:=z.2) hzz
   obtain⟨k,hk,ek⟩:=List.mem_iff_getElem.mp m2
   have eg:Ls.getD k []=z.2:=by rw[List.getD_eq_getElem?_getD,List.getElem?_eq_getElem hk,Option.getD_some,ek]
   have a1:=Q.LL.at_ k hk
   have a2:=Q.LL.jg k hk i hi
   have b2:=lM S i hi
   unfold AA at a2
   rw[eg] at a1 a2
   dsimp? [iM (xs:=z.2) (i:=i) (by omega),bx (i:=z.1) (j:=vf z.2 i) (k:=200) (l:=31) (hb _ m1) (by omega)]
  have es1:qW [.lst ((P.zip Ls).map λz=>.int (z.1*vf z.2 i))]=M.ok (.int ((P.zip Ls).map λz=>z.1*vf z.2 i).sum):=by
   have:=qq ((P.zip Ls).map λz=>z.1*vf z.2 i)
   rw[List.map_map] at this
   exact this
  have es2:((P.zip Ls).map λz=>z.1*vf z.2 i).sum=c_ Ls.length λl=>vf P l*AA Ls l i:=by
   have hl:((P.zip Ls).map λz=>z.1*vf z.2 i).length=Ls.length:=by rw[List.length_map,List.length_zip];omega
   rw[oZ,hl]
   refine eM λl QI=>?_
   rw[aT (by rw[hl];exact QI),aT (xs:=P) (by omega)]
   unfold AA
   rw[List.getD_eq_getElem?_getD,List.getElem?_eq_getElem QI,Option.getD_some]
   simp
  have em:((P.zip Ls).map λz=>z.1*vf z.2 i).sum%s=vf gap i:=by
   rw[es2]
   obtain⟨x,hx⟩:=led i hi
   have g0:=hg.2 i hi
   rw[aT hi,es] at hx g0
   have:(c_ Ls.length λl=>vf P l*AA Ls l i)=vf gap i+s*(-x):=by rw[Int.mul_neg,← hx];omega
   rw[this,Int.add_mul_emod_self_left]
   exact Int.emod_eq_of_lt g0.1 g0.2
  have z1:(P.zip Ls).length<=sizeLine:=by rw[List.length_zip];exact aL (by omega)
  dsimp? [bR,dY (p:=tI P) (q:=.lst (Ls.map tI)) (f:=PV.int) (g:=tI) P Ls rfl rfl,List.length_map,ar z1,k1,es1,aO (i:=((P.zip Ls).map λz=>z.1*vf z.2 i).sum) (j:=s) (by omega),em,iM (xs:=gap) (i:=i) (by rw[hg.1];exact hi),decide_true]
  exact⟨_,rfl,_,_,rfl,λz h=>hz z (List.mem_cons_of_mem _ h)⟩
 ·rintro env ⟨y4,y5,rfl,_⟩
  dsimp? []
  exact⟨_,rfl,rfl⟩
theorem Ei(Q:vI ns sizes raw Ls T idle)(hg:Kp sizes gap)(w:Ws sizes T c W)(nd:¬ R sizes∣iH sizes.length (vf sizes) (R sizes) (vf W) (vf gap)):ib [.lst (Ls.map tI),tI W,lI sizes,tI gap]=M.ok (.bl true):=by
 have S:=Q.S
 have l6:=S.h6
 have l1:=S.h1
 have nk:=oS W (by rw[w.len];omega)
 rw[w.len] at nk
 have k1:bo (bR 0 1) (some (cX (gW Cm As (λ_=>M.ok (.int 0)) (aj aP (ae 2) (ae 0)) (ae 1)))) (ae 0) (sizes.zipIdx.map λz=>.tup [.int (z.2:Int),.int z.1]) [none,none,some (.sh (tI W))]=M.ok (sizes.zipIdx.map λz=>.int (z.2:Int)):=by
  refine DX (p:=λz:Int×Nat=>PV.int (z.2:Int)) (q:=λz:Int×Nat=>PV.int z.1) sizes.zipIdx (λz hz=>?_) λz hz=>by dsimp? []
  have hi:=p8 hz
  have es:sizes[z.2]=z.1:=by
   have:=List.mem_zipIdx hz
   simp at this
   exact this.2.symm▸rfl
  have a:=w.jg z.2 hi
  rw[aT hi,es] at a
  dsimp? [gW,iM (xs:=W) (i:=z.2) (by rw[w.len];exact hi),a.1,a.2,decide_true]
 have ne:¬ iH sizes.length (vf sizes) (R sizes) (vf W) (vf gap)%R sizes=0:=λe=>nd (Int.dvd_of_emod_eq_zero e)
 have z1:sizes.zipIdx.length<=sizeLine:=by rw[List.length_zipIdx];exact aL (by omega)
 refine kZ.eq ?_
 unfold ib iC
 dsimp? [nk,Bh,List.length_map,List.length_zipIdx,ar (aL (show sizes.length<=1000 by omega)),k1,decide_true]
 refine kZ.loop (xs:=Ls) (inj:=tI) (λzs env=>∃ y4,env=[some (.sh (.lst (Ls.map tI))),some (.sh (tI W)),some (.sh (lI sizes)),some (.sh (tI gap)),y4]/\∀ z∈zs,z∈Ls) ⟨_,rfl,λz h=>h⟩ ?_ ?_
 ·rintro z r env ⟨y4,rfl,hz⟩
  obtain⟨k,hk,ek⟩:=List.mem_iff_getElem.mp (hz z List.mem_cons_self)
  have eg:Ls.getD k []=z:=by rw[List.getD_eq_getElem?_getD,List.getElem?_eq_getElem hk,Option.getD_some,ek]
  have a1:=Q.LL.at_ k hk
  have a2:=Q.LL.jg k hk
  have eV:AA Ls k=vf z:=by unfold AA;rw[eg]
  rw[eg] at a1
  rw[eV] at a2
  have l0:=rY (ys:=z) S w.len (w.sm S) a1 (oN S a1 a2)
  have kl:=w.kill Q (Q.st.cl k (by omega))
  rw[eV] at kl
  dsimp? [bw,l0,Int.emod_eq_zero_of_dvd kl,decide_true]
  exact⟨_,rfl,_,rfl,λz h=>hz z (List.mem_cons_of_mem _ h)⟩
 ·rintro env ⟨y4,rfl,_⟩
  dsimp? [rY (ys:=gap) S w.len (w.sm S) hg.1 (hg.bd S),ne,decide_false]
  exact⟨_,rfl,rfl⟩
end
theorem tJ{f:af->M PV}{inj h:α->PV}{b:α->Bool}{rest:af}(xs:List α)(Ht:∀ a∈xs,t (some (.sh (inj a))::rest)=M.ok (b a))(H:∀ a∈xs,f (some (.sh (inj a))::rest)=M.ok (h a)):bo (bw 0) (some t) f (xs.map inj) (x0::rest)=M.ok ((xs.filter b).map h):=by
 induction xs generalizing x0 with
 | nil=>rfl
 | cons a r ih =>
  have i:=ih (x0:=some (.sh (inj a))) (λc hc=>Ht c (List.mem_cons_of_mem _ hc)) λc hc=>H c (List.mem_cons_of_mem _ hc)
  rw[List.map_cons,bo]
  show M.bind (M.ok ((x0::rest).set 0 (some (.sh (inj a))))) _=_
  rw[M.aE,List.set_cons_zero]
  show M.bind (t _) _=_
  rw[Ht a List.mem_cons_self,M.aE]
  cases e:b a with
  | true=>rw[if_pos rfl,H a List.mem_cons_self,M.aE,i,List.filter_cons_of_pos e];rfl
  | false=>rw[if_neg (by simp),i,List.filter_cons_of_neg (by simp[e])]
def pk(m b:Nat):List Nat:=(List.range m).filter λi=>decide (b/2^i%2=1)
variable{b:Nat}
theorem uG(h:i∈pk m b):i<m:=List.mem_range.mp (List.mem_filter.mp h).1
theorem Av(m b:Nat):(pk m b).length<=m:=by
 have:=List.length_filter_le (λi=>decide (b/2^i%2=1)) (List.range m)
 rw[List.length_range] at this
 exact this
theorem AM{b k:Nat}(h:b<2^k):∀ d,pk (k+d) b=pk k b
 | 0=>rfl
 | d+1=>by
  have ih:=AM h d
  unfold pk at ih ⊢
  rw[← Nat.add_assoc,List.range_succ,List.filter_append,ih,List.filter_cons_of_neg,List.filter_nil,List.append_nil]
  have:b<2^(k+d):=Nat.lt_of_lt_of_le h (Nat.pow_le_pow_right (by decide) (by omega))
  rw[Nat.div_eq_of_lt this]
  decide
theorem yi(b:Nat):b<2^Builtin.Int.intBits (b:Int):=by
 unfold Builtin.Int.intBits
 split
 ·rename_i h
  have:(b:Int)=0:=by simpa using h
  omega
 ·show b<2^(b.log2+1)
  exact Nat.lt_log2_self
theorem bits_le(h:b<2^m):Builtin.Int.intBits (b:Int)<=m:=by
 unfold Builtin.Int.intBits
 split
 ·omega
 ·rename_i z
  show b.log2+1<=m
  have:b≠0:=λe=>z (by rw[e];rfl)
  exact(Nat.log2_lt this).mpr h
theorem HX(x:Nat):vB (.int (x:Int)) (.int 1)=M.ok (.int ((x%2:Nat):Int)):=by
 show M.ok (PV.int (Builtin.bitAnd (x:Int) 1))=_
 have:Builtin.bitAnd (x:Int) 1=((x%2:Nat):Int):=by
  unfold Builtin.bitAnd
  rw[decide_eq_true (show (0:Int)<=(x:Int) by omega),decide_eq_true (show (0:Int)<=1 by omega)]
  show (((x &&& 1:Nat)):Int)=_
  rw[Nat.and_one_is_mod]
 rw[this]
theorem yx(i:Nat)(h:i<=1000):ou (.int 1) (.int (i:Int))=M.ok (.int ((2^i:Nat):Int)):=by
 rw[ou,nU,ar (by simp;omega)]
 show M.ok (PV.int (1*2^(i:Int).toNat))=_
 rw[Int.one_mul,Int.toNat_natCast]
 simp
theorem IW(b i:Nat):yW (.int (b:Int)) (.int (i:Int))=M.ok (.int ((b/2^i:Nat):Int)):=by
 rw[yW,nU,ar (by simp)]
 show M.ok (PV.int ((b:Int)/2^(i:Int).toNat))=_
 rw[Int.toNat_natCast]
 simp
theorem ua(x:Nat):decide (((x%2:Nat):Int)=1)=decide (x%2=1):=by
 congr 1
 simp
 omega
theorem zB(h:b<2^m)(hm:m<=8):iq [.int (b:Int)]=M.ok (.lst ((pk m b).map λ(i:Nat)=>.int (i:Int))):=by
 have l:=bits_le h
 have e:pk m b=pk (Builtin.Int.intBits (b:Int)) b:=by
  have:=AM (yi b) (m-Builtin.Int.intBits (b:Int))
  rw[← this]
  congr 1
  omega
 rw[e]
 generalize hk:Builtin.Int.intBits (b:Int)=k at *
 have key:=tJ (t:=cX (aj my (aj vB (aj yW (ae 1) (ae 0)) (λ_=>M.ok (.int 1))) (λ_=>M.ok (.int 1)))) (f:=ae 0) (inj:=λ(i:Nat)=>PV.int (i:Int)) (h:=λ(i:Nat)=>PV.int (i:Int)) (b:=λi=>decide (b/2^i%2=1)) (rest:=[some (.sh (.int (b:Int)))]) (x0:=none) (List.range k) (λi hi=>by dsimp? [IW,HX,ua]) λi hi=>rfl
 have zr:(List.range k).length<=sizeLine:=by rw[List.length_range];exact aL (by omega)
 unfold iq ir
 dsimp? [Be,show FY (.int (b:Int))=M.ok (.int (Builtin.Int.intBits (b:Int):Nat)) from rfl,hk,cZ (n:=(k:Int)) (by omega) (by omega),Int.toNat_natCast,List.length_map,ar zr,key]
 rfl
section
variable{P:List Int}
theorem xf:cK [dS ns sizes Ls]=M.ok (tI ns):=by
 unfold cK dD
 dsimp? [ij,show xO (λc=>c==au) "lever_prices" (dS ns sizes Ls)=M.ok (tI ns) from ku (beq_self_eq_true _) rfl]
theorem Nh:qu au "prices" cK (dS ns sizes Ls) (M.ok [])=M.ok (tI ns):=(iW (fl:=n5 ns sizes Ls) rfl).trans xf
theorem nu(h:Ls.length<=8):jq [dS ns sizes Ls]=M.ok (.int (((2^Ls.length:Nat):Int)-1)):=by
 unfold jq jC
 dsimp? [cL,Lr,List.length_map,yx Ls.length (by omega)]
theorem AJ(Q:vI ns sizes raw Ls T idle)(hi:i<Ls.length):Kp sizes (Ls.getD i []):=⟨Q.LL.at_ i hi,λj hj=>Q.LL.jg i hi j hj⟩
theorem pI(Q:vI ns sizes raw Ls T idle)(h:l∈Ls):Kp sizes l:=by
 obtain⟨i,hi,rfl⟩:=List.mem_iff_getElem.mp h
 have:=AJ Q hi
 rw[List.getD_eq_getElem?_getD,List.getElem?_eq_getElem hi,Option.getD_some] at this
 exact this
def pL(b:Nat)(Ls:List (List Int)):List (List Int):=(pk Ls.length b).map λi=>Ls.getD i []
def pN(b m:Nat)(ns:List Int):List Int:=(pk m b).map λi=>vf ns i
theorem wZ(h:l∈pL b Ls):l∈Ls:=by
 obtain⟨i,hi,rfl⟩:=List.mem_map.mp h
 have:=uG hi
 rw[List.getD_eq_getElem?_getD,List.getElem?_eq_getElem this,Option.getD_some]
 exact List.getElem_mem _
theorem zg:bo (bw 0) none (aj aP (ae 1) (ae 0)) ((pk Ls.length b).map λ(i:Nat)=>PV.int (i:Int)) [none,some (.sh (.tup (Ls.map tI)))]=M.ok ((pL b Ls).map tI):=by
 rw[show (pL b Ls).map tI=(pk Ls.length b).map λi=>tI (Ls.getD i []) by rw[pL,List.map_map];rfl]
 refine dQ (inj:=λ(i:Nat)=>PV.int (i:Int)) _ λi hi=>?_
 have hi:=uG hi
 dsimp? [bC (p:=.tup (Ls.map tI)) (j:=i) (x:=tI (Ls.getD i [])) rfl (by rw[List.getElem?_map,List.getD_eq_getElem?_getD,List.getElem?_eq_getElem hi];rfl)]
theorem xK:bo (bw 0) none (aj aP (ae 1) (ae 0)) ((pk Ls.length b).map λ(i:Nat)=>PV.int (i:Int)) [none,some (.sh (.lst (Ls.map tI)))]=M.ok ((pL b Ls).map tI):=by
 rw[show (pL b Ls).map tI=(pk Ls.length b).map λi=>tI (Ls.getD i []) by rw[pL,List.map_map];rfl]
 refine dQ (inj:=λ(i:Nat)=>PV.int (i:Int)) _ λi hi=>?_
 have hi:=uG hi
 dsimp? [bC (p:=.lst (Ls.map tI)) (j:=i) (x:=tI (Ls.getD i [])) rfl (by rw[List.getElem?_map,List.getD_eq_getElem?_getD,List.getElem?_eq_getElem hi];rfl)]
theorem yw(hp:bX p=some (ns.map PV.int))(h:m=ns.length):bo (bw 0) none (aj aP (ae 1) (ae 0)) ((pk m b).map λ(i:Nat)=>PV.int (i:Int)) [none,some (.sh p)]=M.ok ((pN b m ns).map PV.int):=by
 rw[show (pN b m ns).map PV.int=(pk m b).map λi=>PV.int (vf ns i) by rw[pN,List.map_map];rfl]
 refine dQ (inj:=λ(i:Nat)=>PV.int (i:Int)) _ λi hi=>?_
 have hi:i<ns.length:=by have:=uG hi;omega
 dsimp? [bC (p:=p) (j:=i) (x:=.int (vf ns i)) hp (by rw[List.getElem?_map,aT hi,List.getElem?_eq_getElem hi];rfl)]
structure Pk (ns sizes:List Int) (Ls:List (List Int)) (b:Nat) (T:List Row) (idle:List (List Int)):Prop where
 Q:vI (pN b Ls.length ns) sizes (pL b Ls) (pL b Ls) T idle
 ok:gf [dS ns sizes Ls,.int (b:Int)]=M.ok (dS (pN b Ls.length ns) sizes (pL b Ls))
theorem Pk.get(Q:vI ns sizes raw Ls T idle)(hl:ns.length=Ls.length)(hp:∀ x∈ns,1<=x/\x<=1000){b:Nat}(hb:b<2^Ls.length):∃ T' Pw,Pk ns sizes Ls b T' Pw:=by
 have m8:=Q.m8
 have kl:=Av Ls.length b
 have zk:(pk Ls.length b).length<=sizeLine:=aL (by omega)
 obtain⟨Ls',T',Pw,Q'⟩:=vI.get (pN b Ls.length ns) Q.S (raw:=pL b Ls) (by simp[pN,pL]) (λx hx=>by
  obtain⟨i,hi,rfl⟩:=List.mem_map.mp hx
  have hi:i<ns.length:=by have:=uG hi;omega
  rw[aT hi]
  exact hp _ (List.getElem_mem _)) (by simp[pL];omega) λl hl=>⟨(pI Q (wZ hl)).1,(pI Q (wZ hl)).bd Q.S⟩
 have e:Ls'=pL b Ls:=by
  rw[Q'.eL]
  exact(List.map_congr_left λl hl=>Bt (pI Q (wZ hl)).Lh).trans (List.map_id' _)
 subst e
 refine⟨T',Pw,Q',?_⟩
 unfold gf gX
 dsimp? [nu m8,within_int,decide_eq_true (show (0:Int)<=(b:Int)/\(b:Int)<=((2^Ls.length:Nat):Int)-1 from by omega),zB hb m8,cL,Lr,Jw,Nh,List.length_map,ar zk,zg,yw (p:=tI ns) rfl hl.symm,Q'.Lf (p:=tI sizes) (pp:=.lst ((pN b Ls.length ns).map PV.int)) (f:=tI) (.inl rfl) (.inr rfl) rfl]
end
open PySem.SeqAt (shaped noMix noMixAll)
theorem CA(xs ys:List (List Int)):oq (.tup (xs.map tI)) (.tup (ys.map tI))=M.ok (.bl (!decide (xs=ys))):=by
 simp only[oq,om,dat,sC,Option.map_some,ED]
 have h1:=pT xs
 have h2:=pT ys
 rw[ar (by simp[shaped,PyData.canLay0,PyData.depth,u7,noMix,pR];omega)]
 unfold PySem.Spec.same
 rw[r_];rfl
theorem vH:∀ (xs ys:List Int),PyData.eqvAll (xs.map PyData.int) (ys.map PyData.int)=decide (xs=ys)
 | [],[]=>by simp[PyData.eqvAll]
 | [],_::_=>by simp[PyData.eqvAll]
 | _::_,[]=>by simp[PyData.eqvAll]
 | a::r,b::s=>by
  simp only[List.map_cons,PyData.eqvAll,PyData.eqv,vH r s]
  rw[Bool.eq_iff_iff];simp
theorem GJ(h:l ∉ Ls):inD (tI l) (.lst (Ls.map tI))=M.ok (.bl false):=by
 simp only[inD,tI,dat,kI,Option.map_some]
 rw[sC Ls]
 refine(ar ?_).trans ?_
 rotate_left
 ·congr 2
  rw[List.any_eq_false]
  intro x hx
  obtain⟨r,hr,rfl⟩:=List.mem_map.mp hx
  simp only[PyData.eqv,vH]
  simp
  rintro rfl
  exact h hr
 ·refine⟨by simp[shaped,PyData.canLay0,PyData.depth,f7,g_],?_⟩
  rw[List.all_eq_true]
  intro x hx
  obtain⟨r,hr,rfl⟩:=List.mem_map.mp hx
  simp[shaped,PyData.canLay0,PyData.depth,f7,g_]
variable{Pw:List (List Int)}{T':List Row}
section
variable{P:List Int}
theorem NN:xO (λc=>c==de) "pulls" (way P)=M.ok (tI P):=ku (beq_self_eq_true _) rfl
theorem NI:xO (λc=>c==cY) "weights" (bar W)=M.ok (tI W):=ku (beq_self_eq_true _) rfl
theorem Ew:xI (λ_=>false) (k8 jn jv) (k8 p_ qa) (way P)=M.ok (.bl true):=by
 show dJ ((k8 jn jv de).map .bl)=_
 rw[show k8 jn jv de=some true by decide];rfl
theorem EZ:xI (λ_=>false) (k8 jn jv) (k8 p_ qa) (bar W)=M.ok (.bl false):=by
 show dJ ((k8 jn jv cY).map .bl)=_
 rw[show k8 jn jv cY=some false by decide];rfl
theorem Ed:xI (λ_=>false) (k8 mz mP) (k8 t_ t8) (bar W)=M.ok (.bl true):=by
 show dJ ((k8 mz mP cY).map .bl)=_
 rw[show k8 mz mP cY=some true by decide];rfl
theorem AH(b i:Nat)(h:i<8):cy (.int (b:Int)) (.int ((2^i:Nat):Int))=M.ok (.int ((b/2^i:Nat):Int)):=by
 have h1:0<2^i:=Nat.two_pow_pos i
 have h2:2^i<=2^8:=Nat.pow_le_pow_right (by decide) (by omega)
 rw[bG (by omega) (by omega)]
 simp
theorem FT(x:Nat):cz (.int (x:Int)) (.int 2)=M.ok (.int ((x%2:Nat):Int)):=by
 rw[aO (by decide)]
 simp
theorem wX(hm:m<=8):bo (bw 0) (some (cX (aj my (aj cz (aj cy (ae 1) (aj ou (λ_=>M.ok (.int 1)) (ae 0))) (λ_=>M.ok (.int 2))) (λ_=>M.ok (.int 1))))) (ae 0) ((List.range m).map λ(i:Nat)=>PV.int (i:Int)) [none,some (.sh (.int (b:Int)))]=M.ok ((pk m b).map λ(i:Nat)=>PV.int (i:Int)) :=
 tJ (inj:=λ(i:Nat)=>PV.int (i:Int)) (b:=λi=>decide (b/2^i%2=1)) (List.range m) (λi hi=>by
  have hi:=List.mem_range.mp hi
  dsimp? [yx i (by omega),AH b i (by omega),FT,ua]) λi hi=>rfl
theorem CL(hm:Ls.length<=8):bo (bw 0) (some (cX (aj my (aj cz (aj cy (ae 2) (aj ou (λ_=>M.ok (.int 1)) (ae 0))) (λ_=>M.ok (.int 2))) (λ_=>M.ok (.int 1))))) (aj aP (ae 1) (ae 0)) ((List.range Ls.length).map λ(i:Nat)=>PV.int (i:Int)) [none,some (.sh (.lst (Ls.map tI))),some (.sh (.int (b:Int)))]=M.ok ((pL b Ls).map tI):=by
 rw[show (pL b Ls).map tI=(pk Ls.length b).map λi=>tI (Ls.getD i []) by rw[pL,List.map_map];rfl]
 refine tJ (inj:=λ(i:Nat)=>PV.int (i:Int)) (b:=λi=>decide (b/2^i%2=1)) (List.range Ls.length) (λi hi=>?_) λi hi=>?_
 ·have hi:=List.mem_range.mp hi
  dsimp? [yx i (by omega),AH b i (by omega),FT,ua]
 ·have hi:=List.mem_range.mp hi
  dsimp? [bC (p:=.lst (Ls.map tI)) (j:=i) (x:=tI (Ls.getD i [])) rfl (by rw[List.getElem?_map,List.getD_eq_getElem?_getD,List.getElem?_eq_getElem hi];rfl)]
theorem Ck(m8:Ls.length<=8)(hl:ns.length=Ls.length)(K:Pk ns sizes Ls b T idle):gQ [dS ns sizes Ls,.lst (Ls.map tI),lI ns,.int (b:Int),lI sizes]=M.ok (.bl true):=by
 have kl:=Av Ls.length b
 have zk:(pk Ls.length b).length<=sizeLine:=aL (by omega)
 have zr:(List.range Ls.length).length<=sizeLine:=by rw[List.length_range];exact aL (by omega)
 unfold gQ gu
 dsimp? [K.ok,List.length_map,cZ (n:=(Ls.length:Int)) (by omega) (by omega),Int.toNat_natCast,ar zr,wX m8,cL,Jw,Lr,Nh,xJ,show PV.tup (sizes.map PV.int)=tI sizes from rfl,decide_true,ar zk,xK,CA,yw (p:=lI ns) rfl hl.symm,show PV.tup ((pN b Ls.length ns).map PV.int)=tI (pN b Ls.length ns) from rfl,HC]
def MK(sizes:List Int)(Ls:List (List Int))(T:List Row)(l:List Int)(p:PV):Prop:=(∃ P,p=way P/\P.length=Ls.length/\Bd 200 P/\Led sizes.length (vf sizes) Ls.length (AA Ls) (vf l) (vf P))\/∃ c W,p=bar W/\Ws sizes T c W/\¬ R sizes∣iH sizes.length (vf sizes) (R sizes) (vf W) (vf l)
theorem DW(S:Sz sizes)(h:Kp sizes l):ad sizes l (List.replicate sizes.length 0) (-1)=l:=by
 obtain⟨a,b⟩:=vk (t:=-1) S h.1 (x_ sizes.length)
 refine sS (by rw[a,h.1]) λi hi=>?_
 rw[b i (by omega),g8]
 have:=h.2 i (by omega)
 rw[show vf l i+-1*0=vf l i by omega,Int.emod_eq_of_lt this.1 this.2]
theorem H_(Q:vI ns sizes raw Ls T idle)(h:Kp sizes l):∃ p,gq [dS ns sizes Ls,tI (List.replicate sizes.length 0),tI l]=M.ok p/\MK sizes Ls T l p:=by
 have S:=Q.S
 have m8:=Q.m8
 have h0:Kp sizes (List.replicate sizes.length 0):=⟨x_ _,AE S⟩
 have:=Cn Q h0 h
 rw[DW S h] at this
 rcases this with ⟨g,eb⟩ | ⟨ng,c,W,hc,w,eb,nd⟩
 ·obtain⟨et,tl,led,tn⟩:=vz (ns:=ns) (k:=Ls.length+1) S m8 Q.st (by omega) Q.I h.Lh h.2 g
  exact⟨_,eb,.inl ⟨_,rfl,tl,Km Q.I tl tn,led⟩⟩
 ·exact⟨_,eb,.inr ⟨c,W,rfl,w,nd⟩⟩
theorem Ai(Q:vI ns sizes raw Ls T idle)(K:Pk ns sizes Ls b T' Pw):∃ f:List Int->PV,hZ [dS ns sizes Ls,.int (b:Int)]=M.ok (.lst (Ls.map f))/\∀ l∈Ls,MK sizes (pL b Ls) T' l (f l):=by
 have m8:=Q.m8
 have l6:=Q.S.h6
 obtain⟨f,hf⟩:=Classical.axiomOfChoice (r:=λ(l:List Int) (p:PV)=>l∈Ls->gq [dS (pN b Ls.length ns) sizes (pL b Ls),tI (List.replicate sizes.length 0),tI l]=M.ok p/\MK sizes (pL b Ls) T' l p) λl=>by
  by_cases h:l∈Ls
  ·obtain⟨p,hp⟩:=H_ K.Q (pI Q h)
   exact⟨p,λ_=>hp⟩
  ·exact⟨.da,λz=>(h z).elim⟩
 refine⟨f,?_,λl hl=>(hf l hl).2⟩
 have key:bo (bw 0) none (ai gq (aa (ae 2) (aa (ai gb (aa (ae 1) ak)) (aa (ae 0) ak)))) (Ls.map tI) [none,some (.sh (dS ns sizes Ls)),some (.sh (dS (pN b Ls.length ns) sizes (pL b Ls)))]=M.ok (Ls.map f) :=
  dQ (inj:=tI) Ls λl hl=>by dsimp? [kS l6,(hf l hl).1]
 have zl:Ls.length<=sizeLine:=aL (by omega)
 unfold hZ i5
 dsimp? [K.ok,cL,Lr,List.length_map,ar zl,key]
theorem Ef(Q:vI ns sizes raw Ls T idle)(w:Ws sizes T c W)(nd:¬ R sizes∣iH sizes.length (vf sizes) (R sizes) (vf W) (vf l)):l ∉ Ls:=λh=>nd (by
 obtain⟨i,hi,rfl⟩:=List.mem_iff_getElem.mp h
 have:=w.kill Q (Q.st.cl i (by omega))
 unfold AA at this
 rw[List.getD_eq_getElem?_getD,List.getElem?_eq_getElem hi,Option.getD_some] at this
 exact this)
end
section
variable{P:List Int}
theorem AR{β:Type}(f:α->β)(xs:List α):(xs.map f).zip xs=xs.map λx=>(f x,x):=by
 induction xs with
 | nil=>rfl
 | cons a r ih=>simp[ih]
theorem zH(Q:vI ns sizes raw Ls T idle)(K:Pk ns sizes Ls b T' Pw):fD [dS ns sizes Ls,.lst (Ls.map tI),.int (b:Int),lI sizes]=M.ok (.bl true):=by
 have m8:=Q.m8
 have l6:=Q.S.h6
 obtain⟨f,ef,hf⟩:=Ai Q K
 have zr:(List.range Ls.length).length<=sizeLine:=by rw[List.length_range];exact aL (by omega)
 have ez:zip2 [.lst (Ls.map f),.lst (Ls.map tI)]=M.ok (Ls.map λl=>.tup [f l,tI l]):=by
  rw[dY (f:=f) (g:=tI) Ls Ls rfl rfl]
  congr 1
  rw[show Ls.zip Ls=Ls.map λx=>(x,x) by have:=AR (λx=>x) Ls;rwa [List.map_id'] at this,List.map_map]
  rfl
 refine kZ.eq ?_
 unfold fD fv
 dsimp? [ef,List.length_map,cZ (n:=(Ls.length:Int)) (by omega) (by omega),Int.toNat_natCast,ar zr,CL m8,decide_true,ez]
 refine kZ.loop (xs:=Ls) (inj:=λl=>.tup [f l,tI l]) (λzs env=>(∀ z∈zs,z∈Ls)/\∃ y6 y7,env=[some (.sh (dS ns sizes Ls)),some (.sh (.lst (Ls.map tI))),some (.sh (.int (b:Int))),some (.sh (lI sizes)),some (.sh (.lst (Ls.map f))),some (.sh (.lst ((pL b Ls).map tI))),y6,y7]) ⟨λz h=>h,_,_,rfl⟩ ?_ ?_
 ·rintro l r env ⟨hz,y6,y7,rfl⟩
  have hl:=hz l List.mem_cons_self
  have kl:=pI Q hl
  have Qy:∀ z∈r,z∈Ls:=λz h=>hz z (List.mem_cons_of_mem _ h)
  rcases hf l hl with ⟨P,e,h1,h2,h3⟩ | ⟨c,W,e,w,nd⟩
  ·dsimp? [bR,e,Ew,ij,NN,BN K.Q kl h1 h2 h3]
   exact⟨_,rfl,Qy,_,_,rfl⟩
  ·dsimp? [bR,e,EZ,Ed,ij,NI,GJ (Ef K.Q w nd),Ei K.Q kl w nd]
   exact⟨_,rfl,Qy,_,_,rfl⟩
 ·rintro env ⟨_,y6,y7,rfl⟩
  exact⟨_,rfl,rfl⟩
theorem pF(m8:Ls.length<=8)(h:bL [p,.int 0,.int (((2^Ls.length:Nat):Int)-1)]=M.ok (.bl false)):gf [dS ns sizes Ls,p]=some (.error (bq,none)):=by
 unfold gf gX
 dsimp? [nu m8,h,kn,ar (show 1<=sizeLine from aL (by decide))]
theorem wC(m8:Ls.length<=8)(h:bL [p,.int 0,.int (((2^Ls.length:Nat):Int)-1)]=M.ok (.bl false)):hZ [dS ns sizes Ls,p]=some (.error (bq,none)):=by
 unfold hZ i5
 dsimp? [pF m8 h]
theorem Kr:k8 fI fO bq=some true:=by decide
theorem J_:xI (λ_=>false) (k8 iA ig) (k8 eF eE) (.exc bq none)=M.ok (.bl true):=by
 show dJ ((k8 eF eE bq).map .bl)=_
 rw[show k8 eF eE bq=some true by decide];rfl
theorem Nl:Kx Nc (.exc bq none)=M.ok (.bl true):=ar (by decide)
theorem K4:my (.lst [.bl true,.bl true]) (.lst [.bl true,.bl true])=M.ok (.bl true):=by
 simp only[my,om,dat,kr,Option.map_some,Option.bind_some,ED]
 rw[ar (by decide)]
 rfl
theorem pb(m8:Ls.length<=8)(h:bL [p,.int 0,.int (((2^Ls.length:Nat):Int)-1)]=M.ok (.bl false))(w:Int):eJ [dS ns sizes Ls,.int w,p]=M.ok (.bl true):=by
 unfold eJ eS
 by_cases z:w=0
 ·dsimp? [xU,z,decide_true,pF m8 h,o7,pU,Kr,Aq,uT,pM,J_,Fv,Nl,K4]
 ·dsimp? [xU,z,decide_false,wC m8 h,o7,pU,Kr,Aq,uT,pM,J_,Fv,Nl,K4]
end
theorem J8:xq (.int 10) (.int 29)=M.ok (.int (10^29)):=by
 rw[xq,nU,ar (by decide)];rfl
theorem DQ(ns:List Int)(S:Sz sizes):kZ (fG [.jN (ns.map PV.int),lI sizes]) λp=>∃ raw:List (List Int),p=.lst (raw.map lI)/\raw.length<=8/\∀ l∈raw,l.length=sizes.length/\Bd 200 l:=by
 have l6:=S.h6
 obtain⟨c,ec⟩:=lP ns 1
 rw[show ((1:Nat):Int)=1 from rfl] at ec
 obtain⟨em,m0,m1⟩:=zP c 1 (by decide)
 obtain⟨n,hn⟩:=Int.eq_ofNat_of_zero_le (show 0<=mx c 1%9 by omega)
 have n8:n<=8:=by omega
 unfold fG fV
 dsimp? [iU,ec,em,aO (i:=mx c 1) (j:=9) (by decide),hn,cZ (n:=(n:Int)) (by omega) (by omega),Int.toNat_natCast]
 refine kZ.loop (xs:=List.range n) (inj:=λ(i:Nat)=>.int (i:Int)) (λzs env=>∃ (raw:List (List Int)) (y4 y5 y6 y7 y8:Option SV),env=[some (.sh (.jN (ns.map PV.int))),some (.sh (lI sizes)),some (.sh (.int (n:Int))),some (.ow (raw.map lI)),y4,y5,y6,y7,y8]/\zs=(List.range n).drop raw.length/\raw.length<=n/\∀ l∈raw,l.length=sizes.length/\Bd 200 l) ⟨[],none,none,none,none,none,rfl,rfl,by simp,λ_ h=>nomatch h⟩ ?_ ?_
 ·rintro k r env ⟨raw,y4,y5,y6,y7,y8,rfl,hd,hl,hr⟩
  obtain⟨d1,d2,d3⟩:=drop_cons hd.symm
  rw[List.length_range] at d1
  have ek:raw.length=k:=by
   rw[List.getElem?_eq_getElem (by rw[List.length_range];exact d1),List.getElem_range] at d2
   exact Option.some.inj d2
  subst ek
  obtain⟨d,ed⟩:=lP ns (2+raw.length)
  rw[show ((2+raw.length:Nat):Int)=2+(raw.length:Int) by omega] at ed
  have QI:(raw.map lI).length<1000:=by rw[List.length_map];omega
  have fin:∀ v:List Int,v.length=sizes.length->Bd 200 v->r=(List.range n).drop (raw++[v]).length/\(raw++[v]).length<=n/\∀ l∈raw++[v],l.length=sizes.length/\Bd 200 l:=λv h1 h2=>⟨by rw[List.length_append];exact d3.symm,by rw[List.length_append];exact d1,λs h'=>by
   rcases List.mem_append.mp h' with q | q
   ·exact hr s q
   ·rw[List.mem_singleton.mp q];exact⟨h1,h2⟩⟩
  obtain⟨_,el,v,rfl,v1,v2⟩:=Cw S d
  obtain⟨e7,_,_⟩:=zP d 7 (by decide)
  by_cases z1:1<(raw.length:Int)
  ·by_cases z2:mx d 7%3=0
   ·obtain⟨e8,a8,_⟩:=zP d 8 (by decide)
    obtain⟨e9,a9,_⟩:=zP d 9 (by decide)
    have at_:∀ x:Int,∃ u:List Int,aP (.lst (raw.map lI)) (.int (x%(raw.length:Int)))=M.ok (lI u)/\u.length=sizes.length/\Bd 200 u:=λx=>by
     obtain⟨j,hj⟩:=Int.eq_ofNat_of_zero_le (Int.emod_nonneg x (show (raw.length:Int)≠0 by omega))
     have lt:=Int.emod_lt_of_pos x (show 0<(raw.length:Int) by omega)
     have hj':j<raw.length:=by omega
     refine⟨raw[j],?_,hr _ (List.getElem_mem _)⟩
     rw[hj]
     exact bC (p:=.lst (raw.map lI)) rfl (by rw[List.getElem?_map,List.getElem?_eq_getElem hj'];rfl)
    obtain⟨u,iu,u1,u2⟩:=at_ (mx d 8)
    obtain⟨w,iw,w1,w2⟩:=at_ (mx d 9)
    have key:bo (nL 0 1 2) none (aj cz (aj jU (ae 0) (aj cp (λ_=>M.ok (.int 2)) (ae 1))) (ae 2)) ((u.zip (w.zip sizes)).map λz=>.tup [.int z.1,.int z.2.1,.int z.2.2]) [none,none,none]=M.ok (((u.zip (w.zip sizes)).map λz=>(z.1-2*z.2.1)%z.2.2).map PV.int):=by
     rw[List.map_map]
     refine BM (p:=λz:Int×Int×Int=>PV.int z.1) (q:=λz=>PV.int z.2.1) (s:=λz=>PV.int z.2.2) (u.zip (w.zip sizes)) λz hz=>?_
     have h1:=List.of_mem_zip (a:=z.1) (b:=z.2) hz
     have h2:=List.of_mem_zip (a:=z.2.1) (b:=z.2.2) h1.2
     have h3:=S.hx _ h2.2
     dsimp? [bx (i:=2) (j:=z.2.1) (k:=2) (l:=200) (by decide) (w2 _ h2.1),aO (i:=z.1-2*z.2.1) (j:=z.2.2) (by omega)]
     rfl
    have ll:((u.zip (w.zip sizes)).map λz=>(z.1-2*z.2.1)%z.2.2).length=sizes.length:=by simp[u1,w1]
    have zz:(u.zip (w.zip sizes)).length<=sizeLine:=by simp[u1,w1];exact aL (by omega)
    have bb:Bd 200 ((u.zip (w.zip sizes)).map λz=>(z.1-2*z.2.1)%z.2.2):=λx hx=>by
     obtain⟨z,hz,rfl⟩:=List.mem_map.mp hx
     have h1:=List.of_mem_zip (a:=z.1) (b:=z.2) hz
     have h2:=List.of_mem_zip (a:=z.2.1) (b:=z.2.2) h1.2
     have h3:=S.hx _ h2.2
     have h4:=Int.emod_nonneg (z.1-2*z.2.1) (show z.2.2≠0 by omega)
     have h5:=Int.emod_lt_of_pos (z.1-2*z.2.1) (show 0<z.2.2 by omega)
     generalize (z.1-2*z.2.1)%z.2.2=y at *
     exact Nw (n:=360) (by omega) (by decide)
    generalize ((u.zip (w.zip sizes)).map λz=>(z.1-2*z.2.1)%z.2.2)=x at *
    dsimp? [bw,ed,el,z1,decide_true,e7,aO (i:=mx d 7) (j:=3) (by decide),z2,e8,e9,Lp,ownAt,aO (i:=mx d 8) (j:=(raw.length:Int)) (by omega),aO (i:=mx d 9) (j:=(raw.length:Int)) (by omega),iu,iw,u_ (p:=lI u) (q:=lI w) (r:=lI sizes) (f:=PV.int) (g:=PV.int) (h:=PV.int) u w sizes rfl rfl rfl,List.length_map,ar zz,key,l4,lQ QI]
    obtain⟨f1,f2,f3⟩:=fin x ll bb
    exact⟨_,rfl,raw++[x],_,_,_,_,_,by rw[List.map_append];rfl,f1,f2,f3⟩
   ·dsimp? [bw,ed,el,z1,decide_true,e7,aO (i:=mx d 7) (j:=3) (by decide),z2,decide_false,l4,ownAt,lQ QI]
    obtain⟨f1,f2,f3⟩:=fin v v1 v2
    exact⟨_,rfl,raw++[v],_,_,_,_,_,by rw[List.map_append];rfl,f1,f2,f3⟩
  ·dsimp? [bw,ed,el,z1,decide_false,l4,ownAt,lQ QI]
   obtain⟨f1,f2,f3⟩:=fin v v1 v2
   exact⟨_,rfl,raw++[v],_,_,_,_,_,by rw[List.map_append];rfl,f1,f2,f3⟩
 ·rintro env ⟨raw,y4,y5,y6,y7,y8,rfl,hd,hl,hr⟩
  exact⟨_,rfl,raw,rfl,by omega,hr⟩
theorem Ji(ns:List Int):sk [.jN (ns.map PV.int)]=M.ok (.bl true):=by
 obtain⟨c0,ec⟩:=lP ns 0
 rw[show ((0:Nat):Int)=0 from rfl] at ec
 obtain⟨c1,ec1⟩:=lP ns 1
 rw[show ((1:Nat):Int)=1 from rfl] at ec1
 obtain⟨_,es,sizes,rfl,S⟩:=CI c0
 have l6:=S.h6
 obtain⟨_,er,raw,rfl,r8,hr⟩:=DQ ns S
 obtain⟨f,hf⟩:=Classical.axiomOfChoice (r:=λ(i:Nat) (x:Int)=>(∃ c,ck [.jN (ns.map PV.int),.int (2+(i:Int))]=M.ok (.int c)/\aM [.int c,.int 3]=M.ok (.int (mx c 3))/\x=1+mx c 3%1000)/\1<=x/\x<=1000) λi=>by
  obtain⟨c,e⟩:=lP ns (2+i)
  rw[show ((2+i:Nat):Int)=2+(i:Int) by omega] at e
  obtain⟨em,_,_⟩:=zP c 3 (by decide)
  exact⟨_,⟨c,e,em,rfl⟩,by omega,by omega⟩
 obtain⟨pr,hpr⟩:∃ pr,pr=(List.range raw.length).map f:=⟨_,rfl⟩
 have pl':pr.length=raw.length:=by simp[hpr]
 have px:∀ x∈pr,1<=x/\x<=1000:=λx hx=>by
  rw[hpr] at hx
  obtain⟨i,_,rfl⟩:=List.mem_map.mp hx
  exact(hf i).2
 obtain⟨Ls,T,idle,Q⟩:=vI.get pr S pl' px r8 hr
 have kp:bo (bw 0) none (aj eT (λ_=>M.ok (.int 1)) (aj cz (ai aM (aa (ai ck (aa (ae 1) (aa (aj eT (λ_=>M.ok (.int 2)) (ae 0)) ak))) (aa (λ_=>M.ok (.int 3)) ak))) (λ_=>M.ok (.int 1000)))) ((List.range raw.length).map λ(i:Nat)=>.int (i:Int)) [none,some (.sh (.jN (ns.map PV.int)))]=M.ok (pr.map PV.int):=by
  rw[show pr.map PV.int=(List.range raw.length).map λi=>PV.int (f i) by simp[hpr]]
  refine dQ (inj:=λ(i:Nat)=>PV.int (i:Int)) _ λi hi=>?_
  obtain⟨c,e,em,ex⟩:=(hf i).1
  dsimp? [e,em,aO (i:=mx c 3) (j:=1000) (by decide),ex]
 have kk:bo (bw 0) none (ai f6 (aa (ae 0) (aa (ae 1) ak))) (raw.map lI) [none,some (.sh (lI sizes))]=M.ok (Ls.map tI):=by
  rw[Q.eL,show (raw.map λl=>um l sizes).map tI=raw.map λl=>tI (um l sizes) by rw[List.map_map];rfl]
  refine dQ (inj:=lI) raw λl hl=>?_
  dsimp? [Eh S (hr l hl).1]
 have kc:bo (bw 0) none (ai qG (aa (ae 0) ak)) (raw.map lI) [none]=M.ok (raw.map lI) :=
  dQ (inj:=lI) (h:=lI) raw λl hl=>by dsimp? [];rfl
 have zr:(List.range raw.length).length<=sizeLine:=by rw[List.length_range];exact aL (by omega)
 have zl:raw.length<=sizeLine:=aL (by omega)
 have cs:Lq (.jN (ns.map PV.int)) (some 10) (some 12)=M.ok (.lst ((xV ns 10 12).map PV.int)):=DY ns 10 12
 have hm:=Q.hm
 have m8:=Q.m8
 have sh:=yx raw.length (by omega)
 have p1:0<2^raw.length:=Nat.two_pow_pos _
 have mk:=Q.Lf (p:=lI sizes) (pp:=lI pr) (f:=lI) (.inr rfl) (.inr rfl) rfl
 refine kZ.eq ?_
 unfold sk Bw
 dsimp? [ec,es,er,List.length_map,cZ (n:=(raw.length:Int)) (by omega) (by omega),Int.toNat_natCast,ar zr,kp,ar zl,kc,show PV.lst (sizes.map PV.int)=lI sizes from rfl,show PV.lst (pr.map PV.int)=lI pr from rfl,mk,kk,wm,tj,Le,cs]
 refine kZ.loop (xs:=xV ns 10 12) (inj:=PV.int) (λzs env=>∃ y6 y7,env=[some (.sh (.jN (ns.map PV.int))),some (.sh (lI sizes)),some (.sh (.lst (raw.map lI))),some (.sh (lI pr)),some (.sh (dS pr sizes Ls)),some (.sh (.lst (Ls.map tI))),y6,y7,none,none]) ⟨_,_,rfl⟩ ?_ ?_
 ·rintro a r env ⟨y6,y7,rfl⟩
  obtain⟨e1,a0,a1⟩:=zP a 1 (by decide)
  obtain⟨b,hb⟩:=Int.eq_ofNat_of_zero_le (Int.emod_nonneg (mx a 1) (show ((2^raw.length:Nat):Int)≠0 by omega))
  have lt:=Int.emod_lt_of_pos (mx a 1) (show 0<((2^raw.length:Nat):Int) by omega)
  have hb':b<2^Ls.length:=by rw[← hm];omega
  obtain⟨T',Pw,K⟩:=Pk.get Q (by omega) px hb'
  dsimp? [bw,e1,List.length_map,sh,aO (i:=mx a 1) (j:=((2^raw.length:Nat):Int)) (by omega),hb,Ck m8 (by omega) K,zH Q K]
  exact⟨_,rfl,_,_,rfl⟩
 rintro env ⟨y6,y7,rfl⟩
 dsimp? [List.length_map,sh,ec1,J8,aO (i:=c1) (j:=10^29) (by decide)]
 have n0:0<=c1%10^29:=Int.emod_nonneg _ (by decide)
 have bad:∀ p∈[PV.int (-1),.int ((2^raw.length:Nat):Int),.int (((2^raw.length:Nat):Int)+c1%10^29),.bl true,.da,.str "1", .lst [.int 0]],bL [p,.int 0,.int (((2^Ls.length:Nat):Int)-1)]=M.ok (.bl false):=by
  rw[← hm]
  generalize c1%10^29=x at *
  simp only[List.mem_cons,List.not_mem_nil,or_false]
  rintro p (rfl | rfl | rfl | rfl | rfl | rfl | rfl)
  ·rw[within_int,decide_eq_false (by omega)]
  ·rw[within_int,decide_eq_false (by omega)]
  ·rw[within_int,decide_eq_false (by omega)]
  all_goals rfl
 generalize c1%10^29=x at *
 have ek:∀ a b c d e g h:PV,lstK [a,b,c,d,e,g,h]=M.ok (.lst [a,b,c,d,e,g,h]):=λ_ _ _ _ _ _ _=>ar (aL (show 7<=1000 by decide))
 rw[ek,M.aE]
 show kZ (M.bind (M.ok _) _) _
 rw[M.aE]
 generalize [PV.int (-1),.int ((2^raw.length:Nat):Int),.int (((2^raw.length:Nat):Int)+x),.bl true,.da,.str "1", .lst [.int 0]]=bads at *
 rw[← List.map_id bads]
 refine kZ.loop (xs:=bads) (inj:=id) (λzs env=>(∀ z∈zs,z∈bads)/\∃ y8 y9,env=[some (.sh (.jN (ns.map PV.int))),some (.sh (lI sizes)),some (.sh (.lst (raw.map lI))),some (.sh (lI pr)),some (.sh (dS pr sizes Ls)),some (.sh (.lst (Ls.map tI))),y6,y7,y8,y9]) ⟨λz h=>h,_,_,rfl⟩ ?_ ?_
 ·rintro a r env ⟨hz,y8,y9,rfl⟩
  have hb:=bad a (hz a List.mem_cons_self)
  have r0:=pb (ns:=pr) (sizes:=sizes) m8 hb 0
  have r1:=pb (ns:=pr) (sizes:=sizes) m8 hb 1
  have e2:kd [.int 2]=M.ok [.int 0,.int 1]:=cZ (n:=2) (by decide) (by decide)
  have et:∀ (k:af->M Out) e,FI k (.nx e)=k e:=λ_ _=>rfl
  dsimp? [bw,id_eq,e2,j_,et,r0,r1]
  exact⟨_,rfl,λz h=>hz z (List.mem_cons_of_mem _ h),_,_,rfl⟩
 ·rintro env ⟨_,y8,y9,rfl⟩
  exact⟨_,rfl,rfl⟩
end wb
theorem PySem.Challenge.cw_dialvault_k34_what_picked_levers_can_do_holds : PySem.Challenge.rw_dialvault_k34_what_picked_levers_can_do.Holds :=
  wb.hold HD.said λns _ _ => wb.Ji ns
end