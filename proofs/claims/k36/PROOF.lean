import PyProof.Rows.All
import Wide.All
import OpenK.AllK
import Wide.FinOn
import Lean
import PyProof.EqAt
import PyProof.EqKinds
import PyProof.TupleCall
import PySem.Challenge.RW_dialvault_k36_whole_one_stands_for_a_cla
set_option Elab.async false
set_option linter.all false
set_option maxRecDepth 100000
set_option maxHeartbeats 0
noncomputable section
theorem aR(h:True:=by rfl):True:=h
theorem aD(h:True:=by decide):True:=h
theorem aI(h:True:=by intro _;rfl):True:=h
theorem aK(h:True:=by kernel_rfl):True:=h
theorem aF(h:True:=by first | exact .inl rfl | exact .inr rfl | assumption):True:=h
theorem aU(h:True:=by with_unfolding_all rfl):True:=h
theorem aN(h:True:=by decide +kernel):True:=h
theorem aG(h:True:=by first | exact .inl rfl | exact .inr rfl):True:=h
namespace L2
open PySem PySem.Spec PyProof.Rows
abbrev Key:=Sum Int Str
def FQ:Key->Value->Bool
 | .inl k,v=>Value.isInt k v
 | .inr x,v=>Value.isStrOf x v
def Ln(w:World):Key->Int
 | .inl k=>hashInt k
 | .inr x=>hashStr w x
theorem cK:∀ {k:Key} {v:Value},FQ k v=true->(∃ i t,k=Sum.inl i/\v=Value.int i t)\/(∃ x t,k=Sum.inr x/\v=Value.str x t)
 | .inl i,v,h=>by
  obtain⟨t,e⟩:=Value.isInt_shape (k:=i) (v:=v) h
  exact .inl ⟨i,t,rfl,e⟩
 | .inr x,v,h=>by
  obtain⟨t,e⟩:=Value.isStrOf_shape (x:=x) (v:=v) h
  exact .inr ⟨x,t,rfl,e⟩
theorem Gx(a b:Int):decide ((Sum.inl a:Key)=Sum.inl b)=(a==b):=by
 by_cases e:a=b
 ·subst e;simp
 ·have h:¬ (Sum.inl a:Key)=Sum.inl b:=λq=>e (Sum.inl.inj q)
  rw[decide_eq_false h]
  exact(beq_eq_false_iff_ne.mpr e).symm
theorem HF(a b:Str):decide ((Sum.inr a:Key)=Sum.inr b)=decide (a=b):=by
 by_cases e:a=b
 ·subst e;simp
 ·have h:¬ (Sum.inr a:Key)=Sum.inr b:=λq=>e (Sum.inr.inj q)
  rw[decide_eq_false h,decide_eq_false e]
theorem GX(a:Int)(b:Str):decide ((Sum.inl a:Key)=Sum.inr b)=false:=decide_eq_false (λq=>nomatch q)
theorem HQ(a:Str)(b:Int):decide ((Sum.inr a:Key)=Sum.inl b)=false:=decide_eq_false (λq=>nomatch q)
def ym(prog:Program)(w:World):PySem.KeyKind prog w Key where
 is:=FQ
 hash:=Ln w
 inj:=λv a b ha hb=>by
  rcases cK ha with ⟨i,t,rfl,rfl⟩ | ⟨x,t,rfl,rfl⟩
  ·rcases cK hb with ⟨j,u,rfl,e⟩ | ⟨y,u,rfl,e⟩
   ·injection e with e1 _;rw[e1]
   ·exact nomatch e
  ·rcases cK hb with ⟨j,u,rfl,e⟩ | ⟨y,u,rfl,e⟩
   ·exact nomatch e
   ·injection e with e1 _;rw[e1]
 byValue:=λk v h=>by
  rcases cK h with ⟨i,t,rfl,rfl⟩ | ⟨x,t,rfl,rfl⟩ <;> rfl
 pyHash:=λhv h=>by
  rcases cK hv with ⟨i,t,rfl,rfl⟩ | ⟨x,t,rfl,rfl⟩
  ·exact wpAny_pyHash_int h
  ·exact wpAny_pyHash_str h
 eqBool:=λhu hv h=>by
  rcases cK hu with ⟨i,t,rfl,rfl⟩ | ⟨x,t,rfl,rfl⟩
  ·rcases cK hv with ⟨j,u,rfl,rfl⟩ | ⟨y,u,rfl,rfl⟩
   ·rw[Gx] at h;exact wpAny_eqBool_int h
   ·rw[GX] at h;exact SeqAt.EqAt.int_str i t y u _ _ _ _ h
  ·rcases cK hv with ⟨j,u,rfl,rfl⟩ | ⟨y,u,rfl,rfl⟩
   ·rw[HQ] at h;exact SeqAt.EqAt.str_int x t j u _ _ _ _ h
   ·rw[HF] at h;exact wpAny_eqBool_str h
 «strs»:=λk x t v h=>by
  rcases cK h with ⟨i,u,rfl,e⟩ | ⟨y,u,rfl,e⟩
  ·exact nomatch e
  ·injection e with e1 _
   subst e1
   cases v <;> rfl
end L2
namespace L2
open PySem PySem.Spec PyProof.Rows
inductive V where
 | cR | bl (b:Bool) | int (i:Int) | str (x:Str) | byt (b:Array UInt8) | FV (b:UInt64) | ref (a:Addr) | ty (n:String)
 deriving DecidableEq
def RelV:V->Value->Prop
 | .cR,u=>u=Value.none
 | .bl b,u=>u=Value.bool b
 | .int i,u=>∃ t,u=Value.int i t
 | .str x,u=>∃ t,u=Value.str x t
 | .byt b,u=>∃ t,u=Value.bytes b t
 | .FV b,u=>∃ t,u=Value.float b t
 | .ref a,u=>u=Value.ref a
 | .ty n,u=>u=Value.type n
abbrev Vals:List V->List Value->Prop:=Paired RelV
theorem Vals.length{xs:List V}{us:List Value}(r:Vals xs us):xs.length=us.length:=Paired.length r
theorem Vals.get:∀ {xs:List V} {us:List Value} {i:Nat} {x:V},Vals xs us->xs[i]?=some x->∃ u,us[i]?=some u/\RelV x u
 | _,_,_,_,.nil,e=>by simp at e
 | _,_,0,_,.cons r _,e=>by simp at e;subst e;exact⟨_,rfl,r⟩
 | _,_,i+1,x,.cons _ t,e=>by
  obtain⟨u,h1,h2⟩:=Vals.get (i:=i) (x:=x) t (by simpa using e)
  exact⟨u,by simpa using h1,h2⟩
theorem Vals.set{x:V}{u:Value}(r:RelV x u):∀ {xs:List V} {us:List Value} (i:Nat),Vals xs us->Vals (xs.set i x) (us.set i u)
 | _,_,_,.nil=>.nil
 | _,_,0,.cons _ t=>.cons r t
 | _,_,i+1,.cons q t=>.cons q (Vals.set r i t)
theorem Vals.append:∀ {xs ys:List V} {us ws:List Value},Vals xs us->Vals ys ws->Vals (xs++ys) (us++ws)
 | _,_,_,_,.nil,s=>s
 | _,_,_,_,.cons r t,s=>.cons r (Vals.append t s)
theorem Vals.take:∀ {xs:List V} {us:List Value} (n:Nat),Vals xs us->Vals (xs.take n) (us.take n)
 | _,_,0,_=>.nil
 | _,_,_+1,.nil=>.nil
 | _,_,n+1,.cons r t=>.cons r (Vals.take n t)
theorem Vals.drop:∀ {xs:List V} {us:List Value} (n:Nat),Vals xs us->Vals (xs.drop n) (us.drop n)
 | _,_,0,r=>r
 | _,_,_+1,.nil=>.nil
 | _,_,n+1,.cons _ t=>Vals.drop n t
def nh:Option V->Option Value->Prop
 | some v,some u=>RelV v u
 | none,none=>True
 | _,_=>False
def KV{κ:Type}:List (κ×V)->List (κ×Value)->Prop:=Paired λ(p:κ×V) (q:κ×Value)=>p.1=q.1/\RelV p.2 q.2
def kV:Key->V
 | .inl i=>.int i
 | .inr x=>.str x
inductive HO where
 | lst (xs:List V)
 | tup (xs:List V)
 | dK (Oe:List (Key×V)) | dT (Oe:List (List Key×V))
 | set (S:Int->Bool) (n:Nat)
 | ins (C dx:Addr) (fs:List (Str×V))
 | own (x:Addr)
 | xd (fs:List (Str×V))
 | met (f x:Addr)
 | i9 (lo hi:Int)
 | rN (o:Obj) (u:HO)
 | FO (ps:Array Value)
 | ext (φ:Heap->Prop)
abbrev Hp:=Addr->Option HO
def upd(H:Hp)(a:Addr)(o:HO):Hp:=λb=>if b=a then some o else H b
theorem aE{H:Hp}{a:Addr}{o:HO}:upd H a o a=some o:=by unfold upd;rw[if_pos rfl]
theorem aw{H:Hp}{a b:Addr}{o:HO}(h:b≠a):upd H a o b=H b:=by unfold upd;rw[if_neg h]
theorem yA{H:Hp}{a:Addr}{o u:HO}:upd (upd H a o) a u=upd H a u:=by
 funext b;unfold upd;split <;> rfl
theorem bW{H:Hp}{a b:Addr}{o:HO}(h:H a=some o)(h':H b=none):a≠b:=by
 intro e;subst e;rw[h] at h';cases h'
section
variable(P:Program)(w:World)
def cC(H:Hp)(h:Heap)(a:Addr):HO->Prop
 | .lst xs=>xs.length<=sizeLine/\∃ (Nn:List Value) (n:Nat),Vals xs Nn/\h.get? a=some { cls:=.type "list", data:=.seq Nn.toArray n }
 | .tup xs=>xs.length<=sizeLine/\∃ Nn:List Value,Vals xs Nn/\IsTup h a Nn.toArray
 | .dK Oe=>Oe.length<=sizeLine/\(a==sysModules)=false/\∃ vs,KV Oe vs/\h.DictOf (ym P w) a vs
 | .dT Oe=>Oe.length<=sizeLine/\(a==sysModules)=false/\∃ xs:List (List Key×Addr×Value),
   Paired (λ(p:List Key×V) (q:List Key×Addr×Value)=>p.1=q.1/\H q.2.1=some (.tup (p.1.map kV))/\RelV p.2 q.2.2) Oe xs ∧
   ∃ o es ep,h.get? a=some o/\o.ExactDict/\o.data=.dict es ep/\es.toList=xs.map (entryOfKey (tupleKind (ym P w)))/\(xs.map (·.1)).Nodup
 | .set S n=>h.SetOf (intKind P w) a S n
 | .ins C dx fs=>H dx=some (.own a)/\fs.length<=1000/\dx≠a/\h.get? a=some (PySem.W.instObj C dx) ∧
   ∃ mA,h.Ns1 dx mA/\(∀ f,nh (fs.lookup f) (mA f))/\PySem.Within mA (fs.map (·.1))
 | .own _=>∃ o,h.get? a=some o
 | .xd fs=>∃ mA,h.Ns1 a mA/\∀ f,nh (fs.lookup f) (mA f)
 | .i9 lo hi=>∃ t u v,h.get? a=some { cls:=.type "range", data:=.fields #[.int lo t,.int hi u,.int 1 v] }
 | .rN o u=>h.get? a=some o/\cC H h a u
 | .FO ps=>h.get? a=some { cls:=.none,data:=.fields ps }
 | .met f x=>h.get? a=some (PySem.W.methodObj (.ref f) (.ref x))
 | .ext φ=>φ h/\(∃ o,h.get? a=some o)/\∀ h1 h2:Heap,φ h1->(∀ o,h1.get? a=some o->h2.get? a=some o)->φ h2
def nP(H:Hp)(h:Heap):Prop:=∀ a o,H a=some o->cC P w H h a o
end
section
variable{P:Program}{w:World}{H H':Hp}{h h':Heap}{a:Addr}{o:HO}
theorem cC.lt(x:cC P w H h a o):a<h.objs.size:=by
 cases o with
 | lst xs=>obtain⟨_,_,_,_,e⟩:=x;exact Heap.lt_size e
 | tup xs=>obtain⟨_,_,_,p⟩:=x;exact p.lt
 | dK Oe=>obtain⟨_,_,_,_,o,_,_,e,_⟩:=x;exact Heap.lt_size e
 | dT Oe=>obtain⟨_,_,_,_,o,_,_,e,_⟩:=x;exact Heap.lt_size e
 | set S n=>obtain⟨o,_,_,_,e,_⟩:=x;exact Heap.lt_size e
 | ins C dx fs=>obtain⟨_,_,_,e,_⟩:=x;exact Heap.lt_size e
 | own y=>obtain⟨_,e⟩:=x;exact Heap.lt_size e
 | xd fs=>obtain⟨_,⟨_,_,_,e,_⟩,_⟩:=x;exact Heap.lt_size e
 | i9 lo hi=>obtain⟨_,_,_,e⟩:=x;exact Heap.lt_size e
 | rN ob u=>obtain⟨e,_⟩:=x;exact Heap.lt_size e
 | FO ps=>exact Heap.lt_size (show h.get? a=some _ from x)
 | met f y=>exact Heap.lt_size (show h.get? a=some _ from x)
 | ext φ=>obtain⟨_,⟨_,e⟩,_⟩:=x;exact Heap.lt_size e
theorem Paired.Kc{α β:Type}{F G:α->β->Prop}:∀ {l₁:List α} {l₂:List β},Paired F l₁ l₂->(∀ a b,F a b->G a b)->Paired G l₁ l₂
 | _,_,.nil,_=>.nil
 | _,_,.cons r t,f=>.cons (f _ _ r) (Paired.Kc t f)
theorem cC.oK(x:cC P w H h a o)(k:∀ b u,(b=a\/H b=some (.own a))->h.get? b=some u->h'.get? b=some u)
  (ho:∀ b,H b=some (.own a)->H' b=some (.own a)) (ht:∀ b xs,H b=some (.tup xs)->H' b=some (.tup xs)):cC P w H' h' a o:=by
 induction o with
 | lst xs=>obtain⟨z,Nn,n,r,e⟩:=x;exact⟨z,Nn,n,r,k _ _ (.inl rfl) e⟩
 | tup xs=>obtain⟨z,Nn,r,ob,e,c⟩:=x;exact⟨z,Nn,r,ob,k _ _ (.inl rfl) e,c⟩
 | dK Oe=>obtain⟨z,y,vs,r,ob,es,ep,e,c⟩:=x;exact⟨z,y,vs,r,ob,es,ep,k _ _ (.inl rfl) e,c⟩
 | dT Oe =>
  obtain⟨z,y,xs,r,ob,es,ep,e,c⟩:=x
  exact⟨z,y,xs,Paired.Kc r λp q z=>⟨z.1,ht _ _ z.2.1,z.2.2⟩,ob,es,ep,k _ _ (.inl rfl) e,c⟩
 | set S n=>obtain⟨ob,es,ep,t,e,c⟩:=x;exact⟨ob,es,ep,t,k _ _ (.inl rfl) e,c⟩
 | ins C dx fs =>
  obtain⟨d,z,ne,e,mA,⟨od,es,ep,e2,c⟩,r⟩:=x
  exact⟨ho _ d,z,ne,k _ _ (.inl rfl) e,mA,⟨od,es,ep,k _ _ (.inr d) e2,c⟩,r⟩
 | own y=>obtain⟨ob,e⟩:=x;exact⟨ob,k _ _ (.inl rfl) e⟩
 | xd fs=>obtain⟨mA,⟨od,es,ep,e,c⟩,r⟩:=x;exact⟨mA,⟨od,es,ep,k _ _ (.inl rfl) e,c⟩,r⟩
 | i9 lo hi=>obtain⟨t,u,v,e⟩:=x;exact⟨t,u,v,k _ _ (.inl rfl) e⟩
 | rN ob u ih=>obtain⟨e,q⟩:=x;exact⟨k _ _ (.inl rfl) e,ih q⟩
 | FO ps =>
  have e:h.get? a=some { cls:=.none,data:=.fields ps }:=x
  show h'.get? a=some { cls:=.none,data:=.fields ps }
  exact k a _ (.inl rfl) e
 | met f y =>
  have e:h.get? a=some (PySem.W.methodObj (.ref f) (.ref y)):=x
  show h'.get? a=some (PySem.W.methodObj (.ref f) (.ref y))
  exact k a _ (.inl rfl) e
 | ext φ=>obtain⟨p,⟨o,e⟩,st⟩:=x;exact⟨st _ _ p λo q=>k _ _ (.inl rfl) q,⟨o,k _ _ (.inl rfl) e⟩,st⟩
theorem nP.lt(x:nP P w H h)(e:H a=some o):a<h.objs.size:=(x a o e).lt
theorem nP.fresh(x:nP P w H h)(e:h.objs.size<=a):H a=none:=by
 cases q:H a with
 | none=>rfl
 | some u=>exact absurd (Nat.lt_of_lt_of_le (x.lt q) e) (Nat.lt_irrefl _)
theorem nP.kept(x:nP P w H h)(k:∀ b u,h.get? b=some u->h'.get? b=some u):nP P w H h':=λa o e =>
 (x a o e).oK (λb u _ q=>k b u q) (λ_ q=>q) λ_ _ q=>q
theorem nP.laid(x:nP P w H h)(k:∀ b u,h.get? b=some u->h'.get? b=some u)(hp:h.objs.size<=a)(new:cC P w (upd H a o) h' a o):nP P w (upd H a o) h':=λb u e=>by
 have hn:=x.fresh hp
 by_cases hb:b=a
 ·subst hb;rw[aE] at e;cases e;exact new
 ·rw[aw hb] at e
  exact(x b u e).oK (λc v _ q=>k c v q) (λc q=>by rw[aw (bW q hn)];exact q) λc xs q=>by rw[aw (bW q hn)];exact q
end
def Rd(H:Hp)(a:Addr)(u:HO):Prop:=H a=some u\/∃ o,H a=some (.rN o u)
theorem Rd.ok{P:Program}{w:World}{H:Hp}{h:Heap}{a:Addr}{u:HO}(r:Rd H a u)(x:nP P w H h):cC P w H h a u:=by
 rcases r with r | ⟨o,r⟩
 ·exact x a u r
 ·obtain⟨_,q⟩:=x a _ r
  exact q
def K4:Option HO->Prop
 | some (.lst _)=>True
 | some (.dK _)=>True
 | some (.dT _)=>True
 | some (.set _ _)=>True
 | some (.ins _ _ _)=>True
 | some (.ext _)=>True
 | _=>False
section
variable{P:Program}{w:World}{H:Hp}{h h':Heap}{x e:Addr}{o':HO}
theorem nP.write(ok:nP P w H h)(mu:K4 (H x))(he:e=x\/H e=some (.own x))(k:∀ b u,b≠e->h.get? b=some u->h'.get? b=some u)(QV:∃ u,h'.get? e=some u)
  (new:cC P w (upd H x o') h' x o'):nP P w (upd H x o') h':=λb u q=>by
 have Rq:∀ c y,H c=some (.own y)->c≠x:=λc y r z=>by subst z;rw[r] at mu;exact mu
 have ntup:∀ c xs,H c=some (.tup xs)->c≠x:=λc xs r z=>by subst z;rw[r] at mu;exact mu
 by_cases hb:b=x
 ·subst hb;rw[aE] at q;cases q;exact new
 ·rw[aw hb] at q
  by_cases PJ:b=e
  ·have q':H b=some (.own x):=by
    rcases he with z | z
    ·exact absurd (PJ.trans z) hb
    ·rw[PJ];exact z
   rw[q] at q';cases q'
   obtain⟨v,hv⟩:=QV
   exact⟨v,by rw[PJ];exact hv⟩
  ·refine(ok b u q).oK (λc v hc r=>k c v ?_ r) (λc r=>by rw[aw (Rq c b r)];exact r) λc xs r=>by rw[aw (ntup c xs r)];exact r
   rcases hc with rfl | hc
   ·exact PJ
   ·rintro rfl
    rcases he with z | z
    ·exact Rq c b hc z
    ·rw[hc] at z;cases z;exact hb rfl
end
structure Un (fs ex:List Addr) (H H':Hp) (h h':Heap):Prop where
 keep:∀ b o,h.get? b=some o->H b=none->b ∉ fs->b ∉ ex->h'.get? b=some o
 slot:∀ b o,h.get? b=some o->H b=none->b∈fs->b ∉ ex->∃ sl,h'.get? b=some { o with slots:=sl }
 free:∀ b o,h.get? b=some o->H b=none->b ∉ ex->H' b=none
 there:∀ b o,h.get? b=some o->b ∉ ex->∃ o',h'.get? b=some o'
 uP:∀ b xs,H b=some (.tup xs)->H' b=some (.tup xs)
 nA:∀ b o u,H b=some (.rN o u)->H' b=some (.rN o u)
 tq:∀ b ps,H b=some (.FO ps)->∃ more,H' b=some (.FO (ps++more))
section
variable{fs Qw ex ex':List Addr}{H H1 H2:Hp}{h h1 h2 h':Heap}{a x e:Addr}{o:HO}
theorem Un.any(u:Un fs ex H H1 h h1){b:Addr}{ob:Obj}(q:h.get? b=some ob)(n:H b=none)(hx:b ∉ ex):∃ sl,h1.get? b=some { ob with slots:=sl }:=by
 by_cases hb:b∈fs
 ·exact u.slot b ob q n hb hx
 ·exact⟨ob.slots,u.keep b ob q n hb hx⟩
theorem Un.kept(k:∀ b u,h.get? b=some u->h'.get? b=some u):Un fs ex H H h h' :=
 ⟨λb ob q _ _ _=>k b ob q,λb ob q _ _ _=>⟨ob.slots,k b ob q⟩,λ_ _ _ n _=>n,λb ob q _=>⟨ob,k b ob q⟩,λ_ _ q=>q,λ_ _ _ q=>q,λ_ ps q=>⟨#[],by rw[q];simp⟩⟩
theorem Un.refl:Un fs ex H H h h:=Un.kept λ_ _ q=>q
theorem Un.laid(k:∀ b u,h.get? b=some u->h'.get? b=some u)(hp:h.objs.size<=a)(hn:H a=none):Un fs ex H (upd H a o) h h' where
 keep:=λb u q _ _ _=>k b u q
 slot:=λb u q _ _ _=>⟨u.slots,k b u q⟩
 free:=λb u q n _=>by rw[aw (Nat.ne_of_lt (Nat.lt_of_lt_of_le (Heap.lt_size q) hp))];exact n
 there:=λb u q _=>⟨u,k b u q⟩
 uP:=λb xs q=>by rw[aw (bW q hn)];exact q
 nA:=λb u xs q=>by rw[aw (bW q hn)];exact q
 tq:=λb ps q=>⟨#[],by rw[aw (bW q hn),q];simp⟩
theorem Un.write(mu:K4 (H x))(he:e=x\/H e=some (.own x))(k:∀ b u,b≠e->h.get? b=some u->h'.get? b=some u)(QV:∃ u,h'.get? e=some u):Un fs ex H (upd H x o) h h':=by
 have hx:∀ b,H b=none->b≠x:=λb n z=>by subst z;rw[n] at mu;exact mu
 have hb:∀ b,H b=none->b≠e:=λb n z=>by
  subst z
  rcases he with r | r
  ·exact hx b n r
  ·rw[n] at r;cases r
 have hm:∀ b u,H b=some u->¬ K4 (some u)->b≠x:=λb u q nm z=>by subst z;rw[q] at mu;exact nm mu
 refine⟨λb u q n _ _=>k b u (hb b n) q,λb u q n _ _=>⟨u.slots,k b u (hb b n) q⟩,λb u q n _=>by rw[aw (hx b n)];exact n,λb u q _=>?_,
  λb xs q=>by rw[aw (hm b _ q λz=>z)];exact q,λb u xs q=>by rw[aw (hm b _ q λz=>z)];exact q,λb ps q=>⟨#[],by rw[aw (hm b _ q λz=>z),q];simp⟩⟩
 by_cases PJ:b=e
 ·subst PJ;exact QV
 ·exact⟨u,k b u PJ q⟩
end
def Lb(h:Heap)(H:Hp):List Addr:=(List.range h.objs.size).filter λa=>(H a).isSome
def tZ(h:Heap)(H:Hp):Heap:=PySem.W.hideAll h (Lb h H)
theorem zd(h:Heap)(H:Hp):(tZ h H).objs.size=h.objs.size:=PySem.W.hideAll_size _ _
theorem Ax{h:Heap}{H:Hp}{b:Addr}{o:Obj}(e:h.get? b=some o)(n:H b=none):(tZ h H).get? b=some o :=
 PySem.W.hideAll_get _ e λhm=>by
  have q:(H b).isSome=true:=(List.mem_filter.mp hm).2
  rw[n] at q;simp at q
theorem DV{h:Heap}{H:Hp}{b:Addr}{o:Obj}(e:(tZ h H).get? b=some o):h.get? b=some o/\H b=none:=by
 have e':h.get? b=some o:=PySem.W.of_hideAll (Lb h H) e
 refine⟨e',?_⟩
 cases q:H b with
 | none=>rfl
 | some x =>
  have hm:b∈Lb h H:=List.mem_filter.mpr ⟨List.mem_range.mpr (Heap.lt_size e'),by simp[q]⟩
  have z:(tZ h H).get? b=none:=PySem.W.hideAll_none (Lb h H) hm
  rw[z] at e;cases e
def Ea(g h:Heap)(L:Addr):List (Addr×Obj):=(List.range h.objs.size).filterMap λa=>if a=L\/(g.get? a).isSome=true then none else (h.get? a).map λo=>(a,o)
def rest(g h:Heap)(L d:Addr):List (Addr×Obj):=(Ea g h L).filter λp=>decide (p.1≠d)
end L2
namespace L2
open PySem PySem.Spec PyProof.Rows
structure Mod (K:PySem.W.Frag) (mg:Str->Option Value) (base:Heap):Prop where
 FN:K.In base
 glob:base.Ns mainGlobals mg
 blt:∃ mb,base.Ns builtinsNs mb/\∀ x:Str,x ≠ "__name__" -> mb x=bootBuiltins x
 nolimit:base.NoLimit
structure Cx where
 prog:Program
 w:World
 K:PySem.W.Frag
 mg:Str->Option Value
 base:Heap
 A:Around
 N:List Str
 s₀:Shared
 H₀:Hp
 env:Env
 outer:List Env
 stack:List Env
 ex:List Addr
 fn:Str->Bool
 calm:Bool
 pn:List (Addr×Obj)
 xe:Value->Shared->Prop
def wL(l:List Env):List Addr:=l.filterMap (·.frame)
abbrev Cx.fs(X:Cx):List Addr:=wL X.outer
def Dp(sc:Scope)(x:Str):Prop:=sc.names.lookup x=some .local\/sc.names.lookup x=some .cell\/sc.names.lookup x=some .free
def Loc(sc:Scope)(x:Str):Prop:=sc.names.lookup x=some .local\/sc.names.lookup x=some .cell
def Look(env:Env)(h:Heap)(m:Str->Option Value)(x:Str)(u:Value):Prop :=
 (env.kindOf x=some .local/\m x=some u)\/((env.kindOf x=some .cell\/env.kindOf x=some .free)/\∃ c,env.cells.lookup x=some c/\h.IsCell c (some u))
structure Cx.Ok (X:Cx):Prop where
 mod:Mod X.K X.mg X.base
 kind:X.env.scope.kind=.function
 glob:X.env.globals=mainGlobals
 blt:X.env.builtins=builtinsNs
 above:X.s₀.heap.objs.size<=X.env.locals
 inj:∀ x y c,X.env.cells.lookup x=some c->X.env.cells.lookup y=some c->x=y
 has:∀ x,(X.env.kindOf x=some .cell\/X.env.kindOf x=some .free)->∃ c,X.env.cells.lookup x=some c
 Ko:∀ x c,X.fn x=true->X.env.cells.lookup x=some c->X.s₀.heap.objs.size<=c
 hd:X.calm=true->X.A.handled=none
 frames:X.A.frames=some X.stack
 K2:X.stack=X.outer\/(X.stack=X.env::X.outer/\X.env.frame=some X.env.locals)
 LW:∀ b∈X.ex,b≠X.env.locals/\∀ x c,X.env.cells.lookup x=some c->c≠b
 bs:∀ b o,X.base.get? b=some o->X.s₀.heap.get? b=some o/\X.H₀ b=none
 Fo:X.base.objs.size<=X.s₀.heap.objs.size
 ze:∀ b o,X.base.get? b=some o->b ∉ X.ex
 BW:∀ b∈X.ex,b ∉ X.fs
 oI:X.s₀.heap.FunFrames X.base X.outer
 Gg:∀ b∈X.fs,X.H₀ b=none
structure Inv (X:Cx) (Nm:List (Addr×Obj)) (σ:List (Option V)) (H:Hp) (s:Shared):Prop where
 ok:X.Ok
 os:s.os=X.s₀.os
 bare:AllBare s.gens
 base:Un X.fs X.ex X.H₀ H X.s₀.heap s.heap
 loc:∃ m,s.heap.Ns X.env.locals m/\∀ (i:Nat) (x:Str) (v:V),X.N[i]?=some x->σ[i]?=some (some v)->Dp X.env.scope x->∃ u,RelV v u/\Look X.env s.heap m x u
 cell:∀ x c,X.env.cells.lookup x=some c->∃ v,s.heap.IsCell c v
 free:H X.env.locals=none
 lx:∀ x c,X.env.cells.lookup x=some c->H c=none
 pin:∀ p∈X.pn++Nm,s.heap.get? p.1=some p.2/\H p.1=none/\p.1≠X.env.locals/\p.1 ∉ X.fs/\∀ v,p.2.data≠.cell v
 bJ:nP X.prog X.w H s.heap
 len:σ.length=X.N.length
section
variable{X:Cx}{Nm:List (Addr×Obj)}{σ:List (Option V)}{H H':Hp}{s:Shared}{h':Heap}
theorem Cx.Ok.Lg(ok:X.Ok){b:Addr}{o:Obj}(e:X.base.get? b=some o):b ∉ X.fs:=λhb=>by
 have:=(ok.oI.mem hb).1
 rw[e] at this;cases this
theorem Inv.bs(I:Inv X Nm σ H s):∀ b o,X.base.get? b=some o->s.heap.get? b=some o/\H b=none:=λb o e =>
 ⟨I.base.keep b o (I.ok.bs b o e).1 (I.ok.bs b o e).2 (I.ok.Lg e) (I.ok.ze b o e),I.base.free b o (I.ok.bs b o e).1 (I.ok.bs b o e).2 (I.ok.ze b o e)⟩
theorem Inv.bk(I:Inv X Nm σ H s):∀ b o,X.base.get? b=some o->s.heap.get? b=some o:=λb o e=>(I.bs b o e).1
theorem Inv.mod(I:Inv X Nm σ H s):Mod X.K X.mg X.base:=I.ok.mod
theorem Inv.j4(I:Inv X Nm σ H s):X.K.In s.heap:=I.ok.mod.FN.keeps I.bk
theorem Inv.lt(I:Inv X Nm σ H s):X.env.locals<s.heap.objs.size:=let ⟨_,hn,_⟩:=I.loc;hn.lt
theorem Inv.sz(I:Inv X Nm σ H s):X.s₀.heap.objs.size<=s.heap.objs.size:=Nat.le_trans I.ok.above (Nat.le_of_lt I.lt)
theorem Inv.MF(I:Inv X Nm σ H s){a:Addr}(h:s.heap.objs.size<=a):a ∉ X.fs:=λhb=>by
 obtain⟨_,o,ho,_⟩:=I.ok.oI.mem hb
 exact absurd (Nat.lt_of_lt_of_le (Heap.lt_size ho) (Nat.le_trans I.sz h)) (Nat.lt_irrefl _)
theorem Inv.Gh(I:Inv X Nm σ H s):∀ x c,X.env.cells.lookup x=some c->c≠X.env.locals:=λx c e z=>by
 obtain⟨v,o,ho,hd⟩:=I.cell x c e
 obtain⟨m,⟨o',es,ep,O9,Q5,_⟩,_⟩:=I.loc
 rw[z,O9] at ho;cases ho;rw[Q5] at hd;cases hd
theorem Inv.oI(I:Inv X Nm σ H s):s.heap.FunFrames X.base X.outer:=by
 have all:∀ (l:List Env),(∀ b∈wL l,b∈X.fs)->X.s₀.heap.FunFrames X.base l->s.heap.FunFrames X.base l:=by
  intro l
  induction l with
  | nil=>intro _ _;trivial
  | cons env r ih =>
   intro hs hl
   obtain⟨hk,⟨L,o,hf,hn,ho,hd⟩,hr⟩:=hl
   have hL:L∈X.fs:=hs L (by unfold wL;rw[List.filterMap_cons,hf];exact List.mem_cons_self)
   obtain⟨sl,e⟩:=I.base.slot L o ho (I.ok.Gg L hL) hL λz=>I.ok.BW L z hL
   exact⟨hk,⟨L,_,hf,hn,e,hd⟩,ih (λb hb=>hs b (by unfold wL;rw[List.filterMap_cons,hf];exact List.mem_cons_of_mem _ hb)) hr⟩
 exact all X.outer (λ_ hb=>hb) I.ok.oI
theorem Inv.stack(I:Inv X Nm σ H s):s.heap.FunFrames X.base X.stack:=by
 rcases I.ok.K2 with e | ⟨e,hf⟩
 ·rw[e];exact I.oI
 ·rw[e]
  obtain⟨m,hn,_⟩:=I.loc
  refine .cons (by rw[I.ok.kind];decide) hf hn ?_ I.oI
  exact Heap.get?_none_of_le (Nat.le_trans I.ok.Fo I.ok.above)
theorem Inv.s_(I:Inv X Nm σ H s):∀ b∈wL X.stack,b∈X.env.locals::X.fs:=λb hb=>by
 rcases I.ok.K2 with e | ⟨e,hf⟩
 ·rw[e] at hb;exact List.mem_cons_of_mem _ hb
 ·rw[e] at hb
  unfold wL at hb
  rw[List.filterMap_cons,hf] at hb
  exact hb
theorem Inv.sY(I:Inv X Nm σ H s):∀ b∈wL X.stack,H b=none:=λb hb=>by
 rcases List.mem_cons.mp (I.s_ b hb) with e | hb
 ·rw[e];exact I.free
 ·obtain⟨_,o,ho,_⟩:=I.ok.oI.mem hb
  exact I.base.free b o ho (I.ok.Gg b hb) λz=>I.ok.BW b z hb
theorem Inv.step{g':Array GenState}{t':Nat}{d':Drawn}{ch:List Addr}(I:Inv X Nm σ H s)
  (Pc:∀ b∈ch,(b∈X.ex\/X.s₀.heap.objs.size<=b)/\b≠X.env.locals/\(∀ x c,X.env.cells.lookup x=some c->c≠b)/\∀ p∈X.pn++Nm,p.1≠b)
  (keep:∀ b o,b≠X.env.locals->b ∉ X.fs->b ∉ ch->s.heap.get? b=some o->H b=none->h'.get? b=some o)
  (slot:∀ b o,b≠X.env.locals->b∈X.fs->b ∉ ch->s.heap.get? b=some o->H b=none->∃ sl,h'.get? b=some { o with slots:=sl }) (free:∀ b o,b ∉ ch->s.heap.get? b=some o->H b=none->H' b=none)
  (there:∀ b o,b ∉ ch->s.heap.get? b=some o->∃ o',h'.get? b=some o')
  (uP:∀ b xs,H b=some (.tup xs)->H' b=some (.tup xs)) (nA:∀ b o u,H b=some (.rN o u)->H' b=some (.rN o u)) (tq:∀ b ps,H b=some (.FO ps)->∃ more,H' b=some (.FO (ps++more)))
  (ns:∀ m,s.heap.Ns X.env.locals m->h'.Ns X.env.locals m) (bJ:nP X.prog X.w H' h') (hg:AllBare g') :
  Inv X Nm σ H' { s with heap:=h',gens:=g',drawn:=d',toks:=t' }:=by
 have neL:∀ b o,X.s₀.heap.get? b=some o->b≠X.env.locals:=λb o e=>Nat.ne_of_lt (Nat.lt_of_lt_of_le (Heap.lt_size e) I.ok.above)
 have neC:∀ b o,X.s₀.heap.get? b=some o->b ∉ X.ex->b ∉ ch:=λb o e hx hb=>by
  rcases(Pc b hb).1 with z | z
  ·exact hx z
  ·exact absurd (Nat.lt_of_lt_of_le (Heap.lt_size e) z) (Nat.lt_irrefl _)
 have cellK:∀ x c,X.env.cells.lookup x=some c->∀ v,s.heap.IsCell c v->h'.IsCell c v:=λx c e v ⟨o,ho,hd⟩=>by
  have Rp:c ∉ ch:=λz=>(Pc c z).2.2.1 x c e rfl
  by_cases hc:c∈X.fs
  ·obtain⟨sl,q⟩:=slot c o (I.Gh x c e) hc Rp ho (I.lx x c e)
   exact⟨_,q,hd⟩
  ·exact⟨o,keep c o (I.Gh x c e) hc Rp ho (I.lx x c e),hd⟩
 refine⟨I.ok,I.os,hg,⟨λb o e n hb hx=>?_,λb o e n hb hx=>?_,λb o e n hx=>?_,λb o e hx=>?_,λb xs e=>uP b xs (I.base.uP b xs e),λb o xs e=>nA b o xs (I.base.nA b o xs e),λb ps e=>?_⟩,?_,λx c e=>?_,?_,λx c e=>?_,λp hp=>?_,bJ,I.len⟩
 ·exact keep b o (neL b o e) hb (neC b o e hx) (I.base.keep b o e n hb hx) (I.base.free b o e n hx)
 ·obtain⟨sl,e1⟩:=I.base.slot b o e n hb hx
  obtain⟨sl',e2⟩:=slot b _ (neL b o e) hb (neC b o e hx) e1 (I.base.free b o e n hx)
  exact⟨sl',e2⟩
 ·obtain⟨o',e1⟩:=I.base.there b o e hx
  exact free b o' (neC b o e hx) e1 (I.base.free b o e n hx)
 ·obtain⟨o',e1⟩:=I.base.there b o e hx
  exact there b o' (neC b o e hx) e1
 ·obtain⟨m1,e1⟩:=I.base.tq b ps e
  obtain⟨m2,e2⟩:=tq b _ e1
  exact⟨m1++m2,by rw[e2,Array.append_assoc]⟩
 ·obtain⟨m,hn,hl⟩:=I.loc
  refine⟨m,ns m hn,λi x v e1 e2 e3=>?_⟩
  obtain⟨u,r,l⟩:=hl i x v e1 e2 e3
  refine⟨u,r,?_⟩
  rcases l with l | ⟨k,c,e,z⟩
  ·exact .inl l
  ·exact .inr ⟨k,c,e,cellK x c e _ z⟩
 ·obtain⟨v,z⟩:=I.cell x c e
  exact⟨v,cellK x c e v z⟩
 ·obtain⟨m,⟨o,_,_,ho,_⟩,_⟩:=I.loc
  exact free _ o (λz=>(Pc _ z).2.1 rfl) ho I.free
 ·obtain⟨v,o,ho,hd⟩:=I.cell x c e
  exact free c o (λz=>(Pc c z).2.2.1 x c e rfl) ho (I.lx x c e)
 ·obtain⟨e,n,ne,nf,d⟩:=I.pin p hp
  have Rp:p.1 ∉ ch:=λz=>(Pc p.1 z).2.2.2 p hp rfl
  exact⟨keep p.1 p.2 ne nf Rp e n,free p.1 p.2 Rp e n,ne,nf,d⟩
theorem Inv.un{t':Nat}(I:Inv X Nm σ H s)(u:Un X.fs [] H H' s.heap h')(bJ:nP X.prog X.w H' h'):Inv X Nm σ H' { s with heap:=h',toks:=t' }:=by
 obtain⟨m,⟨o,es,ep,ho,r⟩,_⟩:=id I.loc
 obtain⟨sl,hL⟩:=u.any ho I.free (by simp)
 exact I.step (g':=s.gens) (d':=s.drawn) (ch:=[]) (λ_ z=>nomatch z) (λb o _ hb _ e n=>u.keep b o e n hb (by simp)) (λb o _ hb _ e n=>u.slot b o e n hb (by simp)) (λb o _ e n=>u.free b o e n (by simp)) (λb o _ e=>u.there b o e (by simp)) u.uP u.nA u.tq (λm' hm=>by
  obtain⟨o',es',ep',O9,r'⟩:=hm
  rw[ho] at O9;cases O9
  exact⟨_,es',ep',hL,r'⟩) bJ I.bare
theorem Inv.call{g':Array GenState}{t':Nat}{d':Drawn}{ch:List Addr}(I:Inv X Nm σ H s)(u:Un (wL X.stack) ch H H' s.heap h')(bJ:nP X.prog X.w H' h')(hg:AllBare g')
  (Pc:∀ b∈ch,(b∈X.ex\/X.s₀.heap.objs.size<=b)/\b≠X.env.locals/\(∀ x c,X.env.cells.lookup x=some c->c≠b)/\∀ p∈X.pn++Nm,p.1≠b) :
  Inv X Nm σ H' { s with heap:=h',gens:=g',drawn:=d',toks:=t' }:=by
 obtain⟨m,⟨o,es,ep,ho,r⟩,_⟩:=id I.loc
 obtain⟨sl,hL⟩:=u.any ho I.free λz=>(Pc _ z).2.1 rfl
 exact I.step (ch:=ch) Pc (λb o hL hb hc e n=>u.keep b o e n (λz=>(List.mem_cons.mp (I.s_ b z)).elim hL hb) hc) (λb o _ _ hc e n=>u.any e n hc) (λb o hc e n=>u.free b o e n hc) (λb o hc e=>u.there b o e hc) u.uP u.nA u.tq (λm' hm=>by
  obtain⟨o',es',ep',O9,r'⟩:=hm
  rw[ho] at O9;cases O9
  exact⟨_,es',ep',hL,r'⟩) bJ hg
theorem Inv.turned{t':Nat}{it:Addr}(I:Inv X Nm σ H s)(k:∀ b o,b≠it->s.heap.get? b=some o->h'.get? b=some o)(hn:H it=none)(hL:it≠X.env.locals)
  (h1:it∈X.ex\/X.s₀.heap.objs.size<=it) (h2:∀ x c,X.env.cells.lookup x=some c->c≠it) (h3:∀ p∈X.pn++Nm,p.1≠it):Inv X Nm σ H { s with heap:=h',toks:=t' }:=by
 have nit:∀ b u,H b=some u->b≠it:=λb u e z=>by rw[z,hn] at e;cases e
 refine I.step (g':=s.gens) (d':=s.drawn) (ch:=[it]) (λb hb=>?_) (λb o _ _ hc e _=>k b o (λz=>hc (by simp[z])) e) (λb o _ _ hc e _=>⟨o.slots,k b o (λz=>hc (by simp[z])) e⟩) (λ_ _ _ _ n=>n)
  (λb o hc e=>⟨o,k b o (λz=>hc (by simp[z])) e⟩) (λ_ _ e=>e) (λ_ _ _ e=>e) (λb ps e=>⟨#[],by rw[e];simp⟩) (λm hm=>?_) (λb u e=>?_) I.bare
 ·have e:b=it:=by simpa using hb
  subst e
  exact⟨h1,hL,h2,h3⟩
 ·obtain⟨o,es,ep,ho,r⟩:=hm
  exact⟨o,es,ep,k _ o (Ne.symm hL) ho,r⟩
 ·refine(I.bJ b u e).oK (λc v hc q=>k c v ?_ q) (λ_ q=>q) λ_ _ q=>q
  rcases hc with z | z
  ·rw[z];exact nit b u e
  ·exact nit c _ z
theorem Inv.tok(I:Inv X Nm σ H s)(t:Nat):Inv X Nm σ H { s with toks:=t }:=I.un (h':=s.heap) (t':=t) Un.refl I.bJ
theorem Inv.kept{t':Nat}(I:Inv X Nm σ H s)(k:∀ b u,s.heap.get? b=some u->h'.get? b=some u):Inv X Nm σ H { s with heap:=h',toks:=t' }:=I.un (Un.kept k) (I.bJ.kept k)
theorem Inv.laid{a:Addr}{o:HO}{t':Nat}(I:Inv X Nm σ H s)(k:∀ b u,s.heap.get? b=some u->h'.get? b=some u)(hp:s.heap.objs.size<=a)(new:cC X.prog X.w (upd H a o) h' a o) :
  Inv X Nm σ (upd H a o) { s with heap:=h',toks:=t' }:=I.un (Un.laid k hp (I.bJ.fresh hp)) (I.bJ.laid k hp new)
theorem Inv.write{x e:Addr}{o:HO}{t':Nat}(I:Inv X Nm σ H s)(mu:K4 (H x))(he:e=x\/H e=some (.own x))(k:∀ b u,b≠e->s.heap.get? b=some u->h'.get? b=some u)(QV:∃ u,h'.get? e=some u)
  (new:cC X.prog X.w (upd H x o) h' x o):Inv X Nm σ (upd H x o) { s with heap:=h',toks:=t' }:=I.un (Un.write mu he k QV) (I.bJ.write mu he k QV new)
theorem Inv.yB{Qi:List (Addr×Obj)}(I:Inv X Nm σ H s)(h:∀ p∈Qi,s.heap.get? p.1=some p.2/\H p.1=none/\p.1≠X.env.locals/\p.1 ∉ X.fs/\∀ v,p.2.data≠.cell v):Inv X Qi σ H s :=
 ⟨I.ok,I.os,I.bare,I.base,I.loc,I.cell,I.free,I.lx,λp hp=>(List.mem_append.mp hp).elim (λz=>I.pin p (List.mem_append_left _ z)) (h p),I.bJ,I.len⟩
theorem wz{N:List Str}(hN:N.Nodup){i j:Nat}{x:Str}(a:N[i]?=some x)(b:N[j]?=some x):i=j:=by
 obtain⟨h1,e1⟩:=List.getElem?_eq_some_iff.mp a
 obtain⟨h2,e2⟩:=List.getElem?_eq_some_iff.mp b
 exact(List.getElem_inj hN).mp (e1.trans e2.symm)
theorem rV{M:Model}{A:Around}{E:Value->Shared->Prop}{i:Nat}{x:Str}{v:V}{u:Value}{Q:Unit->Shared->Prop}(I:Inv X Nm σ H s)(hN:X.N.Nodup)(hi:X.N[i]?=some x)(hx:Loc X.env.scope x)(r:RelV v u)
  (h:∀ s',Inv X Nm (σ.set i (some v)) H s'->(∃ a,Heap.SameBut a s.heap s'.heap/\(a=X.env.locals\/X.env.cells.lookup x=some a))->Q () s') (hf:autoParam (X.fn x=true\/X.env.scope.names.lookup x=some .local) aF._auto_1):wpAny M A (storeName X.env x u) Q E s:=by
 obtain⟨m,hn,hl⟩:=id I.loc
 have hcls:(X.env.scope.kind==.class||(X.env.scope.kind==.module&&X.env.locals != X.env.globals))=false:=by rw[I.ok.kind];rfl
 have hiσ:i<σ.length:=by rw[I.len];exact(List.getElem?_eq_some_iff.mp hi).1
 have Gh:=I.Gh
 have tracked:∀ {a:Addr} {h':Heap},(∃ o,s.heap.get? a=some o/\H a=none)->Heap.SameBut a s.heap h'->nP X.prog X.w H h':=λ{a h'} ha hs b ob e=>by
  obtain⟨_,_,Py⟩:=ha
  refine(I.bJ b ob e).oK (λc w' hc q=>(hs.2 c ?_).trans q) (λ_ q=>q) λ_ _ q=>q
  rintro rfl
  rcases hc with rfl | hc
  ·rw[Py] at e;cases e
  ·rw[Py] at hc;cases hc
 rcases hx with hk | hk
 ·refine wpAny_storeName_local hk hn (λh' hn' hs=>?_) hcls
  obtain⟨oL,_,_,hoL,_⟩:=id hn
  refine h _ ⟨I.ok,I.os,I.bare,⟨λb o e n hb hx=>?_,λb o e n hb hx=>?_,I.base.free,λb o e hx=>?_,I.base.uP,I.base.nA,I.base.tq⟩,⟨_,hn',λj y v' e1 e2 e3=>?_⟩,λy c e=>?_,I.free,I.lx,λp hp=>?_,tracked ⟨oL,hoL,I.free⟩ hs,by simpa using I.len⟩ ⟨_,hs,.inl rfl⟩
  ·exact(hs.2 b (Nat.ne_of_lt (Nat.lt_of_lt_of_le (Heap.lt_size e) I.ok.above))).trans (I.base.keep b o e n hb hx)
  ·obtain⟨sl,e1⟩:=I.base.slot b o e n hb hx
   exact⟨sl,(hs.2 b (Nat.ne_of_lt (Nat.lt_of_lt_of_le (Heap.lt_size e) I.ok.above))).trans e1⟩
  ·obtain⟨o',e1⟩:=I.base.there b o e hx
   exact⟨o',(hs.2 b (Nat.ne_of_lt (Nat.lt_of_lt_of_le (Heap.lt_size e) I.ok.above))).trans e1⟩
  ·by_cases hj:j=i
   ·subst hj
    rw[hi] at e1;cases e1
    rw[List.getElem?_set_self hiσ] at e2
    cases e2
    exact⟨u,r,.inl ⟨hk,by simp⟩⟩
   ·rw[List.getElem?_set_ne (Ne.symm hj)] at e2
    obtain⟨u',r',q⟩:=hl j y v' e1 e2 e3
    refine⟨u',r',?_⟩
    rcases q with ⟨k,e⟩ | ⟨k,c,e,z⟩
    ·refine .inl ⟨k,?_⟩
     have:y≠x:=λe=>hj (wz hN e1 (e▸hi))
     simp[this,e]
    ·exact .inr ⟨k,c,e,z.sameBut hs (Gh y c e)⟩
  ·obtain⟨w',z⟩:=I.cell y c e
   exact⟨w',z.sameBut hs (Gh y c e)⟩
  ·obtain⟨e,n,ne,nf,d⟩:=I.pin p hp
   exact⟨(hs.2 p.1 ne).trans e,n,ne,nf,d⟩
 ·have hfn:X.fn x=true:=by
   rcases hf with z | z
   ·exact z
   ·rw[z] at hk;cases hk
  obtain⟨c,hc⟩:=I.ok.has x (.inl hk)
  obtain⟨w',z⟩:=I.cell x c hc
  refine wpAny_storeName_cell I.ok.kind hk hc z (λh' PK hs=>?_)
  obtain⟨oc,hoc,hocd⟩:=id z
  refine h { s with heap:=h' } ⟨I.ok,I.os,I.bare,⟨λb o e n hb hx=>?_,λb o e n hb hx=>?_,I.base.free,λb o e hx=>?_,I.base.uP,I.base.nA,I.base.tq⟩,⟨m,hn.sameBut hs (Ne.symm (Gh x c hc)),λj y v' e1 e2 e3=>?_⟩,λy c' e=>?_,I.free,I.lx,λp hp=>?_,tracked ⟨oc,hoc,I.lx x c hc⟩ hs,by simpa using I.len⟩ ⟨c,hs,.inr hc⟩
  ·exact(hs.2 b (Nat.ne_of_lt (Nat.lt_of_lt_of_le (Heap.lt_size e) (I.ok.Ko x c hfn hc)))).trans (I.base.keep b o e n hb hx)
  ·obtain⟨sl,e1⟩:=I.base.slot b o e n hb hx
   exact⟨sl,(hs.2 b (Nat.ne_of_lt (Nat.lt_of_lt_of_le (Heap.lt_size e) (I.ok.Ko x c hfn hc)))).trans e1⟩
  ·obtain⟨o',e1⟩:=I.base.there b o e hx
   exact⟨o',(hs.2 b (Nat.ne_of_lt (Nat.lt_of_lt_of_le (Heap.lt_size e) (I.ok.Ko x c hfn hc)))).trans e1⟩
  ·by_cases hj:j=i
   ·subst hj
    rw[hi] at e1;cases e1
    rw[List.getElem?_set_self hiσ] at e2
    cases e2
    exact⟨u,r,.inr ⟨.inl hk,c,hc,PK⟩⟩
   ·rw[List.getElem?_set_ne (Ne.symm hj)] at e2
    obtain⟨u',r',q⟩:=hl j y v' e1 e2 e3
    refine⟨u',r',?_⟩
    rcases q with q | ⟨k,c',e,z'⟩
    ·exact .inl q
    ·refine .inr ⟨k,c',e,z'.sameBut hs ?_⟩
     rintro rfl
     exact hj (wz hN e1 (I.ok.inj _ _ _ e hc▸hi))
  ·by_cases hcc:c'=c
   ·subst hcc;exact⟨_,PK⟩
   ·obtain⟨w2,z2⟩:=I.cell y c' e
    exact⟨w2,z2.sameBut hs hcc⟩
  ·obtain⟨e,n,ne,nf,d⟩:=I.pin p hp
   refine⟨(hs.2 p.1 ?_).trans e,n,ne,nf,d⟩
   intro q
   rw[q,hoc] at e
   have q':oc=p.2:=Option.some.inj e
   exact d w' (by rw[← q'];exact hocd)
theorem l9{M:Model}{A:Around}{E:Value->Shared->Prop}{i:Nat}{x:Str}{v:V}{u:Value}{Q:Unit->Shared->Prop}(I:Inv X Nm σ H s)(hN:X.N.Nodup)(hi:X.N[i]?=some x)(hx:Loc X.env.scope x)(r:RelV v u)
  (h:∀ s',Inv X Nm (σ.set i (some v)) H s'->Q () s') (hf:autoParam (X.fn x=true\/X.env.scope.names.lookup x=some .local) aF._auto_1):wpAny M A (storeName X.env x u) Q E s :=
 rV I hN hi hx r (λs' I' _=>h s' I') hf
theorem Inv.Bx{s':Shared}{ch:List Addr}(I:Inv X Nm σ H s)(ho:s'.os=s.os)(u:Un (wL X.stack) ch H H' s.heap s'.heap)(bJ:nP X.prog X.w H' s'.heap)(hg:AllBare s'.gens)
  (Pc:∀ b∈ch,(b∈X.ex\/X.s₀.heap.objs.size<=b)/\b≠X.env.locals/\(∀ x c,X.env.cells.lookup x=some c->c≠b)/\∀ p∈X.pn++Nm,p.1≠b):Inv X Nm σ H' s':=by
 obtain⟨h',g',d',t',o'⟩:=s'
 have e:o'=s.os:=ho
 subst e
 exact I.call (g':=g') (t':=t') (d':=d') u bJ hg Pc
end
abbrev XK:=Value->Option Addr->Hp->Prop
abbrev St:=List (Option V)
abbrev VK:=V->Hp->Prop
abbrev TE:=St->Hp->VK->Prop
abbrev TT:=St->Hp->(Bool->Hp->Prop)->Prop
abbrev TA:=St->Hp->(List V->Hp->Prop)->Prop
structure Ends where
 nx:St->Hp->Prop
 rt:VK
 bk:St->Hp->Prop:=λ_ _=>False
 ct:St->Hp->Prop:=λ_ _=>False
abbrev TS:=Ends->St->Hp->Prop
def EP(X:Cx)(Nm:List (Addr×Obj))(σ:St)(Q:VK)(u:Value)(s':Shared):Prop:=∃ v H',Inv X Nm σ H' s'/\RelV v u/\Q v H'
def TP(X:Cx)(Nm:List (Addr×Obj))(σ:St)(Q:Bool->Hp->Prop)(b:Bool)(s':Shared):Prop:=∃ H',Inv X Nm σ H' s'/\Q b H'
def AP(X:Cx)(Nm:List (Addr×Obj))(σ:St)(Q:List V->Hp->Prop)(us:List Value)(s':Shared):Prop:=∃ vs H',Inv X Nm σ H' s'/\Vals vs us/\Q vs H'
def SP(X:Cx)(Nm:List (Addr×Obj))(D:Ends)(f:Flow)(s':Shared):Prop :=
 match f with
 | .next=>∃ σ' H',Inv X Nm σ' H' s'/\D.nx σ' H'
 | .brk=>∃ σ' H',Inv X Nm σ' H' s'/\D.bk σ' H'
 | .cont=>∃ σ' H',Inv X Nm σ' H' s'/\D.ct σ' H'
 | .ret u=>∃ v σ' H',Inv X Nm σ' H' s'/\RelV v u/\D.rt v H'
def PE(X:Cx)(e:Expr)(t:TE):Prop :=
 ∀ (Nm:List (Addr×Obj)) (s:Shared) (σ:St) (H:Hp) (Q:VK),Inv X Nm σ H s->t σ H Q->wpAny (model X.prog X.w) X.A (eval e X.env) (EP X Nm σ Q) X.xe s
def PT(X:Cx)(e:Expr)(t:TT):Prop :=
 ∀ (Nm:List (Addr×Obj)) (s:Shared) (σ:St) (H:Hp) (Q:Bool->Hp->Prop),Inv X Nm σ H s->t σ H Q->wpAny (model X.prog X.w) X.A (isTrue e X.env (eval e X.env)) (TP X Nm σ Q) X.xe s
def PW(X:Cx)(e:Expr)(t:TT):Prop :=
 ∀ (whole:Sem Value) (Nm:List (Addr×Obj)) (s:Shared) (σ:St) (H:Hp) (Q:Bool->Hp->Prop),Inv X Nm σ H s->t σ H Q->wpAny (model X.prog X.w) X.A (isTrue e X.env whole) (TP X Nm σ Q) X.xe s
theorem PW.pt{X:Cx}{e:Expr}{t:TT}(h:PW X e t):PT X e t:=h _
def PA(X:Cx)(es:List Expr)(t:TA):Prop :=
 ∀ (pos:Pos) (Nm:List (Addr×Obj)) (s:Shared) (σ:St) (H:Hp) (Q:List V->Hp->Prop),Inv X Nm σ H s->t σ H Q->wpAny (model X.prog X.w) X.A (spliced (backTo pos (starEach es X.env))) (AP X Nm σ Q) X.xe s
def PS(X:Cx)(st:Stmt)(t:TS):Prop :=
 ∀ (Nm:List (Addr×Obj)) (s:Shared) (σ:St) (H:Hp) (D:Ends),Inv X Nm σ H s->t D σ H->wpAny (model X.prog X.w) X.A (exec st X.env) (SP X Nm D) X.xe s
def mL(X:Cx)(st:List Stmt)(t:TS):Prop :=
 ∀ (Nm:List (Addr×Obj)) (s:Shared) (σ:St) (H:Hp) (D:Ends),Inv X Nm σ H s->t D σ H->wpAny (model X.prog X.w) X.A (execs st X.env) (SP X Nm D) X.xe s
theorem cL{α:Type}{t:Sem α}{Q Q':α->Shared->Prop}{M:Model}{A:Around}{E:Value->Shared->Prop}{s:Shared}(h:wpAny M A t Q E s)(hQ:∀ a s,Q a s->Q' a s):wpAny M A t Q' E s:=wpAny_mono h hQ λ_ _ x=>x
end L2
namespace L2
open PySem PySem.Spec PyProof.Rows
section
variable{X:Cx}
def Mf(i:Nat):TE:=fun σ H Q=>∃ v,σ[i]?=some (some v)/\Q v H
def tC(v:V):TE:=λ_ H Q=>Q v H
theorem nL{i:Nat}{x:Str}{pos:Pos}(hN:X.N[i]?=some x)(hv:Dp X.env.scope x)(hd:autoParam ((x==("__debug__" : Str))=false) aD._auto_1)(OH:autoParam ((x==("__classdict__" : Str))=false) aD._auto_1):PE X (.Name x pos) (Mf i):=by
 intro Nm s σ H Q I h
 obtain⟨v,e,h⟩:=h
 obtain⟨m,hn,hl⟩:=I.loc
 obtain⟨u,r,l⟩:=hl i x v hN e hv
 have fin:EP X Nm σ Q u s:=⟨v,H,I,r,h⟩
 rcases l with ⟨hk,hm⟩ | ⟨hk,c,hc,Px⟩
 ·exact wpAny_Name (wpAny_loadName_local I.ok.kind hk hn hm fin) hd
 ·rcases hk with hk | hk
  ·exact wpAny_Name (wpAny_loadName_cell I.ok.kind hk hc Px fin) hd
  ·exact wpAny_Name (wpAny_loadName_free I.ok.kind hk hc Px fin OH) hd
theorem Iu{i j pos}:PE X (.Constant (.int i) j pos) (tC (.int i)):=λ_ _ _ H _ I h=>wpAny_Constant_int ⟨.int i,H,I.tok _,⟨_,rfl⟩,h⟩
theorem J2{b j pos}:PE X (.Constant (.bool b) j pos) (tC (.bl b)):=λ_ _ _ H _ I h=>Constant_bool ⟨.bl b,H,I,rfl,h⟩
theorem IA{j pos}:PE X (.Constant .none j pos) (tC .cR):=λ_ _ _ H _ I h=>Constant_none ⟨.cR,H,I,rfl,h⟩
theorem G5{x j pos}:PE X (.Constant (.str x) j pos) (tC (.str x)):=λ_ _ _ H _ I h=>Calls.Constant_str ⟨.str x,H,I.tok _,⟨_,rfl⟩,h⟩
def Gl(X:Cx)(x:Str):Prop:=X.env.kindOf x=some .globalImplicit
theorem l8{E:Value->Shared->Prop}{Nm:List (Addr×Obj)}{s:Shared}{σ:St}{H:Hp}{x:Str}{u:Value}{pos:Pos}{Q:Value->Shared->Prop}(I:Inv X Nm σ H s)(hg:Gl X x)(hm:X.mg x=some u)(h:Q u s)
  (hd:autoParam ((x==("__debug__" : Str))=false) aD._auto_1):wpAny (model X.prog X.w) X.A (eval (.Name x pos) X.env) Q E s :=
 Calls.Name_function_global I.ok.kind hg (Calls.loadGlobal_global (by rw[I.ok.glob];exact I.mod.glob.keeps I.bk) hm h) hd
theorem jm{E:Value->Shared->Prop}{Nm:List (Addr×Obj)}{s:Shared}{σ:St}{H:Hp}{x:Str}{u:Value}{pos:Pos}{Q:Value->Shared->Prop}(I:Inv X Nm σ H s)(hg:Gl X x)(hm:X.mg x=none)(hv:bootBuiltins x=some u)(h:Q u s)
  (hn:autoParam (x ≠ "__name__") aD._auto_1) (hd:autoParam ((x==("__debug__" : Str))=false) aD._auto_1):wpAny (model X.prog X.w) X.A (eval (.Name x pos) X.env) Q E s:=by
 obtain⟨mb,h1,h2⟩:=I.mod.blt
 exact Calls.Name_function_global I.ok.kind hg (Calls.loadGlobal_builtin (by rw[I.ok.glob];exact I.mod.glob.keeps I.bk) hm (by rw[I.ok.blt];exact h1.keeps I.bk) ((h2 x hn).trans hv) h) hd
theorem yC{x:Str}{v:V}{u:Value}{pos:Pos}(hg:Gl X x)(hm:X.mg x=some u)(r:RelV v u)(hd:autoParam ((x==("__debug__" : Str))=false) aD._auto_1):PE X (.Name x pos) (tC v) :=
 λ_ _ _ H _ I h=>l8 I hg hm ⟨v,H,I,r,h⟩ hd
theorem fv{x:Str}{v:V}{u:Value}{pos:Pos}(hg:Gl X x)(hm:X.mg x=none)(hv:bootBuiltins x=some u)(r:RelV v u)(hn:autoParam (x ≠ "__name__") aD._auto_1)(hd:autoParam ((x==("__debug__" : Str))=false) aD._auto_1):PE X (.Name x pos) (tC v) :=
 λ_ _ _ H _ I h=>jm I hg hm hv ⟨v,H,I,r,h⟩ hn hd
variable{a b:Expr}{ta tb:TE}{pos:Pos}
def tB(t:TE):TT:=fun σ H Q=>t σ H λx H1=>∃ c,x=.bl c/\Q c H1
theorem Gv{e:Expr}{t:TE}(h:PE X e t)(he:autoParam (∀ whole,isTrue e X.env whole=(do let v ← whole;standAt e.pos;holding [v] (truthy v))) aI._auto_1):PT X e (tB t):=by
 intro Nm s σ H Q I hw
 refine isTrue_plain (cL (h Nm s σ H _ I hw) λv s1 ⟨x,H1,I1,r1,q1⟩=>?_) (he _)
 obtain⟨d,rfl,q⟩:=q1
 cases r1
 exact wpAny_truthy_bool ⟨H1,I1,q⟩
variable{tA tB':TT}{rest:List Expr}
def LO(t u:TT):TT:=fun σ H Q=>t σ H λc H1=>if c=true then u σ H1 Q else Q false H1
def Nh(t u:TT):TT:=fun σ H Q=>t σ H λc H1=>if c=true then Q true H1 else u σ H1 Q
def Lm(t:TT):TT:=fun σ H Q=>t σ H λc H1=>Q (!c) H1
theorem pw_and1(ha:PT X a tA):PW X (.BoolOp .And [a] pos) tA:=by
 intro wh Nm s σ H Q I h
 refine isTrue_and (cL (ha Nm s σ H Q I h) λc s1 e=>?_)
 cases c with
 | true=>exact isTrue_and_nil e
 | false=>exact e
theorem pw_or1(ha:PT X a tA):PW X (.BoolOp .Or [a] pos) tA:=by
 intro wh Nm s σ H Q I h
 refine isTrue_or (cL (ha Nm s σ H Q I h) λc s1 e=>?_)
 cases c with
 | false=>exact isTrue_or_nil e
 | true=>exact e
theorem pw_and(ha:PT X a tA)(hb:PW X (.BoolOp .And (b::rest) pos) tB'):PW X (.BoolOp .And (a::b::rest) pos) (LO tA tB'):=by
 intro wh Nm s σ H Q I h
 refine isTrue_and (cL (ha Nm s σ H _ I h) λc s1 ⟨H1,I1,q1⟩=>?_)
 cases c with
 | true=>exact hb wh Nm s1 σ H1 Q I1 q1
 | false=>exact⟨H1,I1,q1⟩
theorem pw_or(ha:PT X a tA)(hb:PW X (.BoolOp .Or (b::rest) pos) tB'):PW X (.BoolOp .Or (a::b::rest) pos) (Nh tA tB'):=by
 intro wh Nm s σ H Q I h
 refine isTrue_or (cL (ha Nm s σ H _ I h) λc s1 ⟨H1,I1,q1⟩=>?_)
 cases c with
 | true=>exact⟨H1,I1,q1⟩
 | false=>exact hb wh Nm s1 σ H1 Q I1 q1
theorem IU(ha:PT X a tA):PT X (.UnaryOp .Not a pos) (Lm tA):=by
 intro Nm s σ H Q I h
 exact isTrue_not (ha Nm s σ H (λc H1=>Q (!c) H1) I h)
def Jw(ta tb:TE):TE:=fun σ H Q=>ta σ H λx H1=>∃ c,x=.bl c/\if c=true then tb σ H1 Q else Q (.bl false) H1
def Ml(ta tb:TE):TE:=fun σ H Q=>ta σ H λx H1=>∃ c,x=.bl c/\if c=true then Q (.bl true) H1 else tb σ H1 Q
def JN(ta:TE):TE:=fun σ H Q=>ta σ H λx H1=>∃ c,x=.bl c/\Q (.bl (!c)) H1
theorem jB{op}{t:TE}(h:PE X a t):PE X (.BoolOp op [a] pos) t:=λNm s σ H Q I hw=>BoolOp_one (h Nm s σ H Q I hw)
theorem H0(ha:PE X a ta)(hb:PE X (.BoolOp .And (b::rest) pos) tb):PE X (.BoolOp .And (a::b::rest) pos) (Jw ta tb):=by
 intro Nm s σ H Q I h
 refine BoolOp_and (cL (ha Nm s σ H _ I h) λv s1 ⟨x,H1,I1,r1,q1⟩=>?_)
 obtain⟨c,rfl,q1⟩:=q1
 cases r1
 refine wpAny_truthy_bool ?_
 cases c with
 | true=>exact hb Nm s1 σ H1 Q I1 q1
 | false=>exact⟨.bl false,H1,I1,rfl,q1⟩
theorem Jl(ha:PE X a ta)(hb:PE X (.BoolOp .Or (b::rest) pos) tb):PE X (.BoolOp .Or (a::b::rest) pos) (Ml ta tb):=by
 intro Nm s σ H Q I h
 refine BoolOp_or (cL (ha Nm s σ H _ I h) λv s1 ⟨x,H1,I1,r1,q1⟩=>?_)
 obtain⟨c,rfl,q1⟩:=q1
 cases r1
 refine wpAny_truthy_bool ?_
 cases c with
 | false=>exact hb Nm s1 σ H1 Q I1 q1
 | true=>exact⟨.bl true,H1,I1,rfl,q1⟩
theorem F8(ha:PE X a ta):PE X (.UnaryOp .Not a pos) (JN ta):=by
 intro Nm s σ H Q I h
 refine UnaryOp_ (cL (ha Nm s σ H _ I h) λv s1 ⟨x,H1,I1,r1,q1⟩=>?_)
 obtain⟨c,rfl,q1⟩:=q1
 cases r1
 exact not_of (wpAny_truthy_bool ⟨.bl (!c),H1,I1,rfl,q1⟩)
def Nb(t:TT)(ta tb:TE):TE:=fun σ H Q=>t σ H λc H1=>if c=true then ta σ H1 Q else tb σ H1 Q
theorem C2{c:Expr}(hc:PT X c tA)(ha:PE X a ta)(hb:PE X b tb):PE X (.IfExp c a b pos) (Nb tA ta tb):=by
 intro Nm s σ H Q I h
 refine wpAny_IfExp (cL (hc Nm s σ H _ I h) λd s1 ⟨H1,I1,q1⟩=>?_)
 cases d with
 | true=>exact ha Nm s1 σ H1 Q I1 q1
 | false=>exact hb Nm s1 σ H1 Q I1 q1
end
end L2
namespace L2
open PySem PySem.Spec PyProof.Rows
def hX(K:PySem.W.Frag)(H:Hp)(a:Addr)(xs:List V):Prop :=
 Rd H a (.lst xs) ∨
  ∃ (o:Obj) (Nn:Array Value) (n:Nat),K.lookup a=some o/\o.cls=.type "list" /\ o.dict=none/\o.data=.seq Nn n/\Nn.size<=sizeLine/\Vals xs Nn.toList
def gc(K:PySem.W.Frag)(H:Hp)(a:Addr)(xs:List V):Prop :=
 Rd H a (.tup xs) ∨
  ∃ (o:Obj) (Nn:Array Value) (n:Nat),K.lookup a=some o/\o.cls=.type "tuple" /\ o.data=.seq Nn n/\Nn.size<=sizeLine/\Vals xs Nn.toList
def Mn:Value->Option V
 | .none=>some .cR
 | .bool b=>some (.bl b)
 | .int i _=>some (.int i)
 | .str x _=>some (.str x)
 | .bytes b _=>some (.byt b)
 | .float b _=>some (.FV b)
 | .ref a=>some (.ref a)
 | .type n=>some (.ty n)
 | _=>none
theorem RelV.abs{x:V}{u:Value}(r:RelV x u):Mn u=some x:=by
 cases x with
 | cR=>cases r;rfl
 | bl _=>cases r;rfl
 | int _=>obtain⟨t,rfl⟩:=r;rfl
 | str _=>obtain⟨t,rfl⟩:=r;rfl
 | byt _=>obtain⟨t,rfl⟩:=r;rfl
 | FV _=>obtain⟨t,rfl⟩:=r;rfl
 | ref _=>cases r;rfl
 | ty _=>cases r;rfl
theorem RelV.inj{x y:V}{u:Value}(r:RelV x u)(q:RelV y u):x=y:=Option.some.inj (r.abs.symm.trans q.abs)
theorem Vals.inj:∀ {xs ys:List V} {us:List Value},Vals xs us->Vals ys us->xs=ys
 | _,_,_,.nil,.nil=>rfl
 | _,_,_,.cons r t,.cons r' t'=>by rw[r.inj r',Vals.inj t t']
section
variable{X:Cx}{Nm:List (Addr×Obj)}{σ:St}{H:Hp}{s:Shared}{a:Addr}{xs ys:List V}
theorem hX.of{K:PySem.W.Frag}(h:H a=some (.lst xs)):hX K H a xs:=.inl (.inl h)
theorem gc.of{K:PySem.W.Frag}(h:H a=some (.tup xs)):gc K H a xs:=.inl (.inl h)
theorem Inv.list(I:Inv X Nm σ H s)(h:hX X.K H a xs):∃ Nn:List Value,Vals xs Nn/\PlainL s.heap a Nn.toArray/\xs.length<=sizeLine:=by
 rcases h with h | ⟨o,Nn,n,hk,hc,hd,hs,hz,r⟩
 ·obtain⟨z,Nn,n,r,e⟩:=h.ok I.bJ
  exact⟨Nn,r,⟨_,n,e,rfl,rfl,rfl⟩,z⟩
 ·refine⟨Nn.toList,r,⟨o,n,I.j4 a o hk,hc,hd,by simpa using hs⟩,?_⟩
  have e:=r.length
  simp only[Array.length_toList] at e
  omega
theorem Inv.tuple(I:Inv X Nm σ H s)(h:gc X.K H a xs):∃ Nn:List Value,Vals xs Nn/\IsTup s.heap a Nn.toArray/\xs.length<=sizeLine:=by
 rcases h with h | ⟨o,Nn,n,hk,hc,hs,hz,r⟩
 ·obtain⟨z,Nn,r,p⟩:=h.ok I.bJ
  exact⟨Nn,r,p,z⟩
 ·refine⟨Nn.toList,r,⟨o,I.j4 a o hk,hc,n,by simpa using hs⟩,?_⟩
  have e:=r.length
  simp only[Array.length_toList] at e
  omega
theorem Inv.qr(I:Inv X Nm σ H s)(h:hX X.K H a xs)(h':hX X.K H a ys):xs=ys:=by
 obtain⟨Nn,r,⟨o,n,e,_,_,d⟩,_⟩:=I.list h
 obtain⟨its',r',⟨o',n',e',_,_,d'⟩,_⟩:=I.list h'
 rw[e] at e';cases e'
 rw[d] at d'
 injection d' with d1 _
 have:Nn=its':=by simpa using congrArg Array.toList d1
 subst this
 exact r.inj r'
theorem Inv.mP(I:Inv X Nm σ H s)(h:gc X.K H a xs)(h':gc X.K H a ys):xs=ys:=by
 obtain⟨Nn,r,⟨o,e,_,n,d⟩,_⟩:=I.tuple h
 obtain⟨its',r',⟨o',e',_,n',d'⟩,_⟩:=I.tuple h'
 rw[e] at e';cases e'
 rw[d] at d'
 injection d' with d1 _
 have:Nn=its':=by simpa using congrArg Array.toList d1
 subst this
 exact r.inj r'
end
abbrev Cx.rE(X:Cx)(E:Value->Shared->Prop):Cx:={ X with xe:=E }
theorem Cx.Ok.rE{X:Cx}(ok:X.Ok)(E:Value->Shared->Prop):(X.rE E).Ok :=
 ⟨ok.mod,ok.kind,ok.glob,ok.blt,ok.above,ok.inj,ok.has,ok.Ko,ok.hd,ok.frames,ok.K2,ok.LW,ok.bs,ok.Fo,ok.ze,ok.BW,ok.oI,ok.Gg⟩
theorem Cx.Ok.iH{X:Cx}{E:Value->Shared->Prop}(ok:(X.rE E).Ok):X.Ok :=
 ⟨ok.mod,ok.kind,ok.glob,ok.blt,ok.above,ok.inj,ok.has,ok.Ko,ok.hd,ok.frames,ok.K2,ok.LW,ok.bs,ok.Fo,ok.ze,ok.BW,ok.oI,ok.Gg⟩
section
variable{X:Cx}{Nm:List (Addr×Obj)}{σ:St}{H:Hp}{s:Shared}{E:Value->Shared->Prop}
theorem Inv.rE(I:Inv X Nm σ H s)(E:Value->Shared->Prop):Inv (X.rE E) Nm σ H s:=⟨I.ok.rE E,I.os,I.bare,I.base,I.loc,I.cell,I.free,I.lx,I.pin,I.bJ,I.len⟩
theorem Inv.iH(I:Inv (X.rE E) Nm σ H s):Inv X Nm σ H s:=⟨I.ok.iH,I.os,I.bare,I.base,I.loc,I.cell,I.free,I.lx,I.pin,I.bJ,I.len⟩
theorem SP.iH{D:Ends}{f:Flow}{s':Shared}(h:SP (X.rE E) Nm D f s'):SP X Nm D f s':=by
 cases f with
 | next=>obtain⟨σ',H',I,q⟩:=h;exact⟨σ',H',I.iH,q⟩
 | brk=>obtain⟨σ',H',I,q⟩:=h;exact⟨σ',H',I.iH,q⟩
 | cont=>obtain⟨σ',H',I,q⟩:=h;exact⟨σ',H',I.iH,q⟩
 | ret u=>obtain⟨v,σ',H',I,r,q⟩:=h;exact⟨v,σ',H',I.iH,r,q⟩
end
section
variable{X:Cx}{st:Stmt}{rest:List Stmt}{t u:TS}{e:Expr}{te:TE}{pos:Pos}
def Ku:TS:=λD σ H=>D.nx σ H
def L5(t u:TS):TS:=λD σ H=>t { D with nx:=u D } σ H
theorem Ed:mL X [] Ku:=λ_ _ σ H _ I h=>wpAny_execs_nil ⟨σ,H,I,h⟩
theorem AE(h1:PS X st t)(h2:mL X rest u):mL X (st::rest) (L5 t u):=by
 intro Nm s σ H D I h
 refine wpAny_execs_cons (cL (h1 Nm s σ H { D with nx:=u D } I h) λf s1 q=>?_)
 cases f with
 | next =>
  obtain⟨σ',H',I',q⟩:=q
  exact h2 Nm s1 σ' H' D I' q
 | ret v=>exact q
 | brk=>exact q
 | cont=>exact q
theorem DN(h1:PS X st t):mL X [st] t:=by
 intro Nm s σ H D I h
 refine wpAny_execs_cons (cL (h1 Nm s σ H D I h) λf s1 q=>?_)
 cases f with
 | next=>exact wpAny_execs_nil q
 | ret v=>exact q
 | brk=>exact q
 | cont=>exact q
theorem Inv.quiet{Nm:List (Addr×Obj)}{σ:St}{H:Hp}{s:Shared}(I:Inv X Nm σ H s):interactive X.env=false:=by simp[interactive,I.ok.kind]
def J5(te:TE):TS:=λD σ H=>te σ H λ_ H1=>D.nx σ H1
theorem yD(he:PE X e te)(hs:autoParam (swapsWith e none pos.line X.env=pure false) aR._auto_1):PS X (.Expr e pos) (J5 te):=by
 intro Nm s σ H D I h
 exact wpAny_Expr_any (cL (he Nm s σ H _ I h) λv s1 ⟨x,H1,I1,r1,q1⟩=>⟨σ,H1,I1,q1⟩) I.quiet hs
def MB(te:TE):TS:=λD σ H=>te σ H D.rt
theorem H_(he:PE X e te):PS X (.Return (some e) pos) (MB te):=by
 intro Nm s σ H D I h
 exact wpAny_Return_some (cL (he Nm s σ H _ I h) λv s1 ⟨x,H1,I1,r1,q1⟩=>⟨x,σ,H1,I1,r1,q1⟩)
def Ms(c:TT)(t u:TS):TS:=λD σ H=>c σ H λb H1=>if b=true then t D σ H1 else u D σ H1
theorem JE{c:Expr}{a b:List Stmt}{tc:TT}(hc:PT X c tc)(ha:mL X a t)(hb:mL X b u):PS X (.If c a b pos) (Ms tc t u):=by
 intro Nm s σ H D I h
 refine wpAny_If (cL (hc Nm s σ H _ I h) λd s1 ⟨H1,I1,q1⟩=>?_)
 cases d with
 | true=>exact ha Nm s1 σ H1 D I1 q1
 | false=>exact hb Nm s1 σ H1 D I1 q1
end
abbrev TG:=V->St->Hp->(St->Hp->Prop)->Prop
abbrev GI:=List V->St->Hp->(St->Hp->Prop)->Prop
def PG(X:Cx)(target:Expr)(t:TG):Prop :=
 ∀ (Nm:List (Addr×Obj)) (s:Shared) (σ:St) (H:Hp) (v:V) (u:Value) (Q:St->Hp->Prop),Inv X Nm σ H s->RelV v u->t v σ H Q ->
  wpAny (model X.prog X.w) X.A (assign target X.env u) (λ_ s'=>∃ σ' H',Inv X Nm σ' H' s'/\Q σ' H') X.xe s
def K5(X:Cx)(ts:List Expr)(t:GI):Prop :=
 ∀ (Nm:List (Addr×Obj)) (s:Shared) (σ:St) (H:Hp) (vs:List V) (us:List Value) (Q:St->Hp->Prop),Inv X Nm σ H s->Vals vs us->t vs σ H Q ->
  wpAny (model X.prog X.w) X.A (assignInOrder ((assignEach ts X.env).map (·.2)) us) (λ_ s'=>∃ σ' H',Inv X Nm σ' H' s'/\Q σ' H') X.xe s
abbrev Ik:=V->V->V->Hp->(Hp->Prop)->Prop
def Jk(X:Cx)(t:Ik):Prop :=
 ∀ (Nm:List (Addr×Obj)) (s:Shared) (σ:St) (H:Hp) (o i v:V) (ov iv u:Value) (Q:Hp->Prop),Inv X Nm σ H s->RelV o ov->RelV i iv->RelV v u->t o i v H Q ->
  wpAny (model X.prog X.w) X.A (setItem ov iv u) (λ_ s'=>∃ H',Inv X Nm σ H' s'/\Q H') X.xe s
section
variable{X:Cx}{pos:Pos}
def aJ(i:Nat):TG:=λv σ H Q=>Q (σ.set i (some v)) H
theorem Fj{i:Nat}{x:Str}(hN:X.N.Nodup)(hi:X.N[i]?=some x)(hx:Loc X.env.scope x)(hf:autoParam (X.fn x=true\/X.env.scope.names.lookup x=some .local) aF._auto_1):PG X (.Name x pos) (aJ i):=by
 intro Nm s σ H v u Q I r h
 exact wpAny_assign_Name (l9 I hN hi hx r (λs' I'=>⟨_,H,I',h⟩) hf)
def f_:GI:=λvs σ H Q=>vs=[]/\Q σ H
def bc(t:TG)(u:GI):GI:=λvs σ H Q=>∃ v r,vs=v::r/\t v σ H fun σ' H'=>u r σ' H' Q
theorem bI:K5 X [] f_:=by
 intro Nm s σ H vs us Q I r h
 obtain⟨e,h⟩:=h
 subst e
 cases r
 exact assignInOrder_nil ⟨σ,H,I,h⟩
theorem aC{e:Expr}{es:List Expr}{t:TG}{u:GI}(h1:PG X e t)(h2:K5 X es u)
  (hs:autoParam ((assignEach (e::es) X.env).map (·.2)=assign e X.env::(assignEach es X.env).map (·.2)) aR._auto_1):K5 X (e::es) (bc t u):=by
 intro Nm s σ H vs us Q I r h
 obtain⟨v,vr,e1,h⟩:=h
 subst e1
 cases r with
 | cons r rr =>
  rw[hs]
  refine assignInOrder_cons (cL (h1 Nm s σ H _ _ _ I r h) λ_ s1 ⟨σ1,H1,I1,q1⟩=>?_)
  exact h2 Nm s1 σ1 H1 _ _ Q I1 rr q1
def f6(K:PySem.W.Frag)(n:Nat)(t:GI):TG:=λv σ H Q=>∃ a xs,v=.ref a/\gc K H a xs/\xs.length=n/\t xs σ H Q
theorem cF{es:List Expr}{k:Nat}{t:GI}{n:Nat}(hc:X.calm=true)(h:K5 X es t)
  (hn:autoParam ((assignEach es X.env).length=n) aR._auto_1) (NU:autoParam ((assignEach es X.env).findIdx? (·.1)=none) aR._auto_1):PG X (.Tuple es k pos) (f6 X.K n t):=by
 intro Nm s σ H v u Q I r hw
 obtain⟨a,xs,e1,hq,hl,hw⟩:=hw
 subst e1
 cases r
 obtain⟨Nn,rv,ht,hz⟩:=I.tuple hq
 refine assign_Tuple_tuple (I.ok.hd hc) ht (by simp[hn,← hl,rv.length]) NU λh' hx=>?_
 have I1:Inv X Nm σ H { s with heap:=h' }:=I.kept (t':=s.toks) λb o e=>hx b o (Nat.ne_of_lt (Heap.lt_size e)) e
 exact h Nm _ σ H xs _ Q I1 (by simpa using rv) hw
def My(to ti:TE)(t:Ik):TG:=λv σ H Q=>to σ H λo H1=>ti σ H1 λi H2=>t o i v H2 λH3=>Q σ H3
theorem HX{o i:Expr}{to ti:TE}{t:Ik}(ho:PE X o to)(hi:PE X i ti)(hs:Jk X t)
  (ha:autoParam (∀ v,assign (.Subscript o i pos) X.env v=(do
   let ov ← holding [v] (eval o X.env)
   let iv ← holding [v,ov] (eval i X.env)
   standAt pos
   holding [v,ov,iv] (setItem ov iv v)
   release [v,ov,iv] [])) aI._auto_1):PG X (.Subscript o i pos) (My to ti t):=by
 intro Nm s σ H v u Q I r h
 rw[ha]
 refine wpAny_bind (wpAny_holding (cL (ho Nm s σ H _ I h) λov s1 ⟨x,H1,I1,r1,q1⟩=>?_))
 refine wpAny_bind (wpAny_holding (cL (hi Nm s1 σ H1 _ I1 q1) λiv s2 ⟨y,H2,I2,r2,q2⟩=>?_))
 refine wpAny_bind (wpAny_standAt (wpAny_bind (wpAny_holding (cL (hs Nm s2 σ H2 x y v ov iv u _ I2 r1 r2 r q2) λ_ s3 ⟨H3,I3,q3⟩=>?_))))
 exact wpAny_release ⟨σ,H3,I3,q3⟩
def GD(te:TE)(g:TG):TS:=λD σ H=>te σ H λx H1=>g x σ H1 D.nx
theorem Gw{tg e:Expr}{te:TE}{g:TG}(he:PE X e te)(hg:PG X tg g)(hs:autoParam (swapsWithSole [tg] e pos.line X.env=pure false) aR._auto_1)(hw:autoParam (swappedStores [tg] e X.env=pure none) aR._auto_1)
  (h1:autoParam ((assignEach [tg] X.env).map (·.2)=[assign tg X.env]) aR._auto_1):PS X (.Assign [tg] e pos) (GD te g):=by
 intro Nm s σ H D I h
 refine wpAny_Assign_stores (cL (he Nm s σ H _ I h) λv s1 ⟨x,H1,I1,r1,q1⟩=>?_) hs hw
 rw[h1]
 exact cL (hg Nm s1 σ H1 x v _ I1 r1 q1) λ_ s2 q=>q
theorem BO{i:Nat}{x:Str}{e:Expr}{te:TE}{pos':Pos}(hN:X.N.Nodup)(hi:X.N[i]?=some x)(hx:Loc X.env.scope x)(he:PE X e te)(hs:autoParam (swapsWith e (some (.Name x pos')) pos.line X.env=pure false) aR._auto_1)(hf:autoParam (X.fn x=true\/X.env.scope.names.lookup x=some .local) aF._auto_1) :
  PS X (.Assign [.Name x pos'] e pos) (GD te (aJ i)):=by
 intro Nm s σ H D I h
 refine wpAny_Assign_Name (cL (he Nm s σ H _ I h) λv s1 ⟨y,H1,I1,r1,q1⟩=>?_) hs
 exact l9 I1 hN hi hx r1 (λs2 I2=>⟨_,H1,I2,q1⟩) hf
def Mq(i j:Nat)(ta:TA):TS:=λD σ H=>ta σ H λvs H1=>∃ v w,vs=[v,w]/\D.nx ((σ.set i (some v)).set j (some w)) H1
theorem Hw{i j:Nat}{x y:Str}{a b:Expr}{ta:TA}{px py pt:Pos}{kt k2 QR}(hc:X.calm=true)(hN:X.N.Nodup)(hi:X.N[i]?=some x)(hj:X.N[j]?=some y)(hij:i≠j)
  (hx:X.env.scope.names.lookup x=some .local) (hy:X.env.scope.names.lookup y=some .local) (ha:PA X [a,b] ta)
  (hw:swappedStores [.Tuple [.Name x px,.Name y py] kt pt] (.Tuple [a,b] k2 QR) X.env=pure (some [x,y]))
  (hs:autoParam (swapsWithSole [.Tuple [.Name x px,.Name y py] kt pt] (.Tuple [a,b] k2 QR) pos.line X.env=pure false) aR._auto_1) :
  PS X (.Assign [.Tuple [.Name x px,.Name y py] kt pt] (.Tuple [a,b] k2 QR) pos) (Mq i j ta):=by
 intro Nm s σ H D I h
 rw[exec_Assign_arm]
 refine wpAny_bind (wpAny_standAt ?_)
 rw[hs]
 refine wpAny_bind (wpAny_pure ?_)
 rw[if_neg (by decide)]
 refine wpAny_bind (Tuple_ (cL (ha _ Nm s σ H _ I h) λus s1 ⟨vs,H1,I1,r1,q1⟩=>?_))
 obtain⟨v,w,e1,q1⟩:=q1
 subst e1
 obtain⟨u1,u2,rfl,rv,O7⟩:∃ u1 u2,us=[u1,u2]/\RelV v u1/\RelV w u2:=by
  cases r1 with
  | cons p q =>
   cases q with
   | cons p' q' =>
    cases q'
    exact⟨_,_,rfl,p,p'⟩
 refine wpAny_newObj_type ?_ (by show 2<=sizeLine;decide)
 have I2:Inv X Nm σ H1 { s1 with heap:=s1.heap.push { cls:=.type "tuple", data:=.seq [u1,u2].toArray } }:=I1.kept (t':=s1.toks) λb o e=>Heap.get?_push_of_some _ e
 rw[hw]
 refine wpAny_bind (wpAny_pure ?_)
 show wpAny (model X.prog X.w) X.A (do rule "assign.swapped-stores";let items ← unpackItems (.ref s1.heap.objs.size) 2 none;assignInOrder [λv=>bindName X.env y v,λv=>bindName X.env x v] items.reverse;pure Flow.next) _ _ _
 refine wpAny_bind (wpAny_rule (wpAny_bind (unpackItems_tuple (items:=#[u1,u2]) (I.ok.hd hc) (IsTup.new s1.heap _) λh' Ri=>?_)))
 have I3:=I2.kept (h':=h') (t':=s1.toks) λb o e=>Ri b o (Nat.ne_of_lt (Heap.lt_size e)) e
 show wpAny _ _ (assignInOrder [λv=>bindName X.env y v,λv=>bindName X.env x v] [u2,u1] >>= λ_=>pure Flow.next) _ _ _
 refine wpAny_bind (assignInOrder_cons (wpAny_bindName (l9 I3 hN hj (.inl hy) O7 (λs2 I4=>?_) (.inr hy))))
 refine assignInOrder_cons (wpAny_bindName (l9 I4 hN hi (.inl hx) rv (λs3 I5=>assignInOrder_nil (wpAny_pure ?_)) (.inr hx)))
 rw[List.set_comm _ _ (Ne.symm hij)] at I5
 exact⟨_,H1,I5,q1⟩
end
section
variable{X:Cx}{pos:Pos}
def GR(c:TT)(tb:TS):TS:=λD σ H=>∃ W:Nat->St->Hp->Prop,(∃ m,W m σ H)/\∀ m σ H,W m σ H ->
 c σ H λb H1=>if b=true then ∃ N:St->Hp->Prop,(∀ σ' H',N σ' H'->∃ m',m'<m/\W m' σ' H')/\tb { D with nx:=N,ct:=N,bk:=D.nx } σ H1 else D.nx σ H1
theorem CL{c:Expr}{body:List Stmt}{tc:TT}{tb:TS}(hp:PassesOwn (model X.prog X.w) X.A X.env X.xe)(hc:PT X c tc)(hb:mL X body tb):PS X (.While c body [] pos) (GR tc tb):=by
 intro Nm s σ H D I h
 obtain⟨W,⟨m0,w0⟩,turn⟩:=h
 refine wpAny_While (codeAny_whileLoop (λn s'=>∃ σ' H',Inv X Nm σ' H' s'/\W n σ' H') ?_ m0 ⟨σ,H,I,w0⟩)
 rintro n s1 ⟨σ1,H1,I1,w1⟩
 refine wpAny_passesOwn hp (cL (hc Nm s1 σ1 H1 _ I1 (turn n σ1 H1 w1)) λb s2 ⟨H2,I2,q2⟩=>?_)
 cases b with
 | true =>
  obtain⟨N,hN,q2⟩:=q2
  rw[if_pos rfl]
  refine wpAny_passesOwn hp (cL (hb Nm s2 σ1 H2 _ I2 q2) λf s3 q3=>?_)
  cases f with
  | next =>
   obtain⟨σ3,H3,I3,n3⟩:=q3
   obtain⟨m',hm,w3⟩:=hN σ3 H3 n3
   exact⟨m',hm,σ3,H3,I3,w3⟩
  | cont =>
   obtain⟨σ3,H3,I3,n3⟩:=q3
   obtain⟨m',hm,w3⟩:=hN σ3 H3 n3
   exact⟨m',hm,σ3,H3,I3,w3⟩
  | brk=>exact q3
  | ret v=>exact q3
 | false =>
  rw[if_neg Bool.false_ne_true]
  exact wpAny_execs_nil ⟨σ1,H2,I2,q2⟩
end
structure It where
 go:Nat->Hp->Prop
 uY:Nat->Hp->V->Hp->Prop
 stop:Nat->Hp->Prop
def lU(X:Cx)(Nm:List (Addr×Obj))(H:Hp)(b:Addr):Prop :=
 H b=none/\b≠X.env.locals/\b ∉ X.fs/\(b∈X.ex\/X.s₀.heap.objs.size<=b)/\(∀ x c,X.env.cells.lookup x=some c->c≠b)/\∀ p∈X.pn++Nm,p.1≠b
theorem Inv.uM{X:Cx}{Nm:List (Addr×Obj)}{σ:St}{H H':Hp}{s:Shared}{b:Addr}(I:Inv X Nm σ H s)(hb:s.heap.objs.size<=b)(hn:H' b=none):lU X Nm H' b:=by
 refine⟨hn,Nat.ne_of_gt (Nat.lt_of_lt_of_le I.lt hb),I.MF hb,.inr (Nat.le_trans I.sz hb),λx c e z=>?_,λp hp z=>?_⟩
 ·obtain⟨v,q⟩:=I.cell x c e
  exact absurd (Nat.lt_of_lt_of_le q.lt (by rw[z];exact hb)) (Nat.lt_irrefl _)
 ·exact absurd (Nat.lt_of_lt_of_le (Heap.lt_size (I.pin p hp).1) (by rw[z];exact hb)) (Nat.lt_irrefl _)
structure Turn (P:Program) (w:World) (K:PySem.W.Frag) (tg:Expr) (J:It) (fp:List Addr) (it:Addr) (tn:Nat->Heap->Prop):Prop where
 mem:it∈fp
 obj:∀ i h,tn i h->∀ b∈fp,∃ o,h.get? b=some o/\∀ v,o.data≠.cell v
 keep:∀ i h h',tn i h->(∀ b∈fp,∀ o,h.get? b=some o->h'.get? b=some o)->tn i h'
 item:∀ (X:Cx),X.prog=P->X.w=w->X.K=K->X.calm=true->∀ (i:Nat) (Nm:List (Addr×Obj)) (s:Shared) (σ:St) (H:Hp) (E:Value->Shared->Prop),Inv X Nm σ H s->(∀ b∈fp,lU X Nm H b)->tn i s.heap->J.go i H ->
  wpAny (model P w) X.A (pyNext (.ref it)) (λr s1=>∃ u,r=some u ∧
   wpAny (model P w) X.A (letOwnedTupleGo tg (.ref it) u) (λ_ s2=>∃ x H',Inv X Nm σ H' s2/\RelV x u/\J.uY i H x H'/\tn (i+1) s2.heap/\∀ b∈fp,H' b=none) E s1) E s
 done:∀ (X:Cx),X.prog=P->X.w=w->X.K=K->X.calm=true->∀ (i:Nat) (Nm:List (Addr×Obj)) (s:Shared) (σ:St) (H:Hp) (E:Value->Shared->Prop),Inv X Nm σ H s->(∀ b∈fp,lU X Nm H b)->tn i s.heap->J.stop i H ->
  wpAny (model P w) X.A (pyNext (.ref it)) (λr s1=>r=none/\Inv X Nm σ H s1) E s
 self:∀ (A:Around) (i:Nat) (s:Shared) (Q:Value->Shared->Prop) (E:Value->Shared->Prop),tn i s.heap->Q (.ref it) s->wpAny (model P w) A (pyIter (.ref it)) Q E s
abbrev TI:=St->Hp->(It->Hp->Prop)->Prop
def LU(X:Cx)(Nm:List (Addr×Obj))(σ:St)(tg:Expr)(R:It->Hp->Prop)(itv:Value)(s2:Shared):Prop :=
 ∃ (it:Addr) (fp:List Addr) (tn:Nat->Heap->Prop) (J:It) (H':Hp),itv=.ref it/\Inv X Nm σ H' s2/\Turn X.prog X.w X.K tg J fp it tn/\tn 0 s2.heap/\(∀ b∈fp,lU X Nm H' b)/\R J H'
def PI(X:Cx)(tg iter:Expr)(wi:TI):Prop :=
 ∀ (Nm:List (Addr×Obj)) (s:Shared) (σ:St) (H:Hp) (R:It->Hp->Prop),Inv X Nm σ H s->wi σ H R ->
  wpAny (model X.prog X.w) X.A (eval iter X.env) (λv s1=>wpAny (model X.prog X.w) X.A (pyIter v) (LU X Nm σ tg R) X.xe s1) X.xe s
theorem yR {M : Model} {A : Around} {E : Value -> Shared -> Prop} {s : Shared} {tg : Expr} {it : Addr} {u : Value} {o : Obj} {n : String} {vs : Array Value} {Q : Unit -> Shared -> Prop} (ho : s.heap.get? it = some o) (hc : o.cls = .type n) (hd : o.data = .fields vs)
    (hn : ["enumerate", "zip", "dict_itemiterator", "dict_reverseitemiterator", "odict_iterator", "itertools.zip_longest", "itertools.pairwise"].contains n = false) (hQ : Q () s) : wpAny M A (letOwnedTupleGo tg (.ref it) u) Q E s := by
  unfold letOwnedTupleGo
  cases tg <;> first
    | exact wpAny_pure hQ
    | (cases u <;> first
        | exact wpAny_pure hQ
        | (refine wpAny_bind (wpAny_load ho ?_)
           rw [hc, hd]
           show wpAny M A (if (["enumerate", "zip", "dict_itemiterator", "dict_reverseitemiterator", "odict_iterator", "itertools.zip_longest", "itertools.pairwise"].contains n && vs[0]? == some (rawInt _)) = true then _ else _) Q E s
           rw [if_neg (by intro h; rw [hn, Bool.false_and] at h; cases h)]
           exact wpAny_pure hQ))
def MS(K:PySem.W.Frag)(a:Addr):It :=
 ⟨λi H=>∃ xs x,hX K H a xs/\xs[i]?=some x,λi H x H'=>H'=H/\∀ xs,hX K H a xs->xs[i]?=some x,λi H=>∃ xs,hX K H a xs/\xs.length<=i⟩
def MR(K:PySem.W.Frag)(a:Addr):It :=
 ⟨λi H=>∃ xs x,gc K H a xs/\xs[i]?=some x,λi H x H'=>H'=H/\∀ xs,gc K H a xs->xs[i]?=some x,λi H=>∃ xs,gc K H a xs/\xs.length<=i⟩
def Kj(lo:Int)(n:Nat):It:=⟨λi _=>i<n,λi H x H'=>H'=H/\x=.int (lo+i),λi _=>n<=i⟩
theorem za{P:Program}{w:World}{K:PySem.W.Frag}{tg:Expr}(a it:Addr):Turn P w K tg (MS K a) [it] it (λi h=>h.IsListIter it a i) where
 mem:=by simp
 obj:=λi h st b hb=>by
  have e:b=it:=by simpa using hb
  subst e
  obtain⟨o,e,c,d⟩:=st
  exact⟨o,e,λv z=>by rw[d] at z;cases z⟩
 keep:=λi h h' st k=>st.at λo e=>k it (by simp) o e
 item:=by
  intro X hP hw hK hc i Nm s σ H E I hf st hg
  subst hP hw hK
  obtain⟨xs,x,hq,hx⟩:=hg
  obtain⟨Nn,rv,p,hz⟩:=I.list hq
  obtain⟨u,hu,ru⟩:=rv.get hx
  obtain⟨f0,f1,f2,f3,f4,f5⟩:=hf it (by simp)
  refine wpAny_pyNext_list_item st p.isList (x:=u) (by simpa using hu) λh' Oq sb=>?_
  have I1:Inv X Nm σ H { s with heap:=h' }:=I.turned (t':=s.toks) (λb o hb e=>(sb.2 b hb).trans e) f0 f1 f3 f4 f5
  obtain⟨o,e,c,d⟩:=id Oq
  exact⟨u,rfl,yR (s:={ s with heap:=h' }) e c d (by decide) ⟨x,H,I1,ru,⟨rfl,λys hy=>by rw[I.qr hy hq];exact hx⟩,Oq,λb hb=>(hf b hb).1⟩⟩
 done:=by
  intro X hP hw hK hc i Nm s σ H E I hf st hg
  subst hP hw hK
  obtain⟨xs,hq,hx⟩:=hg
  obtain⟨Nn,rv,p,hz⟩:=I.list hq
  obtain⟨f0,f1,f2,f3,f4,f5⟩:=hf it (by simp)
  have hl:=rv.length
  exact wpAny_pyNext_list_end (I.ok.hd hc) st p.isList (by simp;omega) λh' eb=>⟨rfl,I.turned (t':=s.toks) (λb o hb e=>eb b o hb e) f0 f1 f3 f4 f5⟩
 self:=λ_ _ _ _ _ st h=>wpAny_pyIter_listiter st h
theorem xE{P:Program}{w:World}{K:PySem.W.Frag}{tg:Expr}(a it:Addr):Turn P w K tg (MR K a) [it] it (λi h=>h.IsTupleIter it a i) where
 mem:=by simp
 obj:=λi h st b hb=>by
  have e:b=it:=by simpa using hb
  subst e
  obtain⟨o,e,c,d⟩:=st
  exact⟨o,e,λv z=>by rw[d] at z;cases z⟩
 keep:=λi h h' st k=>st.at λo e=>k it (by simp) o e
 item:=by
  intro X hP hw hK hc i Nm s σ H E I hf st hg
  subst hP hw hK
  obtain⟨xs,x,hq,hx⟩:=hg
  obtain⟨Nn,rv,p,hz⟩:=I.tuple hq
  obtain⟨u,hu,ru⟩:=rv.get hx
  obtain⟨f0,f1,f2,f3,f4,f5⟩:=hf it (by simp)
  refine wpAny_pyNext_tuple_item st (show s.heap.IsTuple a Nn.toArray from p) (x:=u) (by simpa using hu) λh' Oq sb=>?_
  have I1:Inv X Nm σ H { s with heap:=h' }:=I.turned (t':=s.toks) (λb o hb e=>(sb.2 b hb).trans e) f0 f1 f3 f4 f5
  obtain⟨o,e,c,d⟩:=id Oq
  exact⟨u,rfl,yR (s:={ s with heap:=h' }) e c d (by decide) ⟨x,H,I1,ru,⟨rfl,λys hy=>by rw[I.mP hy hq];exact hx⟩,Oq,λb hb=>(hf b hb).1⟩⟩
 done:=by
  intro X hP hw hK hc i Nm s σ H E I hf st hg
  subst hP hw hK
  obtain⟨xs,hq,hx⟩:=hg
  obtain⟨Nn,rv,p,hz⟩:=I.tuple hq
  obtain⟨f0,f1,f2,f3,f4,f5⟩:=hf it (by simp)
  have hl:=rv.length
  exact wpAny_pyNext_tuple_end (I.ok.hd hc) st (show s.heap.IsTuple a Nn.toArray from p) (by simp;omega) λh' eb=>⟨rfl,I.turned (t':=s.toks) (λb o hb e=>eb b o hb e) f0 f1 f3 f4 f5⟩
 self:=λ_ _ _ _ _ st h=>wpAny_pyIter_tupleiter st h
theorem xu{P:Program}{w:World}{K:PySem.W.Frag}{tg:Expr}(it:Addr)(lo:Int)(n:Nat):Turn P w K tg (Kj lo n) [it] it (λi h=>IsRangeIter h it (lo+(i:Nat)*1) ((n:Int)-(i:Nat)) 1) where
 mem:=by simp
 obj:=λi h st b hb=>by
  have e:b=it:=by simpa using hb
  subst e
  exact⟨_,st,λv z=>by
   have z':Data.fields _=Data.cell v:=z
   cases z'⟩
 keep:=λi h h' st k=>k it (by simp) _ st
 item:=by
  intro X hP hw hK hc i Nm s σ H E I hf st hg
  subst hP hw hK
  obtain⟨f0,f1,f2,f3,f4,f5⟩:=hf it (by simp)
  have W:=Walks.range (prog:=X.prog) (w:=X.w) (I.ok.hd hc) it lo 1 n
  refine W.item i s _ _ hg st λv h' tk hv Oq kk=>?_
  obtain⟨t,rfl⟩:=hv
  have I1:Inv X Nm σ H { s with heap:=h',toks:=tk }:=I.turned (λb o hb e=>kk b o (by simpa using hb) e) f0 f1 f3 f4 f5
  refine⟨_,rfl,yR (s:={ s with heap:=h',toks:=tk }) (n := "range_iterator") Oq rfl rfl (by decide) ⟨.int (lo+i),H,I1,⟨t,?_⟩,⟨rfl,rfl⟩,Oq,λb hb=>(hf b hb).1⟩⟩
  rw[Int.mul_one]
 done:=by
  intro X hP hw hK hc i Nm s σ H E I hf st hg
  subst hP hw hK
  obtain⟨f0,f1,f2,f3,f4,f5⟩:=hf it (by simp)
  exact wpAny_pyNext_range_end (I.ok.hd hc) st (by have:n<=i:=hg;omega) λh' eb=>⟨rfl,I.turned (t':=s.toks) (λb o hb e=>eb b o hb e) f0 f1 f3 f4 f5⟩
 self:=λ_ _ _ _ _ st h=>wpAny_pyIter_rangeiter st h
end L2
namespace L2
open PySem PySem.Spec PyProof.Rows
section
variable{X:Cx}{tg:Expr}
theorem vn{Nm:List (Addr×Obj)}{σ:St}{H:Hp}{s:Shared}{R:It->Hp->Prop}{E:Value->Shared->Prop}{lo hi:Int}{t u v:Tok}{tk:Nat}(I:Inv X Nm σ H s)(h1:-(2^62)<=lo)(h2:lo<2^62)(h3:-(2^62)<=hi)(h4:hi<2^62)
  (q:R (Kj lo (hi-lo).toNat) H):wpAny (model X.prog X.w) X.A (pyIter (.ref s.heap.objs.size)) (LU X Nm σ tg R) E { s with heap:=s.heap.push { cls:=.type "range", data:=.fields #[.int lo t,.int hi u,.int 1 v] },toks:=tk }:=by
 refine wpAny_pyIter_range (IsRange.new ..) (small_one h1 h2 h3 h4) ?_
 have I1:Inv X Nm σ H { s with heap:=s.heap.push { cls:=.type "range", data:=.fields #[.int lo t,.int hi u,.int 1 v] },toks:=tk }:=I.kept λb o e=>Heap.get?_push_of_some _ e
 refine⟨(s.heap.push { cls:=.type "range", data:=.fields #[.int lo t,.int hi u,.int 1 v] }).objs.size,[(s.heap.push { cls:=.type "range", data:=.fields #[.int lo t,.int hi u,.int 1 v] }).objs.size],_,_,H,rfl,
  I1.kept (t':=tk) λb o e=>Heap.get?_push_of_some _ e,xu _ lo (hi-lo).toNat,?_,λb hb=>?_,q⟩
 ·have e1:lo+((0:Nat):Int)*1=lo:=by simp
  have e2:(((hi-lo).toNat:Nat):Int)-((0:Nat):Int)=Builtin.Range.rangeSize lo hi 1:=by rw[rangeSize_one];split <;> omega
  show IsRangeIter _ _ (lo+((0:Nat):Int)*1) ((((hi-lo).toNat:Nat):Int)-((0:Nat):Int)) 1
  rw[e1,e2]
  exact Heap.get?_push_size _ rfl
 ·have e:b=(s.heap.push { cls:=.type "range", data:=.fields #[.int lo t,.int hi u,.int 1 v] }).objs.size:=by simpa using hb
  subst e
  exact I1.uM (Nat.le_refl _) (I1.bJ.fresh (Nat.le_refl _))
def FK(ta:TA):TI:=fun σ H R=>ta σ H λvs H1=>∃ j:Int,vs=[.int j]/\-(2^62)<=j/\j<2^62/\R (Kj 0 j.toNat) H1
def FH(ta:TA):TI:=fun σ H R=>ta σ H λvs H1=>∃ i j:Int,vs=[.int i,.int j]/\(-(2^62)<=i/\i<2^62/\-(2^62)<=j/\j<2^62)/\R (Kj i (j-i).toNat) H1
theorem fj{a:Expr}{ta:TA}{p pos:Pos}(hg:Gl X "range")(hm:X.mg "range" = none)(ha:PA X [a] ta)(hs:autoParam (starEach [a] X.env=[(false,eval a X.env)]) aR._auto_1):PI X tg (.Call (.Name "range" p) [a] [] pos) (FK ta):=by
 intro Nm s σ H R I h
 refine Call_ (jm I hg hm boot_range (PyProof.Rows.callWith_type1 (cL (ha pos Nm s σ H _ I h) λus s1 ⟨vs,H1,I1,r1,q1⟩=>?_) hs rfl))
 obtain⟨j,e,q1,q2,q⟩:=q1
 subst e
 cases r1 with
 | cons r rr =>
  cases rr
  obtain⟨t,rfl⟩:=r
  exact call_range_1 (vn I1 (by omega) (by omega) q1 q2 (by simpa using q))
theorem yX{a b:Expr}{ta:TA}{p pos:Pos}(hg:Gl X "range")(hm:X.mg "range" = none)(ha:PA X [a,b] ta)(hs:autoParam (starEach [a,b] X.env=[(false,eval a X.env),(false,eval b X.env)]) aR._auto_1)(OR:autoParam (starEach [b] X.env=[(false,eval b X.env)]) aR._auto_1) :
  PI X tg (.Call (.Name "range" p) [a,b] [] pos) (FH ta):=by
 intro Nm s σ H R I h
 refine Call_ (jm I hg hm boot_range (PyProof.Rows.callWith_type1 (cL (ha pos Nm s σ H _ I h) λus s1 ⟨vs,H1,I1,r1,q1⟩=>?_) (by rw[hs,OR]) (by rw[OR];rfl)))
 obtain⟨i,j,e,⟨q1,q2,q3,q4⟩,q⟩:=q1
 subst e
 cases r1 with
 | cons r rr =>
  cases rr with
  | cons r' rr =>
   cases rr
   obtain⟨t,rfl⟩:=r
   obtain⟨t',rfl⟩:=r'
   exact call_range_2 (vn I1 q1 q2 q3 q4 q)
def LX(wi:TI)(g:TG)(tb:TS):TS:=λD σ H=>wi σ H λJ H1=>∃ W:Nat->Nat->St->Hp->Prop,(∃ m,W 0 m σ H1)/\∀ i m σ H,W i m σ H ->
 (J.stop i H/\D.nx σ H)\/(J.go i H/\∃ N:St->Hp->Prop,(∀ σ' H',N σ' H'->∃ m',m'<m/\W (i+1) m' σ' H')/\∀ x H',J.uY i H x H'->g x σ H' fun σ2 H2=>tb { D with nx:=N,ct:=N,bk:=D.nx } σ2 H2)
def mR(fp:List Addr)(h:Heap):List (Addr×Obj):=fp.filterMap λb=>(h.get? b).map λo=>(b,o)
theorem jx{fp:List Addr}{h:Heap}{b:Addr}{o:Obj}(hb:b∈fp)(e:h.get? b=some o):(b,o)∈mR fp h:=List.mem_filterMap.mpr ⟨b,hb,by rw[e];rfl⟩
theorem Al{fp:List Addr}{h:Heap}{p:Addr×Obj}(hp:p∈mR fp h):p.1∈fp/\h.get? p.1=some p.2:=by
 obtain⟨b,hb,e⟩:=List.mem_filterMap.mp hp
 cases q:h.get? b with
 | none=>rw[q] at e;cases e
 | some o =>
  rw[q] at e
  have e':(b,o)=p:=Option.some.inj e
  subst e'
  exact⟨hb,q⟩
theorem Inv.pinned{Nm:List (Addr×Obj)}{σ:St}{H:Hp}{s:Shared}{fp:List Addr}(I:Inv X Nm σ H s)(hf:∀ b∈fp,lU X Nm H b)(ho:∀ b∈fp,∃ o,s.heap.get? b=some o/\∀ v,o.data≠.cell v):Inv X (Nm++mR fp s.heap) σ H s :=
 I.yB λp hp=>(List.mem_append.mp hp).elim (λz=>I.pin p (List.mem_append_right _ z)) λz=>by
  obtain⟨hb,e⟩:=Al z
  obtain⟨f0,f1,f2,_⟩:=hf p.1 hb
  obtain⟨o,e',d⟩:=ho p.1 hb
  rw[e] at e';cases e'
  exact⟨e,f0,f1,f2,d⟩
theorem Inv.mI{Nm pl:List (Addr×Obj)}{σ:St}{H:Hp}{s:Shared}(I:Inv X (Nm++pl) σ H s):Inv X Nm σ H s:=I.yB λp hp=>I.pin p (List.mem_append_right _ (List.mem_append_left _ hp))
theorem ID{iter:Expr}{body:List Stmt}{wi:TI}{g:TG}{tb:TS}{pos:Pos}(hp:PassesOwn (model X.prog X.w) X.A X.env X.xe)(hc:X.calm=true)(hi:PI X tg iter wi)(hg:PG X tg g)(hb:mL X body tb)
  (hs:autoParam (∀ x,foldedSetIterable iter X.env x=pure x) aI._auto_1):PS X (.For tg iter body [] pos) (LX wi g tb):=by
 intro Nm s σ H D I h
 refine wpAny_For (cL (hi Nm s σ H _ I h) λv s1 h1=>cL h1 λitv s2 h2=>?_) hs
 obtain⟨it,fp,tn,J,H2,e,I2,T,QE,f2,W,⟨m0,w0⟩,turn⟩:=h2
 subst e
 have Pt:∀ {H':Hp},(∀ b∈fp,H' b=none)->∀ b∈fp,lU X Nm H' b:=λhn b hb=>⟨hn b hb,(f2 b hb).2⟩
 refine codeAny_forLoop_any (λn s'=>∃ i σ' H',Inv X Nm σ' H' s'/\tn i s'.heap/\(∀ b∈fp,H' b=none)/\W i n σ' H') ?_ m0 ⟨0,σ,H2,I2,QE,λb hb=>(f2 b hb).1,w0⟩
 rintro n s3 ⟨i,σ3,H3,I3,st3,fr3,w3⟩
 rcases turn i n σ3 H3 w3 with ⟨stop,qn⟩ | ⟨go,N,hN,step⟩
 ·refine wpAny_passesOwn hp (cL (T.done X rfl rfl rfl hc i Nm s3 σ3 H3 X.xe I3 (Pt fr3) st3 stop) λr s4 ⟨hr,I4⟩=>?_)
  subst hr
  exact wpAny_execs_nil ⟨σ3,H3,I4,qn⟩
 ·refine wpAny_passesOwn hp (cL (T.item X rfl rfl rfl hc i Nm s3 σ3 H3 X.xe I3 (Pt fr3) st3 go) λr s4 ⟨u,hr,h4⟩=>?_)
  subst hr
  refine wpAny_passesOwn hp (cL h4 λ_ s5 ⟨x,H5,I5,r5,y5,st5,fr5⟩=>?_)
  have I5':=I5.pinned (Pt fr5) (T.obj _ _ st5)
  refine wpAny_passesOwn hp (cL (hg _ s5 σ3 H5 x u _ I5' r5 (step x H5 y5)) λ_ s6 ⟨σ6,H6,I6,q6⟩=>?_)
  refine wpAny_passesOwn hp (cL (hb _ s6 σ6 H6 _ I6 q6) λf s7 q7=>?_)
  have again:∀ {σ7:St} {H7:Hp},Inv X (Nm++mR fp s5.heap) σ7 H7 s7->N σ7 H7->∃ m,m<n/\∃ i σ' H',Inv X Nm σ' H' s7/\tn i s7.heap/\(∀ b∈fp,H' b=none)/\W i m σ' H':=λ{σ7 H7} I7 n7=>by
   obtain⟨m',hm,w7⟩:=hN σ7 H7 n7
   refine⟨m',hm,i+1,σ7,H7,I7.mI,T.keep _ _ _ st5 λb hb o e=>(I7.pin (b,o) (List.mem_append_right _ (List.mem_append_right _ (jx hb e)))).1,λb hb=>?_,w7⟩
   obtain⟨o,e,d⟩:=T.obj _ _ st5 b hb
   exact(I7.pin (b,o) (List.mem_append_right _ (List.mem_append_right _ (jx hb e)))).2.1
  cases f with
  | next=>obtain⟨σ7,H7,I7,n7⟩:=q7;exact again I7 n7
  | cont=>obtain⟨σ7,H7,I7,n7⟩:=q7;exact again I7 n7
  | brk=>obtain⟨σ7,H7,I7,q7⟩:=q7;exact⟨σ7,H7,I7.mI,q7⟩
  | ret v=>obtain⟨x7,σ7,H7,I7,r7,q7⟩:=q7;exact⟨x7,σ7,H7,I7.mI,r7,q7⟩
end
end L2
namespace L2
open PySem PySem.Spec PyProof.Rows
abbrev R2:=V->V->Hp->VK->Prop
def gf(X:Cx)(f:Value->Value->Sem Value)(r:R2):Prop :=
 ∀ (Nm:List (Addr×Obj)) (s:Shared) (σ:St) (H:Hp) (x y:V) (v u:Value) (Q:VK),Inv X Nm σ H s->RelV x v->RelV y u->r x y H Q ->
  wpAny (model X.prog X.w) X.A (f v u) (EP X Nm σ Q) X.xe s
def Lh(X:Cx)(f:Value->Sem Value)(r:V->Hp->VK->Prop):Prop :=
 ∀ (Nm:List (Addr×Obj)) (s:Shared) (σ:St) (H:Hp) (x:V) (v:Value) (Q:VK),Inv X Nm σ H s->RelV x v->r x H Q ->
  wpAny (model X.prog X.w) X.A (f v) (EP X Nm σ Q) X.xe s
def cZ(X:Cx)(f:Value)(r:List V->Hp->VK->Prop):Prop :=
 ∀ (Nm:List (Addr×Obj)) (s:Shared) (σ:St) (H:Hp) (xs:List V) (us:List Value) (Q:VK),Inv X Nm σ H s->Vals xs us->r xs H Q ->
  wpAny (model X.prog X.w) X.A (call f us) (EP X Nm σ Q) X.xe s
def JU(r:R2)(ta tb:TE):TE:=fun σ H Q=>ta σ H λx H1=>tb σ H1 λy H2=>r x y H2 Q
def MT(r:V->Hp->VK->Prop)(ta:TE):TE:=fun σ H Q=>ta σ H λx H1=>r x H1 Q
def rI(C:Int->Int->Prop)(g:Int->Int->V):R2:=λx y H Q=>∃ i j,x=.int i/\y=.int j/\C i j/\Q (g i j) H
def yG(g:Int->Int->V):R2:=λx y H Q=>∃ i j,x=.int i/\y=.int j/\Q (g i j) H
def rU(g:Int->V):V->Hp->VK->Prop:=λx H Q=>∃ i,x=.int i/\Q (g i) H
section
variable{X:Cx}{a b c:Expr}{ta tb tc:TE}{pos:Pos}
theorem Iz(ha:PE X a ta)(hb:PE X b tb){Nm:List (Addr×Obj)}{s:Shared}{σ:St}{H:Hp}{R:V->V->Hp->Prop}(I:Inv X Nm σ H s)
  (h:ta σ H λx H1=>tb σ H1 λy H2=>R x y H2) {Q:Value->Shared->Prop} {f:Value->Value->Sem Value}
  (hf:∀ v u s2 x y H2,Inv X Nm σ H2 s2->RelV x v->RelV y u->R x y H2->wpAny (model X.prog X.w) X.A (f v u) Q X.xe s2) :
  wpAny (model X.prog X.w) X.A (eval a X.env) (λv s₁=>wpAny (model X.prog X.w) X.A (eval b X.env) (λu s₂=>wpAny (model X.prog X.w) X.A (f v u) Q X.xe s₂) X.xe s₁) X.xe s:=by
 refine cL (ha Nm s σ H _ I h) λv s1 ⟨x,H1,I1,r1,q1⟩=>?_
 refine cL (hb Nm s1 σ H1 _ I1 q1) λu s2 ⟨y,H2,I2,r2,q2⟩=>?_
 exact hf v u s2 x y H2 I2 r1 r2 q2
theorem Fx{op:Operator}{r:R2}(ho:gf X (binaryOp op) r)(ha:PE X a ta)(hb:PE X b tb):PE X (.BinOp a op b pos) (JU r ta tb):=by
 intro Nm s σ H Q I h
 exact wpAny_BinOp (Iz ha hb I h λv u s2 x y H2 I2 rx ry q=>ho Nm s2 σ H2 x y v u Q I2 rx ry q)
theorem JV{op:UnaryOp}{r:V->Hp->VK->Prop}(ho:Lh X (unaryOp op) r)(ha:PE X a ta):PE X (.UnaryOp op a pos) (MT r ta):=by
 intro Nm s σ H Q I h
 exact UnaryOp_ (cL (ha Nm s σ H _ I h) λv s1 ⟨x,H1,I1,r1,q1⟩=>ho Nm s1 σ H1 x v Q I1 r1 q1)
theorem K_{f:Value->Value->Sem Value}{C:Int->Int->Prop}{g:Int->Int->Int}
  (rule:∀ (i j:Int) (t u:Tok) (s:Shared) (Q:Value->Shared->Prop) (E:Value->Shared->Prop),C i j->Q (.int (g i j) s.toks) { s with toks:=s.toks+1 }->wpAny (model X.prog X.w) X.A (f (.int i t) (.int j u)) Q E s) :
  gf X f (rI C λi j=>.int (g i j)):=by
 intro Nm s σ H x y v u Q I rx ry h
 obtain⟨i,j,rfl,rfl,hc,q⟩:=h
 obtain⟨t,rfl⟩:=rx
 obtain⟨t',rfl⟩:=ry
 exact rule i j t t' s _ _ hc ⟨.int (g i j),H,I.tok _,⟨_,rfl⟩,q⟩
theorem Ky{f:Value->Value->Sem Value}{g:Int->Int->Int}
  (rule:∀ (i j:Int) (t u:Tok) (s:Shared) (Q:Value->Shared->Prop) (E:Value->Shared->Prop),Q (.int (g i j) s.toks) { s with toks:=s.toks+1 }->wpAny (model X.prog X.w) X.A (f (.int i t) (.int j u)) Q E s) :
  gf X f (yG λi j=>.int (g i j)):=by
 intro Nm s σ H x y v u Q I rx ry h
 obtain⟨i,j,rfl,rfl,q⟩:=h
 obtain⟨t,rfl⟩:=rx
 obtain⟨t',rfl⟩:=ry
 exact rule i j t t' s _ _ ⟨.int (g i j),H,I.tok _,⟨_,rfl⟩,q⟩
theorem EZ{f:Value->Value->Sem Value}{g:Int->Int->Bool}
  (rule:∀ (i j:Int) (t u:Tok) (s:Shared) (Q:Value->Shared->Prop) (E:Value->Shared->Prop),Q (.bool (g i j)) s->wpAny (model X.prog X.w) X.A (f (.int i t) (.int j u)) Q E s) :
  gf X f (yG λi j=>.bl (g i j)):=by
 intro Nm s σ H x y v u Q I rx ry h
 obtain⟨i,j,rfl,rfl,q⟩:=h
 obtain⟨t,rfl⟩:=rx
 obtain⟨t',rfl⟩:=ry
 exact rule i j t t' s _ _ ⟨.bl (g i j),H,I,rfl,q⟩
def Gk(i j:Int):Prop:=0<=j/\j<=1000000/\i.natAbs<2^64
theorem G0:gf X (binaryOp .Add) (yG λi j=>.int (i+j)):=Ky λ_ _ _ _ _ _ _ q=>add_int q
theorem F7:gf X (binaryOp .Sub) (yG λi j=>.int (i-j)):=Ky λ_ _ _ _ _ _ _ q=>sub_int q
theorem Ez:gf X (binaryOp .Mod) (rI (λ_ j=>j≠0) λi j=>.int (i.fmod j)):=K_ λ_ _ _ _ _ _ _ hc q=>mod_int' hc q
theorem Hl:gf X (binaryOp .Pow) (rI Gk λi j=>.int (i^j.toNat)):=K_ λ_ _ _ _ _ _ _ hc q=>pow_int_small hc.1 hc.2.1 hc.2.2 q
theorem M8{f:Value->Sem Value}{g:Int->Int}
  (rule:∀ (i:Int) (t:Tok) (s:Shared) (Q:Value->Shared->Prop) (E:Value->Shared->Prop),Q (.int (g i) s.toks) { s with toks:=s.toks+1 }->wpAny (model X.prog X.w) X.A (f (.int i t)) Q E s) :
  Lh X f (rU λi=>.int (g i)):=by
 intro Nm s σ H x v Q I rx h
 obtain⟨i,rfl,q⟩:=h
 obtain⟨t,rfl⟩:=rx
 exact rule i t s _ _ ⟨.int (g i),H,I.tok _,⟨_,rfl⟩,q⟩
theorem HI:Lh X (unaryOp .USub) (rU λi=>.int (-i)):=M8 λ_ _ _ _ _ q=>neg_int q
end
section
variable{X:Cx}{a b c:Expr}{ta tb tc:TE}{pos:Pos}
theorem uo{Nm:List (Addr×Obj)}{σ:St}{H:Hp}{s:Shared}{Q:VK}{k k':Bool}(I:Inv X Nm σ H s)(q:Q (.bl k) H)(e:k=k'):EP X Nm σ Q (.bool k') s:=by
 subst e
 exact⟨.bl k,H,I,rfl,q⟩
theorem yL:gf X (compareOp .Lt) (yG λi j=>.bl (decide (i<j))):=EZ λ_ _ _ _ _ _ _ q=>lt_int q
theorem sF:gf X (compareOp .LtE) (yG λi j=>.bl (decide (i<=j))):=EZ λ_ _ _ _ _ _ _ q=>le_int q
theorem F6:gf X (compareOp .Gt) (yG λi j=>.bl (decide (j<i))):=EZ λ_ _ _ _ _ _ _ q=>gt_int q
theorem F3:gf X (compareOp .GtE) (yG λi j=>.bl (decide (j<=i))):=EZ λ_ _ _ _ _ _ _ q=>ge_int q
theorem Az:gf X (compareOp .Is) (λx y H Q=>y=.cR/\Q (.bl (decide (x=.cR))) H):=by
 intro Nm s σ H x y v u Q I rx ry h
 obtain⟨rfl,q⟩:=h
 cases ry
 refine is_none_gen (uo I q ?_)
 cases x <;> first
  | (cases rx;rfl)
  | (obtain⟨t,rfl⟩:=rx;rfl)
theorem yn:gf X (compareOp .IsNot) (λx y H Q=>y=.cR/\Q (.bl (!decide (x=.cR))) H):=by
 intro Nm s σ H x y v u Q I rx ry h
 obtain⟨rfl,q⟩:=h
 cases ry
 refine isnot_none_gen (uo I q ?_)
 cases x <;> first
  | (cases rx;rfl)
  | (obtain⟨t,rfl⟩:=rx;rfl)
theorem gf.or{f:Value->Value->Sem Value}{r r':R2}(h:gf X f r)(h':gf X f r'):gf X f (λx y H Q=>r x y H Q\/r' x y H Q):=by
 intro Nm s σ H x y v u Q I rx ry q
 rcases q with q | q
 ·exact h Nm s σ H x y v u Q I rx ry q
 ·exact h' Nm s σ H x y v u Q I rx ry q
theorem dz(b:Expr){op:CmpOp}(h:autoParam (op≠.In) aD._auto_1)(h2:autoParam (op≠.NotIn) aD._auto_1):behindInMarks op b=false:=by
 have e1:(op==CmpOp.In)=false:=by cases op <;> first | rfl | exact absurd rfl h
 have e2:(op==CmpOp.NotIn)=false:=by cases op <;> first | rfl | exact absurd rfl h2
 cases b <;> simp[behindInMarks,e1,e2]
theorem Dt{op:CmpOp}{r:R2}(ho:gf X (compareOp op) r)(ha:PE X a ta)(hb:PE X b tb)(hm:behindInMarks op b=false):PE X (.Compare a [op] [b] pos) (JU r ta tb):=by
 intro Nm s σ H Q I h
 exact wpAny_Compare1 (Iz ha hb I h λv u s2 x y H2 I2 rx ry q=>ho Nm s2 σ H2 x y v u Q I2 rx ry q) hm
def Fy(t:TE):TT:=fun σ H Q=>t σ H λx H'=>∃ k,x=.bl k/\Q k H'
theorem E_{op:CmpOp}{r:R2}(ho:gf X (compareOp op) r)(ha:PE X a ta)(hb:PE X b tb)(hm:behindInMarks op b=false):PT X (.Compare a [op] [b] pos) (Fy (JU r ta tb)):=by
 intro Nm s σ H Q I h
 refine wpAny_isTrue_Compare1 (cL (ha Nm s σ H _ I h) λv s1 ⟨x,H1,I1,r1,q1⟩=>cL (hb Nm s1 σ H1 _ I1 q1) λu s2 ⟨y,H2,I2,r2,q2⟩ =>
  cL (ho Nm s2 σ H2 x y v u _ I2 r1 r2 q2) λc s3 ⟨z,H3,I3,r3,k,e,q3⟩=>?_) hm
 subst e
 cases r3
 exact wpAny_truthy_bool ⟨H3,I3,q3⟩
def xj(r r':R2)(ta tb tc:TE):TE:=fun σ H Q=>ta σ H λx H1=>tb σ H1 λy H2=>r x y H2 λz H3=>∃ k,z=.bl k ∧
 (if k=true then tc σ H3 λw' H4=>r' y w' H4 Q else Q (.bl false) H3)
theorem AB{op Pr:CmpOp}{r r':R2}(ho:gf X (compareOp op) r)(O9:gf X (compareOp Pr) r')(ha:PE X a ta)(hb:PE X b tb)(hc:PE X c tc)
  (hm:autoParam (lastMarks [op,Pr] [b,c]=false) aU._auto_1):PE X (.Compare a [op,Pr] [b,c] pos) (xj r r' ta tb tc):=by
 intro Nm s σ H Q I h
 refine Compare_chain (cL (ha Nm s σ H _ I h) λv s1 ⟨x,H1,I1,r1,q1⟩=>chain_link (cL (hb Nm s1 σ H1 _ I1 q1) λu s2 ⟨y,H2,I2,r2,q2⟩ =>
  cL (ho Nm s2 σ H2 x y v u _ I2 r1 r2 q2) λd s3 ⟨z,H3,I3,r3,k,e,q3⟩=>?_)) hm
 subst e
 cases r3
 refine wpAny_truthy_bool ?_
 cases k with
 | false=>exact ite_ff ⟨.bl false,H3,I3,rfl,q3⟩
 | true=>exact ite_tt (chain_last (cL (hc Nm s3 σ H3 _ I3 q3) λw' s4 ⟨z',H4,I4,r4,q4⟩=>O9 Nm s4 σ H4 y z' u w' Q I4 r2 r4 q4))
theorem Co{op Pr:CmpOp}{r r':R2}(ho:gf X (compareOp op) r)(O9:gf X (compareOp Pr) r')(ha:PE X a ta)(hb:PE X b tb)(hc:PE X c tc)
  (hm:autoParam (lastMarks [op,Pr] [b,c]=false) aU._auto_1):PT X (.Compare a [op,Pr] [b,c] pos) (Fy (xj r r' ta tb tc)):=by
 intro Nm s σ H Q I h
 refine isTrue_chain (cL (ha Nm s σ H _ I h) λv s1 ⟨x,H1,I1,r1,q1⟩=>test_link (cL (hb Nm s1 σ H1 _ I1 q1) λu s2 ⟨y,H2,I2,r2,q2⟩ =>
  cL (ho Nm s2 σ H2 x y v u _ I2 r1 r2 q2) λd s3 ⟨z,H3,I3,r3,k,e,q3⟩=>?_)) hm
 subst e
 cases r3
 refine wpAny_truthy_bool ?_
 cases k with
 | false =>
  obtain⟨k',e',q'⟩:=q3
  cases e'
  exact ite_ff ⟨H3,I3,q'⟩
 | true =>
  refine ite_tt (test_last (cL (hc Nm s3 σ H3 _ I3 q3) λw' s4 ⟨z',H4,I4,r4,q4⟩=>cL (O9 Nm s4 σ H4 y z' u w' _ I4 r2 r4 q4) λd' s5 ⟨z2,H5,I5,r5,k2,e2,q5⟩=>?_))
  subst e2
  cases r5
  exact wpAny_truthy_bool ⟨H5,I5,q5⟩
theorem nO:(sizeLine:Nat)<2^63:=by rw[sizeLine_eq];decide
theorem w8:gf X (binaryOp .Add) (λx y H Q=>∃ i j,x=.str i/\y=.str j/\i.length+j.length<=sizeLine/\Q (.str (i++j)) H):=by
 intro Nm s σ H x y v u Q I rx ry h
 obtain⟨i,j,rfl,rfl,hz,q⟩:=h
 obtain⟨t,rfl⟩:=rx
 obtain⟨t',rfl⟩:=ry
 exact add_str (λt' tk=>⟨.str (i++j),H,I.tok _,⟨_,rfl⟩,q⟩) hz
theorem vals1{x:V}{us:List Value}(r:Vals [x] us):∃ u,us=[u]/\RelV x u:=by
 cases r with
 | cons r1 r2=>cases r2;exact⟨_,rfl,r1⟩
theorem vals2{x y:V}{us:List Value}(r:Vals [x,y] us):∃ u w',us=[u,w']/\RelV x u/\RelV y w':=by
 cases r with
 | cons r1 r2 =>
  cases r2 with
  | cons r3 r4=>cases r4;exact⟨_,_,rfl,r1,r3⟩
theorem yZ(hc:X.calm=true):cZ X (.builtin "max") (λxs H Q=>∃ i j,xs=[.int i,.int j]/\Q (.int (if j>i then j else i)) H):=by
 intro Nm s σ H xs us Q I r h
 obtain⟨i,j,rfl,q⟩:=h
 obtain⟨u,w',rfl,⟨t,rfl⟩,⟨t',rfl⟩⟩:=vals2 r
 refine max_two_ints (I.ok.hd hc) λh' tk k=>⟨_,H,I.kept k,?_,q⟩
 by_cases hj:j>i
 ·rw[if_pos hj,if_pos hj];exact⟨_,rfl⟩
 ·rw[if_neg hj,if_neg hj];exact⟨_,rfl⟩
theorem zm(hc:X.calm=true):cZ X (.builtin "min") (λxs H Q=>∃ i j,xs=[.int i,.int j]/\Q (.int (if j<i then j else i)) H):=by
 intro Nm s σ H xs us Q I r h
 obtain⟨i,j,rfl,q⟩:=h
 obtain⟨u,w',rfl,⟨t,rfl⟩,⟨t',rfl⟩⟩:=vals2 r
 refine min_two_ints (I.ok.hd hc) λh' tk k=>⟨_,H,I.kept k,?_,q⟩
 by_cases hj:j<i
 ·rw[if_pos hj,if_pos hj];exact⟨_,rfl⟩
 ·rw[if_neg hj,if_neg hj];exact⟨_,rfl⟩
end
end L2
namespace L2
open PySem PySem.Spec PyProof.Rows
structure x_ (h:Heap) (x dx C:Addr) (mA:Str->Option Value):Prop where
 obj:h.get? x=some (PySem.W.instObj C dx)
 ns:h.Ns1 dx mA
 ne:dx≠x
theorem nq{h:Heap}{dx:Addr}{mA:Str->Option Value}(n:h.Ns1 dx mA):∃ od,h.get? dx=some od/\∀ name,PySem.W.lookIn name od=some (mA name):=by
 obtain⟨o,es,ep,ho,hd,hk,_,hm⟩:=n
 refine⟨o,ho,λname=>?_⟩
 have e:=hm name
 unfold nsFind findBy at e
 rw[← Array.find?_toList] at e
 unfold PySem.W.lookIn
 rw[hd]
 dsimp only
 split
 ·rename_i y q
  rw[q] at e
  exact congrArg some e
 ·rename_i q
  rw[q] at e
  have a:es.toList.any (·.refKey)=false:=by
   rw[List.any_eq_false]
   intro y hy
   obtain⟨z,t,hkey⟩:=hk y (Array.mem_toList_iff.mp hy)
   simp[DictEntry.refKey,hkey]
  have a':¬ es.toList.any (·.refKey)=true:=by rw[a];exact Bool.false_ne_true
  rw[if_neg a']
  exact congrArg some e
theorem x_.look{h:Heap}{x dx C:Addr}{mA:Str->Option Value}(I:x_ h x dx C mA):∃ od,PySem.W.InstAt h x (PySem.W.instObj C dx) C (some od)/\∀ name,PySem.W.lookIn name od=some (mA name) :=
 let ⟨od,ho,hl⟩:=nq I.ns
 ⟨od,⟨I.obj,rfl,rfl,ho⟩,hl⟩
section
variable{prog:Program}{w:World}{A:Around}{E:Value->Shared->Prop}{s:Shared}{K:PySem.W.Frag}{x dx C f:Addr}{mA:Str->Option Value}{name:Str}{v:Value}
theorem get_map{expr:Bool}{Q:Value->Shared->Prop}(X:K.In s.heap)(I:x_ s.heap x dx C mA)(hg:PySem.W.plainGet K C name=true)(hh:PySem.W.hasDictIn K C=true)
  (ha:PySem.W.findIn K (.ref C) name=some none) (hv:mA name=some v) (QO:PySem.W.handedIn v=true) (h:Q v { s with toks:=s.toks+1 }) :
  wpAny (model prog w) A (getAttr (.ref x) name expr) Q E s:=by
 obtain⟨od,J,hl⟩:=I.look
 exact PySem.W.get_value X J (PySem.W.plainGet_of hg).1 (PySem.W.findObj_own hh ha rfl (by rw[hl,hv])) QO h
theorem B5{pl:Sem Bool}{Q:Value×List Value->Shared->Prop}(X:K.In s.heap)(I:x_ s.heap x dx C mA)(hg:PySem.W.plainGet K C name=true)
  (hf:PySem.W.findIn K (.ref C) name=some (some (.ref f))) (ht:PySem.W.isFn K (.ref f)=true) (hv:mA name=none) (h:Q (.ref f,[.ref x]) s) :
  wpAny (model prog w) A (getMethod (.ref x) name pl) Q E s:=by
 obtain⟨od,J,hl⟩:=I.look
 exact PySem.W.method_fn X J (PySem.W.plainGet_of hg).1 (PySem.W.plainGet_of hg).2 hf (beq_iff_eq.mp ht) (by show (PySem.W.lookIn name od).map (·.isSome)=some false;rw[hl,hv];rfl) h
theorem Dz{ns:List Str}{Q:Unit->Shared->Prop}(X:K.In s.heap)(I:x_ s.heap x dx C mA)
  (hs:PySem.W.findIn K (.ref C) "__setattr__" = some (some (.builtin "object.__setattr__"))) (hp:PySem.W.plainOver K C=true) (ht:PySem.W.takerIn K C name=some none) (hh:PySem.W.hasDictIn K C=true)
  (hw:PySem.Within mA ns) (Od:ns.length<=sizeLine)
  (h:∀ h',x_ h' x dx C (λy=>if y=name then some v else mA y)->Heap.SameBut dx s.heap h'->Q () { s with heap:=h',toks:=s.toks+2 }) :
  wpAny (model prog w) A (setAttr (.ref x) name v) Q E s:=by
 obtain⟨od,J,hl⟩:=I.look
 refine PySem.W.set_plain X J hs (PySem.W.osa_open (s:={ s with toks:=s.toks+1 }) (r:=none) X J hp ht λb=>?_)
 obtain⟨cd,hc,Q5⟩:=PySem.W.any_some hh
 have hx:s.heap.get? x=some ⟨.ref C,some dx,.plain,#[]⟩:=I.obj
 refine wpAny_bind (wpAny_pure (wpAny_bind (wpAny_bind (wpAny_loadPart hx (wpAny_bind (PySem.W.Looks.here (s:={ s with toks:=s.toks+1 }) (PySem.W.looks_clsIn X hc) ?_))))))
 rw[Q5]
 refine wpAny_pure (a:=some dx) (wpAny_bind (wpAny_pure (wpAny_bind ?_)))
 refine wpAny_nsSet1 (s:={ s with toks:=s.toks+1 }) I.ns λh' Qo OR=>?_
 obtain⟨oD,esD,epD,hoD,hdD,P1⟩:=Qo.count (PySem.Within.cons name v hw)
 refine wpAny_bind (wpAny_lookBehind hoD (by rw[hdD];exact pastItsLine_dict (Nat.le_trans P1 (by rw[List.length_cons];omega))) ?_)
 exact wpAny_pure (h _ ⟨(OR.2 _ (Ne.symm I.ne)).trans I.obj,Qo,I.ne⟩ OR)
theorem Be{R:Result->Shared->Prop}{vs:List Value}{kw:List (Str×Value)}(X:K.In s.heap)(hm:PySem.W.makesIn K C=true)
  (hi:PySem.W.findIn K (.ref C) "__init__" = some (some (.ref f))) (hf:PySem.W.typeIn K (.ref f)=some (.type "function"))
  (h:codeAny (model prog w) (A.under (.builtin "type.__call__" ⟨.ref C::vs,kw⟩)) (.call (.ref f) ⟨.ref (s.heap.objs.size+1)::vs,kw⟩) (PySem.W.InitBack (s.heap.objs.size+1) R)
   { s with heap:=(s.heap.push PySem.W.emptyDict).push (PySem.W.instObj C s.heap.objs.size) }) :
  codeAny (model prog w) A (.call (.ref C) ⟨vs,kw⟩) R s:=by
 obtain⟨hh,g,d,t,os⟩:=s
 exact PySem.W.make_core (PySem.W.makes_of X hm) (PySem.W.looks_findIn X hi) (λself=>PySem.W.bind_fn X self hf) (.inl rfl) h
end
def jT(f:Str)(v:V):List (Str×V)->List (Str×V)
 | []=>[(f,v)]
 | (g,x)::r=>if g=f then (g,v)::r else (g,x)::jT f v r
theorem oo(f g:Str)(v:V):∀ fs:List (Str×V),(jT f v fs).lookup g=if g=f then some v else fs.lookup g
 | []=>by
  show List.lookup g [(f,v)]=_
  by_cases h:g=f
  ·have hb:(g==f)=true:=beq_iff_eq.mpr h
   simp only[List.lookup,hb,if_pos h]
  ·have hb:(g==f)=false:=beq_eq_false_iff_ne.mpr h
   simp only[List.lookup,hb,if_neg h]
 | (k,x)::r=>by
  have ih:=oo f g v r
  rw[show jT f v ((k,x)::r)=(if k=f then (k,v)::r else (k,x)::jT f v r) from rfl]
  by_cases hk:k=f
  ·rw[if_pos hk]
   by_cases h:g=k
   ·have hb:(g==k)=true:=beq_iff_eq.mpr h
    simp only[List.lookup,hb,if_pos (h.trans hk)]
   ·have hb:(g==k)=false:=beq_eq_false_iff_ne.mpr h
    simp only[List.lookup,hb,if_neg (λe:g=f=>h (e.trans hk.symm))]
  ·rw[if_neg hk]
   by_cases h:g=k
   ·have hb:(g==k)=true:=beq_iff_eq.mpr h
    simp only[List.lookup,hb,if_neg (λe:g=f=>hk (h.symm.trans e))]
   ·have hb:(g==k)=false:=beq_eq_false_iff_ne.mpr h
    simp only[List.lookup,hb]
    exact ih
theorem nG(f:Str)(v:V):∀ fs:List (Str×V),f∈(jT f v fs).map (·.1)/\∀ g,g∈fs.map (·.1)->g∈(jT f v fs).map (·.1)
 | []=>⟨by simp[jT],λg h=>by simp at h⟩
 | (k,x)::r=>by
  obtain⟨i1,i2⟩:=nG f v r
  rw[show jT f v ((k,x)::r)=(if k=f then (k,v)::r else (k,x)::jT f v r) from rfl]
  by_cases hk:k=f
  ·rw[if_pos hk]
   subst hk
   exact⟨by simp,λg h=>by simpa using h⟩
  ·rw[if_neg hk]
   refine⟨?_,λg h=>?_⟩
   ·rw[List.map_cons]
    exact List.mem_cons_of_mem _ i1
   ·rw[List.map_cons] at h ⊢
    rcases List.mem_cons.mp h with e | e
    ·exact List.mem_cons.mpr (.inl e)
    ·exact List.mem_cons_of_mem _ (i2 g e)
theorem nQ(f:Str)(v:V):∀ fs:List (Str×V),(jT f v fs).length<=fs.length+1
 | []=>by simp[jT]
 | (k,x)::r=>by
  have ih:=nQ f v r
  rw[show jT f v ((k,x)::r)=(if k=f then (k,v)::r else (k,x)::jT f v r) from rfl]
  by_cases hk:k=f
  ·rw[if_pos hk,List.length_cons,List.length_cons];omega
  ·rw[if_neg hk,List.length_cons,List.length_cons];omega
theorem nh.some_of{v:V}{o:Option Value}(r:nh (some v) o):∃ u,o=some u/\RelV v u:=by
 cases o with
 | none=>exact(show False from r).elim
 | some u=>exact⟨u,rfl,r⟩
theorem nh.none_of{o:Option Value}(r:nh none o):o=none:=by
 cases o with
 | none=>rfl
 | some u=>exact(show False from r).elim
theorem zF{v:V}{u:Value}(r:RelV v u):PySem.W.handedIn u=true:=by
 cases v with
 | cR=>cases (show u=Value.none from r);rfl
 | bl b=>cases (show u=Value.bool b from r);rfl
 | int i=>obtain⟨t,e⟩:=(show ∃ t,u=Value.int i t from r);cases e;rfl
 | str x=>obtain⟨t,e⟩:=(show ∃ t,u=Value.str x t from r);cases e;rfl
 | byt b=>obtain⟨t,e⟩:=(show ∃ t,u=Value.bytes b t from r);cases e;rfl
 | FV b=>obtain⟨t,e⟩:=(show ∃ t,u=Value.float b t from r);cases e;rfl
 | ref a=>cases (show u=Value.ref a from r);rfl
 | ty n=>cases (show u=Value.type n from r);rfl
section
variable{P:Program}{w:World}{H H':Hp}{h h':Heap}{a C dx:Addr}{fs Qw:List (Str×V)}
theorem lW(bJ:nP P w H h)(e:H a=some (.ins C dx fs)):∃ mA,x_ h a dx C mA/\(∀ f,nh (fs.lookup f) (mA f))/\PySem.Within mA (fs.map (·.1))/\fs.length<=1000/\H dx=some (.own a):=by
 obtain⟨d,z,ne,ob,mA,n,r,q⟩:=(show cC P w H h a (.ins C dx fs) from bJ a _ e)
 exact⟨mA,⟨ob,n,ne⟩,r,q,z,d⟩
end
structure kE (K:PySem.W.Frag) (C:Addr):Prop where
 pg:PySem.W.plainGet K C Str.empty=true
 hd:PySem.W.hasDictIn K C=true
 po:PySem.W.plainOver K C=true
 sa:PySem.W.findIn K (.ref C) "__setattr__" = some (some (.builtin "object.__setattr__"))
theorem kE.get{K:PySem.W.Frag}{C:Addr}(c:kE K C)(f:Str):PySem.W.plainGet K C f=true:=c.pg
def bH(K:PySem.W.Frag)(C:Addr)(f:Str):Prop:=PySem.W.findIn K (.ref C) f=some none
theorem bH.Fn{K:PySem.W.Frag}{C:Addr}{f:Str}(n:bH K C f):PySem.W.takerIn K C f=some none:=by
 unfold PySem.W.takerIn
 rw[show PySem.W.findIn K (.ref C) f=some none from n]
 rfl
structure Meth (K:PySem.W.Frag) (C:Addr) (m:Str) (f:Addr):Prop where
 at_:PySem.W.findIn K (.ref C) m=some (some (.ref f))
 fn:PySem.W.isFn K (.ref f)=true
 kp:PySem.W.keepIn K (.ref f)=true
section
variable{X:Cx}{Nm:List (Addr×Obj)}{σ:St}{H:Hp}{s:Shared}{a C dx:Addr}{fs:List (Str×V)}{f:Str}{v:V}{A:Around}{E:Value->Shared->Prop}
theorem wN{b:Bool}{Q:Value->Shared->Prop}(I:Inv X Nm σ H s)(e:H a=some (.ins C dx fs))(c:kE X.K C)(n:bH X.K C f)(l:fs.lookup f=some v)
  (h:∀ u s',Inv X Nm σ H s'->RelV v u->Q u s'):wpAny (model X.prog X.w) A (getAttr (.ref a) f b) Q E s:=by
 obtain⟨mA,O,r,_,_,_⟩:=lW I.bJ e
 obtain⟨u,hu,ru⟩:=nh.some_of (v:=v) (o:=mA f) (by rw[← l];exact r f)
 exact get_map I.j4 O (c.get f) c.hd n hu (zF ru) (h u _ (I.tok _) ru)
theorem qF{m:Str}{g:Addr}{pl:Sem Bool}{Q:Value×List Value->Shared->Prop}(I:Inv X Nm σ H s)(e:H a=some (.ins C dx fs))(c:kE X.K C)(k:Meth X.K C m g)(l:fs.lookup m=none)
  (h:Q (.ref g,[.ref a]) s):wpAny (model X.prog X.w) A (getMethod (.ref a) m pl) Q E s:=by
 obtain⟨mA,O,r,_,_,_⟩:=lW I.bJ e
 have hn:mA m=none:=nh.none_of (by rw[← l];exact r m)
 exact B5 I.j4 O (c.get m) k.at_ k.fn hn h
theorem xn{y:V}{u:Value}{Q:Unit->Shared->Prop}(I:Inv X Nm σ H s)(e:H a=some (.ins C dx fs))(c:kE X.K C)(n:bH X.K C f)(hl:fs.length<1000)(ry:RelV y u)
  (h:∀ s',Inv X Nm σ (upd H a (.ins C dx (jT f y fs))) s'->Q () s'):wpAny (model X.prog X.w) A (setAttr (.ref a) f u) Q E s:=by
 obtain⟨mA,O,r,wi,_,ho⟩:=lW I.bJ e
 have hz:(fs.map (·.1)).length<=sizeLine:=by rw[List.length_map,sizeLine_eq];omega
 refine Dz I.j4 O c.sa c.po n.Fn c.hd wi hz λh' O' sb=>h _ ?_
 have hd:∃ o,h'.get? dx=some o:=let ⟨o,_,_,e',_⟩:=O'.ns;⟨o,e'⟩
 refine I.write (x:=a) (e:=dx) (by rw[e];exact True.intro) (.inr ho) (λb q hb z=>(sb.2 b hb).trans z) hd ?_
 refine⟨by rw[aw O.ne];exact ho,?_,O.ne,O'.obj,_,O'.ns,λg=>?_,λg hg=>?_⟩
 ·have:=nQ f y fs;omega
 ·show nh ((jT f y fs).lookup g) (if g=f then some u else mA g)
  rw[oo]
  by_cases q:g=f
  ·rw[if_pos q,if_pos q];exact ry
  ·rw[if_neg q,if_neg q];exact r g
 ·by_cases q:g=f
  ·rw[q];exact(nG f y fs).1
  ·refine(nG f y fs).2 g (wi g λz=>hg ?_)
   show (if g=f then some u else mA g)=none
   rw[if_neg q];exact z
theorem Inv.made(I:Inv X Nm σ H s):Inv X Nm σ (upd (upd H s.heap.objs.size (.own (s.heap.objs.size+1))) (s.heap.objs.size+1) (.ins C s.heap.objs.size []))
  { s with heap:=(s.heap.push PySem.W.emptyDict).push (PySem.W.instObj C s.heap.objs.size) }:=by
 have e1:(s.heap.push PySem.W.emptyDict).get? s.heap.objs.size=some PySem.W.emptyDict:=Heap.get?_push_size s.heap rfl
 have e2:((s.heap.push PySem.W.emptyDict).push (PySem.W.instObj C s.heap.objs.size)).get? (s.heap.objs.size+1)=some (PySem.W.instObj C s.heap.objs.size):=by
  have:=Heap.get?_push_size (s.heap.push PySem.W.emptyDict) (o:=PySem.W.instObj C s.heap.objs.size) rfl
  rwa [Heap.size_push] at this
 have e3:(s.heap.push PySem.W.emptyDict).Ns s.heap.objs.size (λ_=>none):=⟨PySem.W.emptyDict,#[],_,e1,rfl,(λe he=>absurd he (by simp)),λ_=>rfl⟩
 have I1:=I.laid (a:=s.heap.objs.size) (o:=.own (s.heap.objs.size+1)) (h':=s.heap.push PySem.W.emptyDict) (t':=s.toks) (λb u q=>Heap.get?_push_of_some _ q) (Nat.le_refl _) ⟨_,e1⟩
 refine I1.laid (a:=s.heap.objs.size+1) (o:=.ins C s.heap.objs.size []) (t':=s.toks) (λb u q=>Heap.get?_push_of_some _ q) (Nat.le_of_eq (Heap.size_push _ _)) ?_
 have ne:s.heap.objs.size≠s.heap.objs.size+1:=Nat.ne_of_lt (Nat.lt_succ_self _)
 refine⟨by rw[aw ne,aE],Nat.zero_le _,ne,e2,λ_=>none,(Heap.Ns1.of_empty e3).at λo q=>Heap.get?_push_of_some _ q,λ_=>True.intro,λy hy=>absurd rfl hy⟩
theorem Dw{prog:Program}{w:World}{env:Env}{e:Expr}{f:Str}{pos:Pos}{s:Shared}{Q:Value->Shared->Prop}(hb:attributeBase e f env (eval e env)=eval e env)
  (h:wpAny (model prog w) A (eval e env) (λo s₁=>wpAny (model prog w) A (getAttr o f true) Q E s₁) E s):wpAny (model prog w) A (eval (.Attribute e f pos) env) Q E s :=
 Attribute_any_ h (by rw[arm_eval_Attribute,hb])
end
def Li(K:PySem.W.Frag)(ta:TE)(f:Str):TE:=fun σ H Q=>ta σ H λx H1=>∃ a C dx fs v,x=.ref a/\H1 a=some (.ins C dx fs)/\kE K C/\bH K C f/\fs.lookup f=some v/\Q v H1
def LS(K:PySem.W.Frag)(ta tv:TE)(f:Str):TS:=λD σ H=>tv σ H λy H1=>ta σ H1 λx H2=>∃ a C dx fs,x=.ref a/\H2 a=some (.ins C dx fs)/\kE K C/\bH K C f/\fs.length<1000 ∧
 D.nx σ (upd H2 a (.ins C dx (jT f y fs)))
section
variable{X:Cx}{o e value:Expr}{f:Str}{pos pos' tpos:Pos}{ta tv:TE}
theorem HB(he:PE X e ta)(hb:attributeBase e f X.env (eval e X.env)=eval e X.env):PE X (.Attribute e f pos) (Li X.K ta f):=by
 intro Nm s σ H Q I h
 refine Dw hb (cL (he Nm s σ H _ I h) λu s1 ⟨x,H1,I1,rx,a,C,dx,fs,v,ex,ea,c,n,l,q⟩=>?_)
 subst ex
 obtain rfl:u=Value.ref a:=rx
 exact wN I1 ea c n l λu' s2 I2 ru=>⟨v,H1,I2,ru,q⟩
theorem HP(ha:PE X o ta)(hv:PE X value tv)(hs:swapsWith value (some (.Attribute o f pos')) pos.line X.env=pure false):PS X (.Assign [.Attribute o f pos'] value pos) (LS X.K ta tv f):=by
 intro Nm s σ H D I h
 refine plainObj_wpAny_Assign_Attribute (cL (hv Nm s σ H _ I h) λu s1 ⟨y,H1,I1,ry,q⟩=>cL (ha Nm s1 σ H1 _ I1 q) λov s2 ⟨x,H2,I2,rx,a,C,dx,fs,ex,ea,c,n,l,q2⟩=>?_) hs
 subst ex
 obtain rfl:ov=Value.ref a:=rx
 exact xn I2 ea c n l ry λs3 I3=>⟨σ,_,I3,q2⟩
end
section
variable{X:Cx}{Nm:List (Addr×Obj)}{σ:St}{H:Hp}{s:Shared}{A:Around}{E:Value->Shared->Prop}{Q:Value->Shared->Prop}{c:Value}{b:Bool}
inductive jV (K:PySem.W.Frag) (H:Hp):V->Value->Prop where
 | cR:jV K H .cR (.type "NoneType")
 | bl (x:Bool):jV K H (.bl x) (.type "bool")
 | int (i:Int):jV K H (.int i) (.type "int")
 | str (x:Str):jV K H (.str x) (.type "str")
 | FV (x:UInt64):jV K H (.FV x) (.type "float")
 | lst {a:Addr} {xs:List V} (e:H a=some (.lst xs)):jV K H (.ref a) (.type "list")
 | rN {a:Addr} {o:Obj} {xs:List V} (e:H a=some (.rN o (.lst xs))):jV K H (.ref a) (.type "list")
 | tup {a:Addr} {xs:List V} (e:H a=some (.tup xs)):jV K H (.ref a) (.type "tuple")
 | dK {a:Addr} {Oe:List (Key×V)} (e:H a=some (.dK Oe)):jV K H (.ref a) (.type "dict")
 | dT {a:Addr} {Oe:List (List Key×V)} (e:H a=some (.dT Oe)):jV K H (.ref a) (.type "dict")
 | ins {a C dx:Addr} {fs:List (Str×V)} (e:H a=some (.ins C dx fs)) (cl:kE K C) (ha:PySem.W.findIn K (.ref C) "__class__" = some (some (.builtin "object.__class__")))
   (hn:PySem.W.specialIn K (.builtin "object.__class__") "__get__" = some (some (.builtin "getset_descriptor.__get__"))) (Jf:PySem.W.takesIn K (.builtin "object.__class__")=some true)
   (hm:PySem.W.mroIn K C (.type "object")=some true):jV K H (.ref a) (.ref C)
theorem sT{x:V}{u t:Value}(I:Inv X Nm σ H s)(rx:RelV x u)(ty:jV X.K H x t)(e:PySem.W.kitOne X.K t c=some b)(h:∀ tk,Q (.bool b) { s with toks:=tk }) :
  wpAny (model X.prog X.w) A (call (.builtin "isinstance") [u,c]) Q E s:=by
 cases ty with
 | cR=>cases (show u=Value.none from rx);exact PySem.W.kia_one PySem.W.kitx_none I.j4 True.intro e (λz=>nomatch z) h
 | bl y=>cases (show u=Value.bool y from rx);exact PySem.W.kia_one PySem.W.kitx_bool I.j4 True.intro e (λz=>nomatch z) h
 | int i=>obtain⟨t,q⟩:=(show ∃ t,u=Value.int i t from rx);cases q;exact PySem.W.kia_one PySem.W.kitx_int I.j4 True.intro e (λz=>nomatch z) h
 | str y=>obtain⟨t,q⟩:=(show ∃ t,u=Value.str y t from rx);cases q;exact PySem.W.kia_one PySem.W.kitx_str I.j4 True.intro e (λz=>nomatch z) h
 | FV y=>obtain⟨t,q⟩:=(show ∃ t,u=Value.float y t from rx);cases q;exact PySem.W.kia_one PySem.W.kitx_float I.j4 True.intro e (λz=>nomatch z) h
 | @lst a xs ea =>
  cases (show u=Value.ref a from rx)
  obtain⟨_,_,n,_,h1⟩:=(show cC X.prog X.w H s.heap a (.lst xs) from I.bJ a _ ea)
  exact PySem.W.kia_one PySem.W.kitx_list I.j4 ⟨_,h1,rfl⟩ e (λz=>nomatch z) h
 | @rN a ob xs ea =>
  cases (show u=Value.ref a from rx)
  obtain⟨_,_,_,n,_,h1⟩:=(show cC X.prog X.w H s.heap a (.rN ob (.lst xs)) from I.bJ a _ ea)
  exact PySem.W.kia_one PySem.W.kitx_list I.j4 ⟨_,h1,rfl⟩ e (λz=>nomatch z) h
 | @tup a xs ea =>
  cases (show u=Value.ref a from rx)
  obtain⟨_,_,_,p⟩:=(show cC X.prog X.w H s.heap a (.tup xs) from I.bJ a _ ea)
  obtain⟨o,h1,h2,_⟩:=p
  exact PySem.W.kia_one PySem.W.kitx_tuple I.j4 ⟨o,h1,h2⟩ e (λz=>nomatch z) h
 | @dK a Oe ea =>
  cases (show u=Value.ref a from rx)
  obtain⟨_,_,vs,_,p⟩:=(show cC X.prog X.w H s.heap a (.dK Oe) from I.bJ a _ ea)
  obtain⟨o,es,ep,h1,h2,_⟩:=p
  exact PySem.W.kia_one PySem.W.kitx_dict I.j4 ⟨o,h1,h2.1⟩ e (λz=>nomatch z) h
 | @dT a Oe ea =>
  cases (show u=Value.ref a from rx)
  obtain⟨_,_,xs,_,o,es,ep,h1,h2,_⟩:=(show cC X.prog X.w H s.heap a (.dT Oe) from I.bJ a _ ea)
  exact PySem.W.kia_one PySem.W.kitx_dict I.j4 ⟨o,h1,h2.1⟩ e (λz=>nomatch z) h
 | @ins a C dx fs ea cl ha hn Jf hm =>
  cases (show u=Value.ref a from rx)
  obtain⟨mA,O,_⟩:=lW I.bJ ea
  obtain⟨od,J,_⟩:=O.look
  exact PySem.W.kia_one (PySem.W.kitx_own (cl.get _) cl.hd ha hn Jf hm) I.j4 J e (λz=>nomatch z) h
end
end L2
namespace L2
open PySem PySem.Spec PyProof.Rows
structure cJ (k:Nat) (A:Around):Prop where
 hd:A.handled=none
 dp:A.depth+3*k+5<recursionLimit
 un:A.units+16*k+200<cLine
theorem cJ.mono{j k:Nat}{A:Around}(r:cJ k A)(h:j<=k):cJ j A:=⟨r.hd,by have:=r.dp;omega,by have:=r.un;omega⟩
theorem cJ.deeper{k:Nat}{A:Around}(r:cJ (k+1) A)(env:Env):cJ k (A.deeper env) :=
 ⟨r.hd,by have:=r.dp;show A.depth+1+3*k+5<_;omega,by have:=r.un;show A.units+3+16*k+200<_;omega⟩
theorem xB{A:Around}{C:Addr}{us:List Value}{kw:List (Str×Value)}:(A.under (.builtin "type.__call__" ⟨.ref C::us,kw⟩)).depth=A.depth+1:=by
 first | rfl | simp[Around.under,Code.weight,Code.isCreation,Code.isGuard,Code.isCaller,Code.frames,Code.isFrame,guardIds]
theorem w9{A:Around}{C:Addr}{us:List Value}{kw:List (Str×Value)}:(A.under (.builtin "type.__call__" ⟨.ref C::us,kw⟩)).units=A.units+1:=by
 first | rfl | simp[Around.under,Code.cUnits,Code.frames,Code.isFrame]
theorem cJ.make{k:Nat}{A:Around}(r:cJ (k+1) A)(C:Addr)(us:List Value)(kw:List (Str×Value)):cJ k (A.under (.builtin "type.__call__" ⟨.ref C::us,kw⟩)) :=
 ⟨r.hd,by have:=r.dp;rw[xB];omega,by have:=r.un;rw[w9];omega⟩
theorem cJ.depth{k:Nat}{A:Around}(r:cJ k A):A.depth<recursionLimit:=by have:=r.dp;omega
theorem cJ.units{k:Nat}{A:Around}(r:cJ k A):A.units+64<cLine:=by have:=r.un;omega
def Kd:TA:=λ_ H Q=>Q [] H
def Jn(ta:TE)(tr:TA):TA:=fun σ H Q=>ta σ H λx H1=>tr σ H1 λxs H2=>Q (x::xs) H2
section
variable{X:Cx}{e:Expr}{es:List Expr}{te:TE}{t:TA}{pos:Pos}
theorem kz:PA X [] Kd:=λ_ _ _ _ H Q I h=>Calls.spliced_nil ⟨[],H,I,.nil,h⟩
theorem eB(ha:PE X e te)(hr:PA X es t)(hs:autoParam (starEach (e::es) X.env=(false,eval e X.env)::starEach es X.env) aR._auto_1):PA X (e::es) (Jn te t):=by
 intro pos Nm s σ H Q I h
 rw[hs]
 show wpAny _ _ (spliced ((false,eval e X.env)::backTo pos (starEach es X.env))) _ _ s
 refine Calls.spliced_cons (cL (ha Nm s σ H _ I h) λu s1 ⟨x,H1,I1,r1,q1⟩=>?_)
 exact cL (hr pos Nm s1 σ H1 _ I1 q1) λus s2 ⟨xs,H2,I2,r2,q2⟩=>⟨x::xs,H2,I2,.cons r1 r2,q2⟩
def LD(t:TA):TE:=fun σ H Q=>t σ H λxs H1=>xs.length<=sizeLine/\∀ p,H1 p=none->Q (.ref p) (upd H1 p (.tup xs))
def Mz(t:TA):TE:=fun σ H Q=>t σ H λxs H1=>xs.length<=sizeLine/\∀ p,H1 p=none->Q (.ref p) (upd H1 p (.lst xs))
theorem A7{x1}(h:PA X es t):PE X (.Tuple es x1 pos) (LD t):=by
 intro Nm s σ H Q I hq
 refine wpAny_Tuple_spliced (cL (h pos Nm s σ H _ I hq) λus s1 ⟨xs,H1,I1,r,z,q⟩=>⟨by rw[← r.length];exact z,?_⟩)
 have hf:H1 s1.heap.objs.size=none:=I1.bJ.fresh (Nat.le_refl _)
 refine⟨.ref s1.heap.objs.size,upd H1 s1.heap.objs.size (.tup xs),I1.laid (t':=s1.toks) (λb u e=>Heap.get?_push_of_some _ e) (Nat.le_refl _) ?_,rfl,q _ hf⟩
 exact⟨z,us,r,⟨_,Heap.get?_push_size _ rfl,rfl,_,rfl⟩⟩
theorem CH(h:PA X es t):PE X (.List es pos) (Mz t):=by
 intro Nm s σ H Q I hq
 refine wpAny_List_spliced (cL (h pos Nm s σ H _ I hq) λus s1 ⟨xs,H1,I1,r,z,q⟩=>⟨by rw[← r.length];exact z,?_⟩)
 have hf:H1 s1.heap.objs.size=none:=I1.bJ.fresh (Nat.le_refl _)
 refine⟨.ref s1.heap.objs.size,upd H1 s1.heap.objs.size (.lst xs),I1.laid (t':=s1.toks) (λb u e=>Heap.get?_push_of_some _ e) (Nat.le_refl _) ?_,rfl,q _ hf⟩
 exact⟨z,us,0,r,Heap.get?_push_size _ rfl⟩
end
abbrev Sp:=List V->Hp->VK->XK->Prop
abbrev Fl:=List Env->Hp->Shared->XK->Value->Shared->Prop
structure xc (P:Program) (w:World) (K:PySem.W.Frag) (mg:Str->Option Value) (base:Heap) (A:Around) (outer:List Env) (s:Shared) (H:Hp):Prop where
 frames:A.frames=some outer
 mod:Mod K mg base
 bs:∀ b o,base.get? b=some o->s.heap.get? b=some o/\H b=none
 Fo:base.objs.size<=s.heap.objs.size
 oI:s.heap.FunFrames base outer
 Gg:∀ b∈wL outer,H b=none
 bJ:nP P w H s.heap
 bare:AllBare s.gens
def CE(outer:List Env)(P:Program)(w:World)(H:Hp)(s:Shared)(Q:VK)(u:Value)(s':Shared):Prop :=
 ∃ v H',s'.os=s.os/\AllBare s'.gens/\Un (wL outer) [] H H' s.heap s'.heap/\nP P w H' s'.heap/\RelV v u/\Q v H'
def CR(CX:Fl)(outer:List Env)(P:Program)(w:World)(H:Hp)(s:Shared)(Q:VK)(E:XK)(r:Result)(s':Shared):Prop :=
 match r with
 | .ok (.ret u)=>CE outer P w H s Q u s'
 | .ok _=>False
 | .error e=>CX outer H s E e s'
structure aO (P:Program) (w:World) (K:PySem.W.Frag) (mg:Str->Option Value) (base:Heap) (CX:Fl) (k:Nat) (f:Addr) (fd:FuncData) (ps:List Str) (sp:Sp):Prop where
 len:∀ vs H Q E,sp vs H Q E->vs.length=ps.length
 run:∀ (A:Around) (outer:List Env) (s:Shared) (H:Hp) (args:Args) (us:List Value) (vs:List V) (Q:VK) (E:XK),cJ k A->xc P w K mg base A outer s H->BindsTo s fd args (ps.zip us)->Vals vs us->sp vs H Q E ->
  codeAny (model P w) A (.call (.ref f) args) (CR CX outer P w H s Q E) s
theorem xc.make{P:Program}{w:World}{K:PySem.W.Frag}{mg:Str->Option Value}{base:Heap}{A:Around}{outer:List Env}{s:Shared}{H:Hp}(e:xc P w K mg base A outer s H)(C:Addr)(us:List Value)(kw:List (Str×Value)) :
  xc P w K mg base (A.under (.builtin "type.__call__" ⟨.ref C::us,kw⟩)) outer s H:=⟨by first | exact e.frames | (simpa [Around.under,Code.envs,Code.isFrame,pushEnvs] using e.frames),e.mod,e.bs,e.Fo,e.oI,e.Gg,e.bJ,e.bare⟩
section
variable{X:Cx}{Nm:List (Addr×Obj)}{σ:St}{H:Hp}{s s':Shared}
theorem Inv.lJ(I:Inv X Nm σ H s):xc X.prog X.w X.K X.mg X.base X.A X.stack s H :=
 ⟨I.ok.frames,I.ok.mod,I.bs,Nat.le_trans I.ok.Fo I.sz,I.stack,I.sY,I.bJ,I.bare⟩
theorem Inv.after{Q:VK}{u:Value}(I:Inv X Nm σ H s)(h:CE X.stack X.prog X.w H s Q u s'):EP X Nm σ Q u s':=by
 obtain⟨v,H',os,bare,un,bJ,r,q⟩:=h
 obtain⟨hh,g,d,t,os'⟩:=s'
 obtain rfl:os'=s.os:=os
 exact⟨v,H',I.call (h':=hh) (g':=g) (d':=d) (t':=t) (ch:=[]) un bJ bare (λb z=>absurd z (by simp)),r,q⟩
end
def Binds(K:PySem.W.Frag)(fd:FuncData)(ps:List Str)(ds:List Value):Prop :=
 ∀ (s:Shared) (us:List Value),K.In s.heap->(us++ds).length=ps.length->BindsTo s fd ⟨us,[]⟩ (ps.zip (us++ds))
theorem Binds.all{K:PySem.W.Frag}{fd:FuncData}{ps:List Str}(h:∀ us:List Value,us.length=ps.length->bindArgs fd ⟨us,[]⟩=pure (ps.zip us)):Binds K fd ps []:=λs us _ hl=>by
 rw[List.append_nil] at hl ⊢
 exact .of_eq (h us hl)
section
variable{X:Cx}{CX:Fl}{k:Nat}{f C:Addr}{fd:FuncData}{ps:List Str}{sp:Sp}{N7:List V}{ds:List Value}{E:XK}{x m:Str}{p pos apos:Pos}{e o:Expr}{es:List Expr}{ta:TE}{t:TA}
structure Mk (K:PySem.W.Frag) (C f:Addr):Prop where
 makes:PySem.W.makesIn K C=true
 init:PySem.W.findIn K (.ref C) "__init__" = some (some (.ref f))
 fn:PySem.W.isFn K (.ref f)=true
 kp:PySem.W.keepIn K (.ref C)=true
end
section
variable{X:Cx}{CX:Fl}{k:Nat}{f C:Addr}{fd:FuncData}{ps ks:List Str}{sp:Sp}{E:XK}{x m:Str}{p pos apos kpos:Pos}{e o:Expr}{es:List Expr}{kws:List Keyword}{te ta:TE}{t tk:TA}{nm:Option Str}
variable{g:List Value->List Value->List Value}{gV:List V->List V->List V}
end
structure cA (N P:List Str) (sc:Scope):Prop where
 kind:sc.kind=.function
 co:sc.isCoroutine=false
 gen:sc.isGenerator=false
 nd:N.Nodup
 pre:N.take P.length=P
 par:∀ x∈P,sc.names.lookup x=some .local\/sc.names.lookup x=some .cell
 Hj:∀ y∈sc.names,y.2≠.free
theorem sA{kindOf:Str->Option NameKind}{x:Str}:∀ {binds:List (Str×Value)} {m:Str->Option Value},(∀ v,(x,v) ∉ binds)->bindL kindOf binds m x=m x
 | [],_,_=>rfl
 | (n,v)::r,m,h=>by
  unfold bindL
  rw[sA λw hw=>h w (List.mem_cons_of_mem _ hw)]
  split
  ·have:x≠n:=by rintro rfl;exact h v List.mem_cons_self
   simp[this]
  ·rfl
theorem sI{kindOf:Str->Option NameKind}{x:Str}:∀ {binds:List (Str×Value)} {m:Str->Option Value},(∀ v,(x,v) ∉ binds)->bindC kindOf binds m x=m x
 | [],_,_=>rfl
 | (n,v)::r,m,h=>by
  unfold bindC
  rw[sI λw hw=>h w (List.mem_cons_of_mem _ hw)]
  split
  ·rfl
  ·have:x≠n:=by rintro rfl;exact h v List.mem_cons_self
   simp[this]
theorem sM{kindOf:Str->Option NameKind}{x:Str}{v:Value}:∀ {P:List Str} {vs:List Value} {i:Nat} {m:Str->Option Value},P.Nodup->P[i]?=some x->vs[i]?=some v->kindOf x=some .local ->
  bindL kindOf (P.zip vs) m x=some v
 | [],_,_,_,_,h,_,_=>by simp at h
 | _::_,[],_,_,_,_,h,_=>by simp at h
 | p::P,w::vs,0,m,nd,h1,h2,hk=>by
  simp at h1 h2;subst h1;subst h2
  show bindL kindOf ((p,w)::P.zip vs) m p=_
  unfold bindL
  rw[sA λv hv=>(List.nodup_cons.mp nd).1 (List.of_mem_zip hv).1,if_pos hk]
  simp
 | p::P,w::vs,i+1,m,nd,h1,h2,hk=>by
  show bindL kindOf ((p,w)::P.zip vs) m x=_
  unfold bindL
  exact sM (i:=i) (List.nodup_cons.mp nd).2 (by simpa using h1) (by simpa using h2) hk
theorem sy{kindOf:Str->Option NameKind}{x:Str}{v:Value}:∀ {P:List Str} {vs:List Value} {i:Nat} {m:Str->Option Value},P.Nodup->P[i]?=some x->vs[i]?=some v->kindOf x≠some .local ->
  bindC kindOf (P.zip vs) m x=some v
 | [],_,_,_,_,h,_,_=>by simp at h
 | _::_,[],_,_,_,_,h,_=>by simp at h
 | p::P,w::vs,0,m,nd,h1,h2,hk=>by
  simp at h1 h2;subst h1;subst h2
  show bindC kindOf ((p,w)::P.zip vs) m p=_
  unfold bindC
  rw[sI λv hv=>(List.nodup_cons.mp nd).1 (List.of_mem_zip hv).1,if_neg hk]
  simp
 | p::P,w::vs,i+1,m,nd,h1,h2,hk=>by
  show bindC kindOf ((p,w)::P.zip vs) m x=_
  unfold bindC
  exact sy (i:=i) (List.nodup_cons.mp nd).2 (by simpa using h1) (by simpa using h2) hk
def start(N:List Str)(vs:List V):St:=vs.map some++List.replicate (N.length-vs.length) none
def lY(CX:Fl)(P:Program)(w:World)(K:PySem.W.Frag)(mg:Str->Option Value)(base:Heap)(N:List Str)(qual:Str)(scope:Scope)(f:Addr)(cd:Value)(A:Around)(outer:List Env)(s:Shared)(H:Hp)(E:XK):Cx where
 prog:=P
 w:=w
 K:=K
 mg:=mg
 base:=base
 A:=A.deeper (envOfC qual scope s.heap.objs.size f cd)
 N:=N
 s₀:=s
 H₀:=H
 env:=envOfC qual scope s.heap.objs.size f cd
 outer:=outer
 stack:=envOfC qual scope s.heap.objs.size f cd::outer
 ex:=[]
 calm:=true
 fn:=λ_=>true
 pn:=[]
 xe:=λe s'=>wpAny (model P w) (A.deeper (envOfC qual scope s.heap.objs.size f cd)) (leaving (envOfC qual scope s.heap.objs.size f cd) e) (λ_ s''=>CX outer H s E e s'') (λe' s''=>CX outer H s E e' s'') s'
theorem wt{sc:Scope}{n:Nat}{x:Str}(h:sc.names.lookup x=some .cell):∃ c,(cellsFrom n sc.names []).lookup x=some c:=by
 have q:=PySem.W.cellsFrom_some sc.names n [] (.inl h)
 exact Option.isSome_iff_exists.mp q
theorem zu{CX:Fl}{P:Program}{w:World}{K:PySem.W.Frag}{mg:Str->Option Value}{base:Heap}{N ps:List Str}{qual:Str}{scope:Scope}{f:Addr}{cd:Value}{A:Around}{outer:List Env}{s s1:Shared}{H:Hp}{E:XK}{us:List Value}{vs:List V}
  (S:cA N ps scope) (hd:A.handled=none) (e0:xc P w K mg base A outer s H) (hl:vs.length=ps.length) (r:Vals vs us)
  (x:InCallC s s.heap.objs.size (bindL (envOfC qual scope s.heap.objs.size f cd).kindOf (ps.zip us) λ_=>none) (cellsFrom (s.heap.objs.size+1) scope.names []) (bindC (envOfC qual scope s.heap.objs.size f cd).kindOf (ps.zip us) λ_=>none) s1) :
  Inv (lY CX P w K mg base N qual scope f cd A outer s H E) [] (start N vs) H s1:=by
 have NQ:ps.length<=N.length:=by have:=congrArg List.length S.pre;rw[List.length_take] at this;omega
 obtain⟨h1,tk,rfl,hk⟩:=x.done
 have oB:∀ b:Addr,b ∉ (lY CX P w K mg base N qual scope f cd A outer s H E).ex:=λb z=>absurd (show b∈([]:List Addr) from z) (by simp)
 refine⟨⟨e0.mod,S.kind,rfl,rfl,Nat.le_refl _,λy z c h1 h2=>?_,λy hy=>?_,λy c _ h=>?_,λ_=>hd,Around.frames_deeper e0.frames,.inr ⟨rfl,rfl⟩,λb z=>absurd z (oB b),e0.bs,e0.Fo,λb _ _=>oB b,λb z=>absurd z (oB b),e0.oI,e0.Gg⟩,
  rfl,e0.bare,Un.kept hk,⟨_,x.toInCall.ns,λi y v h1 h2 h3=>?_⟩,λy c h=>⟨_,x.cell y c h⟩,e0.bJ.fresh (Nat.le_refl _),λy c h=>?_,λp hp=>absurd (show p∈([]:List (Addr×Obj)) from hp) (by simp),e0.bJ.kept hk,?_⟩
 ·exact name_of_addr x.apart (PySem.mem_of_lookup h1) (PySem.mem_of_lookup h2)
 ·have hy:scope.names.lookup y=some .cell\/scope.names.lookup y=some .free:=hy
  rcases hy with hy | hy
  ·exact wt hy
  ·exact absurd rfl (S.Hj _ (PySem.mem_of_lookup hy))
 ·exact Nat.le_of_lt (x.above y c (PySem.mem_of_lookup h))
 ·have hi:i<vs.length:=by
   unfold start at h2
   by_cases hi:i<vs.length
   ·exact hi
   ·rw[List.getElem?_append_right (by simpa using hi)] at h2
    rw[List.getElem?_replicate] at h2
    split at h2 <;> cases h2
  have ha:vs[i]?=some v:=by
   unfold start at h2
   rw[List.getElem?_append_left (by simpa using hi),List.getElem?_map] at h2
   cases e:vs[i]? with
   | none=>rw[e] at h2;cases h2
   | some a=>rw[e] at h2;cases h2;rfl
  obtain⟨u,hu,rv⟩:=r.get ha
  have hp:ps[i]?=some y:=by
   rw[← S.pre,List.getElem?_take_of_lt (by omega)];exact h1
  have ndP:ps.Nodup:=by rw[← S.pre];exact S.nd.sublist (List.take_sublist _ _)
  refine⟨u,rv,?_⟩
  rcases S.par y (List.mem_of_getElem? hp) with k | k
  ·exact .inl ⟨k,sM ndP hp hu k⟩
  ·obtain⟨c,e⟩:=wt (n:=s.heap.objs.size+1) k
   refine .inr ⟨.inl k,c,e,?_⟩
   have q:=x.cell y c e
   rw[sy ndP hp hu (by show scope.names.lookup y≠_;rw[k];decide)] at q
   exact q
 ·exact e0.bJ.fresh (Nat.le_of_lt (x.above y c (PySem.mem_of_lookup h)))
 ·unfold start
  show _=N.length
  rw[List.length_append,List.length_map,List.length_replicate]
  omega
theorem Ki{CX:Fl}{P:Program}{w:World}{K:PySem.W.Frag}{mg:Str->Option Value}{base:Heap}{k:Nat}{f:Addr}{name qual:Str}{params:Arguments}{body:List Stmt}{scope:Scope}{dV kV doc pm NM ct oc:Value}{an od:Option Addr}
  {PF:Array (Option Value)} {N ps:List Str} {sp:Sp} (lk:K.lookup f=some ⟨oc,od,.func (PySem.W.fnOf name qual params body scope dV kV doc pm an NM ct),PF⟩) (OH:PySem.W.codeIn K NM qual=true) (S:cA N ps scope)
  (len:∀ vs H Q E,sp vs H Q E->vs.length=ps.length)
  (PZ:∀ (A:Around) (outer:List Env) (s:Shared) (H:Hp) (vs:List V) (Q:VK) (E:XK),cJ k (A.deeper (envOfC qual scope s.heap.objs.size f NM))->sp vs H Q E ->
   ∃ t,mL (lY CX P w K mg base N qual scope f NM A outer s H E) body t/\t { nx:=λ_ H'=>Q .cR H',rt:=Q } (start N vs) H) :
  aO P w K mg base CX (k+1) f (PySem.W.fnOf name qual params body scope dV kV doc pm an NM ct) ps sp:=by
 refine⟨len,λA outer s H args us vs Q E hr e0 hb r hsp=>?_⟩
 have hl:=len _ _ _ _ hsp
 have KX:K.In s.heap:=e0.mod.FN.keeps λb o e=>(e0.bs b o e).1
 have lim:s.heap.NoLimit:=e0.mod.nolimit.keeps λb o e=>(e0.bs b o e).1
 have Q_:∀ y∈ps.zip us,scope.names.lookup y.1=some .local\/(scope.names.lookup y.1=some .cell/\((cellsFrom (s.heap.objs.size+1) scope.names []).lookup y.1).isSome=true):=λ⟨n,v⟩ hy=>by
  rcases S.par n (List.of_mem_zip hy).1 with q | q
  ·exact .inl q
  ·exact .inr ⟨q,PySem.W.cellsFrom_some _ _ _ (.inl q)⟩
 refine codeAny_call_function hr.depth (KX _ _ lk) rfl S.co S.gen rfl (PySem.W.codeRec_of KX OH) (hb _ _ _ _ ?_)
 refine wpAny_newFunctionEnv_cells S.kind Q_ λenv he s1 x=>?_
 subst he
 refine⟨lim.keeps x.toInCall.keep,codeAny_func ?_⟩
 obtain⟨t,ht,hq⟩:=PZ A outer s H vs Q E (hr.deeper _) hsp
 have I:Inv (lY CX P w K mg base N qual scope f NM A outer s H E) [] (start N vs) H s1:=zu S hr.hd e0 hl r x
 refine wpAny_mono (ht [] s1 (start N vs) H _ I hq) (λfl s' hs=>?_) λe s' hs=>hs
 have fin:∀ {σ':St} {H':Hp} {v:V} {u:Value},Inv (lY CX P w K mg base N qual scope f NM A outer s H E) [] σ' H' s'->RelV v u->Q v H'->CE outer P w H s Q u s' :=
  λ{σ' H' v u} J rv q=>⟨v,H',J.os,J.bare,J.base,J.bJ,rv,q⟩
 cases fl with
 | ret u =>
  obtain⟨v,σ',H',J,rv,q⟩:=hs
  exact fin J rv q
 | next =>
  obtain⟨σ',H',J,q⟩:=hs
  exact fin (v:=V.cR) (u:=Value.none) J rfl q
 | brk =>
  obtain⟨_,_,_,q⟩:=hs
  exact False.elim q
 | cont =>
  obtain⟨_,_,_,q⟩:=hs
  exact False.elim q
end L2
namespace L2
open PySem PySem.Spec PyProof.Rows
section
variable{X:Cx}{x:Str}{p pos:Pos}{e:Expr}{es:List Expr}{t:TA}{id T:String}{r:List V->Hp->VK->Prop}
def Mo(r:List V->Hp->VK->Prop)(t:TA):TE:=fun σ H Q=>t σ H λvs H1=>r vs H1 Q
theorem me(hc:cZ X (.builtin id) r)(hg:Gl X x)(hm:X.mg x=none)(hv:bootBuiltins x=some (.builtin id))(ha:PA X (e::es) t)(hn:autoParam (x ≠ "__name__") aD._auto_1)(Oo:autoParam ((x==("__debug__" : Str))=false) aD._auto_1)
  (he:autoParam (starEach (e::es) X.env=(false,eval e X.env)::starEach es X.env) aR._auto_1) (NQ:autoParam ((backTo pos (starEach es X.env)).any (·.1)=false) aR._auto_1):PE X (.Call (.Name x p) (e::es) [] pos) (Mo r t):=by
 intro Nm s σ H Q I h
 refine wpAny_Call_Name_kw (jm I hg hm hv ?_ hn Oo)
 exact PyProof.Rows.callWith_builtin1 (cL (ha pos Nm s σ H _ I h) λus s1 ⟨vs,H1,I1,r1,q1⟩=>hc Nm s1 σ H1 vs us Q I1 r1 q1) he NQ
theorem sj(hc:cZ X (.type T) r)(hg:Gl X x)(hm:X.mg x=none)(hv:bootBuiltins x=some (.type T))(ha:PA X (e::es) t)(hn:autoParam (x ≠ "__name__") aD._auto_1)(Oo:autoParam ((x==("__debug__" : Str))=false) aD._auto_1)
  (he:autoParam (starEach (e::es) X.env=(false,eval e X.env)::starEach es X.env) aR._auto_1) (NQ:autoParam ((backTo pos (starEach es X.env)).any (·.1)=false) aR._auto_1):PE X (.Call (.Name x p) (e::es) [] pos) (Mo r t):=by
 intro Nm s σ H Q I h
 refine wpAny_Call_Name_kw (jm I hg hm hv ?_ hn Oo)
 exact PyProof.Rows.callWith_type1 (cL (ha pos Nm s σ H _ I h) λus s1 ⟨vs,H1,I1,r1,q1⟩=>hc Nm s1 σ H1 vs us Q I1 r1 q1) he NQ
end
end L2
namespace HT
open PySem PyProof.Rows
def lexLt:List Int->List Int->Bool
 | [],[]=>false
 | [],_::_=>true
 | _::_,[]=>false
 | x::xs,y::ys=>if x=y then lexLt xs ys else decide (x<y)
theorem lG(x y:Int)(xs ys:List Int):lexLt (x::xs) (y::ys)=if x=y then lexLt xs ys else decide (x<y):=rfl
theorem ly:lexLt [] []=false:=rfl
theorem ku(y:Int)(ys:List Int):lexLt [] (y::ys)=true:=rfl
theorem kh(x:Int)(xs:List Int):lexLt (x::xs) []=false:=rfl
theorem vk(A:Around)(s:Shared)(a:Int)(t:Tok)(c:Int)(u:Tok):∃ e,SeqAt.EqAt A s (.int a t) (.int c u) e/\(e=true ↔ a=c) :=
 ⟨(a==c),SeqAt.EqAt.int_int a t c u,by simp⟩
theorem BF(A:Around)(s:Shared)(a:Int)(t:Tok)(c:Int)(u:Tok)(prog:Program)(w:World)(E:Value->Shared->Prop)(Q:Value->Shared->Prop)(h:Q (.bool (decide (a<c))) s) :
  wpAny (model prog w) A (richCompare .Lt (.int a t) (.int c u)) Q E s :=
 (PyProof.Rows.lt_int h:wpAny (model prog w) A (compareOp .Lt (.int a t) (.int c u)) Q E s)
section
open PySem.SeqAt
open PySem.AutoSeq1 (wpAny_loadPart')
open PySem.MeetsSeq PySem.MeetsSeq2 PySem.MeetsSeq3
theorem rJ(l b:Addr)(items Nz:Array Value)(n n2:Nat)(dd PH:Option Addr)(sl PU:Array (Option Value))(ns ms:List Int)(hi:IntsAre items.toList ns)(hj:IntsAre Nz.toList ms) :
  Meets (Builtin.«tuple.__lt__» ⟨[.ref l,.ref b],[]⟩)
   (λ_ R s=>s.heap.get? l=some { cls:=.type "tuple", dict:=dd,data:=.seq items n,slots:=sl }/\s.heap.get? b=some { cls:=.type "tuple", dict:=PH,data:=.seq Nz n2,slots:=PU } ∧
    R (.ok (.ret (.bool (lexLt ns ms)))) s) :=
 .of_wp λprog w A R s h=>by
  obtain⟨hp,g,d,tk,os⟩:=s;obtain⟨hl,hb,h⟩:=h
  have f2:=AutoSeq1.sub_tuple_tuple
  have z1:items.size=ns.length:=by rw[← hi.length];simp
  have z2:Nz.size=ms.length:=by rw[← hj.length];simp
  wp_walk using wpAny_loadPart' hl,wpAny_loadPart' hb,wpAny_forIn_list _ (λrest b s'=>b.1=none/\s'=⟨hp,g,d,tk,os⟩/\∃ (vs ws:List Value) (PQ PN:List Int),rest=vs.zip ws ∧
   IntsAre vs PQ/\IntsAre ws PN/\PQ.length+Nz.size=PN.length+items.size/\R (.ok (.ret (.bool (lexLt PQ PN)))) ⟨hp,g,d,tk,os⟩) _
  case turn =>
   rintro⟨y,x⟩ rest b s' ⟨QG,rfl,vs,ws,PQ,PN,hz,QP,Qq,hlen,hR⟩
   cases QP with
   | nil=>rw[List.zip_nil_left] at hz;cases hz
   | cons a t hvi' =>
    cases Qq with
    | nil=>rw[List.zip_nil_right] at hz;cases hz
    | cons c u hwi' =>
     rw[List.zip_cons_cons] at hz
     injection hz with hyx qi
     injection hyx with hy hx
     subst hy hx
     rw[lG] at hR
     simp only[List.length_cons] at hlen
     obtain⟨e,he,P7⟩:=vk A.in1 ⟨hp,g,d,tk,os⟩ a t c u
     refine wpAny_bind (he prog w _ _ ?_)
     cases e with
     | true =>
      rw[if_pos (P7.mp rfl)] at hR
      wp_walk
      exact⟨rfl,rfl,_,_,_,_,qi,hvi',hwi',by omega,hR⟩
     | false =>
      rw[if_neg (λq=>absurd (P7.mpr q) Bool.false_ne_true)] at hR
      have hri:=BF A.in1 ⟨hp,g,d,tk,os⟩ a t c u prog w
      wp_walk using hri
      exact⟨_,rfl,by simpa using hR⟩
  case fin =>
   rintro⟨b1,b2⟩ s' ⟨QG,rfl,vs,ws,PQ,PN,hz,QP,Qq,hlen,hR⟩
   simp only at QG
   subst QG
   have hv:lexLt PQ PN=decide (items.size<Nz.size):=by
    cases QP with
    | nil =>
     cases Qq with
     | nil =>
      simp only[List.length_nil] at hlen
      rw[ly]
      exact(decide_eq_false (by omega)).symm
     | cons c u hw =>
      simp only[List.length_nil,List.length_cons] at hlen
      rw[ku]
      exact(decide_eq_true (by omega)).symm
    | cons a t hv =>
     cases Qq with
     | nil =>
      simp only[List.length_nil,List.length_cons] at hlen
      rw[kh]
      exact(decide_eq_false (by omega)).symm
     | cons c u hw =>
      rw[List.zip_cons_cons] at hz
      cases hz
   rw[hv] at hR
   wp_walk
   exact⟨_,rfl,by simpa [Builtin.Tuple.tupleCompareSizes] using hR⟩
  case h =>
   exact⟨rfl,rfl,items.toList,Nz.toList,ns,ms,rfl,hi,hj,by omega,h⟩
end
section
variable{prog:Program}{w:World}{A:Around}{E:Value->Shared->Prop}{s:Shared}
theorem xK{l b:Addr}{items Nz:Array Value}{ns ms:List Int}{Q:Value->Shared->Prop}(hl:IsTup s.heap l items)(hb:IsTup s.heap b Nz)(hi:IntsAre items.toList ns)(hj:IntsAre Nz.toList ms)
  (hu:A.units<cLine) (h:Q (.bool (lexLt ns ms)) s):wpAny (model prog w) A (compareOp .Lt (.ref l) (.ref b)) Q E s:=by
 obtain⟨⟨cls,dd,data,sl⟩,ho,hc,n,hd⟩:=id hl
 obtain⟨⟨QF,PH,data2,PU⟩,Pb,Pn,n2,hd2⟩:=id hb
 simp only at hc hd Pn hd2
 subst hc hd Pn hd2
 exact richCompare_meets_room (op:=.Lt) ⟨_,ho,rfl⟩ ⟨_,Pb,rfl⟩ PySem.F.slot_tuple_lt PySem.F.entry_tuple_lt (PySem.F.args_tuple_lt_2 _ _) (rJ l b items Nz n n2 dd PH sl PU ns ms hi hj)
  ⟨ho,Pb,show Value.bool (lexLt ns ms)≠Value.notImplemented/\Q (.bool (lexLt ns ms)) s from ⟨(λx=>nomatch x),h⟩⟩ hu
theorem Em{t b:Addr}{vs ws:List Value}{Q:Value->Shared->Prop}(ht:IsTup s.heap t vs.toArray)(hb:IsTup s.heap b ws.toArray)(hv:vs≠[])
  (h1:ws=[]->Q (.ref t) s) (h2:ws≠[]->Q (.ref s.heap.objs.size) { s with heap:=s.heap.push { cls:=.type "tuple", data:=.seq (vs++ws).toArray } })
  (Od:vs.length+ws.length<=sizeLine):wpAny (model prog w) A (binaryOp .Add (.ref t) (.ref b)) Q E s:=by
 obtain⟨⟨cls,dd,data,sl⟩,ho,hc,n,hd⟩:=id ht
 obtain⟨⟨QF,PH,data2,PU⟩,Pb,Pn,n2,hd2⟩:=id hb
 simp only at hc hd Pn hd2
 subst hc hd Pn hd2
 have e:vs.toArray++ws.toArray=(vs++ws).toArray:=by simp
 by_cases hw:ws=[]
 ·exact concat_meets ⟨_,ho,rfl⟩ ⟨_,Pb,rfl⟩ noFill_tuple_add seq_tuple_add PySem.F.slot_tuple_add PySem.F.entry_tuple_add (PySem.F.args_tuple_add_2 _ _)
   (tuple_addW1 t b vs.toArray ws.toArray n n2 dd PH sl PU (by simpa using hv) (by simp[hw])) ⟨ho,Pb,h1 hw⟩
 ·refine concat_meets ⟨_,ho,rfl⟩ ⟨_,Pb,rfl⟩ noFill_tuple_add seq_tuple_add PySem.F.slot_tuple_add PySem.F.entry_tuple_add (PySem.F.args_tuple_add_2 _ _)
   (tuple_addW2 t b vs.toArray ws.toArray n n2 dd PH sl PU (by simpa using hv) (by simpa using hw) (by rw[List.size_toArray,List.size_toArray];exact Od)) ⟨ho,Pb,?_⟩
  rw[e]
  exact h2 hw
def da(n d:Nat):Option Int->Nat
 | none=>d
 | some v=>if v<0 then (v+(n:Int)).toNat else min v.toNat n
theorem GH(n d:Nat)(hd:d<=n)(o:Option Int):da n d o<=n:=by
 cases o with
 | none=>exact hd
 | some v =>
  show (if v<0 then (v+(n:Int)).toNat else min v.toNat n)<=n
  by_cases hv:v<0
  ·rw[if_pos hv];omega
  ·rw[if_neg hv];exact Nat.min_le_right _ _
theorem yd(v:Int)(n d:Nat):(if v<0 then max (v+(n:Int)) 0 else min v (n:Int))=((da n d (some v):Nat):Int):=by
 show (if v<0 then max (v+(n:Int)) 0 else min v (n:Int))=(((if v<0 then (v+(n:Int)).toNat else min v.toNat n):Nat):Int)
 by_cases hv:v<0
 ·simp only[if_pos hv];omega
 ·simp only[if_neg hv];omega
theorem xo(lo hi:Option Int)(n:Nat):Builtin.Slice.sliceAdjust lo hi 1 (n:Int)=(((da n 0 lo:Nat):Int),((da n n hi:Nat):Int)):=by
 have h1:¬ ((1:Int)<0):=by omega
 unfold Builtin.Slice.sliceAdjust
 simp only[h1,if_false]
 refine Prod.ext ?_ ?_
 ·cases lo with
  | none=>rfl
  | some v=>exact yd v n 0
 ·cases hi with
  | none=>rfl
  | some v=>exact yd v n n
theorem xh(i j:Nat):Builtin.Slice.slicePlaces (i:Int) (j:Int) 1=j-i:=by
 unfold Builtin.Slice.slicePlaces
 have h1:(1:Int)>0:=by omega
 simp only[h1,if_true,Int.ediv_one]
 split <;> omega
theorem pE{v:Value}{o:Option Int}{Q:Option Int->Shared->Prop}(p:IsPart v o)(h:Q o s):wpAny (model prog w) A (Builtin.Slice.slicePartIndex v) Q E s:=by
 cases p with
 | none=>exact slicePart_none h
 | int i t=>exact slicePart_int h
theorem i7{sl:Addr}{vl vu:Value}{lo hi:Option Int}{n:Nat}{Q:Int×Int×Nat->Shared->Prop}(hs:s.heap.IsSliceOf sl vl vu .none)(pl:IsPart vl lo)(pu:IsPart vu hi)
  (h:Q (((da n 0 lo:Nat):Int),1,da n n hi-da n 0 lo) s):wpAny (model prog w) A (Builtin.Slice.sliceApplied (.ref sl) (pure (n:Int))) Q E s:=by
 obtain⟨os,QK,hcs,Q6⟩:=id hs
 unfold Builtin.Slice.sliceApplied Builtin.Slice.sliceFields
 refine wpAny_bind (wpAny_bind (wpAny_field QK Q6 (x:=vl) rfl (wpAny_bind (wpAny_field QK Q6 (x:=vu) rfl (wpAny_bind (wpAny_field QK Q6 (x:=.none) rfl (wpAny_pure ?_)))))))
 refine wpAny_bind (slicePart_none ?_)
 show wpAny _ _ (if ((1:Int)==0)=true then _ else _) _ _ s
 rw[if_neg (by decide)]
 refine wpAny_bind (pE pl (wpAny_bind (pE pu (wpAny_bind (wpAny_pure ?_)))))
 show wpAny _ _ (match Builtin.Slice.sliceAdjust lo hi 1 (n:Int) with | (lo,hi)=>pure (lo,(1:Int),Builtin.Slice.slicePlaces lo hi 1)) _ _ s
 rw[xo lo hi n]
 show wpAny _ _ (pure (((da n 0 lo:Nat):Int),(1:Int),Builtin.Slice.slicePlaces ((da n 0 lo:Nat):Int) ((da n n hi:Nat):Int) 1)) _ _ s
 rw[xh]
 exact wpAny_pure h
theorem Bg(xs:Array Value)(i k:Nat):((List.range k).filterMap λ(m:Nat)=>xs[((i:Int)+(m:Int)*1).toNat]?).toArray=((xs.toList.drop i).take k).toArray:=by
 have e:(λ(m:Nat)=>xs[((i:Int)+(m:Int)*1).toNat]?)=λm=>xs[i+m]?:=by
  funext m
  have:((i:Int)+(m:Int)*1).toNat=i+m:=by omega
  rw[this]
 rw[e]
 have:=pick_run xs i k
 rw[List.filterMap_map] at this
 have e2:((λx=>xs[x]?)∘λx=>i+x)=λm=>xs[i+m]?:=rfl
 rw[e2] at this
 rw[this]
theorem l5{t sl:Addr}{items:Array Value}{vl vu:Value}{lo hi:Option Int}{Q:Value->Shared->Prop}(ht:IsTup s.heap t items)(hs:s.heap.IsSliceOf sl vl vu .none)(pl:IsPart vl lo)(pu:IsPart vu hi)
  (hw:¬ (da items.size 0 lo=0/\da items.size items.size hi=items.size))
  (h:Q (.ref s.heap.objs.size) { s with heap:=s.heap.push { cls:=.type "tuple", data:=.seq ((items.toList.drop (da items.size 0 lo)).take (da items.size items.size hi-da items.size 0 lo)).toArray } })
  (Od:items.size<=sizeLine):wpAny (model prog w) A (getItem (.ref t) (.ref sl)) Q E s:=by
 have PB:sizeOk (.seq ((items.toList.drop (da items.size 0 lo)).take (da items.size items.size hi-da items.size 0 lo)).toArray):=by
  show ((items.toList.drop (da items.size 0 lo)).take (da items.size items.size hi-da items.size 0 lo)).toArray.size<=sizeLine
  rw[List.size_toArray,List.length_take,List.length_drop,Array.length_toList]
  omega
 have hj:da items.size items.size hi<=items.size:=GH _ _ (Nat.le_refl _) hi
 obtain⟨os,QK,hcs,Q6⟩:=id hs
 have hTs:s.TypeIs (.ref sl) "slice" := ⟨os,QK,hcs⟩
 unfold getItem
 try with_reducible refine wpAny_holding ?_
 first | refine wpAny_bind (wpAny_pure ?_) | skip
 refine wpAny_bind (wpAny_sequenceKey ht.typeIs (by decide) ?_)
 refine wpAny_bind (wpAny_callSpecial?_slot (name:=Str.ofString "__getitem__") ht.typeIs PyProof.Rows.slot_tuple_getitem
  (wpAny_call_entry PyProof.Rows.slot_tuple_getitem ht.typeIs entry_tuple_getitem ?_ (args_tuple_getitem _ _)))
 show wpAny _ _ (Builtin.Tuple.tupleItemsOf (.ref t) >>= _) _ _ s
 refine wpAny_bind (tupleItemsOf_ ht ?_)
 refine wpAny_bind (wpAny_typeOf hTs ?_)
 rw[if_pos (by decide)]
 refine wpAny_bind (i7 hs pl pu ?_)
 have hno:¬ ((((da items.size 0 lo:Nat):Int)==0&&(1:Int)==1&&(da items.size items.size hi-da items.size 0 lo)==items.size)=true):=by
  intro q
  rw[Bool.and_eq_true,Bool.and_eq_true] at q
  have q1:((da items.size 0 lo:Nat):Int)=0:=eq_of_beq q.1.1
  have q2:da items.size items.size hi-da items.size 0 lo=items.size:=eq_of_beq q.2
  exact hw ⟨by omega,by omega⟩
 show wpAny _ _ (if (((da items.size 0 lo:Nat):Int)==0&&(1:Int)==1&&(da items.size items.size hi-da items.size 0 lo)==items.size)=true then _ else _) _ _ s
 rw[if_neg hno,Bg]
 first
  | exact wpAny_bind (m:=Builtin.Tuple.tupleExact _) (wpAny_newObj_type (wpAny_pure ⟨_,rfl,wpAny_pure h⟩) PB)
  | exact wpAny_bind (m:=Builtin.Tuple.tupleExact _) (wpAny_newObj_type (wpAny_bind (wpAny_pure (wpAny_pure ⟨_,rfl,wpAny_pure h⟩))) PB)
  | exact wpAny_bind (wpAny_bind (m:=Builtin.Tuple.tupleExact _) (wpAny_newObj_type (wpAny_pure (wpAny_pure ⟨_,rfl,wpAny_pure h⟩)) PB))
  | exact wpAny_bind (wpAny_bind (m:=Builtin.Tuple.tupleExact _) (wpAny_newObj_type (wpAny_pure ⟨_,rfl,wpAny_pure h⟩) PB))
end
end HT
namespace L2
open PySem PySem.Spec PyProof.Rows
abbrev TO:=St->Hp->(Option Int->Hp->Prop)->Prop
def PO(X:Cx)(e:Option Expr)(t:TO):Prop :=
 ∀ (Nm:List (Addr×Obj)) (s:Shared) (σ:St) (H:Hp) (Q:Option Int->Hp->Prop),Inv X Nm σ H s->t σ H Q ->
  wpAny (model X.prog X.w) X.A (evalPart e X.env) (λu s'=>∃ o H',Inv X Nm σ H' s'/\IsPart u o/\Q o H') X.xe s
def E6:TO:=λ_ H Q=>Q none H
def JJ(t:TE):TO:=fun σ H Q=>t σ H λx H1=>∃ i,x=.int i/\Q (some i) H1
theorem intsAre_of{ns:List Int}:∀ {us:List Value},Vals (ns.map V.int) us->IntsAre us ns:=by
 induction ns with
 | nil=>intro us r;rw[List.map_nil] at r;cases r;exact .nil
 | cons n ns ih =>
  intro us r
  rw[List.map_cons] at r
  cases r with
  | cons r1 r2 =>
   obtain⟨t,e⟩:=r1
   subst e
   exact .cons n t (ih r2)
section
variable{X:Cx}{e:Expr}{te:TE}{lo hi:Option Expr}{tl th:TO}{pos p2:Pos}
theorem Dx:PO X none E6:=by
 intro Nm s σ H Q I h
 rw[evalPart_none]
 exact wpAny_pure ⟨none,H,I,.none,h⟩
theorem Ee(h:PE X e te):PO X (some e) (JJ te):=by
 intro Nm s σ H Q I hw
 rw[evalPart_some]
 refine cL (h Nm s σ H _ I hw) λu s1 ⟨x,H1,I1,r1,q1⟩=>?_
 obtain⟨i,rfl,q⟩:=q1
 obtain⟨t,rfl⟩:=r1
 exact⟨some i,H1,I1,.int i t,q⟩
def Dl(X:Cx)(r:V->Option Int->Option Int->Hp->VK->Prop):Prop :=
 ∀ (Nm:List (Addr×Obj)) (s:Shared) (σ:St) (H:Hp) (x:V) (v vl vu:Value) (lo hi:Option Int) (sl:Addr) (Q:VK),Inv X Nm σ H s->RelV x v->s.heap.IsSliceOf sl vl vu .none->IsPart vl lo->IsPart vu hi->r x lo hi H Q ->
  ∃ T id,typeLookup (.type T) "__getitem__" = pure (some (.builtin id))/\s.TypeIs v T/\wpAny (model X.prog X.w) X.A (getItem v (.ref sl)) (EP X Nm σ Q) X.xe s
theorem Dl.or{r r':V->Option Int->Option Int->Hp->VK->Prop}(h:Dl X r)(h':Dl X r'):Dl X (λx lo hi H Q=>r x lo hi H Q\/r' x lo hi H Q):=by
 intro Nm s σ H x v vl vu lo hi sl Q I rx hs pl pu q
 rcases q with q | q
 ·exact h Nm s σ H x v vl vu lo hi sl Q I rx hs pl pu q
 ·exact h' Nm s σ H x v vl vu lo hi sl Q I rx hs pl pu q
def Na(r:V->Option Int->Option Int->Hp->VK->Prop)(te:TE)(tl th:TO):TE:=fun σ H Q=>te σ H λx H1=>tl σ H1 λl H2=>th σ H2 λu H3=>r x l u H3 Q
theorem Cz{r:V->Option Int->Option Int->Hp->VK->Prop}(hr:Dl X r)(he:PE X e te)(hl:PO X lo tl)(hu:PO X hi th):PE X (.Subscript e (.Slice lo hi none p2) pos) (Na r te tl th):=by
 intro Nm s σ H Q I h
 refine Subscript_ (cL (he Nm s σ H _ I h) λv s1 ⟨x,H1,I1,r1,q1⟩=>?_)
 refine wpAny_Slice (cL (hl Nm s1 σ H1 _ I1 q1) λvl s2 ⟨l,H2,I2,pl,q2⟩=>cL (hu Nm s2 σ H2 _ I2 q2) λvu s3 ⟨u,H3,I3,pu,q3⟩=>?_)
 rw[evalPart_none]
 refine wpAny_pure ?_
 have I4:Inv X Nm σ H3 { s3 with heap:=s3.heap.push { cls:=.type "slice", data:=.fields #[vl,vu,.none] } }:=I3.kept (t':=s3.toks) λb ob q=>Heap.get?_push_of_some _ q
 obtain⟨T,id,hT,ht,hg⟩:=hr Nm { s3 with heap:=s3.heap.push { cls:=.type "slice", data:=.fields #[vl,vu,.none] } } σ H3 x v vl vu l u s3.heap.objs.size Q I4 r1 (Heap.IsSliceOf.new ..) pl pu q3
 show wpAny (model X.prog X.w) X.A (subscriptTail e (.Slice lo hi none p2) v (.ref s3.heap.objs.size)) (EP X Nm σ Q) X.xe { s3 with heap:=s3.heap.push { cls:=.type "slice", data:=.fields #[vl,vu,.none] } }
 exact tail_any (ops:=[.ref s3.heap.objs.size,v]) ht hT hg (by with_unfolding_all rfl)
def vH(xs:List V)(lo hi:Option Int):List V:=(xs.drop (HT.da xs.length 0 lo)).take (HT.da xs.length xs.length hi-HT.da xs.length 0 lo)
theorem oj(xs:List V)(lo hi:Option Int):(vH xs lo hi).length<=xs.length:=by
 unfold vH
 rw[List.length_take,List.length_drop]
 omega
def MA(K:PySem.W.Frag):V->Option Int->Option Int->Hp->VK->Prop:=λx lo hi H Q=>∃ a xs,x=.ref a/\gc K H a xs ∧
 ¬ (HT.da xs.length 0 lo=0/\HT.da xs.length xs.length hi=xs.length)/\∀ p,H p=none->Q (.ref p) (upd H p (.tup (vH xs lo hi)))
theorem IB:Dl X (MA X.K):=by
 intro Nm s σ H x v vl vu lo hi sl Q I rx hs pl pu h
 obtain⟨a,xs,rfl,hx,hw,q⟩:=h
 cases rx
 obtain⟨Nn,r,ht,hz⟩:=I.tuple hx
 have hlen:Nn.toArray.size=xs.length:=by rw[List.size_toArray];exact r.length.symm
 refine⟨"tuple", _,PyProof.Rows.slot_tuple_getitem.lookup,ht.typeIs,?_⟩
 refine HT.l5 ht hs pl pu (by rw[hlen];exact hw) ?_ (by rw[hlen];exact hz)
 rw[hlen]
 refine⟨.ref s.heap.objs.size,_,I.laid (t':=s.toks) (o:=.tup (vH xs lo hi)) (λb ob q=>Heap.get?_push_of_some _ q) (Nat.le_refl _) ?_,rfl,q _ (I.bJ.fresh (Nat.le_refl _))⟩
 exact⟨Nat.le_trans (oj xs lo hi) hz,_,(r.drop (HT.da xs.length 0 lo)).take (HT.da xs.length xs.length hi-HT.da xs.length 0 lo),IsTup.new _ _⟩
def FT(K:PySem.W.Frag):R2:=λx y H Q=>∃ a b xs ys,x=.ref a/\y=.ref b/\gc K H a xs/\gc K H b ys/\xs≠[]/\xs.length+ys.length<=sizeLine ∧
 (ys=[]->Q (.ref a) H)/\(ys≠[]->∀ p,H p=none->Q (.ref p) (upd H p (.tup (xs++ys))))
theorem Vals.mj{xs:List V}{us:List Value}(r:Vals xs us):us=[] ↔ xs=[]:=by
 cases r with
 | nil=>simp
 | cons _ _=>simp
theorem EW:gf X (binaryOp .Add) (FT X.K):=by
 intro Nm s σ H x y v u Q I rx ry h
 obtain⟨a,b,xs,ys,rfl,rfl,ha,hb,hx,hz,q1,q2⟩:=h
 cases rx
 cases ry
 obtain⟨Nn,r1,p1,_⟩:=I.tuple ha
 obtain⟨Ot,r2,p2,_⟩:=I.tuple hb
 refine HT.Em p1 p2 (λz=>hx (r1.mj.mp z)) (λz=>⟨.ref a,H,I,rfl,q1 (r2.mj.mp z)⟩) (λz=>?_) (by rw[← r1.length,← r2.length];exact hz)
 refine⟨.ref s.heap.objs.size,_,I.laid (t':=s.toks) (o:=.tup (xs++ys)) (λb ob q=>Heap.get?_push_of_some _ q) (Nat.le_refl _) ?_,rfl,q2 (λw=>z (r2.mj.mpr w)) _ (I.bJ.fresh (Nat.le_refl _))⟩
 exact⟨by rw[List.length_append];exact hz,_,r1.append r2,IsTup.new _ _⟩
end
end L2
namespace L2
open PySem PySem.Spec PyProof.Rows
def As(n:Nat)(i:Int):Option Nat:=if 0<=i then (if i<n then some i.toNat else none) else if -(n:Int)<=i then some (i+n).toNat else none
def uV{α:Type}(xs:List α)(i:Int):Option α:=(As xs.length i).bind λj=>xs[j]?
theorem yx{n:Nat}{i:Int}{j:Nat}(h:As n i=some j):seqIndex? i n=some j/\j<n/\-(n:Int)<=i/\i<n:=by
 unfold As at h
 by_cases h0:0<=i
 ·rw[if_pos h0] at h
  by_cases h1:i<n
  ·rw[if_pos h1] at h
   have e:i.toNat=j:=Option.some.inj h
   exact⟨by rw[seqIndex_of h0 h1,e],by omega,by omega,h1⟩
  ·rw[if_neg h1] at h;cases h
 ·rw[if_neg h0] at h
  by_cases h1:-(n:Int)<=i
  ·rw[if_pos h1] at h
   have e:(i+n).toNat=j:=Option.some.inj h
   exact⟨by rw[seqIndex_neg (by omega) h1,e],by omega,h1,by omega⟩
  ·rw[if_neg h1] at h;cases h
theorem uQ{α:Type}{xs:List α}{i:Int}{v:α}(h:uV xs i=some v):∃ j,seqIndex? i xs.length=some j/\xs[j]?=some v/\j<xs.length/\-(xs.length:Int)<=i/\i<xs.length:=by
 unfold uV at h
 cases e:As xs.length i with
 | none=>rw[e] at h;cases h
 | some j =>
  rw[e] at h
  obtain⟨h1,h2,h3,h4⟩:=yx e
  exact⟨j,h1,h,h2,h3,h4⟩
theorem tH{α:Type}{xs:List α}{j:Nat}{v:α}(h:xs[j]?=some v):uV xs (j:Int)=some v:=by
 have hj:j<xs.length:=(List.getElem?_eq_some_iff.mp h).1
 have e:As xs.length (j:Int)=some j:=by
  unfold As
  rw[if_pos (by omega),if_pos (by omega)];simp
 unfold uV;rw[e];exact h
def uB(b:Expr):Prop:=∀ o i,subscripted b false o i=operate [o,i] (getItem o i)
def Eh(X:Cx)(r:R2):Prop :=
 ∀ (value slice:Expr) (Nm:List (Addr×Obj)) (s:Shared) (σ:St) (H:Hp) (x y:V) (v u:Value) (Q:VK),Inv X Nm σ H s->RelV x v->RelV y u->r x y H Q ->
  subscripted slice false v u=operate [v,u] (getItem v u)->wpAny (model X.prog X.w) X.A (subscriptTail value slice v u) (EP X Nm σ Q) X.xe s
def MN(X:Cx)(id:String)(r:V->List V->Hp->VK->Prop):Prop :=
 ∀ (Nm:List (Addr×Obj)) (s:Shared) (σ:St) (H:Hp) (x:V) (xs:List V) (v:Value) (us:List Value) (Q:VK),Inv X Nm σ H s->RelV x v->Vals xs us->r x xs H Q ->
  wpAny (model X.prog X.w) X.A (call (.builtin id) (v::us)) (EP X Nm σ Q) X.xe s
section
variable{X:Cx}{a b:Expr}{ta tb:TE}{pos:Pos}
theorem Eh.or{r r':R2}(h:Eh X r)(h':Eh X r'):Eh X (λx y H Q=>r x y H Q\/r' x y H Q):=by
 intro value slice Nm s σ H x y v u Q I rx ry q hs
 rcases q with q | q
 ·exact h value slice Nm s σ H x y v u Q I rx ry q hs
 ·exact h' value slice Nm s σ H x y v u Q I rx ry q hs
theorem JH{r:R2}(hr:Eh X r)(ha:PE X a ta)(hb:PE X b tb)(hs:uB b):PE X (.Subscript a b pos) (JU r ta tb):=by
 intro Nm s σ H Q I h
 exact Subscript_ (Iz ha hb I h λv u s2 x y H2 I2 rx ry q=>hr a b Nm s2 σ H2 x y v u Q I2 rx ry q (hs _ _))
def KN(K:PySem.W.Frag):R2:=λx y H Q=>∃ p xs i v,x=.ref p/\y=.int i/\hX K H p xs/\uV xs i=some v/\Q v H
def Kz(K:PySem.W.Frag):R2:=λx y H Q=>∃ p xs i v,x=.ref p/\y=.int i/\gc K H p xs/\uV xs i=some v/\Q v H
def JD:R2:=λx y H Q=>∃ z i c,x=.str z/\y=.int i/\z.length<=sizeLine/\uV z.cps.toList i=some c/\Q (.str ⟨#[c]⟩) H
theorem En:Eh X (KN X.K):=by
 intro value slice Nm s σ H x y v u Q I rx ry h hs
 obtain⟨p,xs,i,z,rfl,rfl,hq,he,q⟩:=h
 cases rx
 obtain⟨t,rfl⟩:=ry
 obtain⟨Nn,r,pl,hz⟩:=I.list hq
 obtain⟨j,h1,h2,h3,h4,h5⟩:=uQ he
 obtain⟨w,ew,O7⟩:=r.get h2
 have hl:=r.length
 have hn:=nO
 have fin:EP X Nm σ Q w s:=⟨z,H,I,O7,q⟩
 by_cases h0:0<=i
 ·have hj:i.toNat=j:=by
   rw[seqIndex_of h0 h5] at h1
   exact Option.some.inj h1
  exact item_listR pl.isList h0 (by omega) (by rw[hj];simpa using ew) fin hs
 ·have hj:(i+(Nn.toArray.size:Int)).toNat=j:=by
   rw[seqIndex_neg (by omega) h4] at h1
   rw[List.size_toArray,← hl]
   exact Option.some.inj h1
  exact subscriptTail_builtinR (x:=w) pl.isList.typeIs slot_list_getitem.lookup
   (wpAny_getItem_list_neg (Q:=λr s'=>r=w/\EP X Nm σ Q r s') pl.isList (by omega) (by rw[List.size_toArray] <;> omega) (by omega) (by rw[hj];simpa using ew) ⟨rfl,fin⟩) hs
theorem Gz:Eh X (Kz X.K):=by
 intro value slice Nm s σ H x y v u Q I rx ry h hs
 obtain⟨p,xs,i,z,rfl,rfl,hq,he,q⟩:=h
 cases rx
 obtain⟨t,rfl⟩:=ry
 obtain⟨Nn,r,pl,hz⟩:=I.tuple hq
 obtain⟨j,h1,h2,h3,h4,h5⟩:=uQ he
 obtain⟨w,ew,O7⟩:=r.get h2
 have hl:=r.length
 have hn:=nO
 have fin:EP X Nm σ Q w s:=⟨z,H,I,O7,q⟩
 exact subscriptTail_builtinR (x:=w) pl.typeIs slot_tuple_getitem.lookup
  (getItem_tuple (j:=j) (Q:=λr s'=>r=w/\EP X Nm σ Q r s') pl (by omega) (by omega) (by rw[List.size_toArray,← hl];exact h1) (by simpa using ew) ⟨rfl,fin⟩) hs
theorem Hh:Eh X JD:=by
 intro value slice Nm s σ H x y v u Q I rx ry h hs
 obtain⟨z,i,c,rfl,rfl,hz,he,q⟩:=h
 obtain⟨t,rfl⟩:=rx
 obtain⟨t',rfl⟩:=ry
 obtain⟨j,h1,h2,h3,h4,h5⟩:=uQ he
 have hl:z.cps.toList.length=z.length:=by simp[Str.length]
 rw[hl] at h1 h4 h5
 have hn:=nO
 exact tail_any (typeIs_str s z t) slot_str_getitem.lookup (getItem_str (c:=c) (by
  have e1:decide (i < -(2^63:Int))=false:=decide_eq_false (by omega)
  have e2:decide (i>=2^63)=false:=decide_eq_false (by omega)
  rw[e1,e2,Bool.or_false]) (by rw[h1];simpa using h2) ⟨.str ⟨#[c]⟩,H,I.tok _,⟨_,rfl⟩,q⟩) hs
def MQ(K:PySem.W.Frag):R2:=λx y H Q=>KN K x y H Q\/Kz K x y H Q\/JD x y H Q
theorem IZ:Eh X (MQ X.K):=En.or (Gz.or Hh)
theorem xX(Nn:List Value)(n j:Nat)(u:Value):Obj.mapSeq (·.setIfInBounds j u) { cls:=.type "list", data:=.seq Nn.toArray n }={ cls:=.type "list", data:=.seq (Nn.set j u).toArray n }:=by
 simp[Obj.mapSeq]
theorem Inv.lst{Nm:List (Addr×Obj)}{σ:St}{H:Hp}{s:Shared}{p:Addr}{xs:List V}(I:Inv X Nm σ H s)(h:H p=some (.lst xs)) :
  ∃ (Nn:List Value) (n:Nat),Vals xs Nn/\s.heap.get? p=some { cls:=.type "list", data:=.seq Nn.toArray n }/\xs.length<=sizeLine:=by
 obtain⟨z,Nn,n,r,e⟩:=I.bJ p _ h
 exact⟨Nn,n,r,e,z⟩
theorem Inv.Gu{Nm:List (Addr×Obj)}{σ:St}{H:Hp}{s:Shared}{p:Addr}{xs ys:List V}{Nn its':List Value}{n n':Nat}{f:Obj->Obj}(I:Inv X Nm σ H s)(h:H p=some (.lst xs))
  (ho:s.heap.get? p=some { cls:=.type "list", data:=.seq Nn.toArray n }) (hf:f { cls:=.type "list", data:=.seq Nn.toArray n }={ cls:=.type "list", data:=.seq its'.toArray n' }) (r:Vals ys its') (hz:ys.length<=sizeLine) (t:Nat) :
  Inv X Nm σ (upd H p (.lst ys)) { s with heap:=s.heap.update p f,toks:=t }:=by
 have e:(s.heap.update p f).get? p=some { cls:=.type "list", data:=.seq its'.toArray n' }:=by
  rw[Heap.get?_update_self f ho (by rw[hf] <;> rfl),hf]
 refine I.write (x:=p) (e:=p) (by rw[h];trivial) (.inl rfl) (λb u hb q=>(Heap.get?_update_other _ _ (Ne.symm hb)).trans q) ⟨_,e⟩ ?_
 exact⟨hz,its',n',r,e⟩
def Kq:V->V->V->Hp->(Hp->Prop)->Prop:=λo i v H Q=>∃ p xs k j,o=.ref p/\i=.int k/\H p=some (.lst xs)/\As xs.length k=some j/\Q (upd H p (.lst (xs.set j v)))
theorem set_list:Jk X Kq:=by
 intro Nm s σ H o i v ov iv u Q I ro ri rv h
 obtain⟨p,xs,k,j,rfl,rfl,hp,hj,q⟩:=h
 cases ro
 obtain⟨t,rfl⟩:=ri
 obtain⟨Nn,n,r,ho,hz⟩:=I.lst hp
 obtain⟨h1,h2,h3,h4⟩:=yx hj
 have hl:=r.length
 have hn:=nO
 have I':Inv X Nm σ (upd H p (.lst (xs.set j v))) { s with heap:=s.heap.update p (Obj.mapSeq (·.setIfInBounds j u)) } :=
  I.Gu hp ho (xX Nn n j u) (r.set rv j) (by rw[List.length_set];exact hz) s.toks
 by_cases h0:0<=k
 ·have hk:k.toNat=j:=by
   rw[seqIndex_of h0 h4] at h1
   exact Option.some.inj h1
  exact PySem.W.ki_setAt ho h0 (by omega) (by rw[List.size_toArray,← hl];exact h4) (by rw[hk];exact⟨_,I',q⟩)
 ·have hk:(k+(Nn.toArray.size:Int)).toNat=j:=by
   rw[seqIndex_neg (by omega) h3] at h1
   rw[List.size_toArray,← hl]
   exact Option.some.inj h1
  exact PySem.W.ki_setBack ho (by omega) (by rw[List.size_toArray,← hl];exact h3) (by omega) (by rw[hk];exact⟨_,I',q⟩)
theorem t7(lo hi:Option Int)(n:Nat):(sliceBounds lo hi none n).1=((HT.da n 0 lo:Nat):Int)/\(sliceBounds lo hi none n).2.1=((HT.da n n hi:Nat):Int)/\(sliceBounds lo hi none n).2.2=1:=by
 refine⟨?_,?_,rfl⟩
 ·cases lo with
  | none=>simp[sliceBounds,HT.da]
  | some i =>
   simp only[sliceBounds,HT.da,Option.getD_none,show (1:Int)>0 by decide,if_true]
   by_cases h:i<0
   ·simp only[h,if_true] <;> omega
   ·simp only[h,if_false] <;> omega
 ·cases hi with
  | none=>simp[sliceBounds,HT.da]
  | some i =>
   simp only[sliceBounds,HT.da,Option.getD_none,show (1:Int)>0 by decide,if_true]
   by_cases h:i<0
   ·simp only[h,if_true] <;> omega
   ·simp only[h,if_false] <;> omega
theorem qW(Nn:List Value)(lo hi:Option Int):slicePick Nn.toArray lo hi none=((Nn.drop (HT.da Nn.length 0 lo)).take (HT.da Nn.length Nn.length hi-HT.da Nn.length 0 lo)).toArray:=by
 obtain⟨h1,h2,h3⟩:=t7 lo hi Nn.toArray.size
 unfold slicePick
 rw[h1,h2,h3]
 simp only[sliceRange_one,pick_run,List.size_toArray] <;> rfl
def Lx(K:PySem.W.Frag):V->Option Int->Option Int->Hp->VK->Prop:=λx lo hi H Q=>∃ a xs,x=.ref a/\hX K H a xs/\∀ p,H p=none->Q (.ref p) (upd H p (.lst (vH xs lo hi)))
theorem E1:Dl X (Lx X.K):=by
 intro Nm s σ H x v vl vu lo hi sl Q I rx hs pl pu h
 obtain⟨a,xs,rfl,hx,q⟩:=h
 cases rx
 obtain⟨Nn,r,ht,hz⟩:=I.list hx
 have hlen:=r.length
 refine⟨"list", _,slot_list_getitem.lookup,ht.isList.typeIs,?_⟩
 refine wpAny_getItem_list_slice ht.isList hs pl pu .none (by simp) ?_ (by rw[List.size_toArray] <;> omega)
 rw[qW,← hlen]
 refine⟨.ref s.heap.objs.size,_,I.laid (t':=s.toks) (o:=.lst (vH xs lo hi)) (λb ob q=>Heap.get?_push_of_some _ q) (Nat.le_refl _) ?_,rfl,q _ (I.bJ.fresh (Nat.le_refl _))⟩
 exact⟨Nat.le_trans (oj xs lo hi) hz,_,0,(r.drop (HT.da xs.length 0 lo)).take (HT.da xs.length xs.length hi-HT.da xs.length 0 lo),Heap.get?_push_size _ rfl⟩
theorem uk:cZ X (.builtin "len") (λxs H Q=>∃ p ys,xs=[.ref p]/\(hX X.K H p ys\/gc X.K H p ys)/\Q (.int ys.length) H):=by
 intro Nm s σ H xs us Q I r h
 obtain⟨p,ys,rfl,hq,q⟩:=h
 obtain⟨u,rfl,rx⟩:=vals1 r
 cases rx
 have hn:=nO
 rcases hq with hq | hq
 ·obtain⟨Nn,r',pl,hz⟩:=I.list hq
  have hlen:=r'.length
  exact Calls.call_len_list pl.isList (by simp only[List.size_toArray] <;> omega) ⟨.int ys.length,H,I.tok _,⟨s.toks+1,by rw[List.size_toArray,hlen]⟩,q⟩
 ·obtain⟨Nn,r',pl,hz⟩:=I.tuple hq
  have hlen:=r'.length
  exact len_tuple pl (by simp only[List.size_toArray] <;> omega) ⟨.int ys.length,H,I.tok _,⟨s.toks+1,by rw[List.size_toArray,hlen]⟩,q⟩
theorem tV:cZ X (.builtin "len") (λxs H Q=>∃ z,xs=[.str z]/\z.length<=sizeLine/\Q (.int z.length) H):=by
 intro Nm s σ H xs us Q I r h
 obtain⟨z,rfl,hz,q⟩:=h
 obtain⟨u,rfl,t,rfl⟩:=vals1 r
 have hn:=nO
 exact len_str (by omega) ⟨.int z.length,H,I.tok _,⟨_,rfl⟩,q⟩
theorem cZ.or{f:Value}{r r':List V->Hp->VK->Prop}(h:cZ X f r)(h':cZ X f r'):cZ X f (λxs H Q=>r xs H Q\/r' xs H Q):=by
 intro Nm s σ H xs us Q I rs q
 rcases q with q | q
 ·exact h Nm s σ H xs us Q I rs q
 ·exact h' Nm s σ H xs us Q I rs q
theorem mG:cZ X (.type "list") (λxs H Q=>∃ p ys,xs=[.ref p]/\(hX X.K H p ys\/gc X.K H p ys)/\∀ l,H l=none->Q (.ref l) (upd H l (.lst ys))):=by
 intro Nm s σ H xs us Q I r h
 obtain⟨p,ys,rfl,hq,q⟩:=h
 obtain⟨u,rfl,rx⟩:=vals1 r
 cases rx
 have fin:∀ (Nn:List Value),Vals ys Nn->ys.length<=sizeLine->∀ (h':Heap) (c':Nat),(∀ b o',s.heap.get? b=some o'->h'.get? b=some o') ->
   h'.get? s.heap.objs.size=some { cls:=.type "list", dict:=none,data:=.seq Nn.toArray c',slots:=#[] }->EP X Nm σ Q (.ref s.heap.objs.size) { s with heap:=h' }:=λNn r' hz h' c' kp e =>
  ⟨.ref s.heap.objs.size,_,I.laid (t':=s.toks) kp (Nat.le_refl _) (show cC X.prog X.w _ h' _ (.lst ys) from ⟨hz,Nn,c',r',e⟩),rfl,q _ (I.bJ.fresh (Nat.le_refl _))⟩
 rcases hq with hq | hq
 ·obtain⟨Nn,r',pl,hz⟩:=I.list hq
  have hlen:=r'.length
  obtain⟨o,ho,hc,n,hd⟩:=pl.isList
  exact call_list_seq p (.inl rfl) ho hc hd (λh' c' kp e=>fin Nn r' hz h' c' kp e) (by simp only[List.size_toArray] <;> omega)
 ·obtain⟨Nn,r',pl,hz⟩:=I.tuple hq
  have hlen:=r'.length
  obtain⟨o,ho,hc,n,hd⟩:=pl
  exact call_list_seq p (.inr rfl) ho hc hd (λh' c' kp e=>fin Nn r' hz h' c' kp e) (by simp only[List.size_toArray] <;> omega)
theorem qS:cZ X (.type "tuple") (λxs H Q=>∃ p ys,xs=[.ref p]/\((hX X.K H p ys/\∀ l,H l=none->Q (.ref l) (upd H l (.tup ys)))\/(gc X.K H p ys/\Q (.ref p) H))):=by
 intro Nm s σ H xs us Q I r h
 obtain⟨p,ys,rfl,h⟩:=h
 obtain⟨u,rfl,rx⟩:=vals1 r
 cases rx
 rcases h with ⟨hq,q⟩ | ⟨hq,q⟩
 ·obtain⟨Nn,r',pl,hz⟩:=I.list hq
  have hlen:=r'.length
  refine call_tuple_list pl.isList (λh' kp=>?_) (by simp only[List.size_toArray] <;> omega)
  have I1:Inv X Nm σ H { s with heap:=h' }:=I.kept (t':=s.toks) kp
  have I2:Inv X Nm σ (upd H h'.objs.size (.tup ys)) { s with heap:=h'.push { cls:=.type "tuple", data:=.seq Nn.toArray } } :=
   I1.laid (t':=s.toks) (λb o e=>Heap.get?_push_of_some _ e) (Nat.le_refl _) (show cC X.prog X.w _ _ _ (.tup ys) from ⟨hz,Nn,r',IsTup.new _ _⟩)
  exact⟨.ref h'.objs.size,_,I2,rfl,q _ (I1.bJ.fresh (Nat.le_refl _))⟩
 ·obtain⟨Nn,r',pl,hz⟩:=I.tuple hq
  exact call_tuple_same pl ⟨.ref p,H,I,rfl,q⟩
def MV(K:PySem.W.Frag)(T:String)(x:V)(H:Hp):Prop:=match x with
 | .str _=>T = "str"
 | .int _=>T = "int"
 | .ref p=>(T = "list" /\ ∃ xs,hX K H p xs)\/(T = "tuple" /\ ∃ o,K.lookup p=some o/\o.cls=.type "tuple" /\ o.dict=none) ∨
   (T = "dict" /\ ((∃ Oe,H p=some (.dK Oe))\/∃ Oe,H p=some (.dT Oe)))\/(T = "set" /\ ∃ S n,H p=some (.set S n))
 | _=>False
theorem GN{Nm:List (Addr×Obj)}{σ:St}{H:Hp}{s:Shared}{T:String}{x:V}{v:Value}(I:Inv X Nm σ H s)(r:RelV x v)(ty:MV X.K T x H) :
  s.TypeIs v T/\∀ a,v=.ref a->∃ ob,s.heap.get? a=some ob/\ob.dict=none:=by
 cases x with
 | str z =>
  obtain⟨t,rfl⟩:=r
  cases (show T = "str" from ty)
  exact⟨typeIs_str s z t,λ_ e=>nomatch e⟩
 | int i =>
  obtain⟨t,rfl⟩:=r
  cases (show T = "int" from ty)
  exact⟨typeIs_int s i t,λ_ e=>nomatch e⟩
 | ref p =>
  cases r
  rcases ty with ⟨rfl,xs,hq⟩ | ⟨rfl,o,hk,hc,hd⟩ | ⟨rfl,hk⟩ | ⟨rfl,S,n,hk⟩
  ·obtain⟨Nn,_,pl,_⟩:=I.list hq
   refine⟨pl.isList.typeIs,λa e=>?_⟩
   cases e
   obtain⟨o,n,e,c,hd,_⟩:=pl
   exact⟨o,e,hd⟩
  ·refine⟨⟨o,I.j4 p o hk,hc⟩,λa e=>?_⟩
   cases e
   exact⟨o,I.j4 _ o hk,hd⟩
  ·have z:∃ o,s.heap.get? p=some o/\o.ExactDict:=by
    rcases hk with ⟨Oe,hk⟩ | ⟨Oe,hk⟩
    ·obtain⟨_,_,_,_,o,_,_,e,ex,_⟩:=I.bJ p _ hk
     exact⟨o,e,ex⟩
    ·obtain⟨_,_,_,_,o,_,_,e,ex,_⟩:=I.bJ p _ hk
     exact⟨o,e,ex⟩
   obtain⟨o,e,ex⟩:=z
   refine⟨⟨o,e,ex.1⟩,λa e2=>?_⟩
   cases e2
   exact⟨o,e,ex.2.1⟩
  ·obtain⟨o,_,_,_,e,ex,_⟩:=I.bJ p _ hk
   refine⟨⟨o,e,ex.1⟩,λa e2=>?_⟩
   cases e2
   exact⟨o,e,ex.2.1⟩
 | _=>exact False.elim ty
def M5(K:PySem.W.Frag)(T:String)(r:V->List V->Hp->VK->Prop)(to:TE)(t:TA):TE:=fun σ H Q=>to σ H λx H1=>MV K T x H1/\t σ H1 λxs H2=>r x xs H2 Q
variable{o e:Expr}{es:List Expr}{to:TE}{t:TA}{name:Str}{apos NG:Pos}{T id:String}{r:V->List V->Hp->VK->Prop}
theorem F5(pa:PlainAttrs T)(slot:Slot T name id)(hty:typeOf (.builtin id)=pure (.type "method_descriptor"))(hm:MN X id r)(ho:PE X o to)(ha:PA X (e::es) t)
  (Pe:autoParam (attributeBase o name X.env (eval o X.env)=eval o X.env) aR._auto_1)
  (P5:autoParam (((backTo NG (starEach (e::es) X.env)).all (λx=>!x.1)&&(backToKw NG (keywordEach [] X.env)).all (λx=>x.1.isSome)
   && decide ((e::es).length+([]:List Keyword).length+(if ([]:List Keyword).isEmpty then 0 else 1)<30))=true) aR._auto_1)
  (Pf:autoParam ((apos.endLine==NG.line)=true) aR._auto_1) (hs:autoParam (starEach (e::es) X.env=(false,eval e X.env)::starEach es X.env) aR._auto_1) (OX:autoParam ((backTo NG (starEach es X.env)).any (·.1)=false) aR._auto_1) :
  PE X (.Call (.Attribute o name apos) (e::es) [] NG) (M5 X.K T r to t):=by
 intro Nm s σ H Q I h
 refine wpAny_Call_method_late Pe P5 Pf rfl (cL (ho Nm s σ H _ I h) λv s1 ⟨x,H1,I1,r1,ty,q1⟩=>?_)
 obtain⟨h1,h2⟩:=GN I1 r1 ty
 refine⟨T,id,pa,slot,hty,h1,h2,?_⟩
 have hA:=ha NG Nm s1 σ H1 _ I1 q1
 rw[hs] at hA ⊢
 refine Calls.callWith_builtin (by show (false||(backTo NG (starEach es X.env)).any (·.1))=false;rw[OX] <;> rfl) (Calls.evalArgs_plain ?_)
 exact cL hA λus s2 ⟨vs,H2,I2,r2,q2⟩=>hm Nm s2 σ H2 x vs v us Q I2 r1 r2 q2
end
end L2
namespace L2
open PySem PySem.Spec PyProof.Rows
def Nj(X:Cx)(id:String)(r:V->List V->Hp->VK->Prop):Prop :=
 ∀ (Nm:List (Addr×Obj)) (s:Shared) (σ:St) (H:Hp) (x:V) (xs:List V) (v:Value) (us:List Value) (Q:VK),Inv X Nm σ H s->RelV x v->Vals xs us->r x xs H Q ->
  wpAny (model X.prog X.w) X.A (call (.builtin id) (v::us)) (EP X Nm σ Q) X.xe s
theorem Vals.one:∀ {x:V} {us:List Value},Vals [x] us->∃ u,us=[u]/\RelV x u
 | _,_,.cons r .nil=>⟨_,rfl,r⟩
theorem Vals.rep{xs:List V}{us:List Value}(h:Vals xs us):∀ k:Nat,Vals (List.replicate k xs).flatten (List.replicate k us).flatten
 | 0=>.nil
 | k+1=>by
  rw[List.replicate_succ,List.replicate_succ,List.flatten_cons,List.flatten_cons]
  exact Vals.append h (Vals.rep h k)
theorem foldl_rep(Nn:List Value):∀ (k:Nat) (acc:List Value),
  List.foldl (λx1 x2=>x1++x2) acc.toArray (List.replicate k Nn.toArray)=(acc++(List.replicate k Nn).flatten).toArray
 | 0,acc=>by simp
 | k+1,acc=>by
  have e:acc.toArray++Nn.toArray=(acc++Nn).toArray:=by simp
  have e2:(acc++Nn)++(List.replicate k Nn).flatten=acc++(List.replicate (k+1) Nn).flatten:=by
   rw[List.replicate_succ,List.flatten_cons,List.append_assoc]
  rw[← e2,← foldl_rep Nn k (acc++Nn),← e,List.replicate_succ,List.foldl_cons]
section
variable{X:Cx}{Nm:List (Addr×Obj)}{σ:St}{H:Hp}{s:Shared}{l b:Addr}{xs ys zs:List V}
theorem Inv.Mw{Nn its':List Value}{n:Nat}{f:Array Value->Array Value}{t':Nat}(I:Inv X Nm σ H s)(hH:H l=some (.lst xs))
  (e:s.heap.get? l=some { cls:=.type "list", data:=.seq Nn.toArray n }) (hf:f Nn.toArray=its'.toArray) (hv:Vals ys its') (hz:ys.length<=sizeLine) :
  Inv X Nm σ (upd H l (.lst ys)) { s with heap:=s.heap.update l (Obj.mapSeq f),toks:=t' }:=by
 have q:=PySem.IsL.update e f
 rw[hf] at q
 refine I.write (x:=l) (e:=l) (by rw[hH];exact trivial) (.inl rfl) (λb' u hb hu=>(Heap.get?_update_other s.heap (Obj.mapSeq f) (Ne.symm hb)).trans hu) ⟨_,q⟩ ?_
 exact⟨hz,its',_,hv,q⟩
theorem Inv.J4{Nn:List Value}{t':Nat}(I:Inv X Nm σ H s)(hv:Vals ys Nn)(hz:ys.length<=sizeLine) :
  Inv X Nm σ (upd H s.heap.objs.size (.lst ys)) { s with heap:=s.heap.push { cls:=.type "list", data:=.seq Nn.toArray },toks:=t' } :=
 I.laid (λ_ _ q=>Heap.get?_push_of_some _ q) (Nat.le_refl _) ⟨hz,Nn,0,hv,Heap.get?_push_size _ rfl⟩
theorem Inv.fresh(I:Inv X Nm σ H s):H s.heap.objs.size=none:=I.bJ.fresh (Nat.le_refl _)
theorem Inv.EM(I:Inv X Nm σ H s)(hH:H l=some (.lst xs)):xs.length<=sizeLine/\∃ (Nn:List Value) (n:Nat),Vals xs Nn/\xs.length=Nn.length/\s.heap.get? l=some { cls:=.type "list", data:=.seq Nn.toArray n }:=by
 obtain⟨z,Nn,n,r,e⟩:=I.bJ l _ hH
 exact⟨z,Nn,n,r,r.length,e⟩
theorem A6{n:Nat}(h:n<=sizeLine):Builtin.List.listTooLong n=false:=by
 unfold Builtin.List.listTooLong
 exact decide_eq_false (by omega)
end
section
variable{X:Cx}
def DU:V->List V->Hp->VK->Prop:=λx vs H Q=>∃ l xs y,x=.ref l/\vs=[y]/\H l=some (.lst xs)/\xs.length<sizeLine/\Q .cR (upd H l (.lst (xs++[y])))
theorem sS:Nj X "list.append" DU:=by
 intro Nm s σ H x vs v us Q I rx rv h
 obtain⟨l,xs,y,rfl,rfl,hH,hz,q⟩:=h
 cases rx
 obtain⟨u,rfl,ru⟩:=rv.one
 obtain⟨z,Nn,n,r,hl,e⟩:=I.EM hH
 refine call_meets F.slot_list_append ⟨_,e,rfl⟩ F.entry_list_append (F.args_list_append_2 _ _) (PySem.list_append l Nn.toArray n u (by rw[List.size_toArray];omega)) ⟨e,?_⟩
 refine⟨.cR,_,I.Mw (its':=Nn++[u]) hH e (by simp) (r.append (.cons ru .nil)) ?_,rfl,q⟩
 rw[List.length_append,List.length_singleton]
 omega
def KU:R2:=λx y H Q=>∃ l b xs zs,x=.ref l/\y=.ref b/\H l=some (.lst xs)/\H b=some (.lst zs)/\xs.length+zs.length<=sizeLine/\∀ p,H p=none->Q (.ref p) (upd H p (.lst (xs++zs)))
theorem Ig:gf X (binaryOp .Add) KU:=by
 intro Nm s σ H x y v u Q I rx ry h
 obtain⟨l,b,xs,zs,rfl,rfl,hH,hB,hz,q⟩:=h
 cases rx
 cases ry
 obtain⟨z,Nn,n,r,hl,e⟩:=I.EM hH
 obtain⟨z2,Ot,n2,r2,OO,e2⟩:=I.EM hB
 refine PySem.P.add_list e e2 ?_ (by rw[List.size_toArray,List.size_toArray];omega)
 have ea:Nn.toArray++Ot.toArray=(Nn++Ot).toArray:=by simp
 rw[ea]
 exact⟨.ref _,_,I.J4 (t':=s.toks) (r.append r2) (by rw[List.length_append];omega),rfl,q _ I.fresh⟩
def Jx:R2:=λx y H Q=>∃ l k xs,x=.ref l/\y=.int k/\H l=some (.lst xs)/\-(2^63)<=k/\k<2^63/\xs.length*k.toNat<=sizeLine ∧
 ∀ p,H p=none->Q (.ref p) (upd H p (.lst (List.replicate k.toNat xs).flatten))
theorem len_rep{α:Type}(xs:List α)(k:Nat):(List.replicate k xs).flatten.length=k*xs.length:=by
 induction k with
 | zero=>simp
 | succ k ih=>rw[List.replicate_succ,List.flatten_cons,List.length_append,ih,Nat.succ_mul,Nat.add_comm]
theorem CN:gf X (binaryOp .Mult) Jx:=by
 intro Nm s σ H x y v u Q I rx ry h
 obtain⟨l,k,xs,rfl,rfl,hH,h1,h2,hz,q⟩:=h
 cases rx
 obtain⟨t,rfl⟩:=ry
 obtain⟨z,Nn,n,r,hl,e⟩:=I.EM hH
 have hlen:Nn.toArray.size*k.toNat<=sizeLine:=by rw[List.size_toArray,← hl];exact hz
 have hcap:¬ Nn.toArray.size*k.toNat>(2^63-1)/8:=by
  have:(sizeLine:Nat)<=(2^63-1)/8:=by decide
  omega
 have hfit:¬ (!Builtin.List.listFitsIndex k)=true:=by
  rw[fitsIndex_both h1 h2]
  exact Bool.false_ne_true
 have Ra:¬ Builtin.List.listTooLong (Nn.toArray.size*k.toNat)=true:=by
  rw[A6 hlen]
  exact Bool.false_ne_true
 have OP:List.foldl (λx1 x2=>x1++x2) #[] (List.replicate (if Nn.toArray.isEmpty=true then 0 else k.toNat) Nn.toArray)=(List.replicate k.toNat Nn).flatten.toArray:=by
  have f0:∀ m:Nat,List.foldl (λx1 x2=>x1++x2) #[] (List.replicate m Nn.toArray)=(List.replicate m Nn).flatten.toArray:=λm=>by
   have:=foldl_rep Nn m []
   rw[List.nil_append] at this
   exact this
  rw[f0]
  cases Nn with
  | nil=>simp
  | cons a r'=>rw[if_neg (by simp)]
 refine wpAny_binaryOp_repeat_ref (T := "list") (U := "int") (by decide) ⟨_,e,rfl⟩ (λs'=>typeIs_int s' k t) noFill_list_mul F.fills_int_mul F.slot_int_rmul repeat_list F.slot_int_index.lookup
  (call_meets F.slot_int_rmul (typeIs_int s k t) F.entry_int_rmul (F.args_int_rmul_2 _ _) (int___rmul___int_list k t l Nn.toArray n)
   ⟨e,rfl,⟨_,e,rfl⟩,call_meets F.slot_list_mul ⟨_,e,rfl⟩ F.entry_list_mul (F.args_list_mul_2 _ _) (AutoListH.list___mul___list_int_3 l Nn.toArray n k t hfit hcap Ra) ⟨e,?_⟩⟩)
 rw[OP]
 exact⟨.ref _,_,I.J4 (t':=s.toks) (r.rep k.toNat) (by rw[len_rep,Nat.mul_comm];exact hz),rfl,q _ I.fresh⟩
end
section
variable{prog:Program}{w:World}{A:Around}{E:Value->Shared->Prop}{s:Shared}
end
section
variable{X:Cx}
end
end L2
namespace L2
open PySem PySem.Spec PyProof.Rows
section
variable{κ:Type}[DecidableEq κ]
end
section
variable{P:Program}{w:World}{H:Hp}{h:Heap}{a:Addr}
end
section
variable{X:Cx}{Nm:List (Addr×Obj)}{σ:St}{H:Hp}{s:Shared}{a:Addr}{y v:V}{u r:Value}{o:Option V}{A:Around}{E:Value->Shared->Prop}
end
section
variable{X:Cx}{Nm:List (Addr×Obj)}{σ:St}{H:Hp}{s:Shared}{a:Addr}{Oe:List (Key×V)}{k:Key}{u:Value}{A:Around}{E:Value->Shared->Prop}
end
section
variable{X:Cx}{o i e value:Expr}{pos pos' tpos:Pos}{td ty tv:TE}
end
section
variable{X:Cx}{pos:Pos}
end
section
variable{X:Cx}{Nm:List (Addr×Obj)}{σ:St}{H:Hp}{s:Shared}{a:Addr}{y d:V}{u r:Value}{o:Option V}{A:Around}{E:Value->Shared->Prop}
end
section
variable{X:Cx}{o e f:Expr}{apos NG:Pos}{td ty tx:TE}
end
section
variable{X:Cx}{Nm:List (Addr×Obj)}{σ:St}{H:Hp}{s:Shared}{a:Addr}{Oe:List (Key×V)}{A:Around}{E:Value->Shared->Prop}
end
section
variable{X:Cx}{Nm:List (Addr×Obj)}{σ:St}{H:Hp}{s:Shared}{a:Addr}{y:V}{u:Value}{A:Around}{E:Value->Shared->Prop}
end
end L2
namespace Att
open PySem PySem.W PySem.Calls PyProof.Rows
theorem oN{P:Params}{h:Heap}:∀ (ns:List Int) (vs:List Value),WellAll P h vs (ns.map WData.int)->IntsAre vs ns:=by
 intro ns
 induction ns with
 | nil =>
  intro vs w
  rw[List.map_nil] at w
  cases w
  exact .nil
 | cons n ns ih =>
  intro vs w
  rw[List.map_cons] at w
  cases w with
  | cons a b =>
   cases a
   exact .cons _ _ (ih _ b)
theorem z7{l:OpenLaw}{n:Nat}(hn:l.most=some n){P:Params}{h:Heap}{args:List WData}{vals:List Value}
  (y_:l.row.toRowW.claim.pre args=true) (hwl:WellAll P h vals args) :
  ∃ a vs ns,vals=[Value.ref a]/\args=[WData.list (ns.map WData.int)]/\h.get? a=some { cls:=.type "list", data:=.seq vs.toArray }/\IntsAre vs ns/\ns.length<=n:=by
 have hsh:WShape.hasAll [] args [.list .int]=true:=(pre_splitW y_).1
 have hc:l.pre.holds [] { args:=args }=true:=(pre_splitW y_).2
 obtain⟨d,r,rfl,h1,h2⟩:=hasAllW_cons hsh
 obtain rfl:=hasAllW_nil h2
 obtain⟨xs,rfl,h3⟩:=hasW_list h1
 obtain⟨ns,rfl⟩:=items_int h3
 have hlen:ns.length<=n:=by
  unfold OpenLaw.pre at hc
  have h4:(WTm.not (.lt (.lit (.int (n:Int))) (.len (.arg 0)))).holds [] { args:=[.list (ns.map .int)] }=true:=by
   have h4:=(holds_andW hc).1
   rw[hn] at h4
   exact h4
  have h5:=condW_of h4 (w_not (w_lt w_lit (w_len_list (w_arg rfl))))
  rw[List.length_map] at h5
  refine Nat.le_of_not_lt λq=>?_
  have q':(n:Int)<((ns.length:Nat):Int):=by omega
  first
   | (rw[decide_eq_true q'] at h5;exact absurd h5 (by decide))
   | (simp at h5;omega)
 cases hwl with
 | cons w1 w2 =>
  cases w2
  cases w1 with
  | list ho hall=>exact⟨_,_,ns,rfl,rfl,ho,oN ns _ hall,hlen⟩
theorem yU(l:OpenLaw)(args:List WData):l.row.toRowW.claim.post args (.bool true) args=true :=
 postW_of (r:=l.row.toRowW) (X:=(true==true))
  (show WShape.has [] (.bool true) .bool=true by first | rfl | decide | simp[WShape.has,WShape.arms,WShape.armsAll])
  (show (WTm.eq .res (.lit (.bool true))).value [] { args:=args,res:=some (.bool true),after:=args }=some (.bool (true==true)) from w_eq_bool (w_res rfl) w_lit) rfl
section
variable{prog:Program}{w:World}{A:Around}{E:Value->Shared->Prop}{s:Shared}{K:Frag}
end
end Att
namespace L2
open PySem PySem.Spec PyProof.Rows
theorem r_:∀ {vs:List Value} {ns:List Int},IntsAre vs ns->Vals (ns.map V.int) vs
 | _,_,.nil=>.nil
 | _,_,.cons n t h=>.cons ⟨t,rfl⟩ (r_ h)
def KP(H:Hp):Prop:=∀ b,H b=none\/∃ o xs,H b=some (.rN o (.lst xs))
theorem Aw{P:Program}{w:World}{K:PySem.W.Frag}{mg mb:Str->Option Value}{CX:Fl}{k:Nat}{fa a:Addr}{fd:FuncData}{x:Str}{sp:Sp}{s₁:Shared}{vs:List Value}{ns:List Int}
  (KX:K.In s₁.heap) (hns:s₁.heap.Ns mainGlobals mg) (hb:s₁.heap.Ns builtinsNs mb) (hbb:∀ x:Str,x ≠ "__name__" -> mb x=bootBuiltins x) (hlim:s₁.heap.NoLimit) (hg:s₁.gens=#[])
  (ha:s₁.heap.get? a=some { cls:=.type "list", data:=.seq vs.toArray }) (hi:IntsAre vs ns) (hl:ns.length<=sizeLine) (hr:cJ k callerA)
  (F:∀ base:Heap,K.In base->base.Ns mainGlobals mg->aO P w K mg base CX k fa fd [x] sp) (Q3:∀ (s:Shared) (u:Value),BindsTo s fd ⟨[u],[]⟩ [(x,u)])
  (hsp:∀ H:Hp,KP H->hX K H a (ns.map V.int)->sp [.ref a] H (λv _=>v=.bl true) λ_ _ _=>False)
  (hCX:∀ H e s',CX [] H s₁ (λ_ _ _=>False) e s'->False) :
  codeAny (model P w) callerA (.call (.ref fa) ⟨[.ref a],[]⟩) (λr s'=>r=.ok (.ret (.bool true))/\OldK s₁.heap s'.heap/\s'.os=s₁.os/\AllBare s'.gens) s₁:=by
 have rv:=r_ hi
 have lenV:=hi.length
 have core:∀ H:Hp,KP H->hX K H a (ns.map V.int)->nP P w H s₁.heap->(∀ b,H b≠none->b=a)->(H a≠none->K.lookup a=none) ->
   codeAny (model P w) callerA (.call (.ref fa) ⟨[.ref a],[]⟩) (λr s'=>r=.ok (.ret (.bool true))/\OldK s₁.heap s'.heap/\s'.os=s₁.os/\AllBare s'.gens) s₁:=by
  intro H hO hS bJ hA hK
  have Pu:∀ {b:Addr} {o:Obj},s₁.heap.get? b=some o->H b=none->(tZ s₁.heap H).get? b=some o:=λe n=>Ax e n
  have oB:∀ {b:Addr} {o:Obj} {es:Array DictEntry} {ep:Nat},s₁.heap.get? b=some o->o.data=.dict es ep->H b=none:=λ{b o es ep} e d=>by
   cases q:H b with
   | none=>rfl
   | some u =>
    have e':b=a:=hA b (by rw[q];simp)
    subst e'
    rw[ha] at e;cases e
    have d':Data.seq vs.toArray _=Data.dict es ep:=d
    cases d'
  have nsK:∀ {b:Addr} {m:Str->Option Value},s₁.heap.Ns b m->(tZ s₁.heap H).Ns b m:=λ{b m} ⟨o,es,ep,e,d,r⟩=>⟨o,es,ep,Pu e (oB e d),d,r⟩
  have hKb:K.In (tZ s₁.heap H):=λb o e=>Pu (KX b o e) (by
   cases q:H b with
   | none=>rfl
   | some u =>
    have e':b=a:=hA b (by rw[q];simp)
    subst e'
    rw[hK (by rw[q];simp)] at e;cases e)
  have hM:Mod K mg (tZ s₁.heap H):=⟨hKb,nsK hns,⟨mb,nsK hb,hbb⟩,let ⟨mc,h1,h2⟩:=hlim;⟨mc,nsK h1,h2⟩⟩
  have e0:xc P w K mg (tZ s₁.heap H) callerA [] s₁ H:=⟨rfl,hM,λb o e=>DV e,Nat.le_of_eq (zd _ _),trivial,λb hb=>absurd (show b∈([]:List Addr) from hb) (by simp),bJ,.of_eq hg⟩
  refine codeAny_mono ((F _ hKb (nsK hns)).run callerA [] s₁ H ⟨[.ref a],[]⟩ [.ref a] [.ref a] _ _ hr e0 (Q3 s₁ (.ref a)) (.cons rfl .nil) (hsp H hO hS)) λr s' h=>?_
  cases r with
  | error e=>exact(hCX H e s' h).elim
  | ok fl =>
   cases fl with
   | next=>exact False.elim h
   | brk=>exact False.elim h
   | cont=>exact False.elim h
   | ret u =>
    obtain⟨v,H',os,bare,un,hok',r',q⟩:=h
    have q':v=.bl true:=q
    subst q'
    obtain rfl:u=Value.bool true:=r'
    refine⟨rfl,OldK.of_keep λb o e=>?_,os,bare⟩
    cases q:H b with
    | none=>exact un.keep b o e q (by intro z;exact absurd (show b∈([]:List Addr) from z) (by simp)) (by simp)
    | some u =>
     rcases hO b with z | ⟨ob,xs,z⟩
     ·rw[q] at z;cases z
     ·have z2:=un.nA b ob _ z
      obtain⟨e1,_⟩:=bJ b _ z
      obtain⟨e2,_⟩:=hok' b _ z2
      rw[e] at e1;cases e1
      exact e2
 cases hk:K.lookup a with
 | some o =>
  have e:=KX a o hk
  rw[ha] at e
  cases e
  refine core (λ_=>none) (λ_=>.inl rfl) (.inr ⟨_,vs.toArray,_,hk,rfl,rfl,rfl,by rw[List.size_toArray,lenV];exact hl,by simpa using rv⟩) (λb u z=>by have z':(none:Option HO)=some u:=z;cases z') (λb z=>absurd rfl z) λz=>absurd rfl z
 | none =>
  refine core (λb=>if b=a then some (.rN { cls:=.type "list", data:=.seq vs.toArray } (.lst (ns.map V.int))) else none) (λb=>?_) (.inl (.inr ⟨{ cls:=.type "list", data:=.seq vs.toArray },if_pos rfl⟩)) (λb u z=>?_) (λb z=>?_) λ_=>hk
  ·by_cases hb:b=a
   ·exact .inr ⟨_,_,if_pos hb⟩
   ·exact .inl (if_neg hb)
  ·by_cases hb:b=a
   ·have z':=(if_pos hb).symm.trans z
    cases z'
    subst hb
    exact⟨ha,by rw[List.length_map];exact hl,vs,_,rv,ha⟩
   ·have z':=(if_neg hb).symm.trans z
    cases z'
  ·by_cases hb:b=a
   ·exact hb
   ·exact absurd (if_neg hb) z
end L2
namespace L2
open PySem PySem.Spec PyProof.Rows
end L2
namespace L2
open PySem PySem.Spec PyProof.Rows
def inClass(s:Stmt)(j:Nat):Stmt:=match s with
 | .ClassDef _ _ _ body _ _ _ _ _ _ _=>body.getD j (.Pass ⟨0,0,0,0⟩)
 | _=>.Pass ⟨0,0,0,0⟩
def iq(s:Stmt):Arguments:=match s with
 | .FunctionDef _ a _ _ _ _ _ _ _ _=>a
 | _=>{ posonlyargs:=[],args:=[],vararg:=none,kwonlyargs:=[],kw_defaults:=[],kwarg:=none,defaults:=[] }
def eR(s:Stmt):List Stmt:=match s with
 | .FunctionDef _ _ b _ _ _ _ _ _ _=>b
 | _=>[]
def a_(s:Stmt):Scope:=match s with
 | .FunctionDef _ _ _ _ _ _ sc _ _ _=>sc
 | _=>{ kind:=.function,names:=[],isGenerator:=false,isCoroutine:=false }
abbrev E0:XK:=λ_ _ _=>False
section
variable{P:Program}{w:World}{K:PySem.W.Frag}{mg:Str->Option Value}{base:Heap}
end
theorem nK{n:Nat}(h:n<=1000):n<sizeLine:=Nat.lt_of_le_of_lt h (by decide)
section
variable{X:Cx}
end
def bu(H H':Hp):Prop:=∀ b o,H b=some o->H' b=some o
end L2
namespace L2
open PySem PySem.Spec PyProof.Rows
section
variable{X:Cx}
def C5(_ j:Int):Prop:=j≠0/\j.natAbs.log2<9000
theorem AM:gf X (binaryOp .FloorDiv) (rI C5 λi j=>.int (i.fdiv j)):=K_ λ_ _ _ _ _ _ _ hc q=>floordiv_int hc.1 q (.inl (PyProof.noPylong_of_log2 hc.2))
theorem EJ:gf X (binaryOp .Mult) (rI (λi j=>IntMulOk i j) λi j=>.int (i*j)):=K_ λ_ _ _ _ _ _ _ hc q=>mul_int q hc
theorem CI{a b:Int}{m n:Nat}(ha:a.natAbs<2^m)(hb:b.natAbs<2^n)(h:m+n<=134217728):IntMulOk a b:=IntMulOk.of_le (intBits_le_iff.mpr ha) (intBits_le_iff.mpr hb) h
theorem yc:bootBuiltins "isinstance" = some (.builtin "isinstance"):=by decide +kernel
theorem A4:bootBuiltins "int" = some (.type "int"):=by decide +kernel
theorem tK:bootBuiltins "bool" = some (.type "bool"):=by decide +kernel
theorem j6:bootBuiltins "tuple" = some (.type "tuple"):=by decide +kernel
theorem tJ:bootBuiltins "list" = some (.type "list"):=by decide +kernel
theorem HU:bootBuiltins "sum" = some (.builtin "sum"):=by decide +kernel
def Mr(K:PySem.W.Frag):List V->Hp->VK->Prop:=λxs H Q=>∃ x T t b,xs=[x,.ty T]/\jV K H x t/\PySem.W.kitOne K t (.type T)=some b/\Q (.bl b) H
def MH(K:PySem.W.Frag):List V->Hp->VK->Prop:=λxs H Q=>∃ x C t b,xs=[x,.ref C]/\jV K H x t/\PySem.W.kitOne K t (.ref C)=some b/\Q (.bl b) H
theorem AI:cZ X (.builtin "isinstance") (Mr X.K):=by
 intro Nm s σ H xs us Q I r h
 obtain⟨x,T,t,b,rfl,ty,e,q⟩:=h
 cases r with
 | cons r1 r2 =>
  cases r2 with
  | cons r3 r4 =>
   cases r4
   cases (show _=Value.type T from r3)
   exact sT I r1 ty e λtk=>⟨.bl b,H,I.tok tk,rfl,q⟩
theorem AO:cZ X (.builtin "isinstance") (MH X.K):=by
 intro Nm s σ H xs us Q I r h
 obtain⟨x,C,t,b,rfl,ty,e,q⟩:=h
 cases r with
 | cons r1 r2 =>
  cases r2 with
  | cons r3 r4 =>
   cases r4
   cases (show _=Value.ref C from r3)
   exact sT I r1 ty e λtk=>⟨.bl b,H,I.tok tk,rfl,q⟩
end
section
variable(K:PySem.W.Frag)
end
section
variable{X:Cx}
theorem Inv.kK{Nm:List (Addr×Obj)}{σ:St}{H:Hp}{s:Shared}{h':Heap}{t':Nat}{ch:List Addr}{a:Addr}{o:HO}(I:Inv X Nm σ H s)(k:∀ b u,b ∉ ch->s.heap.get? b=some u->h'.get? b=some u)
  (Pc:∀ b∈ch,lU X Nm H b) (hp:s.heap.objs.size<=a) (hl:∀ b∈ch,∃ u,s.heap.get? b=some u) (new:cC X.prog X.w (upd H a o) h' a o):Inv X Nm σ (upd H a o) { s with heap:=h',toks:=t' }:=by
 have ne:∀ b u,s.heap.get? b=some u->b≠a:=λb u e=>Nat.ne_of_lt (Nat.lt_of_lt_of_le (Heap.lt_size e) hp)
 have P6:H a=none:=I.bJ.fresh hp
 have Qf:∀ b u,H b=some u->b ∉ ch:=λb u e z=>by rw[(Pc b z).1] at e;cases e
 have Qe:∀ b u,H b=some u->b≠a:=λb u e z=>by rw[z,P6] at e;cases e
 refine I.step (g':=s.gens) (d':=s.drawn) (ch:=ch) (λb hb=>?_) (λb u _ _ hc e _=>k b u hc e) (λb u _ _ hc e _=>⟨u.slots,k b u hc e⟩)
  (λb u _ e n=>by rw[aw (ne b u e)];exact n) (λb u hc e=>⟨u,k b u hc e⟩)
  (λb xs e=>by rw[aw (Qe b _ e)];exact e) (λb ob u e=>by rw[aw (Qe b _ e)];exact e) (λb ps e=>⟨#[],by rw[aw (Qe b _ e),e];simp⟩) (λm hm=>?_) (λb u e=>?_) I.bare
 ·obtain⟨_,f1,_,f3,f4,f5⟩:=Pc b hb
  exact⟨f3,f1,f4,f5⟩
 ·obtain⟨ob,es,ep,ho,r⟩:=hm
  exact⟨ob,es,ep,k _ ob (λz=>(Pc _ z).2.1 rfl) ho,r⟩
 ·by_cases z:b=a
  ·subst z
   rw[aE] at e
   cases e
   exact new
  ·rw[aw z] at e
   refine(I.bJ b u e).oK (λc v hc q=>k c v ?_ q) (λc q=>?_) λc ys q=>?_
   ·rcases hc with z' | z'
    ·rw[z'];exact Qf b u e
    ·exact Qf c _ z'
   ·rw[aw (Qe c _ q)];exact q
   ·rw[aw (Qe c _ q)];exact q
def Gm (K : PySem.W.Frag) (a : Addr) : It :=
  ⟨λi H => ∃ xs x, hX K H a xs /\ xs[i]? = some x,
   λi H y H' => ∃ p x, H p = none /\ y = .ref p /\ H' = upd H p (.tup [.int i, x]) /\ ∀ xs, hX K H a xs -> xs[i]? = some x,
   λi H => ∃ xs, hX K H a xs /\ xs.length <= i⟩
theorem y9{P:Program}{w:World}{K:PySem.W.Frag}{elts:List Expr}{x1:Nat}{tp:Pos}(a e it:Addr)(Pm:e≠it):Turn P w K (.Tuple elts x1 tp) (Gm K a) [e,it] e (λi h=>(∃ old,IsEnum h e it i old)/\h.IsListIter it a i) where
 mem:=by simp
 obj:=λi h st b hb=>by
  obtain⟨⟨old,he⟩,⟨o,e1,c,d⟩⟩:=st
  rcases List.mem_cons.mp hb with z | z
  ·subst z
   exact⟨_,he,λv z=>by cases z⟩
  ·have z':b=it:=by simpa using z
   subst z'
   exact⟨o,e1,λv z=>by rw[d] at z;cases z⟩
 keep:=λi h h' st k=>by
  obtain⟨⟨old,he⟩,hit⟩:=st
  exact⟨⟨old,k e (by simp) _ he⟩,hit.at λo x=>k it (by simp) o x⟩
 item:=by
  intro X hP hw hK hc i Nm s σ H E I hf st hg
  subst hP hw hK
  obtain⟨xs,x,hq,hx⟩:=hg
  obtain⟨Nn,rv,p,hz⟩:=I.list hq
  obtain⟨u,hu,ru⟩:=rv.get hx
  obtain⟨⟨old,he⟩,hit⟩:=st
  have P4:e<s.heap.objs.size:=Heap.lt_size he
  have QH:it<s.heap.objs.size:=by obtain⟨_,z,_⟩:=hit;exact Heap.lt_size z
  refine wpAny_pyNext_enum_item he hit p.isList (x:=u) (by simpa using hu) Pm λh' ho QI hT Od hk=>⟨_,rfl,?_⟩
  refine wpAny_letOwnedTupleGo_enum (s:={ s with heap:=h',toks:=s.toks+1 }) ho λh2 he2 OR=>?_
  have Qc:∀ b o,b ∉ [e,it]->s.heap.get? b=some o->h2.get? b=some o:=λb o hb q=>by
   have n1:b≠e:=λz=>hb (by simp[z])
   have n2:b≠it:=λz=>hb (by simp[z])
   exact(OR.2 b n1).trans (hk b o n1 n2 q)
  have Ql:h2.get? s.heap.objs.size=some { cls:=.type "tuple", data:=.seq #[.int i s.toks,u] }:=(OR.2 _ (Nat.ne_of_gt P4)).trans hT
  have I2:Inv X Nm σ (upd H s.heap.objs.size (.tup [.int i,x])) { s with heap:=h2,toks:=s.toks+1 } :=
   I.kK (ch:=[e,it]) Qc hf (Nat.le_refl _) (λb hb=>by
    rcases List.mem_cons.mp hb with z | z
    ·subst z;exact⟨_,he⟩
    ·have z':b=it:=by simpa using z
     subst z'
     obtain⟨o,z,_⟩:=hit
     exact⟨o,z⟩)
    ⟨by show 2<=sizeLine;decide,[.int i s.toks,u],.cons ⟨_,rfl⟩ (.cons ru .nil),⟨_,Ql,rfl,_,rfl⟩⟩
  have OP:H s.heap.objs.size=none:=I.bJ.fresh (Nat.le_refl _)
  refine⟨.ref s.heap.objs.size,_,I2,rfl,⟨_,x,OP,rfl,rfl,λys hy=>by rw[I.qr hy hq];exact hx⟩,⟨⟨u,by simpa using he2⟩,QI.at λo z=>(OR.2 it (Ne.symm Pm)).trans z⟩,λb hb=>?_⟩
  have nb:b≠s.heap.objs.size:=by
   rcases List.mem_cons.mp hb with z | z
   ·rw[z];exact Nat.ne_of_lt P4
   ·have z':b=it:=by simpa using z
    rw[z'];exact Nat.ne_of_lt QH
  rw[aw nb]
  exact(hf b hb).1
 done:=by
  intro X hP hw hK hc i Nm s σ H E I hf st hg
  subst hP hw hK
  obtain⟨xs,hq,hx⟩:=hg
  obtain⟨Nn,rv,p,hz⟩:=I.list hq
  have hl:=rv.length
  obtain⟨⟨old,he⟩,hit⟩:=st
  obtain⟨f0,f1,f2,f3,f4,f5⟩:=hf it (by simp)
  exact wpAny_pyNext_enum_end (I.ok.hd hc) he hit p.isList (by simp;omega) λh' eb=>⟨rfl,I.turned (t':=s.toks) (λb o hb e=>eb b o hb e) f0 f1 f3 f4 f5⟩
 self:=λ_ _ _ _ _ st h=>by
  obtain⟨⟨old,he⟩,_⟩:=st
  exact wpAny_pyIter_enum he h
end
end L2
namespace L2
open PySem PySem.Spec PyProof.Rows
section
variable{prog:Program}{w:World}{A:Around}{R:Result->Shared->Prop}{s:Shared}
theorem zy{elt target iter:Expr}{ifs:List Expr}{scope:Scope}{pos:Pos}{it acc:Value}{env:Env}(I:Nat->Shared->Prop)
  (turn:∀ n s,I n s->wpAny (model prog w) A (pyNext it) (λr s₁=>match r with
   | none=>R (.ok .next) s₁
   | some v=>wpAny (model prog w) A (letOwnedTupleGo target it v) (λ_ s₂=>wpAny (model prog w) A (assign target env v) (λ_ s₃ =>
     wpAny (model prog w) A (forIn ifs true λc r=>if r=true then do let ok ← isTrue c env (eval c env);pure (ForInStep.yield ok) else pure (ForInStep.yield r)) (λok s₄ =>
      if ok=true then wpAny (model prog w) A (eval elt env) (λx s₅ =>
       wpAny (model prog w) A (call (.builtin "list.append") [acc,x]) (λ_ s₆=>∃ m,m<n/\I m s₆) (λ_ _=>False) s₅) (λ_ _=>False) s₄
      else ∃ m,m<n/\I m s₄) (λ_ _=>False) s₃) (λ_ _=>False) s₂) (λ_ _=>False) s₁) (λ_ _=>False) s)
  (n:Nat) (h:I n s) :
  codeAny (model prog w) A (.compLoop (.ListComp elt [⟨target,iter,ifs,0⟩] scope pos) 0 it acc env) R s:=by
 refine codeAny_loop rfl I (λn s hI=>?_) n h
 show wpAny _ A ((compTurn (.ListComp elt [⟨target,iter,ifs,0⟩] scope pos) 0 it acc env).onRaise (λx=>do noteFrame x env;theTreesLotGoes x)) _ _ s
 refine wpAny_noted ?_
 rw[compTurn_list]
 refine wpAny_bind (wpAny_standAt (wpAny_bind (wpAny_mono (turn n s hI) (λr s₁ h₁=>?_) λ_ _ h'=>h'.elim)))
 cases r with
 | none=>exact wpAny_pure h₁
 | some v =>
  refine wpAny_bind (wpAny_mono h₁ (λ_ s₂ h₂=>wpAny_bind (wpAny_mono h₂ (λ_ s₃ h₃=>wpAny_bind (wpAny_mono h₃ (λok s₄ h₄=>?_) λ_ _ h'=>h'.elim)) λ_ _ h'=>h'.elim)) λ_ _ h'=>h'.elim)
  cases ok with
  | false=>exact wpAny_pure ⟨rfl,h₄⟩
  | true =>
   exact wpAny_bind (wpAny_bind (wpAny_mono h₄ (λx s₅ h₅=>wpAny_bind (wpAny_mono h₅ (λ_ s₆ h₆=>wpAny_pure (wpAny_pure ⟨rfl,h₆⟩)) λ_ _ h'=>h'.elim)) λ_ _ h'=>h'.elim))
end
def oZ(X:Cx)(scope:Scope)(cl:List (Str×Addr))(N:List Str)(C:Addr)(s₀:Shared)(H₀:Hp)(ex:List Addr)(Nm:List (Addr×Obj)):Cx :=
 { X with N:=N,s₀:=s₀,H₀:=H₀,env:=compEnvC scope cl C X.env,outer:=X.stack,stack:=X.stack,ex:=ex,fn:=λ_=>false,pn:=X.pn++Nm,xe:=λ_ _=>False }
inductive iy (X:Cx) (sc:Scope) (cl:List (Str×Addr)):List Str->List Nat->Prop where
 | nil:iy X sc cl [] []
 | cons {x:Str} {j:Nat} {c:Addr} {fs:List Str} {js:List Nat} (hN:X.N[j]?=some x) (hf:sc.names.lookup x=some .free) (hv:X.env.kindOf x=some .cell\/X.env.kindOf x=some .free) (hc:X.env.cells.lookup x=some c) (hl:cl.lookup x=some c) (r:iy X sc cl fs js):iy X sc cl (x::fs) (j::js)
inductive eF (X:Cx):List (Str×Addr)->Prop where
 | nil:eF X []
 | cons {x:Str} {c:Addr} {r:List (Str×Addr)} (h:X.env.cells.lookup x=some c) (t:eF X r):eF X ((x,c)::r)
theorem eF.at{X:Cx}:∀ {cl:List (Str×Addr)},eF X cl->∀ x c,cl.lookup x=some c->X.env.cells.lookup x=some c
 | _,.nil,_,_,e=>by simp at e
 | _,.cons (x:=y) (c:=d) h t,x,c,e=>by
  rw[List.lookup_cons] at e
  cases q:x==y with
  | true =>
   rw[q] at e
   have e':d=c:=Option.some.inj e
   have q':x=y:=by simpa using q
   rw[q',← e'];exact h
  | false =>
   rw[q] at e
   exact eF.at t x c e
def gF(cl:List (Str×Addr))(names:List (Str×NameKind)):Bool:=names.all λy=>y.2 != .free||(cl.lookup y.1).isSome
def fm(names:List (Str×NameKind)):Bool:=names.all λy=>y.2 != .cell
def gM(names:List (Str×NameKind)):Bool:=names.all λy=>y.2 != .local||(names.lookup y.1==some .local)
def fM(ts:List Str)(js:List Nat)(σ:St):St:=ts.map (λ_=>none)++js.map λj=>(σ[j]?).join
def Cc(wi:TI)(g:TG)(tt:Option TT)(te:TE)(ts:List Str)(js:List Nat):TE:=fun σ H Q=>wi σ H λJ H1=>∀ D,H1 D=none ->
 ∃ W:Nat->Nat->St->Hp->Prop,(∃ m,W 0 m (fM ts js σ) (upd H1 D (.lst [])))/\∀ i m σ' H',W i m σ' H' ->
  (J.stop i H'/\Q (.ref D) H')\/(J.go i H'/\∃ N:St->Hp->Prop,(∀ σ'' H'',N σ'' H''->∃ m',m'<m/\W (i+1) m' σ'' H'') ∧
   ∀ x H2,J.uY i H' x H2->g x σ' H2 fun σ2 H3=>match tt with
    | none=>te σ2 H3 λy H4=>∃ ys,H4 D=some (.lst ys)/\ys.length<sizeLine/\N σ2 (upd H4 D (.lst (ys++[y])))
    | some t=>t σ2 H3 λb QX=>if b=true then te σ2 QX λy H4=>∃ ys,H4 D=some (.lst ys)/\ys.length<sizeLine/\N σ2 (upd H4 D (.lst (ys++[y]))) else N σ2 QX)
theorem p8 {scope : Scope} {cl : List (Str × Addr)} {C : Addr} {env : Env} {x : Str} (h : (compEnvC scope cl C env).kindOf x = some .cell \/ (compEnvC scope cl C env).kindOf x = some .free) (nc : fm scope.names = true) : scope.names.lookup x = some .free := by
  have key : ∀ (names : List (Str × NameKind)), fm names = true ->
      ((names.map λ(n, k) => if (k == NameKind.free && env.scope.kind == .function && env.kindOf n == some .cell) then (n, NameKind.cell) else (n, k)).lookup x = some .cell ∨
       (names.map λ(n, k) => if (k == NameKind.free && env.scope.kind == .function && env.kindOf n == some .cell) then (n, NameKind.cell) else (n, k)).lookup x = some .free) -> names.lookup x = some .free := by
    intro names
    induction names with
    | nil => intro _ h; simp at h
    | cons p r ih =>
      obtain ⟨n, k⟩ := p
      intro nc h
      have nc' : (k != .cell) = true /\ fm r = true := by
        unfold fm at nc
        rw [List.all_cons, Bool.and_eq_true] at nc
        exact nc
      rw [List.map_cons] at h
      dsimp only at h
      by_cases hc : (k == NameKind.free && env.scope.kind == .function && env.kindOf n == some .cell) = true
      · rw [if_pos hc] at h
        rw [List.lookup_cons] at h ⊢
        cases q : x == n with
        | true =>
          have : k = .free := by
            rw [Bool.and_eq_true, Bool.and_eq_true] at hc
            simpa using hc.1.1
          rw [this]
        | false =>
          rw [q] at h
          exact ih nc'.2 h
      · rw [if_neg hc] at h
        rw [List.lookup_cons] at h ⊢
        cases q : x == n with
        | true =>
          rw [q] at h
          have nk : k ≠ .cell := by simpa using nc'.1
          rcases h with h | h
          · exact absurd (Option.some.inj h) nk
          · exact h
        | false =>
          rw [q] at h
          exact ih nc'.2 h
  exact key scope.names nc h
theorem vB{X:Cx}{tg elt iter:Expr}{ifs:List Expr}{scope:Scope}{cl:List (Str×Addr)}{pos NG:Pos}{wi:TI}{g:TG}{tt:Option TT}{te:TE}{ts fs:List Str}{js:List Nat}(NB:X.calm=true)
  (NO:closureFor scope X.env=pure cl) (hk:scope.kind=.function) (nc:fm scope.names=true) (lo:gM scope.names=true) (fh:gF cl scope.names=true) (ag:eF X cl) (fr:iy X scope cl fs js)
  (hi:PI X tg iter wi) (hg:∀ C s₀ H₀ ex Nm,PG (oZ X scope cl (ts++fs) C s₀ H₀ ex Nm) tg g)
  (ht:∀ C s₀ H₀ ex Nm,match ifs,tt with | [],none=>True | [c],some t=>PT (oZ X scope cl (ts++fs) C s₀ H₀ ex Nm) c t | _,_=>False)
  (he:∀ C s₀ H₀ ex Nm,PE (oZ X scope cl (ts++fs) C s₀ H₀ ex Nm) elt te)
  (hs:∀ x,foldedSetIterable iter X.env x=pure x) {Nm:List (Addr×Obj)} {s:Shared} {σ:St} {H:Hp} {Q:VK} (I:Inv X Nm σ H s) (h:Cc wi g tt te ts js σ H Q)
  (use:Option (Value->Sem Unit)) (Qv:Value->Shared->Prop)
  (Ii:∀ (D:Addr) (H':Hp) (s':Shared) (C:Addr),Inv X Nm σ H' s'->Q (.ref D) H'->(∃ m,s'.heap.Ns C m)->lU X Nm H' C->compPost (model X.prog X.w) X.A X.xe use Qv (.ref D) C (.ok .next) s') :
  wpAny (model X.prog X.w) X.A (comprehension (.ListComp elt [⟨tg,iter,ifs,0⟩] scope pos) scope X.env NG (newList []) false (eval iter X.env) use) Qv X.xe s:=by
 have Px:∀ y∈scope.names,y.2≠.cell:=λy hy=>by
  have:=List.all_eq_true.mp nc y hy
  simpa using this
 have QJ:∀ y∈scope.names,y.2=.local->scope.names.lookup y.1=some .local:=λy hy hl=>by
  have:=List.all_eq_true.mp lo y hy
  rw[hl] at this
  simpa using this
 refine wpAny_comprehension_free (use:=use) rfl hs NO hk QJ (cL (hi Nm s σ H _ I h) λv s1 h1=>cL h1 λitv s2 h2=>?_)
 obtain⟨it,fp,tn,J,H1,e,I2,T,QE,f2,hJ⟩:=h2
 subst e
 refine wpAny_newObj_type (wpAny_newFunctionEnv Px (by intro y hy;simp at hy) (λh₁ hns1 hsb1=>?_) hk)
 dsimp only at hns1 hsb1 ⊢
 generalize hH2:s2.heap.push { cls:=.type "list", dict:=none,data:=.seq ([]:List Value).toArray }=G at hns1 hsb1 ⊢
 have hC:G.objs.size=s2.heap.objs.size+1:=by rw[← hH2,Heap.size_push]
 have old:∀ b o,s2.heap.get? b=some o->h₁.get? b=some o:=λb o e=>by
  have hb:=Heap.lt_size e
  refine hsb1.extBut b o (Nat.ne_of_lt (Nat.lt_of_lt_of_le hb (Nat.le_of_lt (by rw[hC];exact Nat.lt_succ_self _)))) (Heap.get?_push_of_some _ ?_)
  rw[← hH2]
  exact Heap.get?_push_of_some _ e
 have hacc:h₁.get? s2.heap.objs.size=some { cls:=.type "list", dict:=none,data:=.seq #[] }:=by
  refine hsb1.extBut _ _ (Nat.ne_of_lt (by rw[hC];exact Nat.lt_succ_self _)) (Heap.get?_push_of_some _ ?_)
  rw[← hH2]
  exact Heap.get?_push_size _ rfl
 have nD:H1 s2.heap.objs.size=none:=I2.bJ.fresh (Nat.le_refl _)
 have nC:H1 G.objs.size=none:=I2.bJ.fresh (by omega)
 obtain⟨W,⟨m0,w0⟩,turn⟩:=hJ _ nD
 have Q7:∀ b∈fp,b<s2.heap.objs.size:=λb hb=>by
  obtain⟨o,e,_⟩:=T.obj _ _ QE b hb
  exact Heap.lt_size e
 have ltk:∀ (x:Str) (c:Addr),cl.lookup x=some c->c<s2.heap.objs.size/\H1 c=none/\(∃ v,s2.heap.IsCell c v):=λx c e=>by
  have e':=ag.at x c e
  obtain⟨v,q⟩:=I2.cell x c e'
  exact⟨q.lt,I2.lx x c e',v,q⟩
 let X':=oZ X scope cl (ts++fs) G.objs.size s2 H1 fp Nm
 have okX:X'.Ok:=by
  refine⟨I2.ok.mod,hk,I2.ok.glob,I2.ok.blt,by show s2.heap.objs.size<=G.objs.size;omega,λx y c e1 e2=>I2.ok.inj x y c (ag.at x c e1) (ag.at y c e2),λx hx=>?_,λx c hf _=>(nomatch (show (false:Bool)=true from hf)),I2.ok.hd,I2.ok.frames,.inl rfl,λb hb=>⟨?_,λx c e z=>?_⟩,λb o e=>I2.bs b o e,Nat.le_trans I2.ok.Fo I2.sz,λb o e hb=>?_,λb hb hz=>?_,I2.stack,λb hb=>I2.sY b hb⟩
  ·have Py:=p8 (env:=X.env) hx nc
   have hm:∃ y∈scope.names,y.1=x/\y.2=.free:=by
    have:∀ (l:List (Str×NameKind)),l.lookup x=some .free->∃ y∈l,y.1=x/\y.2=.free:=by
     intro l
     induction l with
     | nil=>intro h;simp at h
     | cons p r ih =>
      intro h
      rw[List.lookup_cons] at h
      cases q:x==p.1 with
      | true =>
       rw[q] at h
       exact⟨p,List.mem_cons_self,(by simpa using q:x=p.1).symm,Option.some.inj h⟩
      | false =>
       rw[q] at h
       obtain⟨y,hy,r1,r2⟩:=ih h
       exact⟨y,List.mem_cons_of_mem _ hy,r1,r2⟩
    exact this _ Py
   obtain⟨y,hy,r1,r2⟩:=hm
   have:=List.all_eq_true.mp fh y hy
   rw[r2] at this
   have h':(cl.lookup y.1).isSome=true:=by simpa using this
   rw[r1] at h'
   exact Option.isSome_iff_exists.mp h'
  ·exact Nat.ne_of_lt (Nat.lt_of_lt_of_le (Q7 b hb) (by show s2.heap.objs.size<=G.objs.size;omega))
  ·exact(f2 b hb).2.2.2.2.1 x c (ag.at x c e) z
  ·obtain⟨_,_,_,f3,_,_⟩:=f2 b hb
   rcases f3 with z | z
   ·exact I2.ok.ze b o e z
   ·exact absurd (Nat.lt_of_lt_of_le (Heap.lt_size (I2.ok.bs b o e).1) z) (Nat.lt_irrefl _)
  ·rcases List.mem_cons.mp (I2.s_ b hz) with z | z
   ·exact(f2 b hb).2.1 z
   ·exact(f2 b hb).2.2.1 z
 have keepB:∀ b o,s2.heap.get? b=some o->h₁.get? b=some o:=old
 have I3:Inv X' [] (fM ts js σ) (upd H1 s2.heap.objs.size (.lst [])) { s2 with heap:=h₁,toks:=s2.toks+([]:List (Str×Value)).length }:=by
  have neD:∀ b o,s2.heap.get? b=some o->b≠s2.heap.objs.size:=λb o e=>Nat.ne_of_lt (Heap.lt_size e)
  refine⟨okX,rfl,I2.bare,⟨λb o e n hb hx=>old b o e,λb o e n hb hx=>⟨o.slots,old b o e⟩,λb o e n hx=>by rw[aw (neD b o e)];exact n,λb o e hx=>⟨o,old b o e⟩,λb xs e=>?_,λb o u e=>?_,λb ps e=>?_⟩,⟨_,hns1,λi x v e1 e2 e3=>?_⟩,λx c e=>?_,?_,λx c e=>?_,λp hp=>?_,?_,?_⟩
  ·rw[aw (bW e nD)];exact e
  ·rw[aw (bW e nD)];exact e
  ·exact⟨#[],by rw[aw (bW e nD)];exact Eq.trans e (by simp)⟩
  ·
   have hlen:(ts.map (λ_=>(none:Option V))).length=ts.length:=List.length_map _
   unfold fM at e2
   by_cases N4:i<ts.length
   ·rw[List.getElem?_append_left (by rw[hlen];exact N4),List.getElem?_map] at e2
    cases q:ts[i]? <;> rw[q] at e2 <;> cases e2
   ·rw[List.getElem?_append_right (by rw[hlen];omega),hlen] at e2
    have e1':fs[i-ts.length]?=some x:=by
     have e1':(ts++fs)[i]?=some x:=e1
     rw[List.getElem?_append_right (by omega)] at e1'
     exact e1'
    have all:∀ {fs:List Str} {js:List Nat},iy X scope cl fs js->∀ k:Nat,fs[k]?=some x->(js.map λj=>(σ[j]?).join)[k]?=some (some v) ->
      ∃ (j:Nat) (c:Addr),X.N[j]?=some x/\σ[j]?=some (some v)/\(X.env.kindOf x=some .cell\/X.env.kindOf x=some .free)/\X.env.cells.lookup x=some c/\cl.lookup x=some c/\scope.names.lookup x=some .free:=by
     intro fs js r
     induction r with
     | nil=>intro k e;simp at e
     | @cons y j c fs js hN hf hv hc hl r ih =>
      intro k e e'
      cases k with
      | zero =>
       have e0:y=x:=by simpa using e
       subst e0
       have QZ:(σ[j]?).join=some v:=by simpa using e'
       refine⟨j,c,hN,?_,hv,hc,hl,hf⟩
       cases q:σ[j]? with
       | none=>rw[q] at QZ;cases QZ
       | some z=>rw[q] at QZ;cases z with
        | none=>cases QZ
        | some z =>
         have:z=v:=by simpa using QZ
         rw[this]
      | succ k=>exact ih k (by simpa using e) (by simpa using e')
    obtain⟨j,c,q1,q2,q3,q4,q5,q6⟩:=all fr (i-ts.length) e1' e2
    obtain⟨m,hn,hl⟩:=I2.loc
    have vis:Dp X.env.scope x:=by
     rcases q3 with z | z
     ·exact .inr (.inl z)
     ·exact .inr (.inr z)
    obtain⟨u,ru,lk⟩:=hl j x v q1 q2 vis
    refine⟨u,ru,.inr ⟨?_,c,q5,?_⟩⟩
    ·rcases e3 with z | z | z
     ·exfalso
      have key:∀ (l:List (Str×NameKind)),(l.map λ(n,k)=>if (k==NameKind.free&&X.env.scope.kind==.function&&X.env.kindOf n==some .cell) then (n,NameKind.cell) else (n,k)).lookup x=some .local->l.lookup x=some .local:=by
       intro l
       induction l with
       | nil=>intro h;simp at h
       | cons p r ih =>
        obtain⟨n,k⟩:=p
        intro h
        rw[List.map_cons] at h
        dsimp only at h
        by_cases hc:(k==NameKind.free&&X.env.scope.kind==.function&&X.env.kindOf n==some .cell)=true
        ·rw[if_pos hc] at h
         rw[List.lookup_cons] at h ⊢
         cases q:x==n with
         | true=>rw[q] at h;cases h
         | false=>rw[q] at h;exact ih h
        ·rw[if_neg hc] at h
         rw[List.lookup_cons] at h ⊢
         cases q:x==n with
         | true=>rw[q] at h;exact h
         | false=>rw[q] at h;exact ih h
      have:=key _ z
      rw[q6] at this
      cases this
     ·exact .inl z
     ·exact .inr z
    ·rcases lk with ⟨k,_⟩ | ⟨_,c',e4,z⟩
     ·rcases q3 with z | z <;> rw[z] at k <;> cases k
     ·rw[q4] at e4
      cases e4
      obtain⟨o,ho,hd⟩:=z
      exact⟨o,old c o ho,hd⟩
  ·obtain⟨_,_,v,o,ho,hd⟩:=ltk x c e
   exact⟨v,o,old c o ho,hd⟩
  ·show upd H1 s2.heap.objs.size (.lst []) G.objs.size=none
   rw[aw (Nat.ne_of_gt (by rw[hC];exact Nat.lt_succ_self _))];exact nC
  ·obtain⟨q1,q2,_⟩:=ltk x c e
   rw[aw (Nat.ne_of_lt q1)];exact q2
  ·have QC:p∈X.pn++Nm:=by
    have:p∈(X.pn++Nm)++[]:=hp
    rwa [List.append_nil] at this
   obtain⟨e,n,ne,nf,d⟩:=I2.pin p QC
   have N4:=Heap.lt_size e
   refine⟨old _ _ e,by rw[aw (Nat.ne_of_lt N4)];exact n,?_,λhz=>?_,d⟩
   ·show p.1≠G.objs.size
    exact Nat.ne_of_lt (Nat.lt_trans N4 (by rw[hC];exact Nat.lt_succ_self _))
   ·rcases List.mem_cons.mp (I2.s_ _ hz) with z | z
    ·exact ne z
    ·exact nf z
  ·exact I2.bJ.laid old (Nat.le_refl _) ⟨Nat.zero_le _,[],0,.nil,hacc⟩
  ·show (fM ts js σ).length=(ts++fs).length
   have frl:∀ {fs:List Str} {js:List Nat},iy X scope cl fs js->fs.length=js.length:=by
    intro fs js r
    induction r with
    | nil=>rfl
    | cons _ _ _ _ _ _ ih=>rw[List.length_cons,List.length_cons,ih]
   unfold fM
   rw[List.length_append,List.length_append,List.length_map,List.length_map,frl fr]
 have Pt:∀ {H':Hp},(∀ b∈fp,H' b=none)->∀ b∈fp,lU X' [] H' b:=λ{H'} hn b hb=>by
  obtain⟨_,f1,f3,_,f4,f5⟩:=f2 b hb
  refine⟨hn b hb,okX.LW b hb |>.1,okX.BW b hb,.inl hb,λx c e=>f4 x c (ag.at x c e),λp hp=>f5 p ?_⟩
  have:p∈(X.pn++Nm)++[]:=hp
  rwa [List.append_nil] at this
 have fin:∀ {σ':St} {H':Hp} {s':Shared},Inv X' [] σ' H' s'->Q (.ref s2.heap.objs.size) H' ->
   compPost (model X.prog X.w) X.A X.xe use Qv (.ref s2.heap.objs.size) G.objs.size (.ok .next) s':=by
  intro σ' H' s' I4 q
  obtain⟨m,hn,_⟩:=I4.loc
  have fC:H' G.objs.size=none:=I4.free
  have Io:Inv X Nm σ H' s':=by
   refine I2.Bx (s':=s') (ch:=fp) I4.os ⟨λb o e n hb hx=>?_,λb o e n hb hx=>?_,λb o e n hx=>I4.base.free b o e n hx,λb o e hx=>?_,I4.base.uP,I4.base.nA,I4.base.tq⟩ I4.bJ I4.bare λb hb=>?_
   ·exact I4.base.keep b o e n hb hx
   ·exact I4.base.slot b o e n hb hx
   ·exact I4.base.there b o e hx
   ·obtain⟨_,f1,_,f3,f4,f5⟩:=f2 b hb
    exact⟨f3,f1,f4,f5⟩
  have hCl:s2.heap.objs.size<=G.objs.size:=by rw[hC];exact Nat.le_succ _
  exact Ii _ H' s' _ Io q ⟨m,hn⟩ (I2.uM hCl fC)
 have loop:∀ s3:Shared,s3={ s2 with heap:=h₁,toks:=s2.toks+([]:List (Str×Value)).length } ->
   codeAny (model X.prog X.w) X.A (.compLoop (.ListComp elt [⟨tg,iter,ifs,0⟩] scope pos) 0 (.ref it) (.ref s2.heap.objs.size) (compEnvC scope cl G.objs.size X.env))
    (compPost (model X.prog X.w) X.A X.xe use Qv (.ref s2.heap.objs.size) G.objs.size) s3:=by
  rintro s3 rfl
  refine zy (λn s'=>∃ i σ' H',Inv X' [] σ' H' s'/\tn i s'.heap/\(∀ b∈fp,H' b=none)/\W i n σ' H') ?_ m0 ⟨0,_,_,I3,T.keep _ _ _ QE λb _ o e=>old b o e,λb hb=>?_,w0⟩
  ·rintro n s3 ⟨i,σ3,H3,I3,st3,fr3,w3⟩
   rcases turn i n σ3 H3 w3 with ⟨stop,qn⟩ | ⟨go,N,hN,step⟩
   ·refine cL (T.done X' rfl rfl rfl NB i [] s3 σ3 H3 _ I3 (Pt fr3) st3 stop) λr s4 ⟨hr,I4⟩=>?_
    subst hr
    exact fin I4 qn
   ·refine cL (T.item X' rfl rfl rfl NB i [] s3 σ3 H3 _ I3 (Pt fr3) st3 go) λr s4 ⟨u,hr,h4⟩=>?_
    subst hr
    refine cL h4 λ_ s5 ⟨x,H5,I5,r5,y5,st5,fr5⟩=>?_
    have I5':=I5.pinned (Pt fr5) (T.obj _ _ st5)
    refine cL (hg _ _ _ _ _ _ s5 σ3 H5 x u _ I5' r5 (step x H5 y5)) λ_ s6 ⟨σ6,H6,I6,q6⟩=>?_
    have again:∀ {σ7:St} {H7:Hp} {s7:Shared},Inv X' ([]++mR fp s5.heap) σ7 H7 s7->N σ7 H7->∃ m,m<n/\∃ i σ' H',Inv X' [] σ' H' s7/\tn i s7.heap/\(∀ b∈fp,H' b=none)/\W i m σ' H':=λ{σ7 H7 s7} I7 n7=>by
     obtain⟨m',hm,w7⟩:=hN σ7 H7 n7
     refine⟨m',hm,i+1,σ7,H7,I7.mI,T.keep _ _ _ st5 λb hb o e=>(I7.pin (b,o) (List.mem_append_right _ (List.mem_append_right _ (jx hb e)))).1,λb hb=>?_,w7⟩
     obtain⟨o,e,d⟩:=T.obj _ _ st5 b hb
     exact(I7.pin (b,o) (List.mem_append_right _ (List.mem_append_right _ (jx hb e)))).2.1
    have tail:∀ {H7:Hp} {s7:Shared},Inv X' ([]++mR fp s5.heap) σ6 H7 s7->(te σ6 H7 λy H4=>∃ ys,H4 s2.heap.objs.size=some (.lst ys)/\ys.length<sizeLine/\N σ6 (upd H4 s2.heap.objs.size (.lst (ys++[y])))) ->
      wpAny (model X.prog X.w) X.A (eval elt (compEnvC scope cl G.objs.size X.env)) (λx s₅=>wpAny (model X.prog X.w) X.A (call (.builtin "list.append") [.ref s2.heap.objs.size,x])
       (λ_ s₆=>∃ m,m<n/\∃ i σ' H',Inv X' [] σ' H' s₆/\tn i s₆.heap/\(∀ b∈fp,H' b=none)/\W i m σ' H') (λ_ _=>False) s₅) (λ_ _=>False) s7:=by
     intro H7 s7 I7 q7
     refine cL (he _ _ _ _ _ _ s7 σ6 H7 _ I7 q7) λuy s8 ⟨y,H8,I8,ry,ys,hy,hl,q8⟩=>?_
     refine cL (sS (X:=X') _ s8 σ6 H8 (.ref s2.heap.objs.size) [y] (.ref s2.heap.objs.size) [uy] (λ_ H9=>N σ6 H9) I8 rfl (.cons ry .nil) ⟨_,ys,y,rfl,rfl,hy,hl,q8⟩) λ_ s9 ⟨_,H9,I9,_,q9⟩=>?_
     exact again I9 q9
    cases ifs with
    | nil =>
     cases tt with
     | none=>exact wpAny_tests_nil (tail I6 q6)
     | some t=>exact(ht 0 s2 H1 [] []).elim
    | cons c r =>
     cases r with
     | nil =>
      cases tt with
      | none=>exact(ht 0 s2 H1 [] []).elim
      | some t =>
       refine wpAny_tests_one (cL (ht G.objs.size s2 H1 fp Nm _ s6 σ6 H6 _ I6 q6) λb s7 ⟨H7,I7,q7⟩=>?_)
       cases b with
       | true =>
        rw[if_pos rfl] at q7 ⊢
        exact tail I7 q7
       | false =>
        rw[if_neg Bool.false_ne_true] at q7 ⊢
        exact again I7 q7
     | cons _ _=>cases tt <;> exact(ht 0 s2 H1 [] []).elim
  ·rw[aw (Nat.ne_of_lt (Q7 b hb))]
   exact(f2 b hb).1
 exact codeAny_compStart_list (loop _ rfl) (T.self _ 0 _ _ _ (T.keep _ _ _ QE λb _ o e=>old b o e) (loop _ rfl))
theorem Inv.other{X:Cx}{Nm:List (Addr×Obj)}{σ:St}{H:Hp}{s:Shared}{C:Addr}{h':Heap}(I:Inv X Nm σ H s)(f:lU X Nm H C)(hs:Heap.SameBut C s.heap h'):Inv X Nm σ H { s with heap:=h' }:=by
 obtain⟨f0,f1,_,f3,f4,f5⟩:=f
 refine I.Bx (s':={ s with heap:=h' }) (ch:=[C]) rfl ⟨λb o e n hb hx=>?_,λb o e n hb hx=>?_,λb o e n hx=>n,λb o e hx=>?_,λ_ _ q=>q,λ_ _ _ q=>q,λb ps q=>⟨#[],by rw[q];simp⟩⟩ (λb u e=>?_) I.bare λb hb=>?_
 ·exact(hs.2 b (λz=>hx (by rw[z];exact List.mem_singleton.mpr rfl))).trans e
 ·exact⟨o.slots,(hs.2 b (λz=>hx (by rw[z];exact List.mem_singleton.mpr rfl))).trans e⟩
 ·exact⟨o,(hs.2 b (λz=>hx (by rw[z];exact List.mem_singleton.mpr rfl))).trans e⟩
 ·refine(I.bJ b u e).oK (λc v hc q=>(hs.2 c ?_).trans q) (λ_ q=>q) λ_ _ q=>q
  rcases hc with z | z
  ·rw[z];exact bW e f0
  ·exact bW z f0
 ·rw[List.mem_singleton.mp hb]
  exact⟨f3,f1,f4,f5⟩
theorem yS{X:Cx}{tg elt iter:Expr}{ifs:List Expr}{scope:Scope}{cl:List (Str×Addr)}{pos:Pos}{wi:TI}{g:TG}{tt:Option TT}{te:TE}{ts fs:List Str}{js:List Nat}(NB:X.calm=true)
  (NO:closureFor scope X.env=pure cl) (hk:scope.kind=.function) (nc:fm scope.names=true) (lo:gM scope.names=true) (fh:gF cl scope.names=true) (ag:eF X cl) (fr:iy X scope cl fs js)
  (hi:PI X tg iter wi) (hg:∀ C s₀ H₀ ex Nm,PG (oZ X scope cl (ts++fs) C s₀ H₀ ex Nm) tg g)
  (ht:∀ C s₀ H₀ ex Nm,match ifs,tt with | [],none=>True | [c],some t=>PT (oZ X scope cl (ts++fs) C s₀ H₀ ex Nm) c t | _,_=>False)
  (he:∀ C s₀ H₀ ex Nm,PE (oZ X scope cl (ts++fs) C s₀ H₀ ex Nm) elt te)
  (hs:autoParam (∀ x,foldedSetIterable iter X.env x=pure x) aI._auto_1) :
  PE X (.ListComp elt [⟨tg,iter,ifs,0⟩] scope pos) (Cc wi g tt te ts js):=by
 intro Nm s σ H Q I h
 rw[eval_ListComp]
 refine vB NB NO hk nc lo fh ag fr hi hg ht he hs I h none _ λD H' s' C Io q hm f=>?_
 obtain⟨m,hn⟩:=hm
 exact⟨m,hn,λh' QL=>⟨.ref D,H',Io.other f QL,rfl,q⟩⟩
def w4(wi:TI)(g:TG)(te:TE)(ts:List Str)(js:List Nat):TE:=fun σ H Q=>wi σ H λJ H1=>∀ D,H1 D=none ->
 ∃ W:Nat->Nat->St->Hp->Prop,(∃ m,W 0 m (fM ts js σ) (upd H1 D (.lst [])))/\∀ i m σ' H',W i m σ' H' ->
  (J.stop i H'/\Q (.ref D) H')\/(J.go i H'/\∃ N:St->Hp->Prop,(∀ σ'' H'',N σ'' H''->∃ m',m'<m/\W (i+1) m' σ'' H'') ∧
   ∀ x H2,J.uY i H' x H2->g x σ' H2 fun σ2 H3=>te σ2 H3 λy H4=>∃ ys,H4 D=some (.lst ys)/\ys.length<sizeLine/\N σ2 (upd H4 D (.lst (ys++[y]))))
def GK(wi:TI)(g:TG)(t:TT)(te:TE)(ts:List Str)(js:List Nat):TE:=fun σ H Q=>wi σ H λJ H1=>∀ D,H1 D=none ->
 ∃ W:Nat->Nat->St->Hp->Prop,(∃ m,W 0 m (fM ts js σ) (upd H1 D (.lst [])))/\∀ i m σ' H',W i m σ' H' ->
  (J.stop i H'/\Q (.ref D) H')\/(J.go i H'/\∃ N:St->Hp->Prop,(∀ σ'' H'',N σ'' H''->∃ m',m'<m/\W (i+1) m' σ'' H'') ∧
   ∀ x H2,J.uY i H' x H2->g x σ' H2 fun σ2 H3=>t σ2 H3 λb QX=>if b=true then te σ2 QX λy H4=>∃ ys,H4 D=some (.lst ys)/\ys.length<sizeLine/\N σ2 (upd H4 D (.lst (ys++[y]))) else N σ2 QX)
theorem Bj{X:Cx}{tg elt iter:Expr}{scope:Scope}{cl:List (Str×Addr)}{pos:Pos}{wi:TI}{g:TG}{te:TE}{ts fs:List Str}{js:List Nat}(NB:X.calm=true)
  (NO:closureFor scope X.env=pure cl) (hk:scope.kind=.function) (nc:fm scope.names=true) (lo:gM scope.names=true) (fh:gF cl scope.names=true) (ag:eF X cl) (fr:iy X scope cl fs js)
  (hi:PI X tg iter wi) (hg:∀ C s₀ H₀ ex Nm,PG (oZ X scope cl (ts++fs) C s₀ H₀ ex Nm) tg g) (he:∀ C s₀ H₀ ex Nm,PE (oZ X scope cl (ts++fs) C s₀ H₀ ex Nm) elt te)
  (hs:autoParam (∀ x,foldedSetIterable iter X.env x=pure x) aI._auto_1):PE X (.ListComp elt [⟨tg,iter,[],0⟩] scope pos) (w4 wi g te ts js) :=
 yS (tt:=none) NB NO hk nc lo fh ag fr hi hg (λ_ _ _ _ _=>trivial) he hs
theorem BA{X:Cx}{tg elt iter c:Expr}{scope:Scope}{cl:List (Str×Addr)}{pos:Pos}{wi:TI}{g:TG}{t:TT}{te:TE}{ts fs:List Str}{js:List Nat}(NB:X.calm=true)
  (NO:closureFor scope X.env=pure cl) (hk:scope.kind=.function) (nc:fm scope.names=true) (lo:gM scope.names=true) (fh:gF cl scope.names=true) (ag:eF X cl) (fr:iy X scope cl fs js)
  (hi:PI X tg iter wi) (hg:∀ C s₀ H₀ ex Nm,PG (oZ X scope cl (ts++fs) C s₀ H₀ ex Nm) tg g) (ht:∀ C s₀ H₀ ex Nm,PT (oZ X scope cl (ts++fs) C s₀ H₀ ex Nm) c t) (he:∀ C s₀ H₀ ex Nm,PE (oZ X scope cl (ts++fs) C s₀ H₀ ex Nm) elt te)
  (hs:autoParam (∀ x,foldedSetIterable iter X.env x=pure x) aI._auto_1):PE X (.ListComp elt [⟨tg,iter,[c],0⟩] scope pos) (GK wi g t te ts js) :=
 yS (tt:=some t) NB NO hk nc lo fh ag fr hi hg ht he hs
end L2
namespace L2
open PySem PySem.Spec PyProof.Rows
def fU(h:Heap)(b:Bool)(l:Addr)(xs:Array Value):Prop:=match b with
 | true=>h.IsList l xs
 | false=>h.IsTuple l xs
def eJ(h:Heap)(b:Bool)(it l:Addr)(i:Nat):Prop:=match b with
 | true=>h.IsListIter it l i
 | false=>h.IsTupleIter it l i
theorem fU.at{h h':Heap}{b:Bool}{l:Addr}{xs:Array Value}(x:fU h b l xs)(k:∀ o,h.get? l=some o->h'.get? l=some o):fU h' b l xs:=by
 cases b with
 | true=>obtain⟨o,ho,r⟩:=(show h.IsList l xs from x);exact(show h'.IsList l xs from ⟨o,k o ho,r⟩)
 | false=>obtain⟨o,ho,r⟩:=(show h.IsTuple l xs from x);exact(show h'.IsTuple l xs from ⟨o,k o ho,r⟩)
theorem eJ.at{h h':Heap}{b:Bool}{it l:Addr}{i:Nat}(x:eJ h b it l i)(k:∀ o,h.get? it=some o->h'.get? it=some o):eJ h' b it l i:=by
 cases b with
 | true=>obtain⟨o,ho,r⟩:=(show h.IsListIter it l i from x);exact(show h'.IsListIter it l i from ⟨o,k o ho,r⟩)
 | false=>obtain⟨o,ho,r⟩:=(show h.IsTupleIter it l i from x);exact(show h'.IsTupleIter it l i from ⟨o,k o ho,r⟩)
theorem eJ.obj{h:Heap}{b:Bool}{it l:Addr}{i:Nat}(x:eJ h b it l i):∃ o vs,h.get? it=some o/\o.data=.fields vs:=by
 cases b with
 | true=>obtain⟨o,ho,_,hd⟩:=(show h.IsListIter it l i from x);exact⟨o,_,ho,hd⟩
 | false=>obtain⟨o,ho,_,hd⟩:=(show h.IsTupleIter it l i from x);exact⟨o,_,ho,hd⟩
theorem fU.obj{h:Heap}{b:Bool}{l:Addr}{xs:Array Value}(x:fU h b l xs):∃ o n,h.get? l=some o/\o.data=.seq xs n:=by
 cases b with
 | true=>obtain⟨o,ho,_,n,hd⟩:=(show h.IsList l xs from x);exact⟨o,n,ho,hd⟩
 | false=>obtain⟨o,ho,_,n,hd⟩:=(show h.IsTuple l xs from x);exact⟨o,n,ho,hd⟩
section
variable{prog:Program}{w:World}{A:Around}{E:Value->Shared->Prop}{s:Shared}
theorem iu{it t:Addr}{i:Nat}{items:Array Value}{x:Value}{Q:Value->Shared->Prop}(hit:s.heap.IsTupleIter it t i)
  (ht:s.heap.IsTuple t items) (hx:items[i]?=some x)
  (hQ:∀ h',h'.IsTupleIter it t (i+1)->Heap.SameBut it s.heap h'->Q x { s with heap:=h' }) :
  wpAny (model prog w) A (Builtin.SmallTypes.nextOf (.ref it)) Q E s:=by
 obtain⟨o,ho,hc,hd⟩:=id hit
 obtain⟨ol,hol,_,nl,hdl⟩:=ht
 unfold Builtin.SmallTypes.nextOf
 refine wpAny_bind (wpAny_callSpecial?_slot (name:=Str.ofString "__next__") hit.typeIs F.slot_tuple_iterator_next
  (wpAny_call_entry F.slot_tuple_iterator_next hit.typeIs F.entry_tuple_iterator_next ?_ (F.args_tuple_iterator_next_1 _)))
 show wpAny _ _ (field (.ref it) 0 >>= _) _ _ s
 refine wpAny_bind (wpAny_field ho hd (x:=.ref t) rfl ?_)
 show wpAny _ _ (if (Value.ref t==Value.none)=true then _ else _) _ _ s
 rw[if_neg (show ¬ ((Value.ref t==Value.none)=true) from Bool.false_ne_true)]
 show wpAny _ _ (field (.ref it) 1 >>= _) _ _ s
 refine wpAny_bind (wpAny_field ho hd (x:=.int i 0) rfl ?_)
 show wpAny _ _ (seqItems? (.ref t) >>= _) _ _ s
 refine wpAny_bind (wpAny_seqItems hol hdl ?_)
 simp only[Int.toNat_natCast,hx]
 refine wpAny_bind (wpAny_setField ho hd (by simp) (wpAny_pure ⟨x,rfl,wpAny_pure (hQ _ ?_ (Heap.SameBut.update ..))⟩))
 exact⟨_,Heap.get?_update_self _ ho (Obj.isFreed_of_fields (Obj.data_mapFields hd _)),(Obj.cls_mapFields ..).trans hc,by
  rw[Obj.data_mapFields hd];simp[rawInt]⟩
theorem e9{it t:Addr}{i:Nat}{items:Array Value}{Q:Value->Shared->Prop}(hh:A.handled=none)
  (hit:s.heap.IsTupleIter it t i) (ht:s.heap.IsTuple t items) (hx:items[i]?=none)
  (hE:∀ h' e,Heap.ExtBut it s.heap h'->(∃ o,h'.get? e=some o/\o.cls=.type "StopIteration")->E (.ref e) { s with heap:=h' }) :
  wpAny (model prog w) A (Builtin.SmallTypes.nextOf (.ref it)) Q E s:=by
 obtain⟨o,ho,hc,hd⟩:=id hit
 obtain⟨ol,hol,_,nl,hdl⟩:=ht
 unfold Builtin.SmallTypes.nextOf
 refine wpAny_bind (wpAny_callSpecial?_slot (name:=Str.ofString "__next__") hit.typeIs F.slot_tuple_iterator_next
  (wpAny_call_entry F.slot_tuple_iterator_next hit.typeIs F.entry_tuple_iterator_next ?_ (F.args_tuple_iterator_next_1 _)))
 show wpAny _ _ (field (.ref it) 0 >>= _) _ _ s
 refine wpAny_bind (wpAny_field ho hd (x:=.ref t) rfl ?_)
 show wpAny _ _ (if (Value.ref t==Value.none)=true then _ else _) _ _ s
 rw[if_neg (show ¬ ((Value.ref t==Value.none)=true) from Bool.false_ne_true)]
 show wpAny _ _ (field (.ref it) 1 >>= _) _ _ s
 refine wpAny_bind (wpAny_field ho hd (x:=.int i 0) rfl ?_)
 show wpAny _ _ (seqItems? (.ref t) >>= _) _ _ s
 refine wpAny_bind (wpAny_seqItems hol hdl ?_)
 simp only[Int.toNat_natCast,hx]
 refine wpAny_bind (wpAny_rule (wpAny_bind (wpAny_setField ho hd (by simp) ?_)))
 show wpAny _ _ (newExc (.type "StopIteration") [] >>= _) _ _ _
 refine wpAny_bind ?_
 simp only[newExc,newTuple]
 refine wpAny_bind (wpAny_newObj_type ?_ (by size_fits))
 refine wpAny_bind (m:=firstArgMember _ _) (wpAny_of_eq (a:=Value.none) (by first | rfl | (simp only[firstArgMember];rfl)) ?_)
 refine wpAny_newObj_type ?_ (by size_fits)
 simp only[raiseNew]
 refine wpAny_bind (wpAny_handled ?_)
 first | rw[show A.in1.handled=none from hh] | rw[hh]
 refine wpAny_bind (wpAny_pure (wpAny_throw ?_))
 exact hE _ _ (((Heap.SameBut.update ..).extBut.push _).push _) ⟨_,Heap.get?_push_size _ rfl,rfl⟩
theorem cY{b:Bool}{it l:Addr}{i:Nat}{items:Array Value}{x:Value}{Q:Value->Shared->Prop}(hit:eJ s.heap b it l i)(hl:fU s.heap b l items)(hx:items[i]?=some x)
  (hQ:∀ h',eJ h' b it l (i+1)->Heap.SameBut it s.heap h'->Q x { s with heap:=h' }):wpAny (model prog w) A (Builtin.SmallTypes.nextOf (.ref it)) Q E s:=by
 cases b with
 | true=>exact wpAny_nextOf_list_item hit hl hx hQ
 | false=>exact iu hit hl hx hQ
theorem gX{b:Bool}{it l:Addr}{i:Nat}{items:Array Value}{Q:Value->Shared->Prop}(hh:A.handled=none)(hit:eJ s.heap b it l i)(hl:fU s.heap b l items)(hx:items[i]?=none)
  (hE:∀ h' e,Heap.ExtBut it s.heap h'->(∃ o,h'.get? e=some o/\o.cls=.type "StopIteration")->E (.ref e) { s with heap:=h' }):wpAny (model prog w) A (Builtin.SmallTypes.nextOf (.ref it)) Q E s:=by
 cases b with
 | true=>exact wpAny_nextOf_list_end hh hit hl hx hE
 | false=>exact e9 hh hit hl hx hE
theorem zE{b1 b2:Bool}{z TI TO i1 i2 l1 l2:Addr}{k1 k2:Nat}{xs ys:Array Value}{x y a b:Value}{Q:Value->Shared->Prop}(D:ZipApart z TI TO i1 i2 l1 l2)
  (hz:IsZip s.heap z TI TO .none) (N5:IsPair s.heap TI (.ref i1) (.ref i2)) (N8:IsPair s.heap TO a b)
  (h1:eJ s.heap b1 i1 l1 k1) (h2:eJ s.heap b2 i2 l2 k2) (ON:fU s.heap b1 l1 xs) (OO:fU s.heap b2 l2 ys) (hx:xs[k1]?=some x) (hy:ys[k2]?=some y)
  (hQ:∀ h',IsZip h' z TI TO (rawInt s.heap.objs.size)->IsPair h' TO x y->eJ h' b1 i1 l1 (k1+1)->eJ h' b2 i2 l2 (k2+1)->IsPair h' s.heap.objs.size x y->h'.objs.size=s.heap.objs.size+1 ->
   (∀ c o,c≠z->c≠TO->c≠i1->c≠i2->s.heap.get? c=some o->h'.get? c=some o)->Q (.ref s.heap.objs.size) { s with heap:=h' }) :
  wpAny (model prog w) A (Builtin.«zip.__next__» ⟨[.ref z],[]⟩) (λfin s'=>∃ v,fin=.done (.ret v)/\Q v s') E s:=by
 show wpAny _ _ (field (.ref z) 2 >>= _) _ _ _
 refine wpAny_bind (wpAny_field hz rfl (x:=.bool false) rfl ?_)
 show wpAny _ _ (field (.ref z) 3 >>= _) _ _ _
 refine wpAny_bind (wpAny_field hz rfl (x:=.ref TI) rfl ?_)
 refine wpAny_bind (wpAny_seqItems N5 rfl ?_)
 show wpAny _ _ (Builtin.SmallTypes.ownedTupleIsFree (.ref z) >>= _) _ _ _
 refine wpAny_bind ?_
 unfold Builtin.SmallTypes.ownedTupleIsFree
 refine wpAny_bind (wpAny_field hz rfl (x:=.none) rfl (wpAny_pure ?_))
 simp only[if_true]
 refine wpAny_bind (wpAny_rule ?_)
 refine wpAny_bind (wpAny_field hz rfl (x:=.ref TO) rfl ?_)
 refine wpAny_bind (wpAny_setField_rec hz (by simp) λh₁ hz1 hs1=>?_)
 replace hz1:IsZip h₁ z TI TO .ellipsis:=hz1
 refine wpAny_bind ?_
 simp only[List.zipIdx_cons,List.zipIdx_nil,List.forIn_cons,List.forIn_nil]
 refine wpAny_bind (wpAny_bind (wpAny_onRaise ?_))
 show wpAny _ _ (Builtin.SmallTypes.nextOf (.ref i1) >>= _) _ _ _
 refine wpAny_bind (cY (h1.at λo e=>hs1.extBut _ _ D.i1z e) (ON.at λo e=>hs1.extBut _ _ D.l1z e) hx λh₂ h1₂ hs2=>wpAny_pure ?_)
 have hTO2:IsPair h₂ TO a b:=hs2.extBut _ _ D.TOi1 (hs1.extBut _ _ D.TOz N8)
 refine wpAny_bind (wpAny_seqItems hTO2 rfl ?_)
 refine wpAny_bind (wpAny_updateSeq_pair hTO2 λh₃ hTO3 hs3=>?_)
 replace hTO3:IsPair h₃ TO x b:=hTO3
 refine wpAny_bind (wpAny_letGo (wpAny_pure ?_))
 refine wpAny_bind (wpAny_bind (wpAny_onRaise ?_))
 show wpAny _ _ (Builtin.SmallTypes.nextOf (.ref i2) >>= _) _ _ _
 refine wpAny_bind (cY (h2.at λo e=>hs3.extBut _ _ D.TOi2.symm (hs2.extBut _ _ D.i12.symm (hs1.extBut _ _ D.i2z e)))
  (OO.at λo e=>hs3.extBut _ _ D.l2TO (hs2.extBut _ _ D.l2i1 (hs1.extBut _ _ D.l2z e))) hy λh₄ h2₄ hs4=>wpAny_pure ?_)
 have hTO4:IsPair h₄ TO x b:=hs4.extBut _ _ D.TOi2 hTO3
 refine wpAny_bind (wpAny_seqItems hTO4 rfl ?_)
 refine wpAny_bind (wpAny_updateSeq_pair hTO4 λh₅ hTO5 hs5=>?_)
 replace hTO5:IsPair h₅ TO x y:=hTO5
 refine wpAny_bind (wpAny_letGo (wpAny_pure (wpAny_pure ?_)))
 refine wpAny_bind (wpAny_seqItems hTO5 rfl ?_)
 refine wpAny_bind (wpAny_newTuple ?_)
 have Od:h₅.objs.size=s.heap.objs.size:=by rw[hs5.1,hs4.1,hs3.1,hs2.1,hs1.1]
 have hz5:IsZip h₅ z TI TO .ellipsis:=hs5.extBut _ _ D.TOz.symm (hs4.extBut _ _ D.i2z.symm (hs3.extBut _ _ D.TOz.symm (hs2.extBut _ _ D.i1z.symm hz1)))
 have hk5:∀ c o,c≠z->c≠TO->c≠i1->c≠i2->s.heap.get? c=some o->h₅.get? c=some o:=λc o c1 c2 c3 c4 e =>
  hs5.extBut _ _ c2 (hs4.extBut _ _ c4 (hs3.extBut _ _ c2 (hs2.extBut _ _ c3 (hs1.extBut _ _ c1 e))))
 have h1₅:eJ h₅ b1 i1 l1 (k1+1):=h1₂.at λo e=>hs5.extBut _ _ D.TOi1.symm (hs4.extBut _ _ D.i12 (hs3.extBut _ _ D.TOi1.symm e))
 have h2₅:eJ h₅ b2 i2 l2 (k2+1):=h2₄.at λo e=>hs5.extBut _ _ D.TOi2.symm e
 have Qa:z<h₅.objs.size:=Heap.lt_size hz5
 show wpAny _ _ (Builtin.SmallTypes.ownedTupleHandOut (.ref z) (.ref h₅.objs.size) >>= _) _ _ _
 refine wpAny_bind ?_
 unfold Builtin.SmallTypes.ownedTupleHandOut
 have hz6:IsZip (h₅.push { cls:=.type "tuple", data:=.seq #[x,y] }) z TI TO .ellipsis:=Heap.get?_push_of_some _ hz5
 refine wpAny_bind (wpAny_setField_rec hz6 (by simp) λh₇ hz7 hs7=>?_)
 replace hz7:IsZip h₇ z TI TO (rawInt h₅.objs.size):=hz7
 refine wpAny_setField_rec hz7 (by simp) λh₈ hz₈ hs8=>?_
 replace hz₈:IsZip h₈ z TI TO (rawInt h₅.objs.size):=hz₈
 have up:∀ c o,c≠z->h₅.get? c=some o->h₈.get? c=some o:=λc o c1 e=>hs8.extBut _ _ c1 (hs7.extBut _ _ c1 (Heap.get?_push_of_some _ e))
 have hT8:IsPair h₈ h₅.objs.size x y:=hs8.extBut _ _ (Nat.ne_of_gt Qa) (hs7.extBut _ _ (Nat.ne_of_gt Qa) (Heap.get?_push_size _ rfl))
 have hz8:h₈.objs.size=h₅.objs.size+1:=by rw[hs8.1,hs7.1,Heap.size_push]
 rw[Od] at hz₈ hT8 hz8
 refine wpAny_pure ⟨_,rfl,?_⟩
 show Q (.ref h₅.objs.size) _
 rw[Od]
 exact hQ h₈ hz₈ (up _ _ D.TOz hTO5) (h1₅.at λo e=>up _ o D.i1z e) (h2₅.at λo e=>up _ o D.i2z e) hT8 hz8 λc o c1 c2 c3 c4 e=>up c o c1 (hk5 c o c1 c2 c3 c4 e)
theorem Bn{b1 b2:Bool}{z TI TO i1 i2 l1 l2:Addr}{k1 k2:Nat}{xs ys:Array Value}{a b:Value}{Q:Fin->Shared->Prop}(hh:A.handled=none)(D:ZipApart z TI TO i1 i2 l1 l2)
  (hz:IsZip s.heap z TI TO .none) (N5:IsPair s.heap TI (.ref i1) (.ref i2)) (N8:IsPair s.heap TO a b)
  (h1:eJ s.heap b1 i1 l1 k1) (h2:eJ s.heap b2 i2 l2 k2) (ON:fU s.heap b1 l1 xs) (OO:fU s.heap b2 l2 ys) (OW:xs[k1]?=none\/ys[k2]?=none)
  (hE:∀ h' e,(∀ c o,c≠z->c≠TO->c≠i1->c≠i2->s.heap.get? c=some o->h'.get? c=some o)->(∃ o,h'.get? e=some o/\o.cls=.type "StopIteration")->E (.ref e) { s with heap:=h' }) :
  wpAny (model prog w) A (Builtin.«zip.__next__» ⟨[.ref z],[]⟩) Q E s:=by
 show wpAny _ _ (field (.ref z) 2 >>= _) _ _ _
 refine wpAny_bind (wpAny_field hz rfl (x:=.bool false) rfl ?_)
 show wpAny _ _ (field (.ref z) 3 >>= _) _ _ _
 refine wpAny_bind (wpAny_field hz rfl (x:=.ref TI) rfl ?_)
 refine wpAny_bind (wpAny_seqItems N5 rfl ?_)
 show wpAny _ _ (Builtin.SmallTypes.ownedTupleIsFree (.ref z) >>= _) _ _ _
 refine wpAny_bind ?_
 unfold Builtin.SmallTypes.ownedTupleIsFree
 refine wpAny_bind (wpAny_field hz rfl (x:=.none) rfl (wpAny_pure ?_))
 simp only[if_true]
 refine wpAny_bind (wpAny_rule ?_)
 refine wpAny_bind (wpAny_field hz rfl (x:=.ref TO) rfl ?_)
 refine wpAny_bind (wpAny_setField_rec hz (by simp) λh₁ hz1 hs1=>?_)
 replace hz1:IsZip h₁ z TI TO .ellipsis:=hz1
 refine wpAny_bind ?_
 simp only[List.zipIdx_cons,List.zipIdx_nil,List.forIn_cons,List.forIn_nil]
 refine wpAny_bind (wpAny_bind (wpAny_onRaise ?_))
 show wpAny _ _ (Builtin.SmallTypes.nextOf (.ref i1) >>= _) _ _ _
 cases hx:xs[k1]? with
 | none =>
  refine wpAny_bind (gX hh (h1.at λo e=>hs1.extBut _ _ D.i1z e) (ON.at λo e=>hs1.extBut _ _ D.l1z e) hx λh₂ e hs2 he=>?_)
  obtain⟨oe,OQ,Pw⟩:=he
  have hz2:IsZip h₂ z TI TO .ellipsis:=hs2 _ _ D.i1z.symm hz1
  have Qn:e≠z:=λx=>by subst x;rw[hz2] at OQ;cases OQ;simp at Pw
  refine wpAny_setField_rec hz2 (by simp) λh₃ _ hs3=>hE h₃ e (λc o c1 _ c3 _ x=>hs3.extBut _ _ c1 (hs2 _ _ c3 (hs1.extBut _ _ c1 x))) ⟨oe,hs3.extBut _ _ Qn OQ,Pw⟩
 | some x =>
  have hy:ys[k2]?=none:=by rcases OW with h | h;rw[hx] at h;cases h;exact h
  refine wpAny_bind (cY (h1.at λo e=>hs1.extBut _ _ D.i1z e) (ON.at λo e=>hs1.extBut _ _ D.l1z e) hx λh₂ h1₂ hs2=>wpAny_pure ?_)
  have hTO2:IsPair h₂ TO a b:=hs2.extBut _ _ D.TOi1 (hs1.extBut _ _ D.TOz N8)
  refine wpAny_bind (wpAny_seqItems hTO2 rfl ?_)
  refine wpAny_bind (wpAny_updateSeq_pair hTO2 λh₃ hTO3 hs3=>?_)
  refine wpAny_bind (wpAny_letGo (wpAny_pure ?_))
  refine wpAny_bind (wpAny_bind (wpAny_onRaise ?_))
  show wpAny _ _ (Builtin.SmallTypes.nextOf (.ref i2) >>= _) _ _ _
  refine wpAny_bind (gX hh (h2.at λo e=>hs3.extBut _ _ D.TOi2.symm (hs2.extBut _ _ D.i12.symm (hs1.extBut _ _ D.i2z e)))
   (OO.at λo e=>hs3.extBut _ _ D.l2TO (hs2.extBut _ _ D.l2i1 (hs1.extBut _ _ D.l2z e))) hy λh₄ e hs4 he=>?_)
  obtain⟨oe,OQ,Pw⟩:=he
  have hz4:IsZip h₄ z TI TO .ellipsis:=hs4 _ _ D.i2z.symm (hs3.extBut _ _ D.TOz.symm (hs2.extBut _ _ D.i1z.symm hz1))
  have Qn:e≠z:=λx=>by subst x;rw[hz4] at OQ;cases OQ;simp at Pw
  refine wpAny_setField_rec hz4 (by simp) λh₅ _ hs5=>hE h₅ e (λc o c1 c2 c3 c4 x=>hs5.extBut _ _ c1 (hs4 _ _ c4 (hs3.extBut _ _ c2 (hs2.extBut _ _ c3 (hs1.extBut _ _ c1 x))))) ⟨oe,hs5.extBut _ _ Qn OQ,Pw⟩
theorem wx{b:Bool}{l:Addr}{items:Array Value}{Q:Value->Shared->Prop}(hl:fU s.heap b l items)
  (h:∀ o,o=({ cls:=.type (if b then "list_iterator" else "tuple_iterator"),data:=.fields #[.ref l,.int 0 0] }:Obj)->Q (.ref s.heap.objs.size) { s with heap:=s.heap.push o }):wpAny (model prog w) A (pyIter (.ref l)) Q E s:=by
 cases b with
 | true=>exact wpAny_pyIter_list hl (h _ rfl)
 | false=>exact wpAny_pyIter_tuple hl (h _ rfl)
theorem mY{b1 b2:Bool}{z TI TO i1 i2 l1 l2:Addr}{k1 k2:Nat}{xs ys:Array Value}{x y a b:Value}{Q:Option Value->Shared->Prop}(D:ZipApart z TI TO i1 i2 l1 l2)
  (hz:IsZip s.heap z TI TO .none) (N5:IsPair s.heap TI (.ref i1) (.ref i2)) (N8:IsPair s.heap TO a b)
  (h1:eJ s.heap b1 i1 l1 k1) (h2:eJ s.heap b2 i2 l2 k2) (ON:fU s.heap b1 l1 xs) (OO:fU s.heap b2 l2 ys) (hx:xs[k1]?=some x) (hy:ys[k2]?=some y)
  (hQ:∀ h',IsZip h' z TI TO (rawInt s.heap.objs.size)->IsPair h' TO x y->eJ h' b1 i1 l1 (k1+1)->eJ h' b2 i2 l2 (k2+1)->IsPair h' s.heap.objs.size x y->h'.objs.size=s.heap.objs.size+1 ->
   (∀ c o,c≠z->c≠TO->c≠i1->c≠i2->s.heap.get? c=some o->h'.get? c=some o)->Q (some (.ref s.heap.objs.size)) { s with heap:=h' }) :
  wpAny (model prog w) A (pyNext (.ref z)) Q E s:=by
 have hT:s.TypeIs (.ref z) "zip" := ⟨_,hz,rfl⟩
 unfold pyNext
 exact wpAny_bind (wpAny_attempt (wpAny_callSpecial?_slot (name:=Str.ofString "__next__") hT F.slot_zip_next
  (wpAny_call_entry F.slot_zip_next hT F.entry_zip_next
   (zE D hz N5 N8 h1 h2 ON OO hx hy λh' a1 a2 a3 a4 a5 a6 a7=>wpAny_pure (hQ h' a1 a2 a3 a4 a5 a6 a7)) (F.args_zip_next_1 _))))
theorem oH{b1 b2:Bool}{z TI TO i1 i2 l1 l2:Addr}{k1 k2:Nat}{xs ys:Array Value}{a b:Value}{Q:Option Value->Shared->Prop}(hh:A.handled=none)(D:ZipApart z TI TO i1 i2 l1 l2)
  (hz:IsZip s.heap z TI TO .none) (N5:IsPair s.heap TI (.ref i1) (.ref i2)) (N8:IsPair s.heap TO a b)
  (h1:eJ s.heap b1 i1 l1 k1) (h2:eJ s.heap b2 i2 l2 k2) (ON:fU s.heap b1 l1 xs) (OO:fU s.heap b2 l2 ys) (OW:xs[k1]?=none\/ys[k2]?=none)
  (hQ:∀ h',(∀ c o,c≠z->c≠TO->c≠i1->c≠i2->s.heap.get? c=some o->h'.get? c=some o)->Q none { s with heap:=h' }):wpAny (model prog w) A (pyNext (.ref z)) Q E s:=by
 have hT:s.TypeIs (.ref z) "zip" := ⟨_,hz,rfl⟩
 unfold pyNext
 refine wpAny_bind (wpAny_attempt (wpAny_callSpecial?_slot (name:=Str.ofString "__next__") hT F.slot_zip_next
  (wpAny_call_entry F.slot_zip_next hT F.entry_zip_next (Bn hh D hz N5 N8 h1 h2 ON OO OW λh' e hk he=>?_) (F.args_zip_next_1 _))))
 obtain⟨o,ho,hc⟩:=he
 refine wpAny_bind (wpAny_isInstance (T := "StopIteration") (b:=true) ⟨o,ho,hc⟩ isSubtype_stop ?_)
 exact wpAny_pure (hQ _ hk)
abbrev Dm(b:Bool)(l:Addr):Obj:={ cls:=.type (if b then "list_iterator" else "tuple_iterator"),data:=.fields #[.ref l,.int 0 0] }
abbrev GJ(h:Heap)(b1:Bool)(l1:Addr):Heap:=h.push (Dm b1 l1)
abbrev FF(h:Heap)(b1 b2:Bool)(l1 l2:Addr):Heap:=(GJ h b1 l1).push (Dm b2 l2)
abbrev K7(h:Heap)(b1 b2:Bool)(l1 l2:Addr):Heap:=(FF h b1 b2 l1 l2).push { cls:=.type "tuple", data:=.seq #[.ref h.objs.size,.ref (GJ h b1 l1).objs.size] }
abbrev K3(h:Heap)(b1 b2:Bool)(l1 l2:Addr):Heap:=(K7 h b1 b2 l1 l2).push { cls:=.type "tuple", data:=.seq #[.none,.none] }
abbrev Il(h:Heap)(b1 b2:Bool)(l1 l2:Addr):Heap:=(K3 h b1 b2 l1 l2).push { cls:=.type "zip", data:=.fields #[.none,.bool false,.bool false,.ref (FF h b1 b2 l1 l2).objs.size,.ref (K7 h b1 b2 l1 l2).objs.size] }
end
theorem fV{prog:Program}{w:World}{A:Around}{E:Value->Shared->Prop}{s:Shared}{b:Bool}{l:Addr}{items:Array Value}{Q:Value->Shared->Prop}(hl:fU s.heap b l items)
  (h:Q (.ref s.heap.objs.size) { s with heap:=s.heap.push (Dm b l) }):wpAny (model prog w) A (pyIter (.ref l)) Q E s:=wx hl λo e=>by subst e;exact h
theorem fU.push{h:Heap}{b:Bool}{l:Addr}{xs:Array Value}(x:fU h b l xs)(o:Obj):fU (h.push o) b l xs:=x.at λ_ e=>Heap.get?_push_of_some _ e
theorem qE(b1 b2:Bool)(l1 l2:Addr)(xs ys:Array Value) :
  Meets (Builtin.«zip.__new__» ⟨[.type "zip", .ref l1,.ref l2],[]⟩) (λ_ R s=>fU s.heap b1 l1 xs/\fU s.heap b2 l2 ys ∧
   R (.ok (.ret (.ref (K3 s.heap b1 b2 l1 l2).objs.size))) { s with heap:=Il s.heap b1 b2 l1 l2 }) :=
 .of_wp λprog w A R s h=>by
  obtain⟨hp,g,d,tk,os⟩:=s;obtain⟨ON,OO,h⟩:=h
  have Rh:=sub_zip
  have hL1:fU (Shared.heap ⟨hp,g,d,tk,os⟩) b1 l1 xs:=ON
  have hL2:fU (Shared.heap ⟨hp.push (Dm b1 l1),g,d,tk,os⟩) b2 l2 ys:=fU.push OO _
  wp_walk using fV hL1,fV hL2
  exact⟨_,rfl,h⟩
section
variable{prog:Program}{w:World}{A:Around}{E:Value->Shared->Prop}{s:Shared}
theorem eJ.new(h:Heap)(b:Bool)(it l:Addr)(e:h.get? it=some (Dm b l)):eJ h b it l 0:=by
 cases b with
 | true=>exact⟨_,e,rfl,rfl⟩
 | false=>exact⟨_,e,rfl,rfl⟩
theorem Ao{b1 b2:Bool}{l1 l2:Addr}{xs ys:Array Value}{Q:Value->Shared->Prop}(ON:fU s.heap b1 l1 xs)(OO:fU s.heap b2 l2 ys)
  (h:∀ h',IsZip h' (s.heap.objs.size+4) (s.heap.objs.size+2) (s.heap.objs.size+3) .none->IsPair h' (s.heap.objs.size+2) (.ref s.heap.objs.size) (.ref (s.heap.objs.size+1)) ->
   IsPair h' (s.heap.objs.size+3) .none .none->eJ h' b1 s.heap.objs.size l1 0->eJ h' b2 (s.heap.objs.size+1) l2 0->h'.objs.size=s.heap.objs.size+5 ->
   (∀ c o,s.heap.get? c=some o->h'.get? c=some o)->Q (.ref (s.heap.objs.size+4)) { s with heap:=h' }) :
  wpAny (model prog w) A (call (.type "zip") [.ref l1,.ref l2]) Q E s:=by
 refine callType_new F.called_zip (by decide) (F.typeCall_zip_2 _ _) (F.newCall_zip_2 _ _) (λobj=>F.args_object_init_3 obj _ _) F.entry_zip_new
  (qE b1 b2 l1 l2 xs ys) ⟨ON,OO,?_⟩
 have z1:(GJ s.heap b1 l1).objs.size=s.heap.objs.size+1:=Heap.size_push ..
 have z2:(FF s.heap b1 b2 l1 l2).objs.size=s.heap.objs.size+2:=by rw[Heap.size_push,z1]
 have z3:(K7 s.heap b1 b2 l1 l2).objs.size=s.heap.objs.size+3:=by rw[Heap.size_push,z2]
 have z4:(K3 s.heap b1 b2 l1 l2).objs.size=s.heap.objs.size+4:=by rw[Heap.size_push,z3]
 have z5:(Il s.heap b1 b2 l1 l2).objs.size=s.heap.objs.size+5:=by rw[Heap.size_push,z4]
 have g5:(Il s.heap b1 b2 l1 l2).get? (K3 s.heap b1 b2 l1 l2).objs.size=some _:=Heap.get?_push_size _ rfl
 have g4:(Il s.heap b1 b2 l1 l2).get? (K7 s.heap b1 b2 l1 l2).objs.size=some _:=Heap.get?_push_of_some _ (Heap.get?_push_size _ rfl)
 have g3:(Il s.heap b1 b2 l1 l2).get? (FF s.heap b1 b2 l1 l2).objs.size=some _:=Heap.get?_push_of_some _ (Heap.get?_push_of_some _ (Heap.get?_push_size _ rfl))
 have g2:(Il s.heap b1 b2 l1 l2).get? (GJ s.heap b1 l1).objs.size=some _:=Heap.get?_push_of_some _ (Heap.get?_push_of_some _ (Heap.get?_push_of_some _ (Heap.get?_push_size _ rfl)))
 have g1:(Il s.heap b1 b2 l1 l2).get? s.heap.objs.size=some _:=Heap.get?_push_of_some _ (Heap.get?_push_of_some _ (Heap.get?_push_of_some _ (Heap.get?_push_of_some _ (Heap.get?_push_size _ rfl))))
 show _/\_
 rw[z2,z3,z4] at g5
 rw[z1,z2] at g3
 rw[z3] at g4
 rw[z1] at g2
 rw[z4]
 exact⟨⟨_,g5,rfl⟩,h _ g5 g3 g4 (eJ.new _ b1 _ _ g1) (eJ.new _ b2 _ _ g2) z5 λc o x =>
  Heap.get?_push_of_some _ (Heap.get?_push_of_some _ (Heap.get?_push_of_some _ (Heap.get?_push_of_some _ (Heap.get?_push_of_some _ x))))⟩
end
def kG(K:PySem.W.Frag)(H:Hp)(b:Bool)(a:Addr)(xs:List V):Prop:=match b with
 | true=>hX K H a xs
 | false=>gc K H a xs
section
variable{X:Cx}
theorem Inv.row{Nm:List (Addr×Obj)}{σ:St}{H:Hp}{s:Shared}{b:Bool}{a:Addr}{xs:List V}(I:Inv X Nm σ H s)(h:kG X.K H b a xs):∃ Nn:List Value,Vals xs Nn/\fU s.heap b a Nn.toArray/\xs.length<=sizeLine:=by
 cases b with
 | true =>
  obtain⟨Nn,r,p,z⟩:=I.list h
  exact⟨Nn,r,p.isList,z⟩
 | false =>
  obtain⟨Nn,r,p,z⟩:=I.tuple h
  exact⟨Nn,r,p,z⟩
theorem Inv.mn{Nm:List (Addr×Obj)}{σ:St}{H:Hp}{s:Shared}{b:Bool}{a:Addr}{xs ys:List V}(I:Inv X Nm σ H s)(h:kG X.K H b a xs)(h':kG X.K H b a ys):xs=ys:=by
 cases b with
 | true=>exact I.qr h h'
 | false=>exact I.mP h h'
theorem Inv.yh{Nm:List (Addr×Obj)}{σ:St}{H:Hp}{s:Shared}{h':Heap}{t':Nat}{ch:List Addr}(I:Inv X Nm σ H s)(k:∀ b u,b ∉ ch->s.heap.get? b=some u->h'.get? b=some u)
  (Pc:∀ b∈ch,lU X Nm H b):Inv X Nm σ H { s with heap:=h',toks:=t' }:=by
 have Qf:∀ b u,H b=some u->b ∉ ch:=λb u e z=>by rw[(Pc b z).1] at e;cases e
 refine I.step (g':=s.gens) (d':=s.drawn) (ch:=ch) (λb hb=>?_) (λb u _ _ hc e _=>k b u hc e) (λb u _ _ hc e _=>⟨u.slots,k b u hc e⟩)
  (λb u _ e n=>n) (λb u hc e=>⟨u,k b u hc e⟩) (λb xs e=>e) (λb ob u e=>e) (λb ps e=>⟨#[],by rw[e];simp⟩) (λm hm=>?_) (λb u e=>?_) I.bare
 ·obtain⟨_,f1,_,f3,f4,f5⟩:=Pc b hb
  exact⟨f3,f1,f4,f5⟩
 ·obtain⟨ob,es,ep,ho,r⟩:=hm
  exact⟨ob,es,ep,k _ ob (λz=>(Pc _ z).2.1 rfl) ho,r⟩
 ·refine(I.bJ b u e).oK (λc v hc q=>k c v ?_ q) (λc q=>q) λc ys q=>q
  rcases hc with z' | z'
  ·rw[z'];exact Qf b u e
  ·exact Qf c _ z'
theorem cN{Nm:List (Addr×Obj)}{σ:St}{H:Hp}{s:Shared}{b:Bool}{a c:Addr}{xs:List V}(I:Inv X Nm σ H s)(h:kG X.K H b a xs)(f:lU X Nm H c):a≠c:=by
 have rd:∀ {u:HO},Rd H a u->a≠c:=λ{u} r=>by
  rcases r with r | ⟨o,r⟩
  ·exact bW r f.1
  ·exact bW r f.1
 have mk:∀ {o:Obj},X.K.lookup a=some o->a≠c:=λ{o} e z=>by
  subst z
  have e':=I.ok.mod.FN _ _ e
  rcases f.2.2.2.1 with q | q
  ·exact I.ok.ze _ _ e' q
  ·exact absurd (Nat.lt_of_lt_of_le (Heap.lt_size (I.ok.bs _ _ e').1) q) (Nat.lt_irrefl _)
 cases b with
 | true =>
  rcases(show hX X.K H a xs from h) with r | ⟨o,Nn,n,e,_⟩
  ·exact rd r
  ·exact mk e
 | false =>
  rcases(show gc X.K H a xs from h) with r | ⟨o,Nn,n,e,_⟩
  ·exact rd r
  ·exact mk e
def MJ (K : PySem.W.Frag) (b1 b2 : Bool) (a1 a2 : Addr) : It :=
  ⟨λi H => ∃ xs ys x y, kG K H b1 a1 xs /\ kG K H b2 a2 ys /\ xs[i]? = some x /\ ys[i]? = some y,
   λi H v H' => ∃ p x y, H p = none /\ v = .ref p /\ H' = upd H p (.tup [x, y]) /\ (∀ xs, kG K H b1 a1 xs -> xs[i]? = some x) /\ (∀ ys, kG K H b2 a2 ys -> ys[i]? = some y),
   λi H => ∃ xs ys, kG K H b1 a1 xs /\ kG K H b2 a2 ys /\ (xs.length <= i \/ ys.length <= i)⟩
theorem A_{P:Program}{w:World}{K:PySem.W.Frag}{elts:List Expr}{x1:Nat}{tp:Pos}(b1 b2:Bool)(a1 a2 z TI TO i1 i2:Addr)(D:TI≠z/\TO≠z/\i1≠z/\i2≠z/\TI≠TO/\TI≠i1/\TI≠i2/\TO≠i1/\TO≠i2/\i1≠i2) :
  Turn P w K (.Tuple elts x1 tp) (MJ K b1 b2 a1 a2) [z,TO,i1,i2,TI] z (λi h=>IsZip h z TI TO .none/\IsPair h TI (.ref i1) (.ref i2)/\(∃ a b,IsPair h TO a b)/\eJ h b1 i1 a1 i/\eJ h b2 i2 a2 i) where
 mem:=by simp
 obj:=λi h st b hb=>by
  obtain⟨hz,N5,⟨a,c,N8⟩,h1,h2⟩:=st
  simp only[List.mem_cons,List.mem_nil_iff,or_false] at hb
  rcases hb with q | q | q | q | q <;> subst q
  ·exact⟨_,hz,λv z=>by cases z⟩
  ·exact⟨_,N8,λv z=>by cases z⟩
  ·obtain⟨o,vs,e,d⟩:=h1.obj
   exact⟨o,e,λv z=>by rw[d] at z;cases z⟩
  ·obtain⟨o,vs,e,d⟩:=h2.obj
   exact⟨o,e,λv z=>by rw[d] at z;cases z⟩
  ·exact⟨_,N5,λv z=>by cases z⟩
 keep:=λi h h' st k=>by
  obtain⟨hz,N5,⟨a,c,N8⟩,h1,h2⟩:=st
  exact⟨k z (by simp) _ hz,k TI (by simp) _ N5,⟨a,c,k TO (by simp) _ N8⟩,h1.at λo e=>k i1 (by simp) o e,h2.at λo e=>k i2 (by simp) o e⟩
 item:=by
  intro X hP hw hK hc i Nm s σ H E I hf st hg
  subst hP hw hK
  obtain⟨xs,ys,x,y,N6,NW,hx,hy⟩:=hg
  obtain⟨Qb,Qs,p1,Rk⟩:=I.row N6
  obtain⟨Ot,Qt,p2,Rl⟩:=I.row NW
  obtain⟨u1,hu1,ru1⟩:=Qs.get hx
  obtain⟨u2,hu2,ru2⟩:=Qt.get hy
  obtain⟨hz,N5,⟨a,c,N8⟩,h1,h2⟩:=st
  obtain⟨d1,d2,d3,d4,d5,d6,d7,d8,d9,d10⟩:=D
  obtain⟨o1,n1,e1,dd1⟩:=p1.obj
  obtain⟨o2,n2,e2,PH⟩:=p2.obj
  obtain⟨oi1,vs1,Q0,di1⟩:=h1.obj
  obtain⟨oi2,vs2,Q1,di2⟩:=h2.obj
  have D:ZipApart z TI TO i1 i2 a1 a2:=⟨d1,d2,d3,d4,d5,d6,d7,d8,d9,d10,cN I N6 (hf z (by simp)),cN I N6 (hf TO (by simp)),cN I N6 (hf i1 (by simp)),cN I N6 (hf i2 (by simp)),
   cN I NW (hf z (by simp)),cN I NW (hf TO (by simp)),cN I NW (hf i1 (by simp)),cN I NW (hf i2 (by simp))⟩
  refine mY D hz N5 N8 h1 h2 p1 p2 (x:=u1) (y:=u2) (by simpa using hu1) (by simpa using hu2) λh' g1 g2 g3 g4 g5 g6 g7=>⟨_,rfl,?_⟩
  refine wpAny_letOwnedTupleGo_zip (s:={ s with heap:=h' }) g1 λh3 hz3 Pz=>?_
  have OP:H s.heap.objs.size=none:=I.bJ.fresh (Nat.le_refl _)
  have lt:∀ {c:Addr} {o:Obj},s.heap.get? c=some o->c≠s.heap.objs.size:=λe=>Nat.ne_of_lt (Heap.lt_size e)
  have Qd:∀ b o,b ∉ [z,TO,i1,i2,TI]->s.heap.get? b=some o->h3.get? b=some o:=λb o hb q=>by
   simp only[List.mem_cons,List.mem_nil_iff,or_false,not_or] at hb
   exact(Pz.2 b hb.1).trans (g7 b o hb.1 hb.2.1 hb.2.2.1 hb.2.2.2.1 q)
  have hT3:h3.get? s.heap.objs.size=some { cls:=.type "tuple", data:=.seq #[u1,u2] }:=(Pz.2 _ (lt hz).symm).trans g5
  have I3:Inv X Nm σ (upd H s.heap.objs.size (.tup [x,y])) { s with heap:=h3,toks:=s.toks } :=
   I.kK (ch:=[z,TO,i1,i2,TI]) Qd hf (Nat.le_refl _) (λb hb=>by
    simp only[List.mem_cons,List.mem_nil_iff,or_false] at hb
    rcases hb with q | q | q | q | q <;> subst q
    ·exact⟨_,hz⟩
    ·exact⟨_,N8⟩
    ·exact⟨_,Q0⟩
    ·exact⟨_,Q1⟩
    ·exact⟨_,N5⟩)
    ⟨by show 2<=sizeLine;decide,[u1,u2],.cons ru1 (.cons ru2 .nil),⟨_,hT3,rfl,_,rfl⟩⟩
  refine⟨.ref s.heap.objs.size,_,I3,rfl,⟨_,x,y,OP,rfl,rfl,λzs Qr=>by rw[I.mn Qr N6];exact hx,λzs Qr=>by rw[I.mn Qr NW];exact hy⟩,
   ⟨hz3,(Pz.2 TI d1).trans (g7 TI _ d1 d5 d6 d7 N5),⟨_,_,(Pz.2 TO d2).trans g2⟩,g3.at λo e=>(Pz.2 i1 d3).trans e,g4.at λo e=>(Pz.2 i2 d4).trans e⟩,λb hb=>?_⟩
  have nb:b≠s.heap.objs.size:=by
   simp only[List.mem_cons,List.mem_nil_iff,or_false] at hb
   rcases hb with q | q | q | q | q <;> subst q
   ·exact lt hz
   ·exact lt N8
   ·exact lt Q0
   ·exact lt Q1
   ·exact lt N5
  rw[aw nb]
  exact(hf b hb).1
 done:=by
  intro X hP hw hK hc i Nm s σ H E I hf st hg
  subst hP hw hK
  obtain⟨xs,ys,N6,NW,OW⟩:=hg
  obtain⟨Qb,Qs,p1,Rk⟩:=I.row N6
  obtain⟨Ot,Qt,p2,Rl⟩:=I.row NW
  obtain⟨hz,N5,⟨a,c,N8⟩,h1,h2⟩:=st
  obtain⟨d1,d2,d3,d4,d5,d6,d7,d8,d9,d10⟩:=D
  have D:ZipApart z TI TO i1 i2 a1 a2:=⟨d1,d2,d3,d4,d5,d6,d7,d8,d9,d10,cN I N6 (hf z (by simp)),cN I N6 (hf TO (by simp)),cN I N6 (hf i1 (by simp)),cN I N6 (hf i2 (by simp)),
   cN I NW (hf z (by simp)),cN I NW (hf TO (by simp)),cN I NW (hf i1 (by simp)),cN I NW (hf i2 (by simp))⟩
  have l1:=Qs.length
  have l2:=Qt.length
  refine oH (I.ok.hd hc) D hz N5 N8 h1 h2 p1 p2 ?_ λh' k=>⟨rfl,?_⟩
  ·rcases OW with q | q
   ·exact .inl (by simp;omega)
   ·exact .inr (by simp;omega)
  ·exact I.yh (t':=s.toks) (ch:=[z,TO,i1,i2,TI]) (λb u hb e=>by
    simp only[List.mem_cons,List.mem_nil_iff,or_false,not_or] at hb
    exact k b u hb.1 hb.2.1 hb.2.2.1 hb.2.2.2.1 e) hf
 self:=λ_ _ _ _ _ st h=>by
  obtain⟨hz,_⟩:=st
  exact wpAny_pyIter_zip hz h
theorem Ir(n:Nat):n+2≠n+4/\n+3≠n+4/\n≠n+4/\n+1≠n+4/\n+2≠n+3/\n+2≠n/\n+2≠n+1/\n+3≠n/\n+3≠n+1/\n≠n+1:=by
 refine⟨?_,?_,?_,?_,?_,?_,?_,?_,?_,?_⟩ <;> omega
def Ju(K:PySem.W.Frag)(tl:TA):TI:=fun σ H R=>tl σ H λvs H1=>∃ b1 b2 a1 a2,vs=[.ref a1,.ref a2]/\(∃ xs,kG K H1 b1 a1 xs)/\(∃ ys,kG K H1 b2 a2 ys)/\R (MJ K b1 b2 a1 a2) H1
theorem iL{elts:List Expr}{x1:Nat}{tp:Pos}{l1 l2:Expr}{tl:TA}{p pos:Pos}(hg:Gl X "zip")(hm:X.mg "zip" = none)(hl:PA X [l1,l2] tl)(hs:autoParam (starEach [l1,l2] X.env=[(false,eval l1 X.env),(false,eval l2 X.env)]) aR._auto_1)(OR:autoParam (starEach [l2] X.env=[(false,eval l2 X.env)]) aR._auto_1) :
  PI X (.Tuple elts x1 tp) (.Call (.Name "zip" p) [l1,l2] [] pos) (Ju X.K tl):=by
 intro Nm s σ H R I h
 refine Call_ (jm I hg hm PyProof.Rows.boot_zip (PyProof.Rows.callWith_type1 (cL (hl pos Nm s σ H _ I h) λus s1 ⟨vs,H1,I1,r1,q1⟩=>?_) (by rw[hs,OR]) (by rw[OR];rfl)))
 obtain⟨b1,b2,a1,a2,e,⟨xs,N6⟩,⟨ys,NW⟩,q⟩:=q1
 subst e
 cases r1 with
 | cons r rr =>
  cases rr with
  | cons r' rr =>
   cases rr
   cases (show _=Value.ref a1 from r)
   cases (show _=Value.ref a2 from r')
   obtain⟨Qb,Qs,p1,Rk⟩:=I1.row N6
   obtain⟨Ot,Qt,p2,Rl⟩:=I1.row NW
   refine Ao p1 p2 λh' g1 g2 g3 g4 g5 g6 g7=>?_
   have I2:Inv X Nm σ H1 { s1 with heap:=h' }:=I1.kept (t':=s1.toks) g7
   refine wpAny_pyIter_zip (s:={ s1 with heap:=h' }) g1 ?_
   refine⟨s1.heap.objs.size+4,[s1.heap.objs.size+4,s1.heap.objs.size+3,s1.heap.objs.size,s1.heap.objs.size+1,s1.heap.objs.size+2],_,_,H1,rfl,I2,
    A_ b1 b2 a1 a2 _ _ _ _ _ (Ir s1.heap.objs.size),⟨g1,g2,⟨_,_,g3⟩,g4,g5⟩,λb hb=>?_,q⟩
   have hle:s1.heap.objs.size<=b:=by
    simp only[List.mem_cons,List.mem_nil_iff,or_false] at hb
    rcases hb with q | q | q | q | q
    ·rw[q];exact Nat.le_add_right _ 4
    ·rw[q];exact Nat.le_add_right _ 3
    ·rw[q];exact Nat.le_refl _
    ·rw[q];exact Nat.le_add_right _ 1
    ·rw[q];exact Nat.le_add_right _ 2
   exact I1.uM hle (I1.bJ.fresh hle)
end
end L2
namespace L2
open PySem PySem.Spec PyProof.Rows
def Mi(K:PySem.W.Frag)(b:Bool)(a:Addr):It:=match b with
 | true=>MS K a
 | false=>MR K a
section
variable{X:Cx}{tg:Expr}
def KC(K:PySem.W.Frag)(tl:TE):TI:=fun σ H R=>tl σ H λx H1=>∃ b a,x=.ref a/\(∃ xs,kG K H1 b a xs)/\R (Mi K b a) H1
theorem eE{l:Expr}{tl:TE}(hl:PE X l tl):PI X tg l (KC X.K tl):=by
 intro Nm s σ H R I h
 refine cL (hl Nm s σ H _ I h) λv s1 ⟨x,H1,I1,r1,q1⟩=>?_
 obtain⟨b,a,e,⟨xs,hq⟩,q⟩:=q1
 subst e
 cases r1
 cases b with
 | true =>
  obtain⟨Nn,rv,p,hz⟩:=I1.list hq
  refine wpAny_pyIter_list p.isList ?_
  refine⟨s1.heap.objs.size,[s1.heap.objs.size],_,_,H1,rfl,I1.kept (t':=s1.toks) λb o e=>Heap.get?_push_of_some _ e,za a _,⟨_,Heap.get?_push_size _ rfl,rfl,rfl⟩,λb hb=>?_,q⟩
  have e:b=s1.heap.objs.size:=by simpa using hb
  subst e
  exact I1.uM (Nat.le_refl _) (I1.bJ.fresh (Nat.le_refl _))
 | false =>
  obtain⟨Nn,rv,p,hz⟩:=I1.tuple hq
  refine wpAny_pyIter_tuple (show s1.heap.IsTuple a Nn.toArray from p) ?_
  refine⟨s1.heap.objs.size,[s1.heap.objs.size],_,_,H1,rfl,I1.kept (t':=s1.toks) λb o e=>Heap.get?_push_of_some _ e,xE a _,⟨_,Heap.get?_push_size _ rfl,rfl,rfl⟩,λb hb=>?_,q⟩
  have e:b=s1.heap.objs.size:=by simpa using hb
  subst e
  exact I1.uM (Nat.le_refl _) (I1.bJ.fresh (Nat.le_refl _))
end
section
end
section
variable{X:Cx}
theorem zO(hc:X.calm=true):cZ X (.builtin "sum") (λxs H Q=>∃ (a:Addr) (ns:List Int),xs=[.ref a]/\hX X.K H a (ns.map V.int)/\Q (.int ns.sum) H):=by
 intro Nm s σ H xs us Q I r h
 obtain⟨a,ns,rfl,hq,q⟩:=h
 cases r with
 | cons r1 r2 =>
  cases r2
  cases (show _=Value.ref a from r1)
  obtain⟨Nn,rv,p,hz⟩:=I.list hq
  have hi:=intsAre_of rv
  obtain⟨xs',e⟩:=hi.allInts.items
  have e3:numsOf (intItems xs').toList=ns:=by rw[← e];exact hi.numsOf
  rw[nums_intItems] at e3
  refine sum_intListG (I.ok.hd hc) (by rw[← e];exact p.isList) λh' tk t' hk=>⟨.int ns.sum,H,I.kept (t':=tk) hk,⟨t',?_⟩,q⟩
  rw[preSum_eq,List.take_of_length_le (by simp),e3]
end
end L2
namespace L2
open PySem PySem.Spec PyProof.Rows
structure gK (K:PySem.W.Frag) (C:Addr):Prop where
 ga:PySem.W.findIn K (.ref C) "__getattribute__" = some (some (.builtin "BaseException.__getattribute__"))
 gn:PySem.W.findIn K (.ref C) "__getattr__" = some none
 hd:PySem.W.hasDictIn K C=true
 sa:PySem.W.findIn K (.ref C) "__setattr__" = some (some (.builtin "object.__setattr__"))
 mb:PySem.W.mroIn K C (.type "BaseException")=some true
 mo:PySem.W.mroIn K C (.type "object")=some true
 ca:PySem.W.findIn K (.ref C) "__class__" = some (some (.builtin "object.__class__"))
 cg:PySem.W.specialIn K (.builtin "object.__class__") "__get__" = some (some (.builtin "getset_descriptor.__get__"))
 ct:PySem.W.takesIn K (.builtin "object.__class__")=some true
section
variable{prog:Program}{w:World}{A:Around}{E:Value->Shared->Prop}{s:Shared}{K:PySem.W.Frag}{x C:Addr}{ox:Obj}{od:Option Obj}{name:Str}
theorem CJ:builtinKind "BaseException.__getattribute__" = some .slot:=by decide +kernel
theorem zo:splitId "BaseException.__getattribute__" = some ("BaseException", "__getattribute__"):=by decide +kernel
theorem GQ{tk:Tok}{fill expr:Bool}{Q:Value->Shared->Prop}(c:gK K C)(X:K.In s.heap)(I:PySem.W.InstAt s.heap x ox C od)
  (h:wpAny (model prog w) A.in1 (Builtin.«object.__getattribute__» ⟨[.ref x,.str name tk],[]⟩)
   (λfin s'=>match fin with | .done (.ret v)=>wpAny (model prog w) A (handedOut v) Q E s' | _=>False) (λ_ _=>False) s) :
  wpAny (model prog w) A (getAttrBy (.ref x) (.str name tk) fill expr) Q E s:=by
 have Rj:(Value.builtin "BaseException.__getattribute__" == Value.builtin "object.__getattribute__")=false:=by decide +kernel
 have QW:(onTheHeap (Value.ref C)&&Value.builtin "BaseException.__getattribute__" == Value.builtin "object.__getattribute__")=false:=by rw[Rj];rfl
 have hx0:(expr&&onTheHeap (Value.builtin "BaseException.__getattribute__"))=false:=by cases expr <;> rfl
 have sub:PySem.W.Looks (model prog w) s.heap (isInstance (.ref x) (.type "BaseException")) true:=I.type.andThen (PySem.W.looks_mroIn X c.mb)
 unfold getAttrBy
 refine wpAny_holding (wpAny_bind (I.type.here (wpAny_bind ((PySem.W.looks_findIn X c.ga).here ?_))))
 dsimp only
 rw[QW,if_neg Bool.false_ne_true]
 unfold getAttrByItsOwn hookBefore
 refine wpAny_bind ?_
 show wpAny _ _ (typeLookup (.ref C) "__getattr__") _ _ _
 refine(PySem.W.looks_findIn X c.gn).here ?_
 refine wpAny_bind (wpAny_attempt (wpAny_holding ?_))
 unfold callGetattribute
 rw[hx0,if_neg Bool.false_ne_true]
 unfold boundAndCalled
 refine wpAny_bind (wpAny_of_eq (PySem.F.attr_ValueError.ga.bind _) ?_)
 refine wpAny_call (codeAny_call_builtin PySem.F.attr_ValueError.ga.plain PySem.F.entry_bexc_ga (@PySem.W.check_slot (model prog w) _ _ s "BaseException.__getattribute__" "BaseException" "__getattribute__" (.ref x) [.str name tk] [] _ CJ zo sub (PySem.F.args_bexc_ga _ _) ?_))
 refine wpAny_mono h (λfin s' z=>?_) (λ_ _ z=>z.elim)
 rcases fin with (v | _ | _ | _) | _ <;> first | exact z | exact z.elim
end
end L2
namespace L2
open PySem PySem.Spec PyProof.Rows
open PySem.Builtin.ObjectAttr (storeInOwnDict storeTaker? setByDescriptor)
abbrev fq:List Value:=[.type "ValueError", .type "Exception", .type "BaseException", .type "object"]
def gB:List Value->Bool
 | .ref _::r=>gB r
 | l=>l==fq
theorem p5(self:Value):refuseLoop self "__setattr__" fq=pure ():=by kernel_rfl
theorem nZ(self:Value):∀ {l:List Value},gB l=true->refuseLoop self "__setattr__" l=pure ()
 | .ref c::r,e=>by rw[PySem.refuseLoop_ref];exact nZ self e
 | [],e=>by cases (show false=true from e)
 | .type n::r,e=>by rw[show Value.type n::r=fq from beq_iff_eq.mp e];exact p5 self
 | .none::r,e=>by rw[show Value.none::r=fq from beq_iff_eq.mp e];exact p5 self
section
variable{prog:Program}{w:World}{A:Around}{E:Value->Shared->Prop}{s:Shared}{K:PySem.W.Frag}{x C:Addr}{ox:Obj}{od:Option Obj}{name:Str}
theorem qQ{a g:Value}(hc:(PySem.W.clsIn K C).isSome=true)(ha:PySem.W.findIn K (.ref C) name=some (some a))(hg:PySem.W.specialIn K a "__get__" = some (some g))(ht:PySem.W.takesIn K a=some true):PySem.W.findObj K C od name=some (.bind g a):=by
 obtain⟨cd,hc⟩:=Option.isSome_iff_exists.mp hc
 unfold PySem.W.findObj
 rw[hc,Option.bind_some,ha,Option.bind_some]
 simp[hg,ht]
theorem zC{Q:Option Value->Shared->Prop}(c:gK K C)(X:K.In s.heap)(I:PySem.W.InstAt s.heap x ox C od)(h:Q (some (.ref C)) { s with toks:=s.toks+1 }):wpAny (model prog w) A (getAttr? (.ref x) "__class__") Q E s:=by
 have hc:(PySem.W.clsIn K C).isSome=true:=by obtain⟨cd,hc,_⟩:=PySem.W.any_some c.hd;rw[hc];rfl
 have hf:PySem.W.findObj K C od "__class__" = some (.bind (.builtin "getset_descriptor.__get__") (.builtin "object.__class__")):=qQ hc c.ca c.cg c.ct
 unfold getAttr? getAttrBy?
 refine wpAny_bind (wpAny_mkText (wpAny_bind (wpAny_attempt ?_)))
 refine GQ (s:={ s with toks:=s.toks+1 }) c X I ?_
 unfold Builtin.«object.__getattribute__»
 refine wpAny_bind (wpAny_pure ?_)
 dsimp only
 refine wpAny_bind (wpAny_pure ?_)
 refine wpAny_bind (I.type.here (s:={ s with toks:=s.toks+1 }) (wpAny_bind ((PySem.W.looks_find X I hf).here (s:={ s with toks:=s.toks+1 }) ?_)))
 show wpAny _ _ (holding [.builtin "object.__class__"] (call (.builtin "getset_descriptor.__get__") [.builtin "object.__class__", .ref x,.ref C]) >>= ret) _ _ _
 refine wpAny_bind (wpAny_holding (wpAny_call (PySem.W.class_get (s:={ s with toks:=s.toks+1 }) (ox:=ox) (od:=od) X I c.mo ?_)))
 refine wpAny_pure ?_
 exact PySem.W.handed_on rfl (wpAny_pure h)
theorem vq(c:gK K C):PySem.W.KitX K (.ref x) (.ref C) (λh=>PySem.W.InstAt h x ox C od) where
 ty:=λ_ _ _ I=>I.type
 it:=λ_ _ X _=>by
  obtain⟨cdD,P1,_⟩:=PySem.W.any_some c.hd
  unfold PySem.W.clsIn at P1
  split at P1
  ·rename_i c' d' cd' sl' ho
   intro A' Q' E' s' k q
   unfold isType loadHead
   exact wpAny_bind (wpAny_loadPart (k _ _ (X _ _ ho)) (wpAny_pure q))
  ·cases P1
 ne:=λh tp dd Nn n sl X htp=>by
  obtain⟨cdD,P1,_⟩:=PySem.W.any_some c.hd
  refine Bool.eq_false_iff.mpr λq=>?_
  have e:C=tp:=Value.ref.inj (beq_iff_eq.mp q)
  subst e
  unfold PySem.W.clsIn at P1
  split at P1
  ·rename_i c' d' cd' sl' ho
   have z:=(X _ _ ho).symm.trans htp
   cases z
  ·cases P1
 ca:=λX I k=>zC c X I k
theorem Ej{tk:Tok}{v:Value}{R:Result->Shared->Prop}(po:((PySem.W.clsIn K C).any λcd=>gB cd.mro)=true)(c:gK K C)(X:K.In s.heap)(I:PySem.W.InstAt s.heap x ox C od)(ht:PySem.W.takerIn K C name=some none)
  (h:∀ b,wpAny (model prog w) A.in1 (storeInOwnDict (.ref x) (.ref C) (.str name tk) name v b)
   (λfin s'=>match fin with | .done f=>R (.ok f) s' | .again c'=>c'.quiet=true/\codeAny (model prog w) A c' R s') (λe s'=>R (.error e) s') s) :
  codeAny (model prog w) A (.call (.builtin "object.__setattr__") ⟨[.ref x,.str name tk,v],[]⟩) R s:=by
 have SF:=PySem.F.store_object
 obtain⟨cd,hc,ho⟩:=PySem.W.any_some po
 have sub:PySem.W.Looks (model prog w) s.heap (isInstance (.ref x) (.type "object")) true:=I.type.andThen (PySem.W.looks_mroIn X c.mo)
 refine codeAny_call_builtin SF.slot.plain SF.entry (@PySem.W.check_slot (model prog w) _ _ s "object.__setattr__" "object" "__setattr__" (.ref x) [.str name tk,v] [] _ SF.kind SF.split sub (SF.args (.ref x) (.str name tk) v) ?_)
 obtain⟨attr,ha,hr⟩:=Option.bind_eq_some_iff.mp ht
 have hm:PySem.W.Looks (model prog w) s.heap (mroOf (.ref C)) cd.mro:=(PySem.W.looks_clsIn X hc).andThen .now
 have L3:PySem.W.Looks (model prog w) s.heap (storeTaker? attr) none:=by
  cases attr with
  | none=>cases hr;exact .now
  | some a =>
   obtain⟨b,hb,e⟩:=Option.map_eq_some_iff.mp hr
   refine(PySem.W.looks_takesIn X hb).andThen ?_
   cases b with
   | true=>cases e
   | false=>exact .now
 rw[PySem.W.osa_eq,PySem.refuse_eq]
 refine wpAny_bind (wpAny_bind (I.type.here (wpAny_bind (hm.here ?_))))
 rw[nZ _ ho]
 refine wpAny_pure (wpAny_bind (I.type.here (wpAny_bind ((PySem.W.looks_findIn X ha).here (wpAny_bind (L3.here ?_))))))
 exact h _
theorem Df{vs:Array Value}{v:Value}{Q:Unit->Shared->Prop}(po:((PySem.W.clsIn K C).any λcd=>gB cd.mro)=true)(c:gK K C)(X:K.In s.heap)(hx:s.heap.get? x=some ⟨.ref C,none,.fields vs,#[]⟩)(ht:PySem.W.takerIn K C name=some none)
  (h:∀ h' tk d,h'.get? x=some ⟨.ref C,some d,.fields vs,#[]⟩->s.heap.get? d=none->h'.Ns1 d (λy=>if y=name then some v else none)->(∀ b o,b≠x->s.heap.get? b=some o->h'.get? b=some o)->Q () { s with heap:=h',toks:=tk }) :
  wpAny (model prog w) A (setAttr (.ref x) name v) Q E s:=by
 have I:PySem.W.InstAt s.heap x ⟨.ref C,none,.fields vs,#[]⟩ C none:=⟨hx,rfl,rfl,trivial⟩
 refine PySem.W.set_plain X I c.sa (Ej (s:={ s with toks:=s.toks+1 }) po c X I ht λb=>?_)
 obtain⟨cd,hc,Q5⟩:=PySem.W.any_some c.hd
 have N4:=Heap.lt_size hx
 refine wpAny_bind (wpAny_pure (wpAny_bind (wpAny_bind (wpAny_loadPart hx (wpAny_bind (PySem.W.Looks.here (s:={ s with toks:=s.toks+1 }) (PySem.W.looks_clsIn X hc) ?_))))))
 rw[Q5]
 refine wpAny_bind (wpAny_alloc ?_)
 have QW:(s.heap.push { cls:=.type "dict", data:=.dict #[] }).get? x=some ⟨.ref C,none,.fields vs,#[]⟩:=Heap.get?_push_of_some _ hx
 refine wpAny_bind (wpAny_update QW ?_)
 refine wpAny_pure (a:=some s.heap.objs.size) (wpAny_bind (wpAny_pure (wpAny_bind ?_)))
 have Rj:((s.heap.push { cls:=.type "dict", data:=.dict #[] }).update x λo=>{ o with dict:=some s.heap.objs.size }).get? x=some ⟨.ref C,some s.heap.objs.size,.fields vs,#[]⟩:=Heap.get?_update_self _ QW rfl
 have e1:(s.heap.push { cls:=.type "dict", data:=.dict #[] }).get? s.heap.objs.size=some { cls:=.type "dict", data:=.dict #[] }:=Heap.get?_push_size s.heap rfl
 have nxd:s.heap.objs.size≠x:=Nat.ne_of_gt N4
 have e2:((s.heap.push { cls:=.type "dict", data:=.dict #[] }).update x λo=>{ o with dict:=some s.heap.objs.size }).get? s.heap.objs.size=some { cls:=.type "dict", data:=.dict #[] }:=by
  rw[Heap.get?_update_other _ _ (Ne.symm nxd)]
  exact e1
 have e3:((s.heap.push { cls:=.type "dict", data:=.dict #[] }).update x λo=>{ o with dict:=some s.heap.objs.size }).Ns s.heap.objs.size (λ_=>none):=⟨_,#[],_,e2,rfl,(λe he=>absurd he (by simp)),λ_=>rfl⟩
 refine wpAny_nsSet1 (s:={ s with heap:=(s.heap.push { cls:=.type "dict", data:=.dict #[] }).update x λo=>{ o with dict:=some s.heap.objs.size },toks:=s.toks+1 }) (Heap.Ns1.of_empty e3) λh' Qo OR=>?_
 obtain⟨oD,esD,epD,hoD,hdD,P1⟩:=Qo.count (PySem.Within.cons (ns:=[]) name v (λy hy=>absurd rfl hy))
 refine wpAny_bind (wpAny_lookBehind hoD (by rw[hdD];exact pastItsLine_dict (Nat.le_trans P1 (by show 1<=sizeLine+1;exact Nat.le_add_left _ _))) ?_)
 refine wpAny_pure (h h' _ s.heap.objs.size ((OR.2 x (Ne.symm nxd)).trans Rj) (Heap.get?_none_of_le (Nat.le_refl _)) Qo λb o hb e=>?_)
 refine(OR.2 b (Nat.ne_of_lt (Heap.lt_size e))).trans ?_
 rw[Heap.get?_update_other _ _ (Ne.symm hb)]
 exact Heap.get?_push_of_some _ e
end
def pU(K:PySem.W.Frag)(C:Addr)(newId:String)(f:Addr):Bool:=match K.lookup C with
 | some ⟨.type "type", _,.cls cd,sl⟩=>(match cd.mro,sl.toList with
  | .ref C'::bm,[_,_,_,_,some (.builtin n),_]=>C'==C&&n==newId&&!cd.hasDel&&PySem.W.tailIn K fq bm&&PySem.W.nsOkIn K cd.ns&&PySem.W.nsIn K cd.ns "__init__" == some (some (.ref f))
  | _,_=>false)
 | _=>false
section
variable{prog:Program}{w:World}{A:Around}{E:Value->Shared->Prop}{h:Heap}{g:Array GenState}{d:Drawn}{t:Nat}{os:OsState}
variable{nm q:Str}{C N:Addr}{bs bm:List Value}{Po:Bool}{sn:List Str}{sub:List Value}{ab:Bool}{col:Option Bool}{dd:Option Addr}{k0 k1 k2 k3 k5:Option Value}{newId QQ:String}
theorem pS(F:ExcBaseFacts "ValueError" newId QQ fq)(T:OwnTail h fq bm){mN:Str->Option Value}{rest:List Value}{f:Addr}{Q:Fin->Shared->Prop}
  (hC:h.get? C=some (excClassObj nm q C N bs bm Po sn sub ab col dd k0 k1 k2 k3 k5 newId)) (hn:h.Ns N mN) (PL:mN "__init__" = some (.ref f))
  (hb:∀ h':Heap,(∀ b o,h.get? b=some o->h'.get? b=some o)->∀ self,PySem.W.Looks (model prog w) h' (bindSpecial (.ref f) self) (.ref f,[self]))
  (hq:∀ h':Heap,(∀ b o,h.get? b=some o->h'.get? b=some o)->h'.get? h.objs.size=some { cls:=.type "tuple", data:=.seq rest.toArray } ->
   h'.get? (h.objs.size+1)=some { cls:=.ref C,data:=.fields #[.ref h.objs.size,.none,.none,.none,.bool false,.none] }->h'.objs.size=h.objs.size+2 ->
   wpAny (model prog w) A (call (.ref f) (.ref (h.objs.size+1)::rest)) (λv s'=>v=.none/\Q (.done (.ret (.ref (h.objs.size+1)))) s') E ⟨h',g,d,t,os⟩) (qi:rest.length<=sizeLine:=by size_fits) :
  wpAny (model prog w) A (Builtin.«type.__call__» ⟨.ref C::rest,[]⟩) Q E ⟨h,g,d,t,os⟩:=by
 repeat (first | with_reducible refine wpAny_loadPart_at hC ?_ | with_reducible refine wpAny_madeBy_exc hC ?_ | wp_step)
 refine codeAny_call_builtin_code (Code.quiet_builtin _ F.quiet) (wpAny_check_new_subT F T hC ?_)
 refine codeAny_exc_new_subT F T hC ?_ qi
 show wpAny _ _ _ _ _ _
 have kp:∀ b o,h.get? b=some o->((h.push { cls:=.type "tuple", data:=.seq rest.toArray }).push { cls:=.ref C,data:=.fields #[.ref h.objs.size,.none,.none,.none,.bool false,.none] }).get? b=some o:=λb o e=>Heap.get?_push_of_some _ (Heap.get?_push_of_some _ e)
 have hC1:=kp _ _ hC
 have hn₁:((h.push { cls:=.type "tuple", data:=.seq rest.toArray }).push { cls:=.ref C,data:=.fields #[.ref h.objs.size,.none,.none,.none,.bool false,.none] }).Ns N mN:=hn.keeps kp
 have Q8:((h.push { cls:=.type "tuple", data:=.seq rest.toArray }).push
   { cls:=.ref C,data:=.fields #[.ref h.objs.size,.none,.none,.none,.bool false,.none] }).get? (h.objs.size+1)=some
   { cls:=.ref C,data:=.fields #[.ref h.objs.size,.none,.none,.none,.bool false,.none] }:=by heap_get
 have htup:((h.push { cls:=.type "tuple", data:=.seq rest.toArray }).push
   { cls:=.ref C,data:=.fields #[.ref h.objs.size,.none,.none,.none,.bool false,.none] }).get? h.objs.size=some { cls:=.type "tuple", data:=.seq rest.toArray }:=Heap.get?_push_of_some _ (Heap.get?_push_size _ rfl)
 have Od:((h.push { cls:=.type "tuple", data:=.seq rest.toArray }).push { cls:=.ref C,data:=.fields #[.ref h.objs.size,.none,.none,.none,.bool false,.none] }).objs.size=h.objs.size+2:=by rw[Heap.size_push,Heap.size_push]
 have hcC:(Value.ref C::bm).contains (.ref C)=true:=by simp
 have T1:=T.keeps kp
 have hb₁:=hb _ kp (.ref (h.objs.size+1))
 have fin:=hq _ kp htup Q8 Od
 generalize ((h.push { cls:=.type "tuple", data:=.seq rest.toArray }).push { cls:=.ref C,data:=.fields #[.ref h.objs.size,.none,.none,.none,.bool false,.none] })=h1 at *
 unfold isInstance
 repeat (first | with_reducible refine wpAny_loadPart_at Q8 ?_ | (with_reducible refine wpAny_isSubtype_exc hC1 ?_;rw[hcC]) | wp_step)
 show wpAny _ _ (typeLookup (.ref C) _) _ _ _
 refine wpAny_typeLookup_tail hC1 hn₁ T1 F.mroIs F.init.lookup ?_
 rw[PL]
 refine wpAny_holding (wpAny_bind (hb₁.here ?_))
 refine wpAny_bind (wpAny_mono fin (λv s' z=>?_) λ_ _ z=>z)
 obtain⟨rfl,z⟩:=z
 wp_walk
 exact z
end
end L2
namespace L2
open PySem PySem.Spec PyProof.Rows
def jf(C:Addr)(dd:Option Addr)(e:Addr):HO:=.ext λh=>∃ vs,h.get? e=some ⟨.ref C,dd,.fields vs,#[]⟩
def ExcAt(H:Hp)(e C:Addr)(fo:Option (List (Str×V))):Prop:=match fo with
 | none=>H e=some (jf C none e)
 | some fs=>∃ d,H e=some (jf C (some d) e)/\H d=some (.xd fs)
section
variable{X:Cx}{Nm:List (Addr×Obj)}{σ:St}{H:Hp}{s:Shared}
theorem Inv.Cg(I:Inv X Nm σ H s){C e:Addr}{dd:Option Addr}(he:H e=some (jf C dd e)):∃ vs,s.heap.get? e=some ⟨.ref C,dd,.fields vs,#[]⟩:=(I.bJ e _ he).1
theorem Inv.D5(I:Inv X Nm σ H s){C e:Addr}{fo:Option (List (Str×V))}(h:ExcAt H e C fo):∃ ox od,PySem.W.InstAt s.heap e ox C od/\(fo=none->od=none) ∧
  ∀ fs,fo=some fs->∃ (o:Obj) (mA:Str->Option Value),od=some o/\(∀ n,PySem.W.lookIn n o=some (mA n))/\∀ f,nh (fs.lookup f) (mA f):=by
 cases fo with
 | none =>
  obtain⟨vs,q⟩:=I.Cg h
  exact⟨_,none,⟨q,rfl,rfl,trivial⟩,λ_=>rfl,λfs z=>(by cases z)⟩
 | some fs =>
  obtain⟨d,h1,h2⟩:=h
  obtain⟨vs,q⟩:=I.Cg h1
  obtain⟨mA,n,r⟩:=(show ∃ mA,s.heap.Ns1 d mA/\∀ f,nh (fs.lookup f) (mA f) from I.bJ d _ h2)
  obtain⟨o,ho,hl⟩:=nq n
  refine⟨_,some o,⟨q,rfl,rfl,ho⟩,λz=>(by cases z),λQw z=>?_⟩
  cases z
  exact⟨o,mA,rfl,hl,r⟩
theorem Inv.tX{a:Addr}(I:Inv X Nm σ H s)(hn:s.heap.get? a=none):H a=none:=by
 cases q:H a with
 | none=>rfl
 | some u =>
  exfalso
  have:∀ (u:HO),cC X.prog X.w H s.heap a u->∃ ob,s.heap.get? a=some ob:=by
   intro u
   induction u with
   | lst xs=>intro ⟨_,_,_,_,e⟩;exact⟨_,e⟩
   | tup xs=>intro ⟨_,_,_,p⟩;obtain⟨ob,e,_⟩:=p;exact⟨ob,e⟩
   | dK Oe=>intro ⟨_,_,_,_,p⟩;obtain⟨ob,_,_,e,_⟩:=p;exact⟨ob,e⟩
   | dT Oe=>intro ⟨_,_,_,_,ob,_,_,e,_⟩;exact⟨ob,e⟩
   | set S n=>intro p;obtain⟨es,ob,xs,ep,e,_⟩:=p;exact⟨_,e⟩
   | ins C dx fs=>intro ⟨_,_,_,e,_⟩;exact⟨_,e⟩
   | own x=>intro ⟨ob,e⟩;exact⟨ob,e⟩
   | xd fs=>intro ⟨mA,n,_⟩;obtain⟨ob,e,_⟩:=nq n;exact⟨ob,e⟩
   | met f x=>intro e;exact⟨_,e⟩
   | i9 lo hi=>intro ⟨_,_,_,e⟩;exact⟨_,e⟩
   | rN o u _=>intro ⟨e,_⟩;exact⟨_,e⟩
   | FO ps=>intro e;exact⟨_,e⟩
   | ext φ=>intro ⟨_,⟨ob,e⟩,_⟩;exact⟨ob,e⟩
  obtain⟨ob,e⟩:=this u (I.bJ a u q)
  rw[hn] at e;cases e
theorem Inv.FI{h':Heap}{t':Nat}{a:Addr}{o:HO}(I:Inv X Nm σ H s)(k:∀ b u,s.heap.get? b=some u->h'.get? b=some u)(hn:s.heap.get? a=none)(new:cC X.prog X.w (upd H a o) h' a o) :
  Inv X Nm σ (upd H a o) { s with heap:=h',toks:=t' }:=by
 have ne:∀ b u,s.heap.get? b=some u->b≠a:=λb u e z=>by rw[z,hn] at e;cases e
 have P6:H a=none:=I.tX hn
 have Qe:∀ b u,H b=some u->b≠a:=λb u e z=>by rw[z,P6] at e;cases e
 refine I.un ⟨λb u e _ _ _=>k b u e,λb u e _ _ _=>⟨u.slots,k b u e⟩,λb u e n _=>by rw[aw (ne b u e)];exact n,λb u e _=>⟨u,k b u e⟩,
  λb xs e=>by rw[aw (Qe b _ e)];exact e,λb ob u e=>by rw[aw (Qe b _ e)];exact e,λb ps e=>⟨#[],by rw[aw (Qe b _ e),e];simp⟩⟩ λb u e=>?_
 by_cases z:b=a
 ·subst z
  rw[aE] at e
  cases e
  exact new
 ·rw[aw z] at e
  refine(I.bJ b u e).oK (λc v _ q=>k c v q) (λc q=>?_) λc ys q=>?_
  ·rw[aw (Qe c _ q)];exact q
  ·rw[aw (Qe c _ q)];exact q
end
section
variable{X:Cx}{o:Expr}{ta:TE}{f m:Str}{pos apos:Pos}
def Le(K:PySem.W.Frag):List V->Hp->VK->Prop:=λxs H Q=>∃ e C fo b,gK K C/\ExcAt H e C fo ∧
 ((∃ T,xs=[.ref e,.ty T]/\PySem.W.kitOne K (.ref C) (.type T)=some b)\/(∃ D,xs=[.ref e,.ref D]/\PySem.W.kitOne K (.ref C) (.ref D)=some b))/\Q (.bl b) H
theorem vz:cZ X (.builtin "isinstance") (Le X.K):=by
 intro Nm s σ H xs us Q I r h
 obtain⟨e,C,fo,b,c,ha,hc,q⟩:=h
 obtain⟨ox,od,J,_⟩:=I.D5 ha
 rcases hc with ⟨T,rfl,hk⟩ | ⟨D,rfl,hk⟩
 ·cases r with
  | cons r1 r2 =>
   cases r2 with
   | cons r3 r4 =>
    cases r4
    cases (show _=Value.ref e from r1)
    cases (show _=Value.type T from r3)
    exact PySem.W.kia_one (vq c) I.j4 J hk (λz=>nomatch z) λtk=>⟨.bl b,H,I.tok tk,rfl,q⟩
 ·cases r with
  | cons r1 r2 =>
   cases r2 with
   | cons r3 r4 =>
    cases r4
    cases (show _=Value.ref e from r1)
    cases (show _=Value.ref D from r3)
    exact PySem.W.kia_one (vq c) I.j4 J hk (λz=>nomatch z) λtk=>⟨.bl b,H,I.tok tk,rfl,q⟩
end
theorem wV{K:PySem.W.Frag}{h:Heap}{N:Addr}{mg:Str->Option Value}{n:Str}{v:Value}(X:K.In h)(G:h.Ns N mg)(e:PySem.W.nsIn K N n=some (some v)):mg n=some v:=by
 obtain⟨o,es,ep,ho,hd,_,hf⟩:=G
 unfold PySem.W.nsIn at e
 split at e
 ·rename_i c d es' n' sl q
  have:=X _ _ q
  rw[ho] at this
  cases this
  cases hd
  split at e
  ·rename_i en he
   cases e
   rw[← hf]
   unfold nsFind findBy
   rw[← Array.find?_toList,he]
   rfl
  ·split at e <;> cases e
 ·cases e
theorem E5{K:PySem.W.Frag}{h:Heap}{C:Addr}{newId:String}(X:K.In h)(q:PySem.W.excIn K C fq newId=true) :
  ∃ bm N nm qn bs Po sn sub ab col dd k0 k1 k2 k3 k5 mN,h.get? C=some (excClassObj nm qn C N bs bm Po sn sub ab col dd k0 k1 k2 k3 k5 newId)/\h.Ns N mN/\mN "__init__" = none/\OwnTail h fq bm:=by
 unfold PySem.W.excIn at q
 split at q
 ·rename_i dd cd sl ho
  split at q
  ·rename_i C' bm k0 k1 k2 k3 n k5 hm hs
   simp only[Bool.and_eq_true,beq_iff_eq,Bool.not_eq_true'] at q
   obtain⟨⟨⟨⟨⟨rfl,rfl⟩,P2⟩,ht⟩,bJ⟩,PL⟩:=q
   obtain⟨nm,bs,mro,ns,qn,hd,sn,sub,ab,col,del⟩:=cd
   dsimp only at hm P2 bJ PL
   subst hm P2
   have hsl:sl=#[k0,k1,k2,k3,some (.builtin n),k5]:=by
    obtain⟨l⟩:=sl
    simp only at hs
    rw[hs]
   subst hsl
   exact⟨bm,ns,nm,qn,bs,hd,sn,sub,ab,col,dd,k0,k1,k2,k3,k5,_,X _ _ ho,.of_isNs (PySem.W.isNs_of_in X bJ),PySem.W.nsMap_none_of_in X bJ PL,PySem.W.tail_of_in X ht⟩
  ·cases q
 ·cases q
theorem B0{K:PySem.W.Frag}{h:Heap}{C f:Addr}{newId:String}(X:K.In h)(q:pU K C newId f=true) :
  ∃ bm N nm qn bs Po sn sub ab col dd k0 k1 k2 k3 k5 mN,h.get? C=some (excClassObj nm qn C N bs bm Po sn sub ab col dd k0 k1 k2 k3 k5 newId)/\h.Ns N mN/\mN "__init__" = some (.ref f)/\OwnTail h fq bm:=by
 unfold pU at q
 split at q
 ·rename_i dd cd sl ho
  split at q
  ·rename_i C' bm k0 k1 k2 k3 n k5 hm hs
   simp only[Bool.and_eq_true,beq_iff_eq,Bool.not_eq_true'] at q
   obtain⟨⟨⟨⟨⟨rfl,rfl⟩,P2⟩,ht⟩,bJ⟩,PL⟩:=q
   obtain⟨nm,bs,mro,ns,qn,hd,sn,sub,ab,col,del⟩:=cd
   dsimp only at hm P2 bJ PL
   subst hm P2
   have hsl:sl=#[k0,k1,k2,k3,some (.builtin n),k5]:=by
    obtain⟨l⟩:=sl
    simp only at hs
    rw[hs]
   subst hsl
   have hN:=Heap.Ns.of_isNs (PySem.W.isNs_of_in X bJ)
   exact⟨bm,ns,nm,qn,bs,hd,sn,sub,ab,col,dd,k0,k1,k2,k3,k5,_,X _ _ ho,hN,wV X hN PL,PySem.W.tail_of_in X ht⟩
  ·cases q
 ·cases q
section
variable{X:Cx}{C f:Addr}{fd:FuncData}{ps:List Str}{sp:Sp}{x:Str}{p pos:Pos}{e:Expr}{es:List Expr}{t:TA}{k:Nat}
end
end L2
namespace L2
open PySem PySem.Spec PyProof.Rows
open PySem.SeqAt (shaped noMix noMixAll)
section
variable{X:Cx}
end
end L2
namespace L2
open PySem PySem.Spec PyProof.Rows
open PySem.SeqAt (shaped noMix noMixAll)
section
variable{X:Cx}{Nm:List (Addr×Obj)}{σ:St}{H:Hp}{s:Shared}
theorem Eo{x:V}{u t:Value}(I:Inv X Nm σ H s)(rx:RelV x u)(ty:jV X.K H x t):∃ HH:Heap->Prop,PySem.W.KitX X.K u t HH/\HH s.heap/\u≠.builtin "__main__.__loader__#opaque" := by
 cases ty with
 | cR=>cases (show u=Value.none from rx);exact⟨_,PySem.W.kitx_none,True.intro,λz=>nomatch z⟩
 | bl y=>cases (show u=Value.bool y from rx);exact⟨_,PySem.W.kitx_bool,True.intro,λz=>nomatch z⟩
 | int i=>obtain⟨t,q⟩:=(show ∃ t,u=Value.int i t from rx);cases q;exact⟨_,PySem.W.kitx_int,True.intro,λz=>nomatch z⟩
 | str y=>obtain⟨t,q⟩:=(show ∃ t,u=Value.str y t from rx);cases q;exact⟨_,PySem.W.kitx_str,True.intro,λz=>nomatch z⟩
 | FV y=>obtain⟨t,q⟩:=(show ∃ t,u=Value.float y t from rx);cases q;exact⟨_,PySem.W.kitx_float,True.intro,λz=>nomatch z⟩
 | @lst a xs ea =>
  cases (show u=Value.ref a from rx)
  obtain⟨_,_,n,_,h1⟩:=(show cC X.prog X.w H s.heap a (.lst xs) from I.bJ a _ ea)
  exact⟨_,PySem.W.kitx_list,⟨_,h1,rfl⟩,λz=>nomatch z⟩
 | @rN a ob xs ea =>
  cases (show u=Value.ref a from rx)
  obtain⟨_,_,_,n,_,h1⟩:=(show cC X.prog X.w H s.heap a (.rN ob (.lst xs)) from I.bJ a _ ea)
  exact⟨_,PySem.W.kitx_list,⟨_,h1,rfl⟩,λz=>nomatch z⟩
 | @tup a xs ea =>
  cases (show u=Value.ref a from rx)
  obtain⟨_,_,_,o,h1,h2,_⟩:=(show cC X.prog X.w H s.heap a (.tup xs) from I.bJ a _ ea)
  exact⟨_,PySem.W.kitx_tuple,⟨o,h1,h2⟩,λz=>nomatch z⟩
 | @dK a Oe ea =>
  cases (show u=Value.ref a from rx)
  obtain⟨_,_,vs,_,o,es,ep,h1,h2,_⟩:=(show cC X.prog X.w H s.heap a (.dK Oe) from I.bJ a _ ea)
  exact⟨_,PySem.W.kitx_dict,⟨o,h1,h2.1⟩,λz=>nomatch z⟩
 | @dT a Oe ea =>
  cases (show u=Value.ref a from rx)
  obtain⟨_,_,xs,_,o,es,ep,h1,h2,_⟩:=(show cC X.prog X.w H s.heap a (.dT Oe) from I.bJ a _ ea)
  exact⟨_,PySem.W.kitx_dict,⟨o,h1,h2.1⟩,λz=>nomatch z⟩
 | @ins a C dx fs ea cl ha hn Jf hm =>
  cases (show u=Value.ref a from rx)
  obtain⟨mA,O,_⟩:=lW I.bJ ea
  obtain⟨od,J,_⟩:=O.look
  exact⟨_,PySem.W.kitx_own (cl.get _) cl.hd ha hn Jf hm,J,λz=>nomatch z⟩
end
section
variable{X:Cx}
def J_(K:PySem.W.Frag):List V->Hp->VK->Prop:=λxs H Q=>∃ (x:V) (tp:Addr) (Ts:List String) (t:Value) (b:Bool),xs=[x,.ref tp]/\H tp=some (.tup (Ts.map V.ty))/\jV K H x t/\PySem.W.kitAny K t (Ts.map Value.type)=some b/\Q (.bl b) H
theorem yP:∀ {Ts:List String} {us:List Value},Vals (Ts.map V.ty) us->us=Ts.map Value.type
 | [],us,r=>by rw[List.map_nil] at r;cases r;rfl
 | T::Ts,us,r=>by
  rw[List.map_cons] at r
  cases r with
  | cons r1 r2 =>
   cases (show _=Value.type T from r1)
   rw[yP r2]
   rfl
theorem yW:cZ X (.builtin "isinstance") (J_ X.K):=by
 intro Nm s σ H xs us Q I r h
 obtain⟨x,tp,Ts,t,b,rfl,htp,ty,e,q⟩:=h
 cases r with
 | cons r1 r2 =>
  cases r2 with
  | cons r3 r4 =>
   cases r4
   cases (show _=Value.ref tp from r3)
   obtain⟨HH,Z,p,ne⟩:=Eo I r1 ty
   obtain⟨_,Nn,rv,o,h1,h2,n,h3⟩:=(show cC X.prog X.w H s.heap tp (.tup (Ts.map V.ty)) from I.bJ tp _ htp)
   have ei:=yP rv
   subst ei
   obtain⟨cls,dd,data,sl⟩:=o
   dsimp only at h2 h3
   subst h2 h3
   exact PySem.W.kia_tup Z I.j4 p h1 e ne λtk=>⟨.bl b,H,I.tok tk,rfl,q⟩
theorem yp:∀ {bs:List Bool} {us:List Value},Vals (bs.map V.bl) us->us=bs.map Value.bool
 | [],us,r=>by rw[List.map_nil] at r;cases r;rfl
 | b::bs,us,r=>by
  rw[List.map_cons] at r
  cases r with
  | cons r1 r2 =>
   cases (show _=Value.bool b from r1)
   rw[yp r2]
   rfl
theorem Ie:bootBuiltins "all" = some (.builtin "all"):=by decide +kernel
theorem zp(hc:X.calm=true):cZ X (.builtin "all") (λxs H Q=>∃ (a:Addr) (bs:List Bool),xs=[.ref a]/\hX X.K H a (bs.map V.bl)/\Q (.bl (bs.all id)) H):=by
 intro Nm s σ H xs us Q I r h
 obtain⟨a,bs,rfl,hq,q⟩:=h
 cases r with
 | cons r1 r2 =>
  cases r2
  cases (show _=Value.ref a from r1)
  obtain⟨Nn,rv,p,hz⟩:=I.list hq
  have ei:=yp rv
  subst ei
  have hl:=p.isList
  have N4:a<s.heap.objs.size:=by obtain⟨_,e,_⟩:=hl;exact Heap.lt_size e
  refine call_all_walk (wpAny_pyIter_list hl ?_)
  refine⟨s.heap.objs.size,[s.heap.objs.size,a],[s.heap.objs.size],(bs.map Value.bool).toArray.size,_,_,λi=>(bs[i]?).getD true,rfl,Walks.list (A:=X.A.in1) (I.ok.hd hc) _ a (Nat.ne_of_lt N4) (bs.map Value.bool).toArray,
   ⟨⟨_,Heap.get?_push_size _ rfl,rfl,rfl⟩,hl.push _⟩,λi v s' Q' E' hP hQ=>?_,λh' tk hk=>?_⟩
  ·have hP':(bs.map Value.bool)[i]?=some v:=by simpa using hP
   rw[List.getElem?_map] at hP'
   obtain⟨b,e1,e2⟩:=Option.map_eq_some_iff.mp hP'
   subst e2
   simp only[e1,Option.getD_some] at hQ
   exact wpAny_truthy_bool hQ
  ·have e:((List.range (bs.map Value.bool).toArray.size).all λi=>(bs[i]?).getD true)=bs.all id:=by
    rw[List.size_toArray,List.length_map]
    rw[Bool.eq_iff_iff,List.all_eq_true,List.all_eq_true]
    constructor
    ·intro h b hb
     obtain⟨i,hi,e⟩:=List.getElem_of_mem hb
     have:=h i (List.mem_range.mpr hi)
     simp only[List.getElem?_eq_getElem hi,Option.getD_some,e] at this
     exact this
    ·intro h i hi
     have PR:=List.mem_range.mp hi
     simp only[List.getElem?_eq_getElem PR,Option.getD_some]
     exact h _ (List.getElem_mem PR)
   rw[e]
   refine⟨.bl _,H,I.kept (t':=tk) (λb x e=>?_),rfl,q⟩
   exact hk b x (λhm=>by rw[List.mem_singleton.mp hm] at e;exact Nat.lt_irrefl _ (Heap.lt_size e)) (Heap.get?_push_of_some _ e)
end
end L2
namespace L2
open PySem PySem.Spec PyProof.Rows
open PySem.MeetsSeq PySem.MeetsSeq2 PySem.MeetsSeq3
theorem nB:fillsNumberSlot (.type "tuple") "mul" = pure false :=
 PySem.fillsNumberSlot_seq (id := "tuple.__mul__") (r:=some (.builtin "tuple.__rmul__")) F.slot_tuple_mul.lookup (by decide +kernel) F.slot_tuple_rmul.lookup (by decide +kernel)
theorem ur:seqRepeat? (.type "tuple")=pure (some (.builtin "tuple.__mul__")):=by
 unfold seqRepeat?
 rw[PySem.seqSlot_of (T := "tuple") (name := "__mul__") (id := "tuple.__mul__") F.slot_tuple_mul.lookup (by decide +kernel),PySem.seqSlot_of (T := "tuple") (name := "__rmul__") (id := "tuple.__rmul__") F.slot_tuple_rmul.lookup (by decide +kernel)]
 rfl
theorem uu(a:Int)(t:Tok)(l:Addr)(items:Array Value)(n:Nat)(dd:Option Addr)(sl:Array (Option Value)) :
  Meets (Builtin.«int.__rmul__» ⟨[.int a t,.ref l],[]⟩) (λ_ R s=>s.heap.get? l=some ⟨.type "tuple", dd,.seq items n,sl⟩/\R (.ok (.ret Value.notImplemented)) s) :=
 .of_wp λprog w A R s h=>by obtain⟨hp,g,d,tk,os⟩:=s;obtain⟨hl,h⟩:=h;wp_walk;exact⟨_,rfl,h⟩
theorem zT(l:Addr)(items:Array Value)(n:Nat)(dd:Option Addr)(sl:Array (Option Value))(u:Tok) :
  Meets (Builtin.«tuple.__mul__» ⟨[.ref l,.int 1 u],[]⟩) (λ_ R s=>s.heap.get? l=some ⟨.type "tuple", dd,.seq items n,sl⟩/\R (.ok (.ret (.ref l))) s) :=
 .of_wp λprog w A R s h=>by
  obtain⟨hp,g,d,tk,os⟩:=s;obtain⟨hl,h⟩:=h;have f1:=AutoSeq1.idx_int;have f2:=AutoSeq1.sub_tuple_tuple
  wp_walk using AutoSeq1.wpAny_loadPart' hl
  exact⟨_,rfl,h⟩
theorem zv(l:Addr)(items:Array Value)(n:Nat)(dd:Option Addr)(sl:Array (Option Value))(x:Int)(u:Tok)(c0:¬ (decide (x < -2^63)||decide (x>=2^63))=true)(c1:¬ (items.isEmpty||x==1)=true)(c2:¬ (decide (x<=0)||items.isEmpty)=true)
  (c3:¬ (items.size:Int)*x>(2^63-1)/8) (c4:¬ Builtin.Tuple.tupleTooMany ((items.size:Int)*x)=true) (Od:(List.foldl (λx1 x2=>x1++x2) #[] (List.replicate x.toNat items)).size<=sizeLine) :
  Meets (Builtin.«tuple.__mul__» ⟨[.ref l,.int x u],[]⟩) (λ_ R s=>s.heap.get? l=some ⟨.type "tuple", dd,.seq items n,sl⟩/\R (.ok (.ret (.ref s.heap.objs.size))) { s with heap:=s.heap.push { cls:=.type "tuple", data:=.seq (List.foldl (λx1 x2=>x1++x2) #[] (List.replicate x.toNat items)) },toks:=s.toks }) :=
 .of_wp λprog w A R s h=>by
  obtain⟨hp,g,d,tk,os⟩:=s;obtain⟨hl,h⟩:=h;have f1:=AutoSeq1.idx_int;have f2:=AutoSeq1.sub_tuple_tuple
  wp_walk using AutoSeq1.wpAny_loadPart' hl
  refine wpAny_ite_false (decide_eq_false c0) ?_;wp_walk using AutoSeq1.wpAny_loadPart' hl
  refine wpAny_ite_false (decide_eq_false c3) ?_;wp_walk using AutoSeq1.wpAny_loadPart' hl
  exact⟨_,rfl,h⟩
theorem yY(l:Addr)(items:Array Value)(n:Nat)(dd:Option Addr)(sl:Array (Option Value))(x:Int)(u:Tok)(c0:¬ (decide (x < -2^63)||decide (x>=2^63))=true)(c1:¬ (items.isEmpty||x==1)=true)(c2:(decide (x<=0)||items.isEmpty)=true) :
  Meets (Builtin.«tuple.__mul__» ⟨[.ref l,.int x u],[]⟩) (λ_ R s=>s.heap.get? l=some ⟨.type "tuple", dd,.seq items n,sl⟩/\R (.ok (.ret (.ref s.heap.objs.size))) { s with heap:=s.heap.push { cls:=.type "tuple", data:=.seq #[] },toks:=s.toks }) :=
 .of_wp λprog w A R s h=>by
  obtain⟨hp,g,d,tk,os⟩:=s;obtain⟨hl,h⟩:=h;have f1:=AutoSeq1.idx_int;have f2:=AutoSeq1.sub_tuple_tuple
  wp_walk using AutoSeq1.wpAny_loadPart' hl
  refine wpAny_ite_false (decide_eq_false c0) ?_;wp_walk using AutoSeq1.wpAny_loadPart' hl
  exact⟨_,rfl,h⟩
section
variable{X:Cx}
def FL(K:PySem.W.Frag):R2:=λx y H Q=>∃ a k xs,x=.ref a/\y=.int k/\gc K H a xs/\xs≠[]/\-(2^63)<=k/\k<2^63/\xs.length*k.toNat<=sizeLine/\(k=1->Q (.ref a) H)/\(k≠1->∀ p,H p=none->Q (.ref p) (upd H p (.tup (List.replicate k.toNat xs).flatten)))
theorem D7:gf X (binaryOp .Mult) (FL X.K):=by
 intro Nm s σ H x y v u Q I rx ry h
 obtain⟨a,k,xs,rfl,rfl,hq,Pm,h1,h2,hz,q1,q2⟩:=h
 cases rx
 obtain⟨t,rfl⟩:=ry
 obtain⟨Nn,r,⟨o,e,hc,n,hd⟩,_⟩:=I.tuple hq
 obtain⟨cls,dd,data,sl⟩:=o
 dsimp only at hc hd
 subst hc hd
 have hl:=r.length
 refine wpAny_binaryOp_repeat_ref (T := "tuple") (U := "int") (by decide) ⟨_,e,rfl⟩ (λs'=>typeIs_int s' k t) nB F.fills_int_mul F.slot_int_rmul ur F.slot_int_index.lookup
  (call_meets F.slot_int_rmul (typeIs_int s k t) F.entry_int_rmul (F.args_int_rmul_2 _ _) (uu k t a Nn.toArray n dd sl) ⟨e,rfl,⟨_,e,rfl⟩,?_⟩)
 by_cases hk1:k=1
 ·subst hk1
  exact call_meets F.slot_tuple_mul ⟨_,e,rfl⟩ F.entry_tuple_mul (F.args_tuple_mul_2 _ _) (zT a Nn.toArray n dd sl t) ⟨e,⟨.ref a,H,I,rfl,q1 rfl⟩⟩
 ·have hb1:(k==1)=false:=by simpa using hk1
  have PL:Nn≠[]:=λz=>Pm (r.mj.mp z)
  have hie:Nn.toArray.isEmpty=false:=by cases Nn with | nil=>exact absurd rfl PL | cons _ _=>rfl
  have c0:¬ (decide (k < -2^63)||decide (k>=2^63))=true:=by simp;omega
  have c1:¬ (Nn.toArray.isEmpty||k==1)=true:=by rw[hie,hb1];simp
  have fin:∀ ys,ys=(List.replicate k.toNat Nn).flatten.toArray->EP X Nm σ Q (.ref s.heap.objs.size) { s with heap:=s.heap.push { cls:=.type "tuple", data:=.seq ys },toks:=s.toks }:=λys ey=>by
   subst ey
   refine⟨.ref s.heap.objs.size,_,I.laid (t':=s.toks) (o:=.tup (List.replicate k.toNat xs).flatten) (λb ob q=>Heap.get?_push_of_some _ q) (Nat.le_refl _) ?_,rfl,q2 hk1 _ (I.bJ.fresh (Nat.le_refl _))⟩
   exact⟨by rw[len_rep,Nat.mul_comm];exact hz,_,r.rep k.toNat,IsTup.new _ _⟩
  have OP:List.foldl (λx1 x2=>x1++x2) #[] (List.replicate k.toNat Nn.toArray)=(List.replicate k.toNat Nn).flatten.toArray:=by
   have:=foldl_rep Nn k.toNat []
   rw[List.nil_append] at this
   exact this
  by_cases hk0:k<=0
  ·have c2:(decide (k<=0)||Nn.toArray.isEmpty)=true:=by rw[decide_eq_true hk0];rfl
   refine call_meets F.slot_tuple_mul ⟨_,e,rfl⟩ F.entry_tuple_mul (F.args_tuple_mul_2 _ _) (yY a Nn.toArray n dd sl k t c0 c1 c2) ⟨e,fin _ ?_⟩
   rw[show k.toNat=0 by omega]
   rfl
  ·have c2:¬ (decide (k<=0)||Nn.toArray.isEmpty)=true:=by rw[decide_eq_false hk0,hie];simp
   have em:((Nn.toArray.size:Nat):Int)*k=((xs.length*k.toNat:Nat):Int):=by
    rw[List.size_toArray,← hl,Int.natCast_mul,Int.toNat_of_nonneg (by omega)]
   have hs:(sizeLine:Int)<=(2^63-1)/8:=by decide
   refine call_meets F.slot_tuple_mul ⟨_,e,rfl⟩ F.entry_tuple_mul (F.args_tuple_mul_2 _ _) (zv a Nn.toArray n dd sl k t c0 c1 c2 ?_ ?_ ?_) ⟨e,fin _ OP⟩
   ·rw[em];omega
   ·rw[em]
    unfold Builtin.Tuple.tupleTooMany
    simp only[decide_eq_true_eq]
    omega
   ·rw[OP,List.size_toArray,len_rep,Nat.mul_comm,← hl]
    exact hz
end
end L2
namespace L2
open PySem PySem.Spec PyProof.Rows
structure aZ (K:PySem.W.Frag) (x qual:Str) (st:Stmt) (dv:Value) (f:Addr) (fd:FuncData):Prop where
 ex:∃ (oc:Value) (od:Option Addr) (kV doc pm:Value) (an:Option Addr) (NM ct:Value) (PF:Array (Option Value)),
  fd=PySem.W.fnOf x qual (iq st) (eR st) (a_ st) dv kV doc pm an NM ct/\K.lookup f=some ⟨oc,od,.func fd,PF⟩/\PySem.W.codeIn K NM qual=true
 kp:PySem.W.keepIn K (.ref f)=true
section
variable{P:Program}{w:World}{K:PySem.W.Frag}{mg:Str->Option Value}{base:Heap}
theorem aZ.binds{x qual:Str}{st:Stmt}{T:Addr}{o:Obj}{items:Array Value}{n:Nat}{f:Addr}{fd:FuncData}{ps:List Str}{ds:List Value}(F:aZ K x qual st (.ref T) f fd)(ho:K.lookup T=some o)(hs:o.data=.seq items n)
  (h:∀ (kV doc pm:Value) (an:Option Addr) (NM ct:Value) (us:List Value),(us++ds).length=ps.length->∃ k,bindArgs (PySem.W.fnOf x qual (iq st) (eR st) (a_ st) (.ref T) kV doc pm an NM ct) ⟨us,[]⟩=seqItems? (.ref T) >>= k/\k (some items)=pure (ps.zip (us++ds))):Binds K fd ps ds:=by
 obtain⟨oc,od,kV,doc,pm,an,NM,ct,PF,rfl,lk,OH⟩:=F.ex
 intro s us X hl
 obtain⟨k,h1,h2⟩:=h kV doc pm an NM ct us hl
 exact BindsTo.of_defaults rfl (X _ _ ho) hs h1 h2
end
theorem J8{X:Cx}{x:Str}{v:V}{pos:Pos}(hg:Gl X x)(hm:∃ u,X.mg x=some u/\RelV v u)(hd:autoParam ((x==("__debug__" : Str))=false) aD._auto_1):PE X (.Name x pos) (tC v):=by
 obtain⟨u,h1,h2⟩:=hm
 exact yC hg h1 h2 hd
theorem G3:bootBuiltins "max" = some (.builtin "max"):=by decide +kernel
theorem xa:bootBuiltins "min" = some (.builtin "min"):=by decide +kernel
end L2
namespace L2
open PySem PySem.Spec PyProof.Rows
theorem yI{X:Cx}{tg elt iter:Expr}{scope:Scope}{cl:List (Str×Addr)}{pos Pk py:Pos}{i:Nat}{y:Str}{wi:TI}{g:TG}{te:TE}{ts fs:List Str}{js:List Nat}(hN:X.N.Nodup)(Q9:X.N[i]?=some y)(hy:Loc X.env.scope y)(NB:X.calm=true)
  (NO:closureFor scope X.env=pure cl) (hk:scope.kind=.function) (nc:fm scope.names=true) (lo:gM scope.names=true) (fh:gF cl scope.names=true) (ag:eF X cl) (fr:iy X scope cl fs js)
  (hi:PI X tg iter wi) (hg:∀ C s₀ H₀ ex Nm,PG (oZ X scope cl (ts++fs) C s₀ H₀ ex Nm) tg g) (he:∀ C s₀ H₀ ex Nm,PE (oZ X scope cl (ts++fs) C s₀ H₀ ex Nm) elt te)
  (hs:autoParam (∀ x,foldedSetIterable iter X.env x=pure x) aI._auto_1) (QN:autoParam (swapsWith (.ListComp elt [⟨tg,iter,[],0⟩] scope pos) (some (.Name y py)) Pk.line X.env=pure true) aR._auto_1)
  (hf:autoParam (X.fn y=true\/X.env.scope.names.lookup y=some .local) aF._auto_1) :
  PS X (.Assign [.Name y py] (.ListComp elt [⟨tg,iter,[],0⟩] scope pos) Pk) (GD (w4 wi g te ts js) (aJ i)):=by
 intro Nm s σ H D I h
 rw[exec_Assign_Name_used _ _ _ _ QN]
 refine wpAny_bind (wpAny_standAt (wpAny_bind ?_))
 show wpAny _ X.A (do let _ ← comprehension (.ListComp elt [⟨tg,iter,[],0⟩] scope pos) scope X.env _ (newList []) false (eval iter X.env) (some (assign (.Name y py) X.env))) _ _ s
 refine wpAny_bind (wpAny_mono (vB (tt:=none) NB NO hk nc lo fh ag fr hi hg (λ_ _ _ _ _=>trivial) he hs I (show Cc wi g none te ts js σ H (λx H1=>D.nx (σ.set i (some x)) H1) from h) (some (assign (.Name y py) X.env)) (λ_ s'=>SP X Nm D .next s') λDd H' s' C Io q hm f=>?_) (λ_ s' hq=>wpAny_pure (wpAny_pure hq)) λ_ _ e=>e)
 show wpAny _ X.A (assign (.Name y py) X.env (.ref Dd)) _ _ s'
 refine wpAny_assign_Name (rV Io hN Q9 hy (v:=.ref Dd) rfl (λs'' I'' ⟨a,sb,ha⟩=>?_) hf)
 obtain⟨m,hn⟩:=hm
 obtain⟨f0,f1,f2,f3,f4,f5⟩:=f
 have naC:a≠C:=by
  rcases ha with z | z
  ·rw[z];exact λw=>f1 w.symm
  ·exact f4 y a z
 refine⟨m,hn.sameBut sb (Ne.symm naC),λh' QL=>?_⟩
 exact⟨_,H',I''.other ⟨f0,f1,f2,f3,f4,f5⟩ QL,q⟩
end L2
namespace L2
open PySem PySem.Spec PyProof.Rows
end L2
namespace L2
open PySem PySem.Spec PyProof.Rows
theorem pP(a b c:Value):checkTypeCall "zip" ⟨[a,b,c],[]⟩=pure ():=by kernel_rfl
theorem qR(a b c:Value):checkBuiltinCall "zip.__new__" ⟨[.type "zip", a,b,c],[]⟩=pure ():=by kernel_rfl
abbrev bL(h:Heap)(T:Addr)(a b c:Value):Prop:=h.get? T=some { cls:=.type "tuple", data:=.seq #[a,b,c] }
structure Z3 (z TI TO i1 i2 i3:Addr):Prop where
 TIz:TI≠z
 TOz:TO≠z
 i1z:i1≠z
 i2z:i2≠z
 Je:i3≠z
 TITO:TI≠TO
 TIi1:TI≠i1
 TIi2:TI≠i2
 LJ:TI≠i3
 TOi1:TO≠i1
 TOi2:TO≠i2
 E9:TO≠i3
 i12:i1≠i2
 L4:i1≠i3
 LC:i2≠i3
structure L3 (z TO i1 i2 i3 l:Addr):Prop where
 z:l≠z
 o:l≠TO
 i1:l≠i1
 i2:l≠i2
 i3:l≠i3
section
variable{prog:Program}{w:World}{A:Around}{E:Value->Shared->Prop}{s:Shared}
theorem dJ{T:Addr}{a b c x:Value}{k:Nat}{Q:Unit->Shared->Prop}(hT:bL s.heap T a b c)
  (h:∀ h',h'.get? T=some { cls:=.type "tuple", data:=.seq ((#[a,b,c]:Array Value).setIfInBounds k x) }->Heap.SameBut T s.heap h'->Q () { s with heap:=h' }) :
  wpAny (model prog w) A (updateSeq T (·.setIfInBounds k x)) Q E s:=by
 refine wpAny_updateSeq hT rfl (h _ ?_ (Heap.SameBut.update ..))
 rw[Heap.get?_update_self _ hT rfl]
 simp[Obj.mapSeq]
variable{b1 b2 b3:Bool}{z TI TO i1 i2 i3 l1 l2 l3:Addr}{k1 k2 k3:Nat}{xs ys zs:Array Value}{x y v a b c:Value}
theorem Ah{Q:Value->Shared->Prop}(D:Z3 z TI TO i1 i2 i3)(D1:L3 z TO i1 i2 i3 l1)(D2:L3 z TO i1 i2 i3 l2)(D3:L3 z TO i1 i2 i3 l3)
  (hz:IsZip s.heap z TI TO .none) (N5:bL s.heap TI (.ref i1) (.ref i2) (.ref i3)) (N8:bL s.heap TO a b c)
  (h1:eJ s.heap b1 i1 l1 k1) (h2:eJ s.heap b2 i2 l2 k2) (h3:eJ s.heap b3 i3 l3 k3) (ON:fU s.heap b1 l1 xs) (OO:fU s.heap b2 l2 ys) (P8:fU s.heap b3 l3 zs) (hx:xs[k1]?=some x) (hy:ys[k2]?=some y) (hv:zs[k3]?=some v)
  (hQ:∀ h',IsZip h' z TI TO (rawInt s.heap.objs.size)->bL h' TO x y v->eJ h' b1 i1 l1 (k1+1)->eJ h' b2 i2 l2 (k2+1)->eJ h' b3 i3 l3 (k3+1)->bL h' s.heap.objs.size x y v->h'.objs.size=s.heap.objs.size+1 ->
   (∀ c o,c≠z->c≠TO->c≠i1->c≠i2->c≠i3->s.heap.get? c=some o->h'.get? c=some o)->Q (.ref s.heap.objs.size) { s with heap:=h' }) :
  wpAny (model prog w) A (Builtin.«zip.__next__» ⟨[.ref z],[]⟩) (λfin s'=>∃ v,fin=.done (.ret v)/\Q v s') E s:=by
 show wpAny _ _ (field (.ref z) 2 >>= _) _ _ _
 refine wpAny_bind (wpAny_field hz rfl (x:=.bool false) rfl ?_)
 show wpAny _ _ (field (.ref z) 3 >>= _) _ _ _
 refine wpAny_bind (wpAny_field hz rfl (x:=.ref TI) rfl ?_)
 refine wpAny_bind (wpAny_seqItems N5 rfl ?_)
 show wpAny _ _ (Builtin.SmallTypes.ownedTupleIsFree (.ref z) >>= _) _ _ _
 refine wpAny_bind ?_
 unfold Builtin.SmallTypes.ownedTupleIsFree
 refine wpAny_bind (wpAny_field hz rfl (x:=.none) rfl (wpAny_pure ?_))
 simp only[if_true]
 refine wpAny_bind (wpAny_rule ?_)
 refine wpAny_bind (wpAny_field hz rfl (x:=.ref TO) rfl ?_)
 refine wpAny_bind (wpAny_setField_rec hz (by simp) λh₁ hz1 hs1=>?_)
 replace hz1:IsZip h₁ z TI TO .ellipsis:=hz1
 refine wpAny_bind ?_
 simp only[List.zipIdx_cons,List.zipIdx_nil,List.forIn_cons,List.forIn_nil]
 refine wpAny_bind (wpAny_bind (wpAny_onRaise ?_))
 show wpAny _ _ (Builtin.SmallTypes.nextOf (.ref i1) >>= _) _ _ _
 refine wpAny_bind (cY (h1.at λo e=>hs1.extBut _ _ D.i1z e) (ON.at λo e=>hs1.extBut _ _ D1.z e) hx λh₂ h1₂ hs2=>wpAny_pure ?_)
 have hTO2:bL h₂ TO a b c:=hs2.extBut _ _ D.TOi1 (hs1.extBut _ _ D.TOz N8)
 refine wpAny_bind (wpAny_seqItems hTO2 rfl ?_)
 refine wpAny_bind (dJ hTO2 λh₃ hTO3 hs3=>?_)
 replace hTO3:bL h₃ TO x b c:=hTO3
 refine wpAny_bind (wpAny_letGo (wpAny_pure ?_))
 have Qk:∀ q o,q≠z->q≠TO->q≠i1->s.heap.get? q=some o->h₃.get? q=some o:=λq o c1 c2 c3 e=>hs3.extBut _ _ c2 (hs2.extBut _ _ c3 (hs1.extBut _ _ c1 e))
 refine wpAny_bind (wpAny_bind (wpAny_onRaise ?_))
 show wpAny _ _ (Builtin.SmallTypes.nextOf (.ref i2) >>= _) _ _ _
 refine wpAny_bind (cY (h2.at λo e=>Qk _ o D.i2z D.TOi2.symm D.i12.symm e) (OO.at λo e=>Qk _ o D2.z D2.o D2.i1 e) hy λh₄ h2₄ hs4=>wpAny_pure ?_)
 have hTO4:bL h₄ TO x b c:=hs4.extBut _ _ D.TOi2 hTO3
 refine wpAny_bind (wpAny_seqItems hTO4 rfl ?_)
 refine wpAny_bind (dJ hTO4 λh₅ hTO5 hs5=>?_)
 replace hTO5:bL h₅ TO x y c:=hTO5
 refine wpAny_bind (wpAny_letGo (wpAny_pure ?_))
 have k5:∀ q o,q≠z->q≠TO->q≠i1->q≠i2->s.heap.get? q=some o->h₅.get? q=some o:=λq o c1 c2 c3 c4 e=>hs5.extBut _ _ c2 (hs4.extBut _ _ c4 (Qk q o c1 c2 c3 e))
 refine wpAny_bind (wpAny_bind (wpAny_onRaise ?_))
 show wpAny _ _ (Builtin.SmallTypes.nextOf (.ref i3) >>= _) _ _ _
 refine wpAny_bind (cY (h3.at λo e=>k5 _ o D.Je D.E9.symm D.L4.symm D.LC.symm e) (P8.at λo e=>k5 _ o D3.z D3.o D3.i1 D3.i2 e) hv λh₆ h3₆ hs6=>wpAny_pure ?_)
 have hTO6:bL h₆ TO x y c:=hs6.extBut _ _ D.E9 hTO5
 refine wpAny_bind (wpAny_seqItems hTO6 rfl ?_)
 refine wpAny_bind (dJ hTO6 λh₇ hTO7 hs7=>?_)
 replace hTO7:bL h₇ TO x y v:=hTO7
 refine wpAny_bind (wpAny_letGo (wpAny_pure (wpAny_pure ?_)))
 refine wpAny_bind (wpAny_seqItems hTO7 rfl ?_)
 refine wpAny_bind (wpAny_newTuple ?_)
 have Od:h₇.objs.size=s.heap.objs.size:=by rw[hs7.1,hs6.1,hs5.1,hs4.1,hs3.1,hs2.1,hs1.1]
 have hz₃:IsZip h₃ z TI TO .ellipsis:=hs3.extBut _ _ D.TOz.symm (hs2.extBut _ _ D.i1z.symm hz1)
 have hz5:IsZip h₅ z TI TO .ellipsis:=hs5.extBut _ _ D.TOz.symm (hs4.extBut _ _ D.i2z.symm hz₃)
 have hz7:IsZip h₇ z TI TO .ellipsis:=hs7.extBut _ _ D.TOz.symm (hs6.extBut _ _ D.Je.symm hz5)
 have k7:∀ q o,q≠z->q≠TO->q≠i1->q≠i2->q≠i3->s.heap.get? q=some o->h₇.get? q=some o:=λq o c1 c2 c3 c4 c5 e=>hs7.extBut _ _ c2 (hs6.extBut _ _ c5 (k5 q o c1 c2 c3 c4 e))
 have h1₇:eJ h₇ b1 i1 l1 (k1+1):=h1₂.at λo e=>hs7.extBut _ _ D.TOi1.symm (hs6.extBut _ _ D.L4 (hs5.extBut _ _ D.TOi1.symm (hs4.extBut _ _ D.i12 (hs3.extBut _ _ D.TOi1.symm e))))
 have h2₇:eJ h₇ b2 i2 l2 (k2+1):=h2₄.at λo e=>hs7.extBut _ _ D.TOi2.symm (hs6.extBut _ _ D.LC (hs5.extBut _ _ D.TOi2.symm e))
 have h3₇:eJ h₇ b3 i3 l3 (k3+1):=h3₆.at λo e=>hs7.extBut _ _ D.E9.symm e
 have Qa:z<h₇.objs.size:=Heap.lt_size hz7
 show wpAny _ _ (Builtin.SmallTypes.ownedTupleHandOut (.ref z) (.ref h₇.objs.size) >>= _) _ _ _
 refine wpAny_bind ?_
 unfold Builtin.SmallTypes.ownedTupleHandOut
 have hz₈:IsZip (h₇.push { cls:=.type "tuple", data:=.seq #[x,y,v] }) z TI TO .ellipsis:=Heap.get?_push_of_some _ hz7
 refine wpAny_bind (wpAny_setField_rec hz₈ (by simp) λh₉ hz9 hs9=>?_)
 replace hz9:IsZip h₉ z TI TO (rawInt h₇.objs.size):=hz9
 refine wpAny_setField_rec hz9 (by simp) λhA hzA hsA=>?_
 replace hzA:IsZip hA z TI TO (rawInt h₇.objs.size):=hzA
 have up:∀ c o,c≠z->h₇.get? c=some o->hA.get? c=some o:=λc o c1 e=>hsA.extBut _ _ c1 (hs9.extBut _ _ c1 (Heap.get?_push_of_some _ e))
 have hTA:bL hA h₇.objs.size x y v:=hsA.extBut _ _ (Nat.ne_of_gt Qa) (hs9.extBut _ _ (Nat.ne_of_gt Qa) (Heap.get?_push_size _ rfl))
 have Rm:hA.objs.size=h₇.objs.size+1:=by rw[hsA.1,hs9.1,Heap.size_push]
 rw[Od] at hzA hTA Rm
 refine wpAny_pure ⟨_,rfl,?_⟩
 show Q (.ref h₇.objs.size) _
 rw[Od]
 exact hQ hA hzA (up _ _ D.TOz hTO7) (h1₇.at λo e=>up _ o D.i1z e) (h2₇.at λo e=>up _ o D.i2z e) (h3₇.at λo e=>up _ o D.Je e) hTA Rm λc o c1 c2 c3 c4 c5 e=>up c o c1 (k7 c o c1 c2 c3 c4 c5 e)
theorem CM{Q:Fin->Shared->Prop}(hh:A.handled=none)(D:Z3 z TI TO i1 i2 i3)(D1:L3 z TO i1 i2 i3 l1)(D2:L3 z TO i1 i2 i3 l2)(D3:L3 z TO i1 i2 i3 l3)
  (hz:IsZip s.heap z TI TO .none) (N5:bL s.heap TI (.ref i1) (.ref i2) (.ref i3)) (N8:bL s.heap TO a b c)
  (h1:eJ s.heap b1 i1 l1 k1) (h2:eJ s.heap b2 i2 l2 k2) (h3:eJ s.heap b3 i3 l3 k3) (ON:fU s.heap b1 l1 xs) (OO:fU s.heap b2 l2 ys) (P8:fU s.heap b3 l3 zs) (OW:xs[k1]?=none\/ys[k2]?=none\/zs[k3]?=none)
  (hE:∀ h' e,(∀ c o,c≠z->c≠TO->c≠i1->c≠i2->c≠i3->s.heap.get? c=some o->h'.get? c=some o)->(∃ o,h'.get? e=some o/\o.cls=.type "StopIteration")->E (.ref e) { s with heap:=h' }) :
  wpAny (model prog w) A (Builtin.«zip.__next__» ⟨[.ref z],[]⟩) Q E s:=by
 show wpAny _ _ (field (.ref z) 2 >>= _) _ _ _
 refine wpAny_bind (wpAny_field hz rfl (x:=.bool false) rfl ?_)
 show wpAny _ _ (field (.ref z) 3 >>= _) _ _ _
 refine wpAny_bind (wpAny_field hz rfl (x:=.ref TI) rfl ?_)
 refine wpAny_bind (wpAny_seqItems N5 rfl ?_)
 show wpAny _ _ (Builtin.SmallTypes.ownedTupleIsFree (.ref z) >>= _) _ _ _
 refine wpAny_bind ?_
 unfold Builtin.SmallTypes.ownedTupleIsFree
 refine wpAny_bind (wpAny_field hz rfl (x:=.none) rfl (wpAny_pure ?_))
 simp only[if_true]
 refine wpAny_bind (wpAny_rule ?_)
 refine wpAny_bind (wpAny_field hz rfl (x:=.ref TO) rfl ?_)
 refine wpAny_bind (wpAny_setField_rec hz (by simp) λh₁ hz1 hs1=>?_)
 replace hz1:IsZip h₁ z TI TO .ellipsis:=hz1
 refine wpAny_bind ?_
 simp only[List.zipIdx_cons,List.zipIdx_nil,List.forIn_cons,List.forIn_nil]
 refine wpAny_bind (wpAny_bind (wpAny_onRaise ?_))
 show wpAny _ _ (Builtin.SmallTypes.nextOf (.ref i1) >>= _) _ _ _
 cases hx:xs[k1]? with
 | none =>
  refine wpAny_bind (gX hh (h1.at λo e=>hs1.extBut _ _ D.i1z e) (ON.at λo e=>hs1.extBut _ _ D1.z e) hx λh₂ e hs2 he=>?_)
  obtain⟨oe,OQ,Pw⟩:=he
  have hz2:IsZip h₂ z TI TO .ellipsis:=hs2 _ _ D.i1z.symm hz1
  have Qn:e≠z:=λx=>by subst x;rw[hz2] at OQ;cases OQ;simp at Pw
  refine wpAny_setField_rec hz2 (by simp) λh₃ _ hs3=>hE h₃ e (λc o c1 _ c3 _ _ x=>hs3.extBut _ _ c1 (hs2 _ _ c3 (hs1.extBut _ _ c1 x))) ⟨oe,hs3.extBut _ _ Qn OQ,Pw⟩
 | some x =>
  refine wpAny_bind (cY (h1.at λo e=>hs1.extBut _ _ D.i1z e) (ON.at λo e=>hs1.extBut _ _ D1.z e) hx λh₂ h1₂ hs2=>wpAny_pure ?_)
  have hTO2:bL h₂ TO a b c:=hs2.extBut _ _ D.TOi1 (hs1.extBut _ _ D.TOz N8)
  refine wpAny_bind (wpAny_seqItems hTO2 rfl ?_)
  refine wpAny_bind (dJ hTO2 λh₃ hTO3 hs3=>?_)
  replace hTO3:bL h₃ TO x b c:=hTO3
  refine wpAny_bind (wpAny_letGo (wpAny_pure ?_))
  have Qk:∀ q o,q≠z->q≠TO->q≠i1->s.heap.get? q=some o->h₃.get? q=some o:=λq o c1 c2 c3 e=>hs3.extBut _ _ c2 (hs2.extBut _ _ c3 (hs1.extBut _ _ c1 e))
  have hz₃:IsZip h₃ z TI TO .ellipsis:=hs3.extBut _ _ D.TOz.symm (hs2.extBut _ _ D.i1z.symm hz1)
  refine wpAny_bind (wpAny_bind (wpAny_onRaise ?_))
  show wpAny _ _ (Builtin.SmallTypes.nextOf (.ref i2) >>= _) _ _ _
  cases hy:ys[k2]? with
  | none =>
   refine wpAny_bind (gX hh (h2.at λo e=>Qk _ o D.i2z D.TOi2.symm D.i12.symm e) (OO.at λo e=>Qk _ o D2.z D2.o D2.i1 e) hy λh₄ e hs4 he=>?_)
   obtain⟨oe,OQ,Pw⟩:=he
   have hz4:IsZip h₄ z TI TO .ellipsis:=hs4 _ _ D.i2z.symm hz₃
   have Qn:e≠z:=λx=>by subst x;rw[hz4] at OQ;cases OQ;simp at Pw
   refine wpAny_setField_rec hz4 (by simp) λh₅ _ hs5=>hE h₅ e (λc o c1 c2 c3 c4 _ x=>hs5.extBut _ _ c1 (hs4 _ _ c4 (Qk c o c1 c2 c3 x))) ⟨oe,hs5.extBut _ _ Qn OQ,Pw⟩
  | some y =>
   have hv:zs[k3]?=none:=by
    rcases OW with h | h | h
    ·rw[hx] at h;cases h
    ·rw[hy] at h;cases h
    ·exact h
   refine wpAny_bind (cY (h2.at λo e=>Qk _ o D.i2z D.TOi2.symm D.i12.symm e) (OO.at λo e=>Qk _ o D2.z D2.o D2.i1 e) hy λh₄ h2₄ hs4=>wpAny_pure ?_)
   have hTO4:bL h₄ TO x b c:=hs4.extBut _ _ D.TOi2 hTO3
   refine wpAny_bind (wpAny_seqItems hTO4 rfl ?_)
   refine wpAny_bind (dJ hTO4 λh₅ hTO5 hs5=>?_)
   refine wpAny_bind (wpAny_letGo (wpAny_pure ?_))
   have k5:∀ q o,q≠z->q≠TO->q≠i1->q≠i2->s.heap.get? q=some o->h₅.get? q=some o:=λq o c1 c2 c3 c4 e=>hs5.extBut _ _ c2 (hs4.extBut _ _ c4 (Qk q o c1 c2 c3 e))
   have hz5:IsZip h₅ z TI TO .ellipsis:=hs5.extBut _ _ D.TOz.symm (hs4.extBut _ _ D.i2z.symm hz₃)
   refine wpAny_bind (wpAny_bind (wpAny_onRaise ?_))
   show wpAny _ _ (Builtin.SmallTypes.nextOf (.ref i3) >>= _) _ _ _
   refine wpAny_bind (gX hh (h3.at λo e=>k5 _ o D.Je D.E9.symm D.L4.symm D.LC.symm e) (P8.at λo e=>k5 _ o D3.z D3.o D3.i1 D3.i2 e) hv λh₆ e hs6 he=>?_)
   obtain⟨oe,OQ,Pw⟩:=he
   have hz6:IsZip h₆ z TI TO .ellipsis:=hs6 _ _ D.Je.symm hz5
   have Qn:e≠z:=λx=>by subst x;rw[hz6] at OQ;cases OQ;simp at Pw
   refine wpAny_setField_rec hz6 (by simp) λh₇ _ hs7=>hE h₇ e (λc o c1 c2 c3 c4 c5 x=>hs7.extBut _ _ c1 (hs6 _ _ c5 (k5 c o c1 c2 c3 c4 x))) ⟨oe,hs7.extBut _ _ Qn OQ,Pw⟩
end
end L2
namespace L2
open PySem PySem.Spec PyProof.Rows
section
variable{prog:Program}{w:World}{A:Around}{E:Value->Shared->Prop}{s:Shared}
variable{b1 b2 b3:Bool}{z TI TO i1 i2 i3 l1 l2 l3:Addr}{k1 k2 k3:Nat}{xs ys zs:Array Value}{x y v a b c:Value}
theorem mX{Q:Option Value->Shared->Prop}(D:Z3 z TI TO i1 i2 i3)(D1:L3 z TO i1 i2 i3 l1)(D2:L3 z TO i1 i2 i3 l2)(D3:L3 z TO i1 i2 i3 l3)
  (hz:IsZip s.heap z TI TO .none) (N5:bL s.heap TI (.ref i1) (.ref i2) (.ref i3)) (N8:bL s.heap TO a b c)
  (h1:eJ s.heap b1 i1 l1 k1) (h2:eJ s.heap b2 i2 l2 k2) (h3:eJ s.heap b3 i3 l3 k3) (ON:fU s.heap b1 l1 xs) (OO:fU s.heap b2 l2 ys) (P8:fU s.heap b3 l3 zs) (hx:xs[k1]?=some x) (hy:ys[k2]?=some y) (hv:zs[k3]?=some v)
  (hQ:∀ h',IsZip h' z TI TO (rawInt s.heap.objs.size)->bL h' TO x y v->eJ h' b1 i1 l1 (k1+1)->eJ h' b2 i2 l2 (k2+1)->eJ h' b3 i3 l3 (k3+1)->bL h' s.heap.objs.size x y v->h'.objs.size=s.heap.objs.size+1 ->
   (∀ c o,c≠z->c≠TO->c≠i1->c≠i2->c≠i3->s.heap.get? c=some o->h'.get? c=some o)->Q (some (.ref s.heap.objs.size)) { s with heap:=h' }) :
  wpAny (model prog w) A (pyNext (.ref z)) Q E s:=by
 have hT:s.TypeIs (.ref z) "zip" := ⟨_,hz,rfl⟩
 unfold pyNext
 exact wpAny_bind (wpAny_attempt (wpAny_callSpecial?_slot (name:=Str.ofString "__next__") hT F.slot_zip_next
  (wpAny_call_entry F.slot_zip_next hT F.entry_zip_next
   (Ah D D1 D2 D3 hz N5 N8 h1 h2 h3 ON OO P8 hx hy hv λh' a1 a2 a3 a4 a5 a6 a7 a8=>wpAny_pure (hQ h' a1 a2 a3 a4 a5 a6 a7 a8)) (F.args_zip_next_1 _))))
theorem ot{Q:Option Value->Shared->Prop}(hh:A.handled=none)(D:Z3 z TI TO i1 i2 i3)(D1:L3 z TO i1 i2 i3 l1)(D2:L3 z TO i1 i2 i3 l2)(D3:L3 z TO i1 i2 i3 l3)
  (hz:IsZip s.heap z TI TO .none) (N5:bL s.heap TI (.ref i1) (.ref i2) (.ref i3)) (N8:bL s.heap TO a b c)
  (h1:eJ s.heap b1 i1 l1 k1) (h2:eJ s.heap b2 i2 l2 k2) (h3:eJ s.heap b3 i3 l3 k3) (ON:fU s.heap b1 l1 xs) (OO:fU s.heap b2 l2 ys) (P8:fU s.heap b3 l3 zs) (OW:xs[k1]?=none\/ys[k2]?=none\/zs[k3]?=none)
  (hQ:∀ h',(∀ c o,c≠z->c≠TO->c≠i1->c≠i2->c≠i3->s.heap.get? c=some o->h'.get? c=some o)->Q none { s with heap:=h' }):wpAny (model prog w) A (pyNext (.ref z)) Q E s:=by
 have hT:s.TypeIs (.ref z) "zip" := ⟨_,hz,rfl⟩
 unfold pyNext
 refine wpAny_bind (wpAny_attempt (wpAny_callSpecial?_slot (name:=Str.ofString "__next__") hT F.slot_zip_next
  (wpAny_call_entry F.slot_zip_next hT F.entry_zip_next (CM hh D D1 D2 D3 hz N5 N8 h1 h2 h3 ON OO P8 OW λh' e hk he=>?_) (F.args_zip_next_1 _))))
 obtain⟨o,ho,hc⟩:=he
 refine wpAny_bind (wpAny_isInstance (T := "StopIteration") (b:=true) ⟨o,ho,hc⟩ isSubtype_stop ?_)
 exact wpAny_pure (hQ _ hk)
end
abbrev K8(h:Heap)(b1 b2 b3:Bool)(l1 l2 l3:Addr):Heap:=(FF h b1 b2 l1 l2).push (Dm b3 l3)
abbrev K1(h:Heap)(b1 b2 b3:Bool)(l1 l2 l3:Addr):Heap:=(K8 h b1 b2 b3 l1 l2 l3).push { cls:=.type "tuple", data:=.seq #[.ref h.objs.size,.ref (GJ h b1 l1).objs.size,.ref (FF h b1 b2 l1 l2).objs.size] }
abbrev KY(h:Heap)(b1 b2 b3:Bool)(l1 l2 l3:Addr):Heap:=(K1 h b1 b2 b3 l1 l2 l3).push { cls:=.type "tuple", data:=.seq #[.none,.none,.none] }
abbrev F9(h:Heap)(b1 b2 b3:Bool)(l1 l2 l3:Addr):Heap:=(KY h b1 b2 b3 l1 l2 l3).push { cls:=.type "zip", data:=.fields #[.none,.bool false,.bool false,.ref (K8 h b1 b2 b3 l1 l2 l3).objs.size,.ref (K1 h b1 b2 b3 l1 l2 l3).objs.size] }
theorem p4(b1 b2 b3:Bool)(l1 l2 l3:Addr)(xs ys zs:Array Value) :
  Meets (Builtin.«zip.__new__» ⟨[.type "zip", .ref l1,.ref l2,.ref l3],[]⟩) (λ_ R s=>fU s.heap b1 l1 xs/\fU s.heap b2 l2 ys/\fU s.heap b3 l3 zs ∧
   R (.ok (.ret (.ref (KY s.heap b1 b2 b3 l1 l2 l3).objs.size))) { s with heap:=F9 s.heap b1 b2 b3 l1 l2 l3 }) :=
 .of_wp λprog w A R s h=>by
  obtain⟨hp,g,d,tk,os⟩:=s;obtain⟨ON,OO,P8,h⟩:=h
  have Rh:=sub_zip
  have hL1:fU (Shared.heap ⟨hp,g,d,tk,os⟩) b1 l1 xs:=ON
  have hL2:fU (Shared.heap ⟨hp.push (Dm b1 l1),g,d,tk,os⟩) b2 l2 ys:=fU.push OO _
  have hL3:fU (Shared.heap ⟨(hp.push (Dm b1 l1)).push (Dm b2 l2),g,d,tk,os⟩) b3 l3 zs:=fU.push (fU.push P8 _) _
  wp_walk using fV hL1,fV hL2,fV hL3
  exact⟨_,rfl,h⟩
section
variable{prog:Program}{w:World}{A:Around}{E:Value->Shared->Prop}{s:Shared}
theorem zg{b1 b2 b3:Bool}{l1 l2 l3:Addr}{xs ys zs:Array Value}{Q:Value->Shared->Prop}(ON:fU s.heap b1 l1 xs)(OO:fU s.heap b2 l2 ys)(P8:fU s.heap b3 l3 zs)
  (h:∀ h',IsZip h' (s.heap.objs.size+5) (s.heap.objs.size+3) (s.heap.objs.size+4) .none->bL h' (s.heap.objs.size+3) (.ref s.heap.objs.size) (.ref (s.heap.objs.size+1)) (.ref (s.heap.objs.size+2)) ->
   bL h' (s.heap.objs.size+4) .none .none .none->eJ h' b1 s.heap.objs.size l1 0->eJ h' b2 (s.heap.objs.size+1) l2 0->eJ h' b3 (s.heap.objs.size+2) l3 0 ->
   (∀ c o,s.heap.get? c=some o->h'.get? c=some o)->Q (.ref (s.heap.objs.size+5)) { s with heap:=h' }) :
  wpAny (model prog w) A (call (.type "zip") [.ref l1,.ref l2,.ref l3]) Q E s:=by
 refine callType_new F.called_zip (by decide) (pP _ _ _) (qR _ _ _) (λobj=>F.initArgs_range_3 obj _ _ _) F.entry_zip_new
  (p4 b1 b2 b3 l1 l2 l3 xs ys zs) ⟨ON,OO,P8,?_⟩
 have z1:(GJ s.heap b1 l1).objs.size=s.heap.objs.size+1:=Heap.size_push ..
 have z2:(FF s.heap b1 b2 l1 l2).objs.size=s.heap.objs.size+2:=by rw[Heap.size_push,z1]
 have z3:(K8 s.heap b1 b2 b3 l1 l2 l3).objs.size=s.heap.objs.size+3:=by rw[Heap.size_push,z2]
 have z4:(K1 s.heap b1 b2 b3 l1 l2 l3).objs.size=s.heap.objs.size+4:=by rw[Heap.size_push,z3]
 have z5:(KY s.heap b1 b2 b3 l1 l2 l3).objs.size=s.heap.objs.size+5:=by rw[Heap.size_push,z4]
 have g6:(F9 s.heap b1 b2 b3 l1 l2 l3).get? (KY s.heap b1 b2 b3 l1 l2 l3).objs.size=some _:=Heap.get?_push_size _ rfl
 have g5:(F9 s.heap b1 b2 b3 l1 l2 l3).get? (K1 s.heap b1 b2 b3 l1 l2 l3).objs.size=some _:=Heap.get?_push_of_some _ (Heap.get?_push_size _ rfl)
 have g4:(F9 s.heap b1 b2 b3 l1 l2 l3).get? (K8 s.heap b1 b2 b3 l1 l2 l3).objs.size=some _:=Heap.get?_push_of_some _ (Heap.get?_push_of_some _ (Heap.get?_push_size _ rfl))
 have g3:(F9 s.heap b1 b2 b3 l1 l2 l3).get? (FF s.heap b1 b2 l1 l2).objs.size=some _:=Heap.get?_push_of_some _ (Heap.get?_push_of_some _ (Heap.get?_push_of_some _ (Heap.get?_push_size _ rfl)))
 have g2:(F9 s.heap b1 b2 b3 l1 l2 l3).get? (GJ s.heap b1 l1).objs.size=some _:=Heap.get?_push_of_some _ (Heap.get?_push_of_some _ (Heap.get?_push_of_some _ (Heap.get?_push_of_some _ (Heap.get?_push_size _ rfl))))
 have g1:(F9 s.heap b1 b2 b3 l1 l2 l3).get? s.heap.objs.size=some _:=Heap.get?_push_of_some _ (Heap.get?_push_of_some _ (Heap.get?_push_of_some _ (Heap.get?_push_of_some _ (Heap.get?_push_of_some _ (Heap.get?_push_size _ rfl)))))
 show _/\_
 rw[z3,z4,z5] at g6
 rw[z1,z2,z3] at g4
 rw[z4] at g5
 rw[z2] at g3
 rw[z1] at g2
 rw[z5]
 exact⟨⟨_,g6,rfl⟩,h _ g6 g4 g5 (eJ.new _ b1 _ _ g1) (eJ.new _ b2 _ _ g2) (eJ.new _ b3 _ _ g3) λc o x =>
  Heap.get?_push_of_some _ (Heap.get?_push_of_some _ (Heap.get?_push_of_some _ (Heap.get?_push_of_some _ (Heap.get?_push_of_some _ (Heap.get?_push_of_some _ x)))))⟩
end
def Lw (K : PySem.W.Frag) (b1 b2 b3 : Bool) (a1 a2 a3 : Addr) : It :=
  ⟨λi H => ∃ xs ys zs x y v, kG K H b1 a1 xs /\ kG K H b2 a2 ys /\ kG K H b3 a3 zs /\ xs[i]? = some x /\ ys[i]? = some y /\ zs[i]? = some v,
   λi H r H' => ∃ p x y v, H p = none /\ r = .ref p /\ H' = upd H p (.tup [x, y, v]) /\ (∀ xs, kG K H b1 a1 xs -> xs[i]? = some x) /\ (∀ ys, kG K H b2 a2 ys -> ys[i]? = some y) /\ (∀ zs, kG K H b3 a3 zs -> zs[i]? = some v),
   λi H => ∃ xs ys zs, kG K H b1 a1 xs /\ kG K H b2 a2 ys /\ kG K H b3 a3 zs /\ (xs.length <= i \/ ys.length <= i \/ zs.length <= i)⟩
theorem sE{X:Cx}{Nm:List (Addr×Obj)}{σ:St}{H:Hp}{s:Shared}{b:Bool}{z TI TO i1 i2 i3 a:Addr}{xs:List V}(I:Inv X Nm σ H s)(h:kG X.K H b a xs)(hf:∀ b∈[z,TO,i1,i2,i3,TI],lU X Nm H b):L3 z TO i1 i2 i3 a :=
 ⟨cN I h (hf z (by simp)),cN I h (hf TO (by simp)),cN I h (hf i1 (by simp)),cN I h (hf i2 (by simp)),cN I h (hf i3 (by simp))⟩
theorem zV{P:Program}{w:World}{K:PySem.W.Frag}{elts:List Expr}{x1:Nat}{tp:Pos}(b1 b2 b3:Bool)(a1 a2 a3 z TI TO i1 i2 i3:Addr)(D:Z3 z TI TO i1 i2 i3) :
  Turn P w K (.Tuple elts x1 tp) (Lw K b1 b2 b3 a1 a2 a3) [z,TO,i1,i2,i3,TI] z (λi h=>IsZip h z TI TO .none/\bL h TI (.ref i1) (.ref i2) (.ref i3)/\(∃ a b c,bL h TO a b c)/\eJ h b1 i1 a1 i/\eJ h b2 i2 a2 i/\eJ h b3 i3 a3 i) where
 mem:=by simp
 obj:=λi h st b hb=>by
  obtain⟨hz,N5,⟨a,c,d,N8⟩,h1,h2,h3⟩:=st
  simp only[List.mem_cons,List.mem_nil_iff,or_false] at hb
  rcases hb with q | q | q | q | q | q <;> subst q
  ·exact⟨_,hz,λv z=>by cases z⟩
  ·exact⟨_,N8,λv z=>by cases z⟩
  ·obtain⟨o,vs,e,d⟩:=h1.obj
   exact⟨o,e,λv z=>by rw[d] at z;cases z⟩
  ·obtain⟨o,vs,e,d⟩:=h2.obj
   exact⟨o,e,λv z=>by rw[d] at z;cases z⟩
  ·obtain⟨o,vs,e,d⟩:=h3.obj
   exact⟨o,e,λv z=>by rw[d] at z;cases z⟩
  ·exact⟨_,N5,λv z=>by cases z⟩
 keep:=λi h h' st k=>by
  obtain⟨hz,N5,⟨a,c,d,N8⟩,h1,h2,h3⟩:=st
  exact⟨k z (by simp) _ hz,k TI (by simp) _ N5,⟨a,c,d,k TO (by simp) _ N8⟩,h1.at λo e=>k i1 (by simp) o e,h2.at λo e=>k i2 (by simp) o e,h3.at λo e=>k i3 (by simp) o e⟩
 item:=by
  intro X hP hw hK hc i Nm s σ H E I hf st hg
  subst hP hw hK
  obtain⟨xs,ys,zs,x,y,v,N6,NW,Pq,hx,hy,hv⟩:=hg
  obtain⟨Qb,Qs,p1,Rk⟩:=I.row N6
  obtain⟨Ot,Qt,p2,Rl⟩:=I.row NW
  obtain⟨Ro,rv3,p3,hz3'⟩:=I.row Pq
  obtain⟨u1,hu1,ru1⟩:=Qs.get hx
  obtain⟨u2,hu2,ru2⟩:=Qt.get hy
  obtain⟨u3,hu3,ru3⟩:=rv3.get hv
  obtain⟨hz,N5,⟨a,c,d,N8⟩,h1,h2,h3⟩:=st
  obtain⟨oi1,vs1,Q0,di1⟩:=h1.obj
  obtain⟨oi2,vs2,Q1,di2⟩:=h2.obj
  obtain⟨oi3,vs3,ei3,di3⟩:=h3.obj
  refine mX D (sE I N6 hf) (sE I NW hf) (sE I Pq hf) hz N5 N8 h1 h2 h3 p1 p2 p3 (x:=u1) (y:=u2) (v:=u3) (by simpa using hu1) (by simpa using hu2) (by simpa using hu3) λh' g1 g2 g3 g4 g4' g5 g6 g7=>⟨_,rfl,?_⟩
  refine wpAny_letOwnedTupleGo_zip (s:={ s with heap:=h' }) g1 λhN hz3 Pz=>?_
  have OP:H s.heap.objs.size=none:=I.bJ.fresh (Nat.le_refl _)
  have lt:∀ {c:Addr} {o:Obj},s.heap.get? c=some o->c≠s.heap.objs.size:=λe=>Nat.ne_of_lt (Heap.lt_size e)
  have Qd:∀ b o,b ∉ [z,TO,i1,i2,i3,TI]->s.heap.get? b=some o->hN.get? b=some o:=λb o hb q=>by
   simp only[List.mem_cons,List.mem_nil_iff,or_false,not_or] at hb
   exact(Pz.2 b hb.1).trans (g7 b o hb.1 hb.2.1 hb.2.2.1 hb.2.2.2.1 hb.2.2.2.2.1 q)
  have hT3:hN.get? s.heap.objs.size=some { cls:=.type "tuple", data:=.seq #[u1,u2,u3] }:=(Pz.2 _ (lt hz).symm).trans g5
  have I3:Inv X Nm σ (upd H s.heap.objs.size (.tup [x,y,v])) { s with heap:=hN,toks:=s.toks } :=
   I.kK (ch:=[z,TO,i1,i2,i3,TI]) Qd hf (Nat.le_refl _) (λb hb=>by
    simp only[List.mem_cons,List.mem_nil_iff,or_false] at hb
    rcases hb with q | q | q | q | q | q <;> subst q
    ·exact⟨_,hz⟩
    ·exact⟨_,N8⟩
    ·exact⟨_,Q0⟩
    ·exact⟨_,Q1⟩
    ·exact⟨_,ei3⟩
    ·exact⟨_,N5⟩)
    ⟨by show 3<=sizeLine;decide,[u1,u2,u3],.cons ru1 (.cons ru2 (.cons ru3 .nil)),⟨_,hT3,rfl,_,rfl⟩⟩
  refine⟨.ref s.heap.objs.size,_,I3,rfl,⟨_,x,y,v,OP,rfl,rfl,λzs' Qr=>by rw[I.mn Qr N6];exact hx,λzs' Qr=>by rw[I.mn Qr NW];exact hy,λzs' Qr=>by rw[I.mn Qr Pq];exact hv⟩,
   ⟨hz3,(Pz.2 TI D.TIz).trans (g7 TI _ D.TIz D.TITO D.TIi1 D.TIi2 D.LJ N5),⟨_,_,_,(Pz.2 TO D.TOz).trans g2⟩,g3.at λo e=>(Pz.2 i1 D.i1z).trans e,g4.at λo e=>(Pz.2 i2 D.i2z).trans e,g4'.at λo e=>(Pz.2 i3 D.Je).trans e⟩,λb hb=>?_⟩
  have nb:b≠s.heap.objs.size:=by
   simp only[List.mem_cons,List.mem_nil_iff,or_false] at hb
   rcases hb with q | q | q | q | q | q <;> subst q
   ·exact lt hz
   ·exact lt N8
   ·exact lt Q0
   ·exact lt Q1
   ·exact lt ei3
   ·exact lt N5
  rw[aw nb]
  exact(hf b hb).1
 done:=by
  intro X hP hw hK hc i Nm s σ H E I hf st hg
  subst hP hw hK
  obtain⟨xs,ys,zs,N6,NW,Pq,OW⟩:=hg
  obtain⟨Qb,Qs,p1,Rk⟩:=I.row N6
  obtain⟨Ot,Qt,p2,Rl⟩:=I.row NW
  obtain⟨Ro,rv3,p3,hz3'⟩:=I.row Pq
  obtain⟨hz,N5,⟨a,c,d,N8⟩,h1,h2,h3⟩:=st
  have l1:=Qs.length
  have l2:=Qt.length
  have l3:=rv3.length
  refine ot (I.ok.hd hc) D (sE I N6 hf) (sE I NW hf) (sE I Pq hf) hz N5 N8 h1 h2 h3 p1 p2 p3 ?_ λh' k=>⟨rfl,?_⟩
  ·rcases OW with q | q | q
   ·exact .inl (by simp;omega)
   ·exact .inr (.inl (by simp;omega))
   ·exact .inr (.inr (by simp;omega))
  ·exact I.yh (t':=s.toks) (ch:=[z,TO,i1,i2,i3,TI]) (λb u hb e=>by
    simp only[List.mem_cons,List.mem_nil_iff,or_false,not_or] at hb
    exact k b u hb.1 hb.2.1 hb.2.2.1 hb.2.2.2.1 hb.2.2.2.2.1 e) hf
 self:=λ_ _ _ _ _ st h=>by
  obtain⟨hz,_⟩:=st
  exact wpAny_pyIter_zip hz h
theorem EL(n:Nat):Z3 (n+5) (n+3) (n+4) n (n+1) (n+2):=by
 refine⟨?_,?_,?_,?_,?_,?_,?_,?_,?_,?_,?_,?_,?_,?_,?_⟩ <;> (show @Ne Nat _ _;omega)
section
variable{X:Cx}
def FY(K:PySem.W.Frag)(tl:TA):TI:=fun σ H R=>tl σ H λvs H1=>∃ b1 b2 b3 a1 a2 a3,vs=[.ref a1,.ref a2,.ref a3]/\(∃ xs,kG K H1 b1 a1 xs)/\(∃ ys,kG K H1 b2 a2 ys)/\(∃ zs,kG K H1 b3 a3 zs)/\R (Lw K b1 b2 b3 a1 a2 a3) H1
theorem uO{elts:List Expr}{x1:Nat}{tp:Pos}{l1 l2 l3:Expr}{tl:TA}{p pos:Pos}(hg:Gl X "zip")(hm:X.mg "zip" = none)(hl:PA X [l1,l2,l3] tl)(hs:autoParam (starEach [l1,l2,l3] X.env=[(false,eval l1 X.env),(false,eval l2 X.env),(false,eval l3 X.env)]) aR._auto_1)(OR:autoParam (starEach [l2,l3] X.env=[(false,eval l2 X.env),(false,eval l3 X.env)]) aR._auto_1) :
  PI X (.Tuple elts x1 tp) (.Call (.Name "zip" p) [l1,l2,l3] [] pos) (FY X.K tl):=by
 intro Nm s σ H R I h
 refine Call_ (jm I hg hm PyProof.Rows.boot_zip (PyProof.Rows.callWith_type1 (cL (hl pos Nm s σ H _ I h) λus s1 ⟨vs,H1,I1,r1,q1⟩=>?_) (by rw[hs,OR]) (by rw[OR];rfl)))
 obtain⟨b1,b2,b3,a1,a2,a3,e,⟨xs,N6⟩,⟨ys,NW⟩,⟨zs,Pq⟩,q⟩:=q1
 subst e
 cases r1 with
 | cons r rr =>
  cases rr with
  | cons r' rr =>
   cases rr with
   | cons Rr rr =>
    cases rr
    cases (show _=Value.ref a1 from r)
    cases (show _=Value.ref a2 from r')
    cases (show _=Value.ref a3 from Rr)
    obtain⟨Qb,Qs,p1,Rk⟩:=I1.row N6
    obtain⟨Ot,Qt,p2,Rl⟩:=I1.row NW
    obtain⟨Ro,rv3,p3,hz3⟩:=I1.row Pq
    refine zg p1 p2 p3 λh' g1 g2 g3 g4 g5 g6 g7=>?_
    have I2:Inv X Nm σ H1 { s1 with heap:=h' }:=I1.kept (t':=s1.toks) g7
    refine wpAny_pyIter_zip (s:={ s1 with heap:=h' }) g1 ?_
    refine⟨s1.heap.objs.size+5,[s1.heap.objs.size+5,s1.heap.objs.size+4,s1.heap.objs.size,s1.heap.objs.size+1,s1.heap.objs.size+2,s1.heap.objs.size+3],_,_,H1,rfl,I2,
     zV b1 b2 b3 a1 a2 a3 _ _ _ _ _ _ (EL s1.heap.objs.size),⟨g1,g2,⟨_,_,_,g3⟩,g4,g5,g6⟩,λb hb=>?_,q⟩
    have hle:s1.heap.objs.size<=b:=by
     simp only[List.mem_cons,List.mem_nil_iff,or_false] at hb
     rcases hb with q | q | q | q | q | q
     ·rw[q];exact Nat.le_add_right _ 5
     ·rw[q];exact Nat.le_add_right _ 4
     ·rw[q];exact Nat.le_refl _
     ·rw[q];exact Nat.le_add_right _ 1
     ·rw[q];exact Nat.le_add_right _ 2
     ·rw[q];exact Nat.le_add_right _ 3
    exact I1.uM hle (I1.bJ.fresh hle)
end
end L2
namespace L2
open PySem PySem.Spec PyProof.Rows
section
variable{M:Model}{A:Around}{E:Value->Shared->Prop}{s:Shared}
theorem sG{base:Heap}{env:Env}{outer:List Env}{L e:Addr}{oe:Obj}{vs:Array Value}{head:Value}{Qm:Bool}{Q:Unit->Shared->Prop}
  (P6:A.frames=some (env::outer)) (hl:s.heap.FunFrames base (env::outer)) (hf:env.frame=some L)
  (he:s.heap.get? e=some oe) (hd:oe.data=.fields vs) (Od:1<vs.size)
  (h:∀ h' T oT ts,h'.get? e=some (Obj.mapFields (·.setIfInBounds 1 (.ref T)) oe)->s.heap.objs.size<=T->T≠e->h'.get? T=some oT->oT.data=.fields ts->ts[3]?=some (rawInt L) ->
   (∀ b o,b≠e->b ∉ wL (env::outer)->s.heap.get? b=some o->h'.get? b=some o)->(∀ b o,b≠e->s.heap.get? b=some o->∃ sl,h'.get? b=some { o with slots:=sl })->Q () { s with heap:=h' }) :
  wpAny M A (do let a ← frameOf env;let pl ← entryPlaceOf L Qm;let b ← EntryCells.newEntry head a .none (rawInt L) .none pl;setField (.ref e) 1 b) Q E s:=by
 have hene:e ∉ (env::outer).filterMap (·.frame):=λhm=>by
  obtain⟨_,o,ho,Rb⟩:=hl.mem hm
  rw[he] at ho;injection ho with ho;subst ho;exact Rb vs hd
 refine wpAny_bind (wpAny_frameOf_fun P6 hl hf λh₁ hs1=>?_)
 refine wpAny_bind (wpAny_entryPlaceOf λpl NQ=>?_)
 unfold EntryCells.newEntry newFields
 refine wpAny_bind (wpAny_newObj_type ?_ (NQ.sizeOk5 _ _ _ _ _))
 have he1:h₁.get? e=some oe:=(hs1.2.1 e hene).trans he
 have he₂:=Heap.get?_push_of_some (h:=h₁) { cls:=.type "traceback", dict:=none,data:=.fields ([head,.ref L,.none,rawInt L,.none]++(if pl.isEmpty then List.replicate 6 Value.none else pl)).toArray } he1
 have hTe:h₁.objs.size≠e:=Nat.ne_of_gt (Heap.lt_size he1)
 have hd3:=Obj.data_mapFields hd (·.setIfInBounds 1 (Value.ref h₁.objs.size))
 have he3:=Heap.get?_update_self (Obj.mapFields (·.setIfInBounds 1 (Value.ref h₁.objs.size))) he₂ (Obj.isFreed_of_fields hd3)
 have hT₃:=(Heap.get?_update_other (h₁.push { cls:=.type "traceback", dict:=none,data:=.fields ([head,.ref L,.none,rawInt L,.none]++(if pl.isEmpty then List.replicate 6 Value.none else pl)).toArray })
  (Obj.mapFields (·.setIfInBounds 1 (Value.ref h₁.objs.size))) (Ne.symm hTe)).trans (Heap.get?_push_size h₁ rfl)
 have keep:∀ b o,b≠e->h₁.get? b=some o ->
   ((h₁.push { cls:=.type "traceback", dict:=none,data:=.fields ([head,.ref L,.none,rawInt L,.none]++(if pl.isEmpty then List.replicate 6 Value.none else pl)).toArray }).update e (Obj.mapFields (·.setIfInBounds 1 (Value.ref h₁.objs.size)))).get? b=some o:=λb o PJ hb=>by
  rw[Heap.get?_update_other _ _ (Ne.symm PJ)]
  exact Heap.get?_push_of_some _ hb
 refine wpAny_setField he₂ hd Od (h _ h₁.objs.size _ _ he3 ?_ hTe hT₃ rfl (by first | (simp;done) | (rcases NQ with rfl | ⟨_,_,_,_,_,_,_,rfl⟩ <;> simp)) ?_ ?_)
 ·exact Nat.le_of_eq hs1.1.symm
 ·intro b o PJ hbf hb
  exact keep b o PJ ((hs1.2.1 b hbf).trans hb)
 ·intro b o PJ hb
  obtain⟨sl,hs⟩:=hs1.2.2 b o hb
  exact⟨sl,keep b _ PJ hs⟩
def Lies(h:Heap)(e:Addr)(vs:Array Value)(to:Option Addr):Prop:=match to with
 | none=>vs[1]?=some .none
 | some T=>vs[1]?=some (.ref T)/\T≠e/\∃ oT ts,h.get? T=some oT/\oT.data=.fields ts/\ts[3]?=some .none
theorem zz{base:Heap}{env:Env}{outer:List Env}{L e:Addr}{oe:Obj}{vs:Array Value}{to:Option Addr}{Q:Unit->Shared->Prop}
  (P6:A.frames=some (env::outer)) (hl:s.heap.FunFrames base (env::outer)) (hf:env.frame=some L)
  (he:s.heap.get? e=some oe) (hd:oe.data=.fields vs) (hto:Lies s.heap e vs to)
  (h:∀ h' T oT ts,h'.get? e=some (Obj.mapFields (·.setIfInBounds 1 (.ref T)) oe)->s.heap.objs.size<=T->T≠e->h'.get? T=some oT->oT.data=.fields ts->ts[3]?=some (rawInt L) ->
   (∀ b o,b≠e->(∀ T,to=some T->b≠T)->b ∉ wL (env::outer)->s.heap.get? b=some o->h'.get? b=some o) ->
   (∀ b o,b≠e->(∀ T,to=some T->b≠T)->s.heap.get? b=some o->∃ sl,h'.get? b=some { o with slots:=sl })->(∀ b o,s.heap.get? b=some o->∃ o',h'.get? b=some o')->Q () { s with heap:=h' }) :
  wpAny M A (noteFrame (.ref e) env) Q E s:=by
 unfold noteFrame
 simp only[hf]
 cases to with
 | none =>
  have h1:vs[1]?=some .none:=hto
  refine wpAny_bind (wpAny_field he hd h1 ?_)
  rw[if_neg (by decide)]
  refine sG P6 hl hf he hd (Array.getElem?_eq_some_iff.mp h1).1 λh' T oT ts a1 a2 a3 a4 a5 a6 a7 a8=>?_
  refine h h' T oT ts a1 a2 a3 a4 a5 a6 (λb o n1 _ n2 q=>a7 b o n1 n2 q) (λb o n1 _ q=>a8 b o n1 q) λb o q=>?_
  by_cases z:b=e
  ·subst z;exact⟨_,a1⟩
  ·obtain⟨sl,r⟩:=a8 b o z q;exact⟨_,r⟩
 | some T0 =>
  obtain⟨h1,hTe,oT,ts,hT,hdT,h3⟩:=hto
  refine wpAny_bind (wpAny_field he hd h1 ?_)
  rw[if_pos (show (Value.ref T0 != Value.none)=true from by simp)]
  refine wpAny_bind (wpAny_field hT hdT h3 ?_)
  rw[if_neg (show ¬ ((Value.none==rawInt L)=true) from by simp[rawInt])]
  refine wpAny_bind (wpAny_setField hT hdT (Array.getElem?_eq_some_iff.mp h3).1 ?_)
  have other:∀ b,b≠T0->(s.heap.update T0 (Obj.mapFields (·.setIfInBounds 3 Value.none))).get? b=s.heap.get? b:=λb hb=>Heap.get?_update_other _ _ (Ne.symm hb)
  have Qg:∀ b o,s.heap.get? b=some o->(∀ vs,o.data≠.fields vs)->b≠T0:=λb o hb Rb q=>by
   rw[q,hT] at hb;injection hb with hb;subst hb;exact Rb ts hdT
  have Ql:=Heap.get?_update_self (Obj.mapFields (·.setIfInBounds 3 Value.none)) hT (Obj.isFreed_of_fields (Obj.data_mapFields hdT _))
  refine sG P6 (hl.of_keeps λb o hb Rb=>⟨o,(other b (Qg b o hb Rb)).trans hb,rfl⟩) hf ((other e (Ne.symm hTe)).trans he) hd (Array.getElem?_eq_some_iff.mp h1).1 λh' T oT' ts' a1 a2 a3 a4 a5 a6 a7 a8=>?_
  refine h h' T oT' ts' a1 (by simpa [Heap.update] using a2) a3 a4 a5 a6 (λb o n1 n2 n3 q=>a7 b o n1 n3 ((other b (n2 T0 rfl)).trans q)) (λb o n1 n2 q=>a8 b o n1 ((other b (n2 T0 rfl)).trans q)) λb o q=>?_
  by_cases z:b=e
  ·subst z;exact⟨_,a1⟩
  ·by_cases z2:b=T0
   ·subst z2
    obtain⟨sl,r⟩:=a8 b _ z Ql;exact⟨_,r⟩
   ·obtain⟨sl,r⟩:=a8 b o z ((other b z2).trans q);exact⟨_,r⟩
end
end L2
namespace L2
open PySem PySem.Spec PyProof.Rows
def k9(C:Addr)(dd:Option Addr)(e:Addr):HO:=.ext λh=>∃ t,h.get? e=some ⟨.ref C,dd,.fields #[.ref t,.none,.none,.none,.bool false,.none],#[]⟩
def Jp(C:Addr)(dd:Option Addr)(e T:Addr):HO:=.ext λh=>∃ vs,h.get? e=some ⟨.ref C,dd,.fields vs,#[]⟩/\vs[1]?=some (.ref T)
def MM(fl:Value)(T:Addr):HO:=.ext λh=>∃ oT ts,h.get? T=some oT/\oT.data=.fields ts/\ts[3]?=some fl
def pJ(Hc:Hp)(e T C:Addr)(dd:Option Addr)(fl:Value):Hp:=upd (upd Hc T (MM fl T)) e (Jp C dd e T)
theorem wI{Hc:Hp}{e T C:Addr}{dd:Option Addr}{fl:Value}:pJ Hc e T C dd fl e=some (Jp C dd e T):=aE
theorem sq{Hc:Hp}{e T C:Addr}{dd:Option Addr}{fl:Value}(n:T≠e):pJ Hc e T C dd fl T=some (MM fl T):=by unfold pJ;rw[aw n,aE]
theorem mW{Hc:Hp}{e T C b:Addr}{dd:Option Addr}{fl:Value}(n:b≠e)(n2:b≠T):pJ Hc e T C dd fl b=Hc b:=by unfold pJ;rw[aw n,aw n2]
section
variable{X:Cx}{Nm:List (Addr×Obj)}{σ:St}{H:Hp}{s:Shared}
theorem Inv.note{Hc:Hp}{e C:Addr}{dd:Option Addr}{to:Option Addr}{vs:Array Value}{φ:Heap->Prop}{Q:Unit->Shared->Prop}{E:Value->Shared->Prop}(I:Inv X Nm σ H s)(NU:X.stack=X.env::X.outer)(hf:X.env.frame=some X.env.locals)
  (he:H e=some (.ext φ)) (hx:s.heap.get? e=some ⟨.ref C,dd,.fields vs,#[]⟩) (lies:Lies s.heap e vs to) (hT:∀ T,to=some T->(∃ ψ,H T=some (.ext ψ))/\Hc T=none) (hc:∀ b,b≠e->(∀ T,to=some T->b≠T)->Hc b=H b)
  (h:∀ h' T,Hc T=none->T≠e->Inv X Nm σ (pJ Hc e T C dd (rawInt X.env.locals)) { s with heap:=h' }->Q () { s with heap:=h' }) :
  wpAny (model X.prog X.w) X.A (noteFrame (.ref e) X.env) Q E s:=by
 have hl:=I.stack
 have P6:=I.ok.frames
 have sf:=I.sY
 rw[NU] at hl P6 sf
 refine zz (base:=X.base) P6 hl hf hx rfl lies λh' T oT ts a1 a2 a3 a4 a5 a6 a7 a8 a9=>?_
 have hTn:H T=none:=I.bJ.fresh a2
 have nT:∀ b u,H b=some u->b≠T:=λb u q z=>by rw[z,hTn] at q;cases q
 have PY:∀ b u,H b=some u->(∀ ψ,u≠.ext ψ)->b≠e/\∀ T0,to=some T0->b≠T0:=by
  intro b u q hu
  refine⟨λz=>?_,λT0 z w=>?_⟩
  ·rw[z,he] at q;exact hu _ (Option.some.inj q).symm
  ·obtain⟨⟨ψ,q2⟩,_⟩:=hT T0 z
   rw[w,q2] at q;exact hu _ (Option.some.inj q).symm
 have old:∀ b u,H b=some u->(∀ ψ,u≠.ext ψ)->pJ Hc e T C dd (rawInt X.env.locals) b=some u:=λb u q hu=>by
  obtain⟨n1,n2⟩:=PY b u q hu
  rw[mW n1 (nT b u q),hc b n1 n2];exact q
 have hcT:Hc T=none:=by
  by_cases z:∃ T0,to=some T0/\T=T0
  ·obtain⟨T0,z1,z2⟩:=z;rw[z2];exact(hT T0 z1).2
  ·rw[hc T a3 λT0 z1 z2=>z ⟨T0,z1,z2⟩];exact hTn
 have un:∀ b o,s.heap.get? b=some o->H b=none->b≠e/\(∀ T0,to=some T0->b≠T0)/\b≠T:=by
  intro b o q n
  refine⟨λz=>?_,λT0 z w=>?_,Nat.ne_of_lt (Nat.lt_of_lt_of_le (Heap.lt_size q) a2)⟩
  ·rw[z,he] at n;cases n
  ·obtain⟨⟨ψ,q2⟩,_⟩:=hT T0 z
   rw[w,q2] at n;cases n
 refine h h' T hcT a3 ?_
 have U:Un (wL X.stack) [] H (pJ Hc e T C dd (rawInt X.env.locals)) s.heap h':=by
  rw[NU]
  refine⟨λb o q n nf _=>?_,λb o q n _ _=>?_,λb o q n _=>?_,λb o q _=>a9 b o q,λb xs q=>old b _ q (λ_ z=>nomatch z),λb ob u q=>old b _ q (λ_ z=>nomatch z),λb ps q=>⟨#[],?_⟩⟩
  ·obtain⟨n1,n2,_⟩:=un b o q n;exact a7 b o n1 n2 nf q
  ·obtain⟨n1,n2,_⟩:=un b o q n;exact a8 b o n1 n2 q
  ·obtain⟨n1,n2,n3⟩:=un b o q n
   rw[mW n1 n3,hc b n1 n2];exact n
  ·rw[old b _ q (λ_ z=>nomatch z)];simp
 have ok:nP X.prog X.w (pJ Hc e T C dd (rawInt X.env.locals)) h':=λb u q=>by
  by_cases z:b=e
  ·subst z
   rw[wI] at q;cases q
   refine⟨⟨_,a1,?_⟩,⟨_,a1⟩,λh1 h2 ⟨ws,q1,q2⟩ k=>⟨ws,k _ q1,q2⟩⟩
   have Od:1<vs.size:=by
    cases to with
    | none=>exact(Array.getElem?_eq_some_iff.mp (show vs[1]?=some .none from lies)).1
    | some T0=>exact(Array.getElem?_eq_some_iff.mp lies.1).1
   simp[Od]
  ·by_cases z2:b=T
   ·subst z2
    rw[sq a3] at q;cases q
    exact⟨⟨oT,ts,a4,a5,a6⟩,⟨_,a4⟩,λh1 h2 ⟨o1,t1,q1,q2,q3⟩ k=>⟨o1,t1,k _ q1,q2,q3⟩⟩
   ·rw[mW z z2] at q
    have z3:∀ T0,to=some T0->b≠T0:=λT0 w w2=>by rw[w2,(hT T0 w).2] at q;cases q
    rw[hc b z z3] at q
    have nf:∀ c u',H c=some u'->c ∉ wL (X.env::X.outer):=λc u' q' hm=>by have:=sf c hm;rw[q'] at this;cases this
    refine(I.bJ b u q).oK (λc v PK q'=>?_) (λc q'=>old c _ q' (λ_ z=>nomatch z)) λc xs q'=>old c _ q' (λ_ z=>nomatch z)
    rcases PK with rfl | PK
    ·exact a7 c v z z3 (nf c u q) q'
    ·obtain⟨n1,n2⟩:=PY c _ PK (λ_ z=>nomatch z)
     exact a7 c v n1 n2 (nf c _ PK) q'
 exact I.call (ch:=[]) U ok I.bare (λb z=>absurd z (by simp))
theorem Inv.HG{Hc:Hp}{e T C:Addr}{dd:Option Addr}{fl:Value}(I:Inv X Nm σ (pJ Hc e T C dd fl) s)(n:T≠e):∃ vs oT ts,s.heap.get? e=some ⟨.ref C,dd,.fields vs,#[]⟩/\vs[1]?=some (.ref T)/\s.heap.get? T=some oT/\oT.data=.fields ts/\ts[3]?=some fl:=by
 obtain⟨vs,h1,h2⟩:=(I.bJ e _ wI).1
 obtain⟨oT,ts,q⟩:=(I.bJ T _ (sq n)).1
 exact⟨vs,oT,ts,h1,h2,q⟩
theorem Inv.JP{Hc:Hp}{e T C:Addr}{dd:Option Addr}{fl:Value}{Q:Unit->Shared->Prop}{E:Value->Shared->Prop}(I:Inv X Nm σ (pJ Hc e T C dd fl) s)(hfl:fl=.none\/fl=rawInt X.env.locals)(n:T≠e)(hcT:Hc T=none)(NU:X.stack=X.env::X.outer)(hf:X.env.frame=some X.env.locals)
  (h:∀ h' T,Hc T=none->T≠e->Inv X Nm σ (pJ Hc e T C dd (rawInt X.env.locals)) { s with heap:=h' }->Q () { s with heap:=h' }) :
  wpAny (model X.prog X.w) X.A (noteFrame (.ref e) X.env) Q E s:=by
 obtain⟨vs,oT,ts,hx,h1,hT,hd,h3⟩:=I.HG n
 rcases hfl with rfl | rfl
 ·refine I.note (Hc:=Hc) (to:=some T) NU hf wI hx ⟨h1,n,oT,ts,hT,hd,h3⟩ (λT0 z=>?_) (λb n1 n2=>(mW n1 (n2 T rfl)).symm) h
  cases z
  exact⟨⟨_,sq n⟩,hcT⟩
 ·unfold noteFrame
  simp only[hf]
  refine wpAny_bind (wpAny_field hx rfl h1 ?_)
  rw[if_pos (show (Value.ref T != Value.none)=true from by simp)]
  refine wpAny_bind (wpAny_field hT hd h3 ?_)
  rw[if_pos (show (rawInt X.env.locals==rawInt X.env.locals)=true from by simp)]
  exact wpAny_pure (h s.heap T hcT n I)
theorem Inv.Ke{e C:Addr}{dd:Option Addr}{Q:Unit->Shared->Prop}{E:Value->Shared->Prop}(I:Inv X Nm σ H s)(he:H e=some (k9 C dd e))(NU:X.stack=X.env::X.outer)(hf:X.env.frame=some X.env.locals)
  (h:∀ h' T,upd H e (jf C dd e) T=none->T≠e->Inv X Nm σ (pJ (upd H e (jf C dd e)) e T C dd (rawInt X.env.locals)) { s with heap:=h' }->Q () { s with heap:=h' }) :
  wpAny (model X.prog X.w) X.A (noteFrame (.ref e) X.env) Q E s:=by
 obtain⟨t,hx⟩:=(I.bJ e _ he).1
 exact I.note (Hc:=upd H e (jf C dd e)) (to:=none) NU hf he hx rfl (λ_ z=>by cases z) (λb n1 _=>aw n1) h
theorem Inv.BC{Hc:Hp}{e T C:Addr}{dd:Option Addr}{fl:Value}{fr:Option Addr}{Q:Unit->Shared->Prop}{E:Value->Shared->Prop}(I:Inv X Nm σ (pJ Hc e T C dd fl) s)(n:T≠e)
  (h:∀ h',Inv X Nm σ (pJ Hc e T C dd (fr.elim .none λf=>rawInt f)) { s with heap:=h' }->Q () { s with heap:=h' }) :
  wpAny (model X.prog X.w) X.A (setFlight (.ref e) fr) Q E s:=by
 obtain⟨vs,oT,ts,hx,h1,hT,hd,h3⟩:=I.HG n
 unfold setFlight
 refine wpAny_bind (wpAny_field hx rfl h1 ?_)
 rw[if_pos (show (Value.ref T != Value.none)=true from by simp)]
 have Od:3<ts.size:=(Array.getElem?_eq_some_iff.mp h3).1
 refine wpAny_setField hT hd Od (h _ ?_)
 have other:∀ b,b≠T->(s.heap.update T (Obj.mapFields (·.setIfInBounds 3 (fr.elim Value.none λf=>rawInt f)))).get? b=s.heap.get? b:=λb hb=>Heap.get?_update_other _ _ (Ne.symm hb)
 have Ql:=Heap.get?_update_self (Obj.mapFields (·.setIfInBounds 3 (fr.elim Value.none λf=>rawInt f))) hT (Obj.isFreed_of_fields (Obj.data_mapFields hd _))
 have nT:∀ b,pJ Hc e T C dd fl b=none->b≠T:=λb q z=>by rw[z,sq n] at q;cases q
 have same:∀ b,b≠T->pJ Hc e T C dd (fr.elim .none λf=>rawInt f) b=pJ Hc e T C dd fl b:=λb z=>by
  by_cases w:b=e
  ·subst w;rw[wI,wI]
  ·rw[mW w z,mW w z]
 have ne:∀ b u,pJ Hc e T C dd fl b=some u->(∀ ψ,u≠.ext ψ)->b≠T:=λb u q hu z=>by rw[z,sq n] at q;exact hu _ (Option.some.inj q).symm
 refine I.un (t':=s.toks) ⟨λb o q z _ _=>(other b (nT b z)).trans q,λb o q z _ _=>⟨o.slots,(other b (nT b z)).trans q⟩,λb o q z _=>by rw[same b (nT b z)];exact z,λb o q _=>?_,λb xs q=>?_,λb ob u q=>?_,λb ps q=>⟨#[],?_⟩⟩ λb u q=>?_
 ·by_cases z:b=T
  ·subst z;exact⟨_,Ql⟩
  ·exact⟨o,(other b z).trans q⟩
 ·rw[same b (ne b _ q λ_ z=>nomatch z)];exact q
 ·rw[same b (ne b _ q λ_ z=>nomatch z)];exact q
 ·rw[same b (ne b _ q λ_ z=>nomatch z),q];simp
 ·by_cases z:b=T
  ·subst z
   rw[sq n] at q;cases q
   refine⟨⟨_,_,Ql,Obj.data_mapFields hd _,?_⟩,⟨_,Ql⟩,λh1 h2 ⟨o1,t1,q1,q2,q3⟩ k=>⟨o1,t1,k _ q1,q2,q3⟩⟩
   simp[Od]
  ·rw[same b z] at q
   refine(I.bJ b u q).oK (λc v hc q'=>(other c ?_).trans q') (λc q'=>?_) λc xs q'=>?_
   ·rcases hc with rfl | hc
    ·exact z
    ·exact ne c _ hc λ_ z=>nomatch z
   ·rw[same c (ne c _ q' λ_ z=>nomatch z)];exact q'
   ·rw[same c (ne c _ q' λ_ z=>nomatch z)];exact q'
end
def bG(P:Program)(w:World):Fl:=λouter H s E e s'=>∃ (ea T C:Addr) (dd:Option Addr) (Hc:Hp),e=.ref ea/\s'.os=s.os/\AllBare s'.gens/\Un (wL outer) [] H (pJ Hc ea T C dd .none) s.heap s'.heap/\nP P w (pJ Hc ea T C dd .none) s'.heap ∧
 Hc ea=some (jf C dd ea)/\Hc T=none/\T≠ea/\E (.ref ea) none Hc
def Zx (X : Cx) (E : St -> XK) (e : Value) (s : Shared) : Prop := ∃ (ea C : Addr) (dd : Option Addr) (Nm : List (Addr × Obj)) (σ : St), e = .ref ea ∧
  ((∃ H, Inv X Nm σ H s /\ H ea = some (k9 C dd ea) /\ E σ (.ref ea) none (upd H ea (jf C dd ea))) ∨
   (∃ Hc T fl, Inv X Nm σ (pJ Hc ea T C dd fl) s /\ (fl = .none \/ fl = rawInt X.env.locals) /\ Hc ea = some (jf C dd ea) /\ Hc T = none /\ T ≠ ea /\ E σ (.ref ea) none Hc))
theorem Zx.note{X:Cx}{E:St->XK}{e:Value}{s:Shared}{Q:Unit->Shared->Prop}{F:Value->Shared->Prop}(z:Zx X E e s)(NU:X.stack=X.env::X.outer)(hf:X.env.frame=some X.env.locals)
  (h:∀ s' ea C dd Nm σ Hc T,e=.ref ea->Inv X Nm σ (pJ Hc ea T C dd (rawInt X.env.locals)) s'->Hc ea=some (jf C dd ea)->Hc T=none->T≠ea->E σ (.ref ea) none Hc->Q () s') :
  wpAny (model X.prog X.w) X.A (noteFrame e X.env) Q F s:=by
 obtain⟨ea,C,dd,Nm,σ,rfl,⟨H,I,h1,h2⟩ | ⟨Hc,T,fl,I,h1,h2,h3,h4,h5⟩⟩:=z
 ·exact I.Ke h1 NU hf λh' T q1 q2 I2=>h _ ea C dd Nm σ _ T rfl I2 aE q1 q2 h2
 ·exact I.JP h1 h4 h3 NU hf λh' T q1 q2 I2=>h _ ea C dd Nm σ _ T rfl I2 h2 q1 q2 h5
theorem Zx.Hm{X:Cx}{E:XK}{e:Value}{s:Shared}{F:Value->Shared->Prop}(z:Zx X (λ_=>E) e s)(NU:X.stack=X.env::X.outer)(hf:X.env.frame=some X.env.locals)(hex:X.ex=[]) :
  wpAny (model X.prog X.w) X.A (leaving X.env e) (λ_ s'=>bG X.prog X.w X.outer X.H₀ X.s₀ E e s') F s:=by
 unfold leaving
 refine wpAny_bind (z.note NU hf λs' ea C dd Nm σ Hc T he I h1 h2 h3 h4=>?_)
 subst he
 refine I.BC h3 λh' I2=>⟨ea,T,C,dd,Hc,rfl,I2.os,I2.bare,?_,I2.bJ,h1,h2,h3,h4⟩
 have:=I2.base
 rw[hex] at this
 exact this
theorem Zx.own{X:Cx}{E:St->XK}(NU:X.stack=X.env::X.outer)(hf:X.env.frame=some X.env.locals):PassesOwn (model X.prog X.w) X.A X.env (Zx X E):=by
 intro e s z
 refine z.note NU hf λs' ea C dd Nm σ Hc T he I h1 h2 h3 h4=>?_
 subst he
 obtain⟨vs,oT,ts,hx,q1,_⟩:=I.HG h3
 show wpAny _ _ _ _ _ _
 refine wpAny_bind (wpAny_field hx rfl q1 ?_)
 rw[if_neg (show ¬ ((Value.ref T==Value.none)=true) from by simp)]
 rw[hf]
 refine I.BC h3 λh' I2=>⟨ea,C,dd,Nm,σ,rfl,.inr ⟨Hc,T,_,I2,.inr rfl,h1,h2,h3,h4⟩⟩
structure fg (X:Cx) (E:St->XK):Prop where
 pass:∀ (Nm:List (Addr×Obj)) (σ:St) (H:Hp) (s:Shared) (e:Value) (s':Shared),Inv X Nm σ H s->bG X.prog X.w X.stack H s (E σ) e s'->X.xe e s'
 new:∀ (Nm:List (Addr×Obj)) (σ:St) (H:Hp) (s:Shared) (e C:Addr) (dd:Option Addr),Inv X Nm σ H s->H e=some (k9 C dd e)->E σ (.ref e) none (upd H e (jf C dd e))->X.xe (.ref e) s
 own:PassesOwn (model X.prog X.w) X.A X.env X.xe
abbrev Cx.out(X:Cx)(E:St->XK):Cx:=X.rE (Zx X E)
theorem F1{X:Cx}{E:St->XK}(NU:X.stack=X.env::X.outer)(hf:X.env.frame=some X.env.locals):fg (X.out E) E where
 pass:=by
  intro Nm σ H s e s' I h
  obtain⟨ea,T,C,dd,Hc,rfl,os,bare,un,bJ,h1,h2,h3,hE⟩:=h
  have I':=I.iH.Bx (ch:=[]) os un bJ bare (λb z=>absurd z (by simp))
  exact⟨ea,C,dd,Nm,σ,rfl,.inr ⟨Hc,T,.none,I',.inl rfl,h1,h2,h3,hE⟩⟩
 new:=λNm σ H s e C dd I he hE=>⟨e,C,dd,Nm,σ,rfl,.inl ⟨H,I.iH,he,hE⟩⟩
 own:=Zx.own NU hf
theorem xJ{P:Program}{w:World}{K:PySem.W.Frag}{mg:Str->Option Value}{base:Heap}{k:Nat}{f:Addr}{name qual:Str}{params:Arguments}{body:List Stmt}{scope:Scope}{dV kV doc pm NM ct oc:Value}{an od:Option Addr}
  {PF:Array (Option Value)} {N ps:List Str} {sp:Sp} (lk:K.lookup f=some ⟨oc,od,.func (PySem.W.fnOf name qual params body scope dV kV doc pm an NM ct),PF⟩) (OH:PySem.W.codeIn K NM qual=true) (S:cA N ps scope)
  (len:∀ vs H Q E,sp vs H Q E->vs.length=ps.length)
  (PZ:∀ (A:Around) (outer:List Env) (s:Shared) (H:Hp) (vs:List V) (Q:VK) (E:XK),cJ k (A.deeper (envOfC qual scope s.heap.objs.size f NM))->sp vs H Q E ->
   ∃ t,mL ((lY (bG P w) P w K mg base N qual scope f NM A outer s H E).out λ_=>E) body t/\t { nx:=λ_ H'=>Q .cR H',rt:=Q } (start N vs) H) :
  aO P w K mg base (bG P w) (k+1) f (PySem.W.fnOf name qual params body scope dV kV doc pm an NM ct) ps sp:=by
 refine Ki lk OH S len λA outer s H vs Q E hr hs=>?_
 obtain⟨t,h1,h2⟩:=PZ A outer s H vs Q E hr hs
 refine⟨t,λNm s1 σ H1 D I q=>?_,h2⟩
 refine wpAny_mono (h1 Nm s1 σ H1 D (I.rE _) q) (λf s' z=>z.iH) λe s' z=>?_
 exact z.Hm rfl rfl rfl
end L2
namespace L2
open PySem PySem.Spec PyProof.Rows
open PySem.Builtin.ObjectAttr (storeInOwnDict storeTaker? setByDescriptor)
theorem ux{P:Program}{w:World}{H:Hp}{h:Heap}{C e t:Addr}{dd:Option Addr}(he:h.get? e=some ⟨.ref C,dd,.fields #[.ref t,.none,.none,.none,.bool false,.none],#[]⟩):cC P w H h e (k9 C dd e) :=
 ⟨⟨t,he⟩,⟨_,he⟩,λ_ _ ⟨t,q⟩ k=>⟨t,k _ q⟩⟩
section
variable{X:Cx}{C f:Addr}{fd:FuncData}{ps:List Str}{sp:Sp}{x:Str}{p pos:Pos}{e:Expr}{es:List Expr}{t:TA}{k:Nat}
def Jm(C:Addr)(t:TA):TE:=fun σ H Q=>t σ H λvs H1=>vs.length<=sizeLine/\∀ a,H1 a=none->Q (.ref a) (upd H1 a (k9 C none a))
theorem Er(hc:PySem.W.excIn X.K C fq "ValueError.__new__" = true)(kp:PySem.W.keepIn X.K (.ref C)=true)(hg:Gl X x)(hm:X.mg x=some (.ref C))
  (ha:PA X (e::es) t) (Oo:autoParam ((x==("__debug__" : Str))=false) aD._auto_1) (he:autoParam (starEach (e::es) X.env=(false,eval e X.env)::starEach es X.env) aR._auto_1) (NQ:autoParam ((backTo pos (starEach es X.env)).any (·.1)=false) aR._auto_1) :
  PE X (.Call (.Name x p) (e::es) [] pos) (Jm C t):=by
 intro Nm s σ H Q I h
 refine wpAny_Call_Name_kw (l8 I hg hm ?_ Oo)
 refine PySem.W.callWith_K (h₀:=X.base) I.ok.mod.FN kp (cL (ha pos Nm s σ H _ I h) λus s1 ⟨vs,H1,I1,r,hl,q⟩=>⟨I1.j4,?_⟩) he NQ
 obtain⟨bm,N,nm,qn,bs,Po,sn,sub,ab,col,dd,k0,k1,k2,k3,k5,mN,hC,hN,PL,T⟩:=E5 I1.j4 hc
 obtain⟨hp,g,d,tk,os⟩:=s1
 refine wpAny_call_exc_subT PySem.F.excBase_ValueError T hC hN PL (λh' a M=>?_) (by show us.length<=sizeLine;rw[← r.length];exact hl)
 obtain⟨t',e1,_,_⟩:=M.there
 have I2:Inv X Nm σ (upd H1 a (k9 C none a)) ⟨h',g,d,tk,os⟩:=I1.FI (t':=tk) M.keeps M.new (ux e1)
 have hn:H1 a=none:=I1.tX M.new
 exact⟨.ref a,_,I2,rfl,q a hn⟩
def Ge(C:Addr)(sp:Sp)(t:TA):TE:=fun σ H Q=>t σ H λvs H1=>vs.length<=sizeLine/\∀ a,H1 a=none->sp (.ref a::vs) (upd H1 a (k9 C none a)) (λv H2=>v=.cR/\Q (.ref a) H2) E0
theorem BX(hc:pU X.K C "ValueError.__new__" f=true)(hf:PySem.W.isFn X.K (.ref f)=true)(kp:PySem.W.keepIn X.K (.ref C)=true)(F:aO X.prog X.w X.K X.mg X.base (bG X.prog X.w) k f fd ps sp)(hr:cJ (k+1) X.A)(hb:Binds X.K fd ps [])(hg:Gl X x)(hm:X.mg x=some (.ref C))
  (ha:PA X (e::es) t) (Oo:autoParam ((x==("__debug__" : Str))=false) aD._auto_1) (he:autoParam (starEach (e::es) X.env=(false,eval e X.env)::starEach es X.env) aR._auto_1) (NQ:autoParam ((backTo pos (starEach es X.env)).any (·.1)=false) aR._auto_1) :
  PE X (.Call (.Name x p) (e::es) [] pos) (Ge C sp t):=by
 intro Nm s σ H Q I h
 refine wpAny_Call_Name_kw (l8 I hg hm ?_ Oo)
 refine PySem.W.callWith_K (h₀:=X.base) I.ok.mod.FN kp (cL (ha pos Nm s σ H _ I h) λus s1 ⟨vs,H1,I1,r,hl,q⟩=>⟨I1.j4,?_⟩) he NQ
 have X1:=I1.j4
 obtain⟨bm,N,nm,qn,bs,Po,sn,sub,ab,col,dd,k0,k1,k2,k3,k5,mN,hC,hN,PL,T⟩:=B0 X1 hc
 obtain⟨hp,g,d,tk,os⟩:=s1
 have f1:=tc_lookup
 have f2:=tc_bind (.ref C)
 have hT:(⟨hp,g,d,tk,os⟩:Shared).TypeIs (.ref C) "type" := ⟨_,hC,rfl⟩
 refine wpAny_call (codeAny_of_tree ?_)
 show wpAny _ _ (callAny (.ref C) _) _ _ _
 repeat (any_goals (first | assumption | with_reducible refine wpAny_loadPart_at hC ?_ | wp_step))
 refine⟨rfl,?_⟩
 refine codeAny_call_builtin_at (Code.quiet_builtin _ (by decide +kernel)) entry_typeCall (wpAny_check_type_call_sub hC (pS PySem.F.excBase_ValueError T hC hN PL
  (λh' kk self=>PySem.W.bind_fn (λb o z=>kk b o (X1 b o z)) self (beq_iff_eq.mp hf)) (λh' kk ht hx hz=>?_) (by show us.length<=sizeLine;rw[← r.length];exact hl)))
 have I2:Inv X Nm σ (upd H1 (hp.objs.size+1) (k9 C none (hp.objs.size+1))) ⟨h',g,d,tk,os⟩:=I1.FI (t':=tk) kk (Heap.get?_none_of_le (Nat.le_succ _)) (ux hx)
 have hq:=q (hp.objs.size+1) (I1.tX (Heap.get?_none_of_le (Nat.le_succ _)))
 have r2:Vals (V.ref (hp.objs.size+1)::vs) (Value.ref (hp.objs.size+1)::us):=.cons rfl r
 have hlen:(Value.ref (hp.objs.size+1)::us++[]).length=ps.length:=by
  rw[List.append_nil,← r2.length]
  exact F.len _ _ _ _ hq
 refine wpAny_call (codeAny_mono (F.run _ X.stack _ _ ⟨Value.ref (hp.objs.size+1)::us,[]⟩ (Value.ref (hp.objs.size+1)::us) _ _ E0 (hr.make C us []) (I2.lJ.make C us []) (by have:=hb _ (Value.ref (hp.objs.size+1)::us) I2.j4 hlen;rwa [List.append_nil] at this) r2 hq) λr s' PM=>?_)
 cases r with
 | error e =>
  obtain⟨_,_,_,_,_,_,_,_,_,_,_,_,_,z⟩:=PM
  exact z.elim
 | ok fl =>
  cases fl with
  | ret u =>
   obtain⟨v,H',I3,rv,ev,q3⟩:=I2.after PM
   subst ev
   exact⟨rv,⟨V.ref (hp.objs.size+1),H',I3,rfl,q3⟩⟩
  | next=>exact False.elim PM
  | brk=>exact False.elim PM
  | cont=>exact False.elim PM
def Ih(K:PySem.W.Frag)(ta tv:TE)(f:Str):TS:=λD σ H=>tv σ H λy H1=>ta σ H1 λx H2=>∃ a C,x=.ref a/\H2 a=some (k9 C none a)/\gK K C/\((PySem.W.clsIn K C).any λcd=>gB cd.mro)=true/\bH K C f ∧
 ∀ d,H2 d=none->d≠a->D.nx σ (upd (upd H2 d (.xd [(f,y)])) a (k9 C (some d) a))
theorem AV{o value:Expr}{ta tv:TE}{n:Str}{pos':Pos}(ha:PE X o ta)(hv:PE X value tv)(hs:swapsWith value (some (.Attribute o n pos')) pos.line X.env=pure false):PS X (.Assign [.Attribute o n pos'] value pos) (Ih X.K ta tv n):=by
 intro Nm s σ H D I h
 refine plainObj_wpAny_Assign_Attribute (cL (hv Nm s σ H _ I h) λu s1 ⟨y,H1,I1,ry,q⟩=>cL (ha Nm s1 σ H1 _ I1 q) λov s2 ⟨x,H2,I2,rx,a,C,ex,ea,c,po,na,q2⟩=>?_) hs
 subst ex
 obtain rfl:ov=Value.ref a:=rx
 obtain⟨tt,hx⟩:=(I2.bJ a _ ea).1
 refine Df po c I2.j4 hx na.Fn λh' tk d e1 e2 e3 e4=>?_
 have hd:H2 d=none:=I2.tX e2
 have nda:d≠a:=λz=>by rw[z,ea] at hd;cases hd
 refine⟨σ,_,?_,q2 d hd nda⟩
 have up:∀ b,b≠a->b≠d->upd (upd H2 d (.xd [(n,y)])) a (k9 C (some d) a) b=H2 b:=λb h1 h2=>by rw[aw h1,aw h2]
 have nd:∀ b u,s2.heap.get? b=some u->b≠d:=λb u e z=>by rw[z,e2] at e;cases e
 have nH:∀ b u,H2 b=some u->b≠d:=λb u e z=>by rw[z,hd] at e;cases e
 have nE:∀ b u,H2 b=some u->(∀ C dd,u≠k9 C dd a)->b≠a:=λb u e hu z=>by
  rw[z,ea] at e
  exact hu C none (Option.some.inj e).symm
 refine I2.un (t':=tk) ⟨λb u e z _ _=>e4 b u (λw=>by rw[w,ea] at z;cases z) e,λb u e z _ _=>⟨u.slots,e4 b u (λw=>by rw[w,ea] at z;cases z) e⟩,λb u e z _=>?_,λb u e _=>?_,λb xs e=>?_,λb ob u e=>?_,λb ps e=>?_⟩ λb u e=>?_
 ·rw[up b (λw=>by rw[w,ea] at z;cases z) (nd b u e)];exact z
 ·by_cases w:b=a
  ·rw[w];exact⟨_,e1⟩
  ·exact⟨u,e4 b u w e⟩
 ·rw[up b (nE b _ e λ_ _ z=>by cases z) (nH b _ e)];exact e
 ·rw[up b (nE b _ e λ_ _ z=>by cases z) (nH b _ e)];exact e
 ·exact⟨#[],by rw[up b (nE b _ e λ_ _ z=>by cases z) (nH b _ e),e];simp⟩
 ·by_cases w:b=a
  ·subst w
   rw[aE] at e
   cases e
   exact ux e1
  ·rw[aw w] at e
   by_cases w2:b=d
   ·subst w2
    rw[aE] at e
    cases e
    refine⟨_,e3,λg=>?_⟩
    show nh (List.lookup g [(n,y)]) (if g=n then some _ else none)
    rw[List.lookup_cons]
    by_cases z:g=n
    ·rw[if_pos z,show (g==n)=true from by simp[z]];exact ry
    ·rw[if_neg z,show (g==n)=false from by simp[z]];exact True.intro
   ·rw[aw w2] at e
    refine(I2.bJ b u e).oK (λc v hc z=>e4 c v ?_ z) (λc z=>?_) λc ys z=>?_
    ·rcases hc with z' | z'
     ·rw[z'];exact w
     ·exact nE c _ z' λ_ _ z=>by cases z
    ·rw[up c (nE c _ z λ_ _ z=>by cases z) (nH c _ z)];exact z
    ·rw[up c (nE c _ z λ_ _ z=>by cases z) (nH c _ z)];exact z
end
end L2
namespace L2
open PySem PySem.Spec PyProof.Rows
section
variable{M:Model}{A:Around}{E:Value->Shared->Prop}{s:Shared}
theorem F2{e:Addr}{o:Obj}{Q:Value->Shared->Prop}(hx:s.heap.get? e=some o)(h:Q o.cls s):wpAny M A (typeOf (.ref e)) Q E s:=by
 unfold typeOf
 exact wpAny_bind (wpAny_loadPart hx (wpAny_pure h))
theorem yr{e:Addr}{o:Obj}{vs:Array Value}{Q:Bool->Shared->Prop}(hx:s.heap.get? e=some o)(hd:o.data=.fields vs)(h:Q false s):wpAny M A (isType (.ref e)) Q E s:=by
 unfold isType loadHead
 refine wpAny_bind (wpAny_loadPart hx (wpAny_pure ?_))
 rw[hd];exact h
end
section
variable{X:Cx}{Nm:List (Addr×Obj)}{σ:St}{H:Hp}{s:Shared}
def Gb(K:PySem.W.Frag)(E:St->XK)(te:TE):TS:=λD σ H=>te σ H λv H1=>∃ e C dd,v=.ref e/\H1 e=some (k9 C dd e)/\gK K C/\PySem.W.typeIn K (.ref C)=some (.type "type")/\E σ (.ref e) none (upd H1 e (jf C dd e))
theorem wg{exc:Expr}{te:TE}{pos:Pos}{E:St->XK}(O:fg X E)(NB:X.calm=true)(he:PE X exc te):PS X (.Raise (some exc) none pos) (Gb X.K E te):=by
 intro Nm s σ H D I h
 rw[arm_exec_Raise]
 refine wpAny_bind (wpAny_standAt ?_)
 unfold raiseStmt
 dsimp only [evalOpt,Option.map]
 refine wpAny_bind (wpAny_bind (cL (he Nm s σ H _ I h) λu s1 hq=>wpAny_bind (wpAny_standAt (wpAny_pure ?_))))
 obtain⟨v,H1,I1,rv,e,C,dd,ev,hN,c,ht,hE⟩:=hq
 subst ev
 obtain rfl:u=Value.ref e:=rv
 obtain⟨t,hx⟩:=(I1.bJ e _ hN).1
 have X1:=I1.j4
 refine wpAny_bind (wpAny_pure ?_)
 refine wpAny_bind (wpAny_holding ?_)
 unfold excFromValue isExcClass
 refine wpAny_bind (wpAny_bind (yr hx rfl ?_))
 refine wpAny_pure ?_
 refine wpAny_bind ?_
 unfold isInstance
 refine wpAny_bind (F2 hx ((PySem.W.looks_mroIn X1 c.mb).here ?_))
 refine wpAny_pure ?_
 dsimp only
 refine wpAny_bind (yr hx rfl ?_)
 unfold raisedInstance
 refine wpAny_bind (wpAny_bind (F2 hx (wpAny_bind ((PySem.W.looks_typeIn X1 ht).here ?_))))
 refine wpAny_pure ?_
 unfold setFlight
 refine wpAny_bind (wpAny_bind (wpAny_field hx rfl (x:=.none) rfl ?_))
 refine wpAny_pure ?_
 exact wpAny_raiseNew_none (I1.ok.hd NB) (O.new Nm σ H1 s1 e C dd I1 hN hE)
end
end L2
namespace L2
open PySem PySem.Spec PyProof.Rows
inductive PV where
 | cR | bl (b:Bool) | int (i:Int) | str (x:Str)
 | tup (xs:List PV) | lst (xs:List PV)
 | jW (xs:List PV)
 | obj (C:Addr) (fs:List (Str×PV))
 | exc (C:Addr) (fo:Option (List (Str×PV)))
 | emp
 deriving Inhabited
mutual
inductive Rep (H:Hp):PV->V->Prop where
 | cR:Rep H .cR .cR
 | bl (b:Bool):Rep H (.bl b) (.bl b)
 | int (i:Int):Rep H (.int i) (.int i)
 | str (x:Str):Rep H (.str x) (.str x)
 | tup {a:Addr} {xs:List PV} {vs:List V}:H a=some (.tup vs)->aW H xs vs->Rep H (.tup xs) (.ref a)
 | lst {a:Addr} {xs:List PV} {vs:List V}:H a=some (.lst vs)->aW H xs vs->Rep H (.lst xs) (.ref a)
 | jW {a:Addr} {o:Obj} {xs:List PV} {vs:List V}:H a=some (.rN o (.lst vs))->aW H xs vs->Rep H (.jW xs) (.ref a)
 | obj {a C dx:Addr} {fs:List (Str×PV)} {vs:List (Str×V)}:H a=some (.ins C dx vs)->iQ H fs vs->Rep H (.obj C fs) (.ref a)
 | zH {a C:Addr}:H a=some (jf C none a)->Rep H (.exc C none) (.ref a)
 | zJ {a C d:Addr} {fs:List (Str×PV)} {vs:List (Str×V)}:H a=some (jf C (some d) a)->H d=some (.xd vs)->iQ H fs vs->Rep H (.exc C (some fs)) (.ref a)
 | emp {a:Addr}:H a=some (.dK [])->Rep H .emp (.ref a)
inductive aW (H:Hp):List PV->List V->Prop where
 | nil:aW H [] []
 | cons {p:PV} {v:V} {ps:List PV} {vs:List V}:Rep H p v->aW H ps vs->aW H (p::ps) (v::vs)
inductive iQ (H:Hp):List (Str×PV)->List (Str×V)->Prop where
 | nil:iQ H [] []
 | cons {n:Str} {p:PV} {v:V} {ps:List (Str×PV)} {vs:List (Str×V)}:Rep H p v->iQ H ps vs->iQ H ((n,p)::ps) ((n,v)::vs)
end
mutual
theorem Rep.mono{H H':Hp}(s:bu H H'):∀ {p:PV} {v:V},Rep H p v->Rep H' p v
 | _,_,.cR=>.cR
 | _,_,.bl b=>.bl b
 | _,_,.int i=>.int i
 | _,_,.str x=>.str x
 | _,_,.tup h r=>.tup (s _ _ h) (r.mono s)
 | _,_,.lst h r=>.lst (s _ _ h) (r.mono s)
 | _,_,.jW h r=>.jW (s _ _ h) (r.mono s)
 | _,_,.obj h r=>.obj (s _ _ h) (r.mono s)
 | _,_,.zH h=>.zH (s _ _ h)
 | _,_,.zJ h h2 r=>.zJ (s _ _ h) (s _ _ h2) (r.mono s)
 | _,_,.emp h=>.emp (s _ _ h)
theorem aW.mono{H H':Hp}(s:bu H H'):∀ {p:List PV} {v:List V},aW H p v->aW H' p v
 | _,_,.nil=>.nil
 | _,_,.cons h r=>.cons (h.mono s) (r.mono s)
theorem iQ.mono{H H':Hp}(s:bu H H'):∀ {p:List (Str×PV)} {v:List (Str×V)},iQ H p v->iQ H' p v
 | _,_,.nil=>.nil
 | _,_,.cons h r=>.cons (h.mono s) (r.mono s)
end
theorem aW.length{H:Hp}:∀ {p:List PV} {v:List V},aW H p v->p.length=v.length
 | _,_,.nil=>rfl
 | _,_,.cons _ r=>by simp[r.length]
theorem aW.get{H:Hp}:∀ {p:List PV} {v:List V} {i:Nat} {x:PV},aW H p v->p[i]?=some x->∃ u,v[i]?=some u/\Rep H x u
 | _,_,_,_,.nil,e=>by simp at e
 | _,_,0,_,.cons h _,e=>by simp at e;subst e;exact⟨_,rfl,h⟩
 | _,_,i+1,x,.cons _ r,e=>by
  obtain⟨u,h1,h2⟩:=aW.get (i:=i) (x:=x) r (by simpa using e)
  exact⟨u,by simpa using h1,h2⟩
theorem aW.append{H:Hp}:∀ {p q:List PV} {v u:List V},aW H p v->aW H q u->aW H (p++q) (v++u)
 | _,_,_,_,.nil,s=>s
 | _,_,_,_,.cons h r,s=>.cons h (r.append s)
theorem aW.take{H:Hp}:∀ {p:List PV} {v:List V} (n:Nat),aW H p v->aW H (p.take n) (v.take n)
 | _,_,0,_=>.nil
 | _,_,_+1,.nil=>.nil
 | _,_,n+1,.cons h r=>.cons h (r.take n)
theorem aW.drop{H:Hp}:∀ {p:List PV} {v:List V} (n:Nat),aW H p v->aW H (p.drop n) (v.drop n)
 | _,_,0,r=>r
 | _,_,_+1,.nil=>.nil
 | _,_,n+1,.cons _ r=>r.drop n
theorem aW.set{H:Hp}{x:PV}{u:V}(h:Rep H x u):∀ {p:List PV} {v:List V} (i:Nat),aW H p v->aW H (p.set i x) (v.set i u)
 | _,_,_,.nil=>.nil
 | _,_,0,.cons _ r=>.cons h r
 | _,_,i+1,.cons q r=>.cons q (r.set h i)
theorem aW.snoc{H:Hp}{p:List PV}{v:List V}{x:PV}{u:V}(r:aW H p v)(h:Rep H x u):aW H (p++[x]) (v++[u]):=r.append (.cons h .nil)
theorem iQ.look{H:Hp}{f:Str}:∀ {p:List (Str×PV)} {v:List (Str×V)} {x:PV},iQ H p v->p.lookup f=some x->∃ u,v.lookup f=some u/\Rep H x u
 | _,_,_,.nil,e=>by simp at e
 | (n,_)::_,_,x,.cons h r,e=>by
  rw[List.lookup_cons] at e ⊢
  cases q:f==n with
  | true=>rw[q] at e;cases e;exact⟨_,rfl,h⟩
  | false=>rw[q] at e;exact r.look e
theorem iQ.none{H:Hp}{f:Str}:∀ {p:List (Str×PV)} {v:List (Str×V)},iQ H p v->p.lookup f=none->v.lookup f=none
 | _,_,.nil,_=>rfl
 | (n,_)::_,_,.cons h r,e=>by
  rw[List.lookup_cons] at e ⊢
  cases q:f==n with
  | true=>rw[q] at e;cases e
  | false=>rw[q] at e;exact r.none e
theorem aW.ints{H:Hp}:∀ {ns:List Int} {v:List V},aW H (ns.map PV.int) v->v=ns.map V.int
 | [],_,.nil=>rfl
 | _::_,_,.cons (.int i) r=>by rw[r.ints];rfl
theorem aW.JY{H:Hp}:∀ {ns:List Bool} {v:List V},aW H (ns.map PV.bl) v->v=ns.map V.bl
 | [],_,.nil=>rfl
 | _::_,_,.cons (.bl i) r=>by rw[r.JY];rfl
structure bN (Hs H Nr H':Hp):Prop where
 st:bu Hs Nr
 al:bu H H'
 sub:bu Nr H'
 nw:∀ a o,Hs a=none->H a=some o->Nr a=none
theorem bN.refl{Hs H:Hp}(s:bu Hs H):bN Hs H Hs H:=⟨λ_ _ e=>e,λ_ _ e=>e,s,λ_ _ e _=>e⟩
theorem bN.trans{Hs H NA H1 NC H2:Hp}(a:bN Hs H NA H1)(b:bN NA H1 NC H2):bN Hs H NC H2 :=
 ⟨λc o e=>b.st c o (a.st c o e),λc o e=>b.al c o (a.al c o e),b.sub,λc o e q=>b.nw c o (a.nw c o e q) (a.al c o q)⟩
theorem bN.new{Hs H:Hp}{p:Addr}{o:HO}(s:bu Hs H)(n:H p=none):bN Hs H (upd Hs p o) (upd H p o):=by
 have ne:∀ c u,H c=some u->c≠p:=λc u e z=>by rw[z,n] at e;cases e
 refine⟨λc u e=>?_,λc u e=>?_,λc u e=>?_,λc u e q=>?_⟩
 ·rw[aw (ne c u (s c u e))];exact e
 ·rw[aw (ne c u e)];exact e
 ·by_cases z:c=p
  ·subst z;rw[aE] at e ⊢;exact e
  ·rw[aw z] at e ⊢;exact s c u e
 ·rw[aw (ne c u q)];exact e
inductive SV where
 | sh (p:PV)
 | ow (xs:List PV)
 | bd (a C:Addr) (fs:List (Str×PV))
abbrev af:=List (Option SV)
structure SR (B H₀ Hs H:Hp) (σ:St) (env:af):Prop where
 gr:bN B H₀ Hs H
 len:σ.length=env.length
 sh:∀ (i:Nat) (p:PV),env[i]?=some (some (.sh p))->∃ v,σ[i]?=some (some v)/\Rep Hs p v
 ow:∀ (i:Nat) (xs:List PV),env[i]?=some (some (.ow xs))->∃ a vs,σ[i]?=some (some (.ref a))/\H a=some (.lst vs)/\Hs a=none/\H₀ a=none/\aW Hs xs vs
 sep:∀ (i j:Nat) (xs ys:List PV) (a:Addr),i≠j->env[i]?=some (some (.ow xs))->env[j]?=some (some (.ow ys))->σ[i]?=some (some (.ref a))->σ[j]?≠some (some (.ref a))
 bd:∀ (i:Nat) (a C:Addr) (fs:List (Str×PV)),env[i]?=some (some (.bd a C fs))->∃ dx vs,σ[i]?=some (some (.ref a))/\H a=some (.ins C dx vs)/\Hs a=none/\H₀ a=none/\iQ Hs fs vs
 one:∀ (i j:Nat) (a b C D:Addr) (fs gs:List (Str×PV)),env[i]?=some (some (.bd a C fs))->env[j]?=some (some (.bd b D gs))->i=j
theorem SR.grow{B H₀ Hs H Nr H':Hp}{σ:St}{env:af}(r:SR B H₀ Hs H σ env)(g:bN Hs H Nr H'):SR B H₀ Nr H' σ env where
 gr:=r.gr.trans g
 len:=r.len
 sh:=λi p e=>let ⟨v,h1,h2⟩:=r.sh i p e;⟨v,h1,h2.mono g.st⟩
 ow:=λi xs e=>let ⟨a,vs,h1,h2,h3,h4,h5⟩:=r.ow i xs e;⟨a,vs,h1,g.al _ _ h2,g.nw _ _ h3 h2,h4,h5.mono g.st⟩
 sep:=r.sep
 bd:=λi a C fs e=>let ⟨dx,vs,h1,h2,h3,h4,h5⟩:=r.bd i a C fs e;⟨dx,vs,h1,g.al _ _ h2,g.nw _ _ h3 h2,h4,h5.mono g.st⟩
 one:=r.one
abbrev EX:=Addr×Option (List (Str×PV))
abbrev M(α:Type):=Option (Except EX α)
def M.ok{α:Type}(a:α):M α:=some (.ok a)
noncomputable def M.bind{α β:Type}(x:M α)(f:α->M β):M β:=match x with
 | some (.ok a)=>f a
 | some (.error e)=>some (.error e)
 | none=>none
instance:Monad M where
 pure:=M.ok
 bind:=M.bind
def az{α:Type}(r:M α)(Q:α->Prop)(E:EX->Prop):Prop:=match r with
 | some (.ok a)=>Q a
 | some (.error e)=>E e
 | none=>False
theorem az.imp{α:Type}{r:M α}{Q Q':α->Prop}{E E':EX->Prop}(h:az r Q E)(hq:∀ a,Q a->Q' a)(he:∀ e,E e->E' e):az r Q' E':=by
 cases r with
 | none=>exact h
 | some x=>cases x with
  | ok a=>exact hq a h
  | error e=>exact he e h
theorem az.bind{α β:Type}{x:M α}{f:α->M β}{Q:β->Prop}{E:EX->Prop}(h:az (x.bind f) Q E):az x (λa=>az (f a) Q E) E:=by
 cases x with
 | none=>exact h
 | some x=>cases x with
  | ok a=>exact h
  | error e=>exact h
def XW(E:XK)(Hs H:Hp)(x:EX):Prop:=∀ ea Nr H',bN Hs H Nr H'->Rep Nr (.exc x.1 x.2) (.ref ea)->E (.ref ea) none H'
theorem XW.grow{E:XK}{Hs H Nr H':Hp}{x:EX}(h:XW E Hs H x)(g:bN Hs H Nr H'):XW E Nr H' x:=λea NC H2 g2 r=>h ea NC H2 (g.trans g2) r
def tE(E:St->XK)(f:af->M PV):TE:=fun σ H Q=>∃ B H₀ Hs env,SR B H₀ Hs H σ env/\az (f env) (λp=>∀ v Nr H',bN Hs H Nr H'->Rep Nr p v->Q v H') (XW (E σ) Hs H)
theorem PE.imp{X:Cx}{e:Expr}{t t':TE}(h:PE X e t)(i:∀ σ H Q,t' σ H Q->t σ H Q):PE X e t':=λNm s σ H Q I q=>h Nm s σ H Q I (i σ H Q q)
theorem t8{E:St->XK}{f:af->M PV}{g:af->PV->M PV}{σ:St}{H:Hp}{Q R:VK}(h:tE E (λenv=>(f env).bind (g env)) σ H Q)
  (k:∀ B H₀ Hs H1 env p v,SR B H₀ Hs H1 σ env->Rep Hs p v->az (g env p) (λq=>∀ u Nr H',bN Hs H1 Nr H'->Rep Nr q u->Q u H') (XW (E σ) Hs H1)->R v H1):tE E f σ H R:=by
 obtain⟨B,H₀,Hs,env,sr,h⟩:=h
 refine⟨B,H₀,Hs,env,sr,(az.bind h).imp (λp hp v Nr H' g r=>?_) λe he=>he⟩
 exact k B H₀ Nr H' env p v (sr.grow g) r (hp.imp (λq hq u NC H2 g2 r2=>hq u NC H2 (g.trans g2) r2) λe he=>he.grow g)
theorem ye{E:St->XK}{f g:af->M PV}{op:PV->PV->M PV}{r:R2}{σ:St}{H:Hp}{Q:VK}(h:tE E (λenv=>(f env).bind λp=>(g env).bind λq=>op p q) σ H Q)
  (k:∀ Hs H1 p q v u,bu Hs H1->Rep Hs p v->Rep Hs q u->az (op p q) (λz=>∀ w Nr H',bN Hs H1 Nr H'->Rep Nr z w->Q w H') (XW (E σ) Hs H1)->r v u H1 Q):JU r (tE E f) (tE E g) σ H Q:=by
 refine t8 h λB H₀ Hs H1 env p v sr rp hp=>?_
 refine⟨B,H₀,Hs,env,sr,(az.bind hp).imp (λq hq u Nr H' g ru=>?_) λe he=>he⟩
 exact k Nr H' p q v u (sr.grow g).gr.sub (rp.mono g.st) ru (hq.imp (λz hz w NC H2 g2 r2=>hz w NC H2 (g.trans g2) r2) λe he=>he.grow g)
theorem Kh{E:St->XK}{f:af->M PV}{op:PV->M PV}{r:V->Hp->VK->Prop}{σ:St}{H:Hp}{Q:VK}(h:tE E (λenv=>(f env).bind op) σ H Q)
  (k:∀ Hs H1 p v,bu Hs H1->Rep Hs p v->az (op p) (λz=>∀ w Nr H',bN Hs H1 Nr H'->Rep Nr z w->Q w H') (XW (E σ) Hs H1)->r v H1 Q):MT r (tE E f) σ H Q :=
 t8 h λB H₀ Hs H1 env p v sr rp hp=>k Hs H1 p v sr.gr.sub rp hp
end L2
namespace L2
open PySem PySem.Spec PyProof.Rows
def G2(sp:Sp)(N7:List V)(E:St->XK)(t:TA):TE:=fun σ H Q=>t σ H λvs H1=>sp (vs++N7) H1 Q (E σ)
def C8(C:Addr)(m:Str)(sp:Sp)(N7:List V)(E:St->XK)(ta:TE)(t:TA):TE:=fun σ H Q=>ta σ H λx H1=>∃ a dx fs,x=.ref a/\H1 a=some (.ins C dx fs)/\fs.lookup m=none ∧
 t σ H1 λvs H2=>sp (x::(vs++N7)) H2 Q (E σ)
def HV(C:Addr)(sp:Sp)(N7:List V)(E:St->XK)(t:TA):TE:=fun σ H Q=>t σ H λvs H1=>∀ x dx,H1 x=none->H1 dx=none->dx≠x ->
 sp (.ref x::(vs++N7)) (upd (upd H1 dx (.own x)) x (.ins C dx [])) (λv H2=>v=.cR/\Q (.ref x) H2) (E σ)
section
variable{X:Cx}{k:Nat}{f C:Addr}{fd:FuncData}{ps:List Str}{sp:Sp}{N7:List V}{ds:List Value}{E:St->XK}{x m:Str}{p pos apos:Pos}{e o:Expr}{es:List Expr}{ta:TE}{t:TA}
theorem uv{Nm:List (Addr×Obj)}{σ:St}{H:Hp}{s:Shared}{Q:VK}{us:List Value}{vs:List V}(F:aO X.prog X.w X.K X.mg X.base (bG X.prog X.w) k f fd ps sp)(hr:cJ k X.A)(hb:Binds X.K fd ps ds)(hd:Vals N7 ds)(hx:fg X E)
  (I:Inv X Nm σ H s) (r:Vals vs us) (h:sp (vs++N7) H Q (E σ)):wpAny (model X.prog X.w) X.A (call (.ref f) us) (EP X Nm σ Q) X.xe s:=by
 have r2:Vals (vs++N7) (us++ds):=r.append hd
 have hl:(us++ds).length=ps.length:=by rw[← r2.length];exact F.len _ _ _ _ h
 refine wpAny_call (codeAny_mono (F.run X.A X.stack s H ⟨us,[]⟩ (us++ds) (vs++N7) Q (E σ) hr I.lJ (hb s us I.j4 hl) r2 h) λr s' hq=>?_)
 cases r with
 | error e=>exact hx.pass Nm σ H s e s' I hq
 | ok fl =>
  cases fl with
  | ret u=>exact I.after hq
  | next=>exact False.elim hq
  | brk=>exact False.elim hq
  | cont=>exact False.elim hq
theorem AL(F:aO X.prog X.w X.K X.mg X.base (bG X.prog X.w) k f fd ps sp)(hr:cJ k X.A)(hg:Gl X x)(hm:X.mg x=some (.ref f))(hk:PySem.W.keepIn X.K (.ref f)=true)(hb:Binds X.K fd ps ds)(hd:Vals N7 ds)(hx:fg X E)
  (ha:PA X (e::es) t) (Oo:autoParam ((x==("__debug__" : Str))=false) aD._auto_1) (he:autoParam (starEach (e::es) X.env=(false,eval e X.env)::starEach es X.env) aR._auto_1) (NQ:autoParam ((backTo pos (starEach es X.env)).any (·.1)=false) aR._auto_1) :
  PE X (.Call (.Name x p) (e::es) [] pos) (G2 sp N7 E t):=by
 intro Nm s σ H Q I h
 refine wpAny_Call_Name_kw (l8 I hg hm ?_ Oo)
 refine PySem.W.callWith_K (h₀:=X.base) I.ok.mod.FN hk (cL (ha pos Nm s σ H _ I h) λus s1 ⟨vs,H1,I1,r,q⟩=>⟨I1.j4,?_⟩) he NQ
 exact uv F hr hb hd hx I1 r q
theorem CP{pl:Sem Bool}(he:PE X o ta)(c:kE X.K C)(hm:Meth X.K C m f)(F:aO X.prog X.w X.K X.mg X.base (bG X.prog X.w) k f fd ps sp)(hr:cJ k X.A)(hb:Binds X.K fd ps ds)(hd:Vals N7 ds)(hx:fg X E)(ha:PA X (e::es) t)
  (NU:autoParam (starEach (e::es) X.env=(false,eval e X.env)::starEach es X.env) aR._auto_1) (NQ:autoParam ((backTo pos (starEach es X.env)).any (·.1)=false) aR._auto_1)
  (ht:autoParam (eval (.Call (.Attribute o m apos) (e::es) [] pos) X.env=(do
   let ov ← eval o X.env
   standAt apos.atName
   let (f,first) ← holding [ov] (getMethod ov m pl)
   callWith pos f first (backTo pos (starEach (e::es) X.env)) (backToKw pos (keywordEach [] X.env)))) aR._auto_1) :
  PE X (.Call (.Attribute o m apos) (e::es) [] pos) (C8 C m sp N7 E ta t):=by
 intro Nm s σ H Q I h
 refine PySem.W.methodCall_KW (pl:=pl) (cL (he Nm s σ H _ I h) λu s1 ⟨x,H1,I1,rx,a,dx,fs,ex,ea,l,q⟩=>?_) ht
 subst ex
 obtain rfl:u=Value.ref a:=rx
 refine qF I1 ea c hm l ?_
 refine PySem.W.callWith_K (first:=[.ref a]) (h₀:=X.base) I.ok.mod.FN hm.kp (cL (ha pos Nm s1 σ H1 _ I1 q) λus s2 ⟨vs,H2,I2,r,q2⟩=>⟨I2.j4,?_⟩) NU NQ
 exact uv (us:=.ref a::us) (vs:=.ref a::vs) F hr hb hd hx I2 (.cons rfl r) q2
theorem zW{pl:Sem Bool}(he:PE X o ta)(c:kE X.K C)(hm:Meth X.K C m f)(F:aO X.prog X.w X.K X.mg X.base (bG X.prog X.w) k f fd ps sp)(hr:cJ k X.A)(hb:Binds X.K fd ps ds)(hd:Vals N7 ds)(hx:fg X E)
  (ht:autoParam (eval (.Call (.Attribute o m apos) [] [] pos) X.env=(do
   let ov ← eval o X.env
   standAt apos.atName
   let (f,first) ← holding [ov] (getMethod ov m pl)
   callWith pos f first (backTo pos (starEach [] X.env)) (backToKw pos (keywordEach [] X.env)))) aR._auto_1) :
  PE X (.Call (.Attribute o m apos) [] [] pos) (C8 C m sp N7 E ta Kd):=by
 intro Nm s σ H Q I h
 refine PySem.W.methodCall_KW (pl:=pl) (cL (he Nm s σ H _ I h) λu s1 ⟨x,H1,I1,rx,a,dx,fs,ex,ea,l,q⟩=>?_) ht
 subst ex
 obtain rfl:u=Value.ref a:=rx
 refine qF I1 ea c hm l ?_
 exact PySem.W.callWith_K0 (first:=[.ref a]) I1.j4 hm.kp (uv (us:=[.ref a]) (vs:=[.ref a]) F hr hb hd hx I1 (.cons rfl .nil) q)
theorem Ai{Nm:List (Addr×Obj)}{σ:St}{H:Hp}{s:Shared}{Q:VK}{us:List Value}{vs:List V}(M:Mk X.K C f)(F:aO X.prog X.w X.K X.mg X.base (bG X.prog X.w) k f fd ps sp)(hr:cJ (k+1) X.A)(hb:Binds X.K fd ps ds)(hd:Vals N7 ds)
  (hx:fg X E) (I:Inv X Nm σ H s) (r:Vals vs us)
  (h:∀ x dx,H x=none->H dx=none->dx≠x->sp (.ref x::(vs++N7)) (upd (upd H dx (.own x)) x (.ins C dx [])) (λv H2=>v=.cR/\Q (.ref x) H2) (E σ)) :
  wpAny (model X.prog X.w) X.A (call (.ref C) us) (EP X Nm σ Q) X.xe s:=by
 have hq:=h (s.heap.objs.size+1) s.heap.objs.size (I.bJ.fresh (Nat.le_succ _)) (I.bJ.fresh (Nat.le_refl _)) (Nat.ne_of_lt (Nat.lt_succ_self _))
 have I2:=Inv.made (C:=C) I
 have r2:Vals (V.ref (s.heap.objs.size+1)::(vs++N7)) (Value.ref (s.heap.objs.size+1)::(us++ds)):=.cons rfl (r.append hd)
 have hl:(Value.ref (s.heap.objs.size+1)::us++ds).length=ps.length:=by
  have e:=r2.length
  rw[F.len _ _ _ _ hq] at e
  exact e.symm
 refine wpAny_call (Be (f:=f) I.j4 M.makes M.init (beq_iff_eq.mp M.fn) (codeAny_mono (F.run _ X.stack _ _ ⟨Value.ref (s.heap.objs.size+1)::us,[]⟩ (Value.ref (s.heap.objs.size+1)::(us++ds)) _ _ (E σ) (hr.make C us [])
  (I2.lJ.make C us []) (hb _ (Value.ref (s.heap.objs.size+1)::us) I2.j4 hl) r2 hq) λr s' PM=>?_))
 cases r with
 | error e=>exact hx.pass Nm σ _ _ e s' I2 PM
 | ok fl =>
  cases fl with
  | ret u =>
   obtain⟨v,H',I3,rv,ev,q3⟩:=I2.after PM
   subst ev
   exact⟨rv,⟨V.ref (s.heap.objs.size+1),H',I3,rfl,q3⟩⟩
  | next=>exact False.elim PM
  | brk=>exact False.elim PM
  | cont=>exact False.elim PM
theorem Bz(M:Mk X.K C f)(F:aO X.prog X.w X.K X.mg X.base (bG X.prog X.w) k f fd ps sp)(hr:cJ (k+1) X.A)(hg:Gl X x)(hm:X.mg x=some (.ref C))(hb:Binds X.K fd ps ds)(hd:Vals N7 ds)(hx:fg X E)
  (ha:PA X (e::es) t) (Oo:autoParam ((x==("__debug__" : Str))=false) aD._auto_1) (he:autoParam (starEach (e::es) X.env=(false,eval e X.env)::starEach es X.env) aR._auto_1) (NQ:autoParam ((backTo pos (starEach es X.env)).any (·.1)=false) aR._auto_1) :
  PE X (.Call (.Name x p) (e::es) [] pos) (HV C sp N7 E t):=by
 intro Nm s σ H Q I h
 refine wpAny_Call_Name_kw (l8 I hg hm ?_ Oo)
 refine PySem.W.callWith_K (h₀:=X.base) I.ok.mod.FN M.kp (cL (ha pos Nm s σ H _ I h) λus s1 ⟨vs,H1,I1,r,q⟩=>⟨I1.j4,?_⟩) he NQ
 exact Ai M F hr hb hd hx I1 r q
end
end L2
namespace L2
open PySem PySem.Spec PyProof.Rows
abbrev dS(Hs H:Hp)(Q:VK):PV->Prop:=λz=>∀ w Nr H',bN Hs H Nr H'->Rep Nr z w->Q w H'
theorem dS.flat{Hs H:Hp}{Q:VK}{p:PV}{v:V}(h:dS Hs H Q p)(s:bu Hs H)(r:Rep Hs p v):Q v H:=h v Hs H (.refl s) r
theorem dS.tup{Hs H:Hp}{Q:VK}{xs:List PV}{vs:List V}(h:dS Hs H Q (.tup xs))(s:bu Hs H)(r:aW Hs xs vs):∀ p,H p=none->Q (.ref p) (upd H p (.tup vs)) :=
 λp n=>h _ (upd Hs p (.tup vs)) _ (bN.new s n) (.tup aE (r.mono (bN.new s n).st))
theorem dS.lst{Hs H:Hp}{Q:VK}{xs:List PV}{vs:List V}(h:dS Hs H Q (.lst xs))(s:bu Hs H)(r:aW Hs xs vs):∀ p,H p=none->Q (.ref p) (upd H p (.lst vs)) :=
 λp n=>h _ (upd Hs p (.lst vs)) _ (bN.new s n) (.lst aE (r.mono (bN.new s n).st))
namespace HT
theorem Ck{prog:Program}{w:World}{A:Around}{E:Value->Shared->Prop}{s:Shared}{t b:Addr}{ws:List Value}{Q:Value->Shared->Prop}(ht:IsTup s.heap t #[])(hb:IsTup s.heap b ws.toArray)
  (h1:Q (.ref b) s):wpAny (model prog w) A (binaryOp .Add (.ref t) (.ref b)) Q E s:=by
 obtain⟨⟨cls,dd,data,sl⟩,ho,hc,n,hd⟩:=id ht
 obtain⟨⟨QF,PH,data2,PU⟩,Pb,Pn,n2,hd2⟩:=id hb
 simp only at hc hd Pn hd2
 subst hc hd Pn hd2
 exact concat_meets ⟨_,ho,rfl⟩ ⟨_,Pb,rfl⟩ noFill_tuple_add seq_tuple_add PySem.F.slot_tuple_add PySem.F.entry_tuple_add (PySem.F.args_tuple_add_2 _ _)
   (tuple_addW0 t b #[] ws.toArray n n2 dd PH sl PU rfl) ⟨ho,Pb,h1⟩
end HT
def CF(K:PySem.W.Frag):R2:=λx y H Q=>∃ a b ys,x=.ref a/\y=.ref b/\gc K H a []/\gc K H b ys/\Q (.ref b) H
theorem CW{X:Cx}:gf X (binaryOp .Add) (CF X.K):=by
 intro Nm s σ H x y v u Q I rx ry h
 obtain⟨a,b,ys,rfl,rfl,ha,hb,q1⟩:=h
 cases rx
 cases ry
 obtain⟨Nn,r1,p1,_⟩:=I.tuple ha
 obtain⟨Ot,r2,p2,_⟩:=I.tuple hb
 have e:Nn=[]:=r1.mj.mpr rfl
 subst e
 exact HT.Ck p1 p2 ⟨.ref b,H,I,rfl,q1⟩
def cP{α:Type}(c:Prop)[Decidable c](x:M α):M α:=if c then x else none
theorem az.cP{α:Type}{c:Prop}[Decidable c]{x:M α}{Q:α->Prop}{E:EX->Prop}(h:az (L2.cP c x) Q E):c/\az x Q E:=by
 unfold L2.cP at h
 by_cases hc:c
 ·rw[if_pos hc] at h;exact⟨hc,h⟩
 ·rw[if_neg hc] at h;exact h.elim
def dZ(o:Option PV):M PV:=match o with
 | some x=>M.ok x
 | none=>none
theorem az.opt{o:Option PV}{Q:PV->Prop}{E:EX->Prop}(h:az (dZ o) Q E):∃ x,o=some x/\Q x:=by
 cases o with
 | none=>exact h.elim
 | some x=>exact⟨x,rfl,h⟩
section
variable{X:Cx}{E:St->XK}{a b c e:Expr}{pos:Pos}{f g h:af->M PV}
def ae(i:Nat)(env:af):M PV:=match env[i]? with
 | some (some (.sh p))=>M.ok p
 | _=>none
theorem IV{i:Nat}{x:Str}(hN:X.N[i]?=some x)(hv:Dp X.env.scope x)(hd:autoParam ((x==("__debug__" : Str))=false) aD._auto_1)(OH:autoParam ((x==("__classdict__" : Str))=false) aD._auto_1):PE X (.Name x pos) (tE E (ae i)):=by
 refine(nL hN hv hd OH).imp fun σ H Q q=>?_
 obtain⟨B,H₀,Hs,env,sr,q⟩:=q
 unfold ae at q
 split at q
 ·rename_i p e
  obtain⟨v,h1,h2⟩:=sr.sh i p e
  exact⟨v,h1,dS.flat q sr.gr.sub h2⟩
 ·exact q.elim
theorem mF{p:PV}{v:V}(he:PE X e (tC v))(r:∀ H,Rep H p v):PE X e (tE E λ_=>M.ok p):=by
 refine he.imp fun σ H Q q=>?_
 obtain⟨B,H₀,Hs,env,sr,q⟩:=q
 exact dS.flat q sr.gr.sub (r Hs)
theorem BU{i:Int}{j:Nat}:PE X (.Constant (.int i) j pos) (tE E λ_=>M.ok (.int i)):=mF Iu λ_=>.int i
theorem Kg{i:Bool}{j:Nat}:PE X (.Constant (.bool i) j pos) (tE E λ_=>M.ok (.bl i)):=mF J2 λ_=>.bl i
theorem Gf{j:Nat}:PE X (.Constant .none j pos) (tE E λ_=>M.ok .cR):=mF IA λ_=>.cR
theorem IS{i:Str}{j:Nat}:PE X (.Constant (.str i) j pos) (tE E λ_=>M.ok (.str i)):=mF G5 λ_=>.str i
def ao(op:PV->PV->M PV)(f g:af->M PV):af->M PV:=λenv=>(f env).bind λp=>(g env).bind λq=>op p q
def lE(E:St->XK)(r:R2)(op:PV->PV->M PV):Prop:=∀ (σ:St) (Hs H:Hp) (p q:PV) (v u:V) (Q:VK),bu Hs H->Rep Hs p v->Rep Hs q u->az (op p q) (dS Hs H Q) (XW (E σ) Hs H)->r v u H Q
theorem nu{op:Operator}{r:R2}{o:PV->PV->M PV}(ho:gf X (binaryOp op) r)(hv:lE E r o)(ha:PE X a (tE E f))(hb:PE X b (tE E g)):PE X (.BinOp a op b pos) (tE E (ao o f g)) :=
 (Fx ho ha hb).imp fun σ H Q q=>ye q λHs H1 p q v u s rp rq h=>hv σ Hs H1 p q v u Q s rp rq h
theorem jJ{op:CmpOp}{r:R2}{o:PV->PV->M PV}(ho:gf X (compareOp op) r)(hv:lE E r o)(ha:PE X a (tE E f))(hb:PE X b (tE E g))(hm:behindInMarks op b=false):PE X (.Compare a [op] [b] pos) (tE E (ao o f g)) :=
 (Dt ho ha hb hm).imp fun σ H Q q=>ye q λHs H1 p q v u s rp rq h=>hv σ Hs H1 p q v u Q s rp rq h
def dc:PV->PV->M PV
 | .int i,.int j=>M.ok (.int (i+j))
 | .str x,.str y=>cP (x.length+y.length<=sizeLine) (M.ok (.str (x++y)))
 | .tup xs,.tup ys=>cP (xs.length+ys.length<=sizeLine) (M.ok (.tup (xs++ys)))
 | .lst xs,.lst ys=>cP (xs.length+ys.length<=sizeLine) (M.ok (.lst (xs++ys)))
 | _,_=>none
def FX(K:PySem.W.Frag):R2:=λx y H Q=>(∃ i j,x=.int i/\y=.int j/\Q (.int (i+j)) H)\/(∃ i j,x=.str i/\y=.str j/\i.length+j.length<=sizeLine/\Q (.str (i++j)) H)\/FT K x y H Q\/KU x y H Q\/CF K x y H Q
theorem DX:gf X (binaryOp .Add) (FX X.K):=gf.or G0 (gf.or w8 (gf.or EW (gf.or Ig CW)))
theorem Hq{K:PySem.W.Frag}:lE E (FX K) dc:=by
 intro σ Hs H p q v u Q s rp rq h
 cases rp with
 | int i=>cases rq with
  | int j=>exact .inl ⟨i,j,rfl,rfl,dS.flat h s (.int _)⟩
  | _=>exact h.elim
 | str i=>cases rq with
  | str j =>
   obtain⟨hz,h⟩:=az.cP h
   exact .inr (.inl ⟨i,j,rfl,rfl,hz,dS.flat h s (.str _)⟩)
  | _=>exact h.elim
 | @tup a xs vs ha hx=>cases rq with
  | @tup b ys us hb hy =>
   obtain⟨hz,h⟩:=az.cP h
   cases hx with
   | nil=>exact .inr (.inr (.inr (.inr ⟨a,b,us,rfl,rfl,gc.of (s _ _ ha),gc.of (s _ _ hb),dS.flat h s (.tup hb hy)⟩)))
   | cons QW Rj =>
    have hx:=aW.cons QW Rj
    refine .inr (.inr (.inl ⟨a,b,_,us,rfl,rfl,gc.of (s _ _ ha),gc.of (s _ _ hb),(λz=>nomatch z),by rw[← hx.length,← hy.length];exact hz,λz=>?_,λz=>dS.tup h s (hx.append hy)⟩))
    have e:ys=[]:=by cases hy with | nil=>rfl | cons _ _=>cases z
    subst e
    rw[List.append_nil] at h
    exact dS.flat h s (.tup ha hx)
  | _=>exact h.elim
 | @lst a xs vs ha hx=>cases rq with
  | @lst b ys us hb hy =>
   obtain⟨hz,h⟩:=az.cP h
   exact .inr (.inr (.inr (.inl ⟨a,b,vs,us,rfl,rfl,s _ _ ha,s _ _ hb,by rw[← hx.length,← hy.length];exact hz,dS.lst h s (hx.append hy)⟩)))
  | _=>exact h.elim
 | _=>exact h.elim
def xm(c:Int->Int->Bool)(o:Int->Int->Int):PV->PV->M PV
 | .int i,.int j=>cP (c i j=true) (M.ok (.int (o i j)))
 | _,_=>none
theorem xD{C:Int->Int->Prop}{c:Int->Int->Bool}{o:Int->Int->Int}(hc:∀ i j,c i j=true->C i j):lE E (rI C λi j=>.int (o i j)) (xm c o):=by
 intro σ Hs H p q v u Q s rp rq h
 cases rp with
 | int i=>cases rq with
  | int j =>
   obtain⟨hz,h⟩:=az.cP h
   exact⟨i,j,rfl,rfl,hc i j hz,dS.flat h s (.int _)⟩
  | _=>exact h.elim
 | _=>exact h.elim
def kb:PV->PV->M PV
 | .int i,.int j=>M.ok (.int (i-j))
 | _,_=>none
theorem Hb:lE E (yG λi j=>.int (i-j)) kb:=by
 intro σ Hs H p q v u Q s rp rq h
 cases rp with
 | int i=>cases rq with
  | int j=>exact⟨i,j,rfl,rfl,dS.flat h s (.int _)⟩
  | _=>exact h.elim
 | _=>exact h.elim
def AW(o:Int->Int->Bool):PV->PV->M PV
 | .int i,.int j=>M.ok (.bl (o i j))
 | _,_=>none
theorem uI{o:Int->Int->Bool}:lE E (yG λi j=>.bl (o i j)) (AW o):=by
 intro σ Hs H p q v u Q s rp rq h
 cases rp with
 | int i=>cases rq with
  | int j=>exact⟨i,j,rfl,rfl,dS.flat h s (.bl _)⟩
  | _=>exact h.elim
 | _=>exact h.elim
def aV:PV->PV->M PV
 | .tup xs,.int i=>dZ (uV xs i)
 | .lst xs,.int i=>dZ (uV xs i)
 | .jW xs,.int i=>dZ (uV xs i)
 | .str z,.int i=>cP (z.length<=sizeLine) (dZ ((uV z.cps.toList i).map λc=>.str ⟨#[c]⟩))
 | _,_=>none
theorem aW.uV{H:Hp}{xs:List PV}{vs:List V}{i:Int}{x:PV}(r:aW H xs vs)(e:L2.uV xs i=some x):∃ v,L2.uV vs i=some v/\Rep H x v:=by
 unfold L2.uV at e ⊢
 rw[← r.length]
 obtain⟨j,h1,h2⟩:=Option.bind_eq_some_iff.mp e
 obtain⟨v,h3,h4⟩:=r.get h2
 exact⟨v,by rw[h1];exact h3,h4⟩
theorem IK{K:PySem.W.Frag}:lE E (MQ K) aV:=by
 intro σ Hs H p q v u Q s rp rq h
 cases rp with
 | @tup a xs vs ha hx=>cases rq with
  | int i =>
   obtain⟨x,ex,h⟩:=az.opt h
   obtain⟨v,h1,h2⟩:=hx.uV ex
   exact .inr (.inl ⟨a,vs,i,v,rfl,rfl,gc.of (s _ _ ha),h1,dS.flat h s h2⟩)
  | _=>exact h.elim
 | @lst a xs vs ha hx=>cases rq with
  | int i =>
   obtain⟨x,ex,h⟩:=az.opt h
   obtain⟨v,h1,h2⟩:=hx.uV ex
   exact .inl ⟨a,vs,i,v,rfl,rfl,hX.of (s _ _ ha),h1,dS.flat h s h2⟩
  | _=>exact h.elim
 | @jW a o xs vs ha hx=>cases rq with
  | int i =>
   obtain⟨x,ex,h⟩:=az.opt h
   obtain⟨v,h1,h2⟩:=hx.uV ex
   exact .inl ⟨a,vs,i,v,rfl,rfl,.inl (.inr ⟨o,s _ _ ha⟩),h1,dS.flat h s h2⟩
  | _=>exact h.elim
 | str z=>cases rq with
  | int i =>
   obtain⟨hz,h⟩:=az.cP h
   obtain⟨x,ex,h⟩:=az.opt h
   obtain⟨c,ec,rfl⟩:=Option.map_eq_some_iff.mp ex
   exact .inr (.inr ⟨z,i,c,rfl,rfl,hz,ec,dS.flat h s (.str _)⟩)
  | _=>exact h.elim
 | _=>exact h.elim
theorem Hu(ha:PE X a (tE E f))(hb:PE X b (tE E g))(hs:uB b):PE X (.Subscript a b pos) (tE E (ao aV f g)) :=
 (JH IZ ha hb hs).imp fun σ H Q q=>ye q λHs H1 p q v u s rp rq h=>IK σ Hs H1 p q v u Q s rp rq h
end
end L2
namespace L2
open PySem PySem.Spec PyProof.Rows
def tG{α:Type}(E:St->XK)(f:af->M α)(K:Hp->Hp->α->Prop):St->Hp->Prop:=fun σ H=>∃ B H₀ Hs env,SR B H₀ Hs H σ env/\az (f env) (K Hs H) (XW (E σ) Hs H)
def KG{α:Type}(K:Hp->Hp->α->Prop):Prop:=∀ Hs H Nr H' b,K Hs H b->bN Hs H Nr H'->K Nr H' b
abbrev KB(Q:Bool->Hp->Prop):Hp->Hp->Bool->Prop:=λHs H k=>∀ Nr H',bN Hs H Nr H'->Q k H'
abbrev jU(Q:VK):Hp->Hp->PV->Prop:=λHs H p=>dS Hs H Q p
abbrev KL(Q:List V->Hp->Prop):Hp->Hp->List PV->Prop:=λHs H ps=>∀ vs Nr H',bN Hs H Nr H'->aW Nr ps vs->Q vs H'
theorem KB.g{Q:Bool->Hp->Prop}:KG (KB Q):=λHs H Nr H' b k g NC H2 g2=>k NC H2 (g.trans g2)
theorem jU.g{Q:VK}:KG (jU Q):=λHs H Nr H' b k g w NC H2 g2 r=>k w NC H2 (g.trans g2) r
theorem KL.g{Q:List V->Hp->Prop}:KG (KL Q):=λHs H Nr H' b k g w NC H2 g2 r=>k w NC H2 (g.trans g2) r
def tT(E:St->XK)(f:af->M Bool):TT:=fun σ H Q=>tG E f (KB Q) σ H
def tL(E:St->XK)(f:af->M (List PV)):TA:=fun σ H Q=>tG E f (KL Q) σ H
theorem PT.imp{X:Cx}{e:Expr}{t t':TT}(h:PT X e t)(i:∀ σ H Q,t' σ H Q->t σ H Q):PT X e t':=λNm s σ H Q I q=>h Nm s σ H Q I (i σ H Q q)
theorem PW.imp{X:Cx}{e:Expr}{t t':TT}(h:PW X e t)(i:∀ σ H Q,t' σ H Q->t σ H Q):PW X e t':=λw Nm s σ H Q I q=>h w Nm s σ H Q I (i σ H Q q)
theorem PA.imp{X:Cx}{e:List Expr}{t t':TA}(h:PA X e t)(i:∀ σ H Q,t' σ H Q->t σ H Q):PA X e t':=λw Nm s σ H Q I q=>h w Nm s σ H Q I (i σ H Q q)
section
variable{β:Type}{E:St->XK}{K:Hp->Hp->β->Prop}{σ:St}{H:Hp}
theorem bQ{f:af->M PV}{g:af->PV->M β}{R:VK}(kg:KG K)(h:tG E (λenv=>(f env).bind (g env)) K σ H)
  (k:∀ B H₀ Hs H1 env p v,SR B H₀ Hs H1 σ env->Rep Hs p v->az (g env p) (K Hs H1) (XW (E σ) Hs H1)->R v H1):tE E f σ H R:=by
 obtain⟨B,H₀,Hs,env,sr,h⟩:=h
 refine⟨B,H₀,Hs,env,sr,(az.bind h).imp (λp hp v Nr H' g r=>?_) λe he=>he⟩
 exact k B H₀ Nr H' env p v (sr.grow g) r (hp.imp (λq hq=>kg _ _ _ _ q hq g) λe he=>he.grow g)
theorem mh{f:af->M Bool}{g:af->Bool->M β}{R:Bool->Hp->Prop}(kg:KG K)(h:tG E (λenv=>(f env).bind (g env)) K σ H)
  (k:∀ B H₀ Hs H1 env p,SR B H₀ Hs H1 σ env->az (g env p) (K Hs H1) (XW (E σ) Hs H1)->R p H1):tT E f σ H R:=by
 obtain⟨B,H₀,Hs,env,sr,h⟩:=h
 refine⟨B,H₀,Hs,env,sr,(az.bind h).imp (λp hp Nr H' g=>?_) λe he=>he⟩
 exact k B H₀ Nr H' env p (sr.grow g) (hp.imp (λq hq=>kg _ _ _ _ q hq g) λe he=>he.grow g)
theorem dC{f:af->M (List PV)}{g:af->List PV->M β}{R:List V->Hp->Prop}(kg:KG K)(h:tG E (λenv=>(f env).bind (g env)) K σ H)
  (k:∀ B H₀ Hs H1 env p v,SR B H₀ Hs H1 σ env->aW Hs p v->az (g env p) (K Hs H1) (XW (E σ) Hs H1)->R v H1):tL E f σ H R:=by
 obtain⟨B,H₀,Hs,env,sr,h⟩:=h
 refine⟨B,H₀,Hs,env,sr,(az.bind h).imp (λp hp v Nr H' g r=>?_) λe he=>he⟩
 exact k B H₀ Nr H' env p v (sr.grow g) r (hp.imp (λq hq=>kg _ _ _ _ q hq g) λe he=>he.grow g)
end
def w5:PV->M Bool
 | .bl b=>M.ok b
 | _=>none
def dm(f:af->M PV):af->M Bool:=λenv=>(f env).bind w5
theorem az.Kf{p:PV}{Q:Bool->Prop}{E:EX->Prop}(h:az (w5 p) Q E):∃ b,p=.bl b/\Q b:=by
 cases p with
 | bl b=>exact⟨b,rfl,h⟩
 | _=>exact h.elim
section
variable{X:Cx}{E:St->XK}{a b c e:Expr}{pos:Pos}{f g h:af->M PV}{u v:af->M Bool}{rest:List Expr}
theorem qw{σ:St}{H:Hp}{Q:Bool->Hp->Prop}(q:tT E (dm f) σ H Q):tB (tE E f) σ H Q:=by
 refine bQ KB.g q λB H₀ Hs H1 env p v sr rp hp=>?_
 obtain⟨k,rfl,hp⟩:=az.Kf hp
 cases rp
 exact⟨k,rfl,hp Hs H1 (.refl sr.gr.sub)⟩
theorem tf(he:PE X e (tE E f))(hw:autoParam (∀ whole,isTrue e X.env whole=(do let v ← whole;standAt e.pos;holding [v] (truthy v))) aI._auto_1):PT X e (tT E (dm f)) :=
 (Gv he hw).imp fun σ H Q q=>qw q
theorem ka{op:CmpOp}{r:R2}{o:PV->PV->M PV}(ho:gf X (compareOp op) r)(hv:lE E r o)(ha:PE X a (tE E f))(hb:PE X b (tE E g))(hm:behindInMarks op b=false):PT X (.Compare a [op] [b] pos) (tT E (dm (ao o f g))):=by
 refine(E_ ho ha hb hm).imp fun σ H Q q=>?_
 have q':=qw q
 exact ye q' λHs H1 p q v u s rp rq h=>hv σ Hs H1 p q v u _ s rp rq h
def jv(u:af->M Bool):af->M Bool:=λenv=>(u env).bind λb=>M.ok (!b)
def zc(u v:af->M Bool):af->M Bool:=λenv=>(u env).bind λb=>if b=true then v env else M.ok false
def ET(u v:af->M Bool):af->M Bool:=λenv=>(u env).bind λb=>if b=true then M.ok true else v env
theorem Hz(ha:PT X a (tT E u)):PT X (.UnaryOp .Not a pos) (tT E (jv u)) :=
 (IU ha).imp fun σ H Q q=>mh KB.g q λB H₀ Hs H1 env p sr hp=>hp Hs H1 (.refl sr.gr.sub)
theorem ue(ha:PT X a (tT E u)):PW X (.BoolOp .And [a] pos) (tT E u):=pw_and1 ha
theorem nr(ha:PT X a (tT E u)):PW X (.BoolOp .Or [a] pos) (tT E u):=pw_or1 ha
theorem xx(ha:PT X a (tT E u))(hb:PW X (.BoolOp .And (b::rest) pos) (tT E v)):PW X (.BoolOp .And (a::b::rest) pos) (tT E (zc u v)):=by
 refine(pw_and ha hb).imp fun σ H Q q=>mh KB.g q λB H₀ Hs H1 env p sr hp=>?_
 cases p with
 | true=>exact⟨B,H₀,Hs,env,sr,hp⟩
 | false=>exact hp Hs H1 (.refl sr.gr.sub)
theorem r9(ha:PT X a (tT E u))(hb:PW X (.BoolOp .Or (b::rest) pos) (tT E v)):PW X (.BoolOp .Or (a::b::rest) pos) (tT E (ET u v)):=by
 refine(pw_or ha hb).imp fun σ H Q q=>mh KB.g q λB H₀ Hs H1 env p sr hp=>?_
 cases p with
 | true=>exact hp Hs H1 (.refl sr.gr.sub)
 | false=>exact⟨B,H₀,Hs,env,sr,hp⟩
def vC(f:af->M PV):af->M PV:=λenv=>(f env).bind λp=>(w5 p).bind λb=>M.ok (.bl (!b))
def pM(f g:af->M PV):af->M PV:=λenv=>(f env).bind λp=>(w5 p).bind λb=>if b=true then g env else M.ok (.bl false)
def Ja(f g:af->M PV):af->M PV:=λenv=>(f env).bind λp=>(w5 p).bind λb=>if b=true then M.ok (.bl true) else g env
theorem tN(ha:PE X a (tE E f)):PE X (.UnaryOp .Not a pos) (tE E (vC f)):=by
 refine(F8 ha).imp fun σ H Q q=>bQ (K:=jU Q) jU.g q λB H₀ Hs H1 env p v sr rp hp=>?_
 obtain⟨k,rfl,hp⟩:=az.Kf (az.bind hp)
 cases rp
 exact⟨k,rfl,dS.flat hp sr.gr.sub (.bl _)⟩
theorem j3(ha:PE X a (tE E f))(hb:PE X (.BoolOp .And (b::rest) pos) (tE E g)):PE X (.BoolOp .And (a::b::rest) pos) (tE E (pM f g)):=by
 refine(H0 ha hb).imp fun σ H Q q=>bQ (K:=jU Q) jU.g q λB H₀ Hs H1 env p v sr rp hp=>?_
 obtain⟨k,rfl,hp⟩:=az.Kf (az.bind hp)
 cases rp
 refine⟨k,rfl,?_⟩
 cases k with
 | true=>exact⟨B,H₀,Hs,env,sr,hp⟩
 | false=>exact dS.flat hp sr.gr.sub (.bl _)
theorem Fs(ha:PE X a (tE E f))(hb:PE X (.BoolOp .Or (b::rest) pos) (tE E g)):PE X (.BoolOp .Or (a::b::rest) pos) (tE E (Ja f g)):=by
 refine(Jl ha hb).imp fun σ H Q q=>bQ (K:=jU Q) jU.g q λB H₀ Hs H1 env p v sr rp hp=>?_
 obtain⟨k,rfl,hp⟩:=az.Kf (az.bind hp)
 cases rp
 refine⟨k,rfl,?_⟩
 cases k with
 | false=>exact⟨B,H₀,Hs,env,sr,hp⟩
 | true=>exact dS.flat hp sr.gr.sub (.bl _)
def zR(u:af->M Bool)(f g:af->M PV):af->M PV:=λenv=>(u env).bind λb=>if b=true then f env else g env
theorem GC(hc:PT X c (tT E u))(ha:PE X a (tE E f))(hb:PE X b (tE E g)):PE X (.IfExp c a b pos) (tE E (zR u f g)):=by
 refine(C2 hc ha hb).imp fun σ H Q q=>mh (K:=jU Q) jU.g q λB H₀ Hs H1 env p sr hp=>?_
 cases p with
 | true=>exact⟨B,H₀,Hs,env,sr,hp⟩
 | false=>exact⟨B,H₀,Hs,env,sr,hp⟩
def aj:af->M (List PV):=λ_=>M.ok []
def aa(f:af->M PV)(fs:af->M (List PV)):af->M (List PV):=λenv=>(f env).bind λp=>(fs env).bind λps=>M.ok (p::ps)
variable{fs:af->M (List PV)}{es:List Expr}
theorem Bb:PA X [] (tL E aj):=by
 refine kz.imp fun σ H Q q=>?_
 obtain⟨B,H₀,Hs,env,sr,q⟩:=q
 exact q [] Hs H (.refl sr.gr.sub) .nil
theorem yK(ha:PE X e (tE E f))(hr:PA X es (tL E fs))(hs:autoParam (starEach (e::es) X.env=(false,eval e X.env)::starEach es X.env) aR._auto_1):PA X (e::es) (tL E (aa f fs)):=by
 refine(eB ha hr hs).imp fun σ H Q q=>bQ (K:=KL Q) KL.g q λB H₀ Hs H1 env p v sr rp hp=>?_
 refine⟨B,H₀,Hs,env,sr,(az.bind hp).imp (λps Rc vs Nr H' g r=>?_) λe he=>he⟩
 exact Rc (v::vs) Nr H' g (.cons (rp.mono g.st) r)
def lN(fs:af->M (List PV)):af->M PV:=λenv=>(fs env).bind λps=>cP (ps.length<=sizeLine) (M.ok (.tup ps))
def tP(fs:af->M (List PV)):af->M PV:=λenv=>(fs env).bind λps=>cP (ps.length<=sizeLine) (M.ok (.lst ps))
theorem HW{x1:Nat}(hr:PA X es (tL E fs)):PE X (.Tuple es x1 pos) (tE E (lN fs)):=by
 refine(A7 hr).imp fun σ H Q q=>dC (K:=jU Q) jU.g q λB H₀ Hs H1 env p v sr rp hp=>?_
 obtain⟨hz,hp⟩:=az.cP hp
 exact⟨by rw[← rp.length];exact hz,dS.tup hp sr.gr.sub rp⟩
theorem A9(hr:PA X es (tL E fs)):PE X (.List es pos) (tE E (tP fs)):=by
 refine(CH hr).imp fun σ H Q q=>dC (K:=jU Q) jU.g q λB H₀ Hs H1 env p v sr rp hp=>?_
 obtain⟨hz,hp⟩:=az.cP hp
 exact⟨by rw[← rp.length];exact hz,dS.lst hp sr.gr.sub rp⟩
def ai(o:List PV->M PV)(fs:af->M (List PV)):af->M PV:=λenv=>(fs env).bind o
def kv(E:St->XK)(r:List V->Hp->VK->Prop)(o:List PV->M PV):Prop:=∀ (σ:St) (Hs H:Hp) (ps:List PV) (vs:List V) (Q:VK),bu Hs H->aW Hs ps vs->az (o ps) (dS Hs H Q) (XW (E σ) Hs H)->r vs H Q
theorem Bw{r:List V->Hp->VK->Prop}{o:List PV->M PV}{σ:St}{H:Hp}{Q:VK}(hv:kv E r o)(q:tE E (ai o fs) σ H Q):Mo r (tL E fs) σ H Q :=
 dC (K:=jU Q) jU.g q λB H₀ Hs H1 env p v sr rp hp=>hv σ Hs H1 p v Q sr.gr.sub rp hp
variable{x:Str}{p:Pos}{id T:String}
theorem g9{r:List V->Hp->VK->Prop}{o:List PV->M PV}(hc:cZ X (.builtin id) r)(hv:kv E r o)(hg:Gl X x)(hm:X.mg x=none)(hx:bootBuiltins x=some (.builtin id))(ha:PA X (e::es) (tL E fs))(hn:autoParam (x ≠ "__name__") aD._auto_1)(Oo:autoParam ((x==("__debug__" : Str))=false) aD._auto_1)
  (he:autoParam (starEach (e::es) X.env=(false,eval e X.env)::starEach es X.env) aR._auto_1) (NQ:autoParam ((backTo pos (starEach es X.env)).any (·.1)=false) aR._auto_1):PE X (.Call (.Name x p) (e::es) [] pos) (tE E (ai o fs)) :=
 (me hc hg hm hx ha hn Oo he NQ).imp fun σ H Q q=>Bw hv q
theorem rY{r:List V->Hp->VK->Prop}{o:List PV->M PV}(hc:cZ X (.type T) r)(hv:kv E r o)(hg:Gl X x)(hm:X.mg x=none)(hx:bootBuiltins x=some (.type T))(ha:PA X (e::es) (tL E fs))(hn:autoParam (x ≠ "__name__") aD._auto_1)(Oo:autoParam ((x==("__debug__" : Str))=false) aD._auto_1)
  (he:autoParam (starEach (e::es) X.env=(false,eval e X.env)::starEach es X.env) aR._auto_1) (NQ:autoParam ((backTo pos (starEach es X.env)).any (·.1)=false) aR._auto_1):PE X (.Call (.Name x p) (e::es) [] pos) (tE E (ai o fs)) :=
 (sj hc hg hm hx ha hn Oo he NQ).imp fun σ H Q q=>Bw hv q
end
end L2
namespace L2
open PySem PySem.Spec PyProof.Rows
section
variable{E:St->XK}
def cH:PV->Option (List PV)
 | .tup xs=>some xs
 | .lst xs=>some xs
 | .jW xs=>some xs
 | _=>none
theorem xt{K:PySem.W.Frag}{Hs H:Hp}{p:PV}{v:V}{xs:List PV}(s:bu Hs H)(r:Rep Hs p v)(e:cH p=some xs):∃ a vs,v=.ref a/\(hX K H a vs\/gc K H a vs)/\aW Hs xs vs:=by
 cases r with
 | tup h r=>cases e;exact⟨_,_,rfl,.inr (gc.of (s _ _ h)),r⟩
 | lst h r=>cases e;exact⟨_,_,rfl,.inl (hX.of (s _ _ h)),r⟩
 | jW h r=>cases e;exact⟨_,_,rfl,.inl (.inl (.inr ⟨_,s _ _ h⟩)),r⟩
 | _=>cases e
def wj:PV->M PV
 | .str z=>cP (z.length<=sizeLine) (M.ok (.int z.length))
 | p=>dZ ((cH p).map λxs=>.int xs.length)
def dj:List PV->M PV
 | [p]=>wj p
 | _=>none
theorem aW.one{H:Hp}{p:PV}{vs:List V}(r:aW H [p] vs):∃ v,vs=[v]/\Rep H p v:=by
 cases r with
 | cons h r=>cases r;exact⟨_,rfl,h⟩
theorem aW.two{H:Hp}{p q:PV}{vs:List V}(r:aW H [p,q] vs):∃ v u,vs=[v,u]/\Rep H p v/\Rep H q u:=by
 cases r with
 | cons h r=>obtain⟨u,rfl,h2⟩:=r.one;exact⟨_,_,rfl,h,h2⟩
def FG(K:PySem.W.Frag):List V->Hp->VK->Prop:=λxs H Q=>(∃ p ys,xs=[.ref p]/\(hX K H p ys\/gc K H p ys)/\Q (.int ys.length) H)\/∃ z,xs=[.str z]/\z.length<=sizeLine/\Q (.int z.length) H
theorem zw{X:Cx}:cZ X (.builtin "len") (FG X.K):=cZ.or uk tV
theorem HS{K:PySem.W.Frag}:kv E (FG K) dj:=by
 intro σ Hs H ps vs Q s r h
 match ps,r with
 | [],_=>exact h.elim
 | _::_::_,_=>exact h.elim
 | [p],r =>
  obtain⟨v,rfl,rp⟩:=r.one
  cases hp:cH p with
  | none =>
   cases p with
   | str z =>
    cases rp
    obtain⟨hz,h⟩:=az.cP h
    exact .inr ⟨z,rfl,hz,dS.flat h s (.int _)⟩
   | tup _=>cases hp
   | lst _=>cases hp
   | jW _=>cases hp
   | _=>exact h.elim
  | some xs =>
   obtain⟨a,us,rfl,hq,hx⟩:=xt (K:=K) s rp hp
   have h':az (dZ ((cH p).map λxs=>PV.int xs.length)) (dS Hs H Q) (XW (E σ) Hs H):=by
    cases p with
    | str z=>cases hp
    | _=>exact h
   rw[hp] at h'
   refine .inl ⟨a,us,rfl,hq,?_⟩
   rw[← hx.length]
   exact dS.flat h' s (.int _)
def yq:List PV->M PV
 | [p]=>dZ ((cH p).map .lst)
 | _=>none
theorem DT{K:PySem.W.Frag}:kv E (λxs H Q=>∃ p ys,xs=[.ref p]/\(hX K H p ys\/gc K H p ys)/\∀ l,H l=none->Q (.ref l) (upd H l (.lst ys))) yq:=by
 intro σ Hs H ps vs Q s r h
 match ps,r with
 | [],_=>exact h.elim
 | _::_::_,_=>exact h.elim
 | [p],r =>
  obtain⟨v,rfl,rp⟩:=r.one
  obtain⟨x,ex,h⟩:=az.opt h
  obtain⟨xs,hp,rfl⟩:=Option.map_eq_some_iff.mp ex
  obtain⟨a,us,rfl,hq,hx⟩:=xt (K:=K) s rp hp
  exact⟨a,us,rfl,hq,dS.lst h s hx⟩
def cx:List PV->M PV
 | [p]=>dZ ((cH p).map .tup)
 | _=>none
theorem Bc{K:PySem.W.Frag}:kv E (λxs H Q=>∃ p ys,xs=[.ref p]/\((hX K H p ys/\∀ l,H l=none->Q (.ref l) (upd H l (.tup ys)))\/(gc K H p ys/\Q (.ref p) H))) cx:=by
 intro σ Hs H ps vs Q s r h
 match ps,r with
 | [],_=>exact h.elim
 | _::_::_,_=>exact h.elim
 | [p],r =>
  obtain⟨v,rfl,rp⟩:=r.one
  obtain⟨x,ex,h⟩:=az.opt h
  obtain⟨xs,hp,rfl⟩:=Option.map_eq_some_iff.mp ex
  cases rp with
  | tup ha hx=>cases hp;exact⟨_,_,rfl,.inr ⟨gc.of (s _ _ ha),dS.flat h s (.tup ha hx)⟩⟩
  | lst ha hx=>cases hp;exact⟨_,_,rfl,.inl ⟨hX.of (s _ _ ha),dS.tup h s hx⟩⟩
  | jW ha hx=>cases hp;exact⟨_,_,rfl,.inl ⟨.inl (.inr ⟨_,s _ _ ha⟩),dS.tup h s hx⟩⟩
  | _=>cases hp
def lp:List PV->Option (List Int)
 | []=>some []
 | .int i::r=>(lp r).map (i::·)
 | _=>none
def xw:List PV->Option (List Bool)
 | []=>some []
 | .bl i::r=>(xw r).map (i::·)
 | _=>none
theorem uw:∀ {ps:List PV} {ns:List Int},lp ps=some ns->ps=ns.map PV.int
 | [],_,e=>by cases e;rfl
 | .int i::r,_,e=>by
  obtain⟨ms,h1,rfl⟩:=Option.map_eq_some_iff.mp e
  rw[uw h1];rfl
theorem xr:∀ {ps:List PV} {ns:List Bool},xw ps=some ns->ps=ns.map PV.bl
 | [],_,e=>by cases e;rfl
 | .bl i::r,_,e=>by
  obtain⟨ms,h1,rfl⟩:=Option.map_eq_some_iff.mp e
  rw[xr h1];rfl
theorem nI:∀ (ns:List Int),lp (ns.map PV.int)=some ns
 | []=>rfl
 | n::r=>by show (lp (r.map PV.int)).map (n::·)=_;rw[nI r];rfl
theorem pG:∀ (ns:List Bool),xw (ns.map PV.bl)=some ns
 | []=>rfl
 | n::r=>by show (xw (r.map PV.bl)).map (n::·)=_;rw[pG r];rfl
def JF:PV->M PV
 | .lst xs=>dZ ((lp xs).map λns=>.int ns.sum)
 | _=>none
def qN:List PV->M PV
 | [p]=>JF p
 | _=>none
theorem IE{K:PySem.W.Frag}:kv E (λxs H Q=>∃ (a:Addr) (ns:List Int),xs=[.ref a]/\hX K H a (ns.map V.int)/\Q (.int ns.sum) H) qN:=by
 intro σ Hs H ps vs Q s r h
 match ps,r with
 | [],_=>exact h.elim
 | _::_::_,_=>exact h.elim
 | [p],r =>
  obtain⟨v,rfl,rp⟩:=r.one
  cases rp with
  | lst ha hx =>
   obtain⟨x,ex,h⟩:=az.opt h
   obtain⟨ns,hn,rfl⟩:=Option.map_eq_some_iff.mp ex
   rw[uw hn] at hx
   exact⟨_,ns,rfl,hx.ints▸hX.of (s _ _ ha),dS.flat h s (.int _)⟩
  | _=>exact h.elim
def all1:PV->M PV
 | .lst xs=>dZ ((xw xs).map λns=>.bl (ns.all id))
 | _=>none
def vZ:List PV->M PV
 | [p]=>all1 p
 | _=>none
theorem GS{K:PySem.W.Frag}:kv E (λxs H Q=>∃ (a:Addr) (bs:List Bool),xs=[.ref a]/\hX K H a (bs.map V.bl)/\Q (.bl (bs.all id)) H) vZ:=by
 intro σ Hs H ps vs Q s r h
 match ps,r with
 | [],_=>exact h.elim
 | _::_::_,_=>exact h.elim
 | [p],r =>
  obtain⟨v,rfl,rp⟩:=r.one
  cases rp with
  | lst ha hx =>
   obtain⟨x,ex,h⟩:=az.opt h
   obtain⟨ns,hn,rfl⟩:=Option.map_eq_some_iff.mp ex
   rw[xr hn] at hx
   exact⟨_,ns,rfl,hx.JY▸hX.of (s _ _ ha),dS.flat h s (.bl _)⟩
  | _=>exact h.elim
def Lq(o:Int->Int->Int):PV->PV->M PV
 | .int i,.int j=>M.ok (.int (o i j))
 | _,_=>none
def yz(o:Int->Int->Int):List PV->M PV
 | [p,q]=>Lq o p q
 | _=>none
theorem yO{o:Int->Int->Int}:kv E (λxs H Q=>∃ i j,xs=[.int i,.int j]/\Q (.int (o i j)) H) (yz o):=by
 intro σ Hs H ps vs Q s r h
 match ps,r with
 | [],_=>exact h.elim
 | [_],_=>exact h.elim
 | _::_::_::_,_=>exact h.elim
 | [p,q],r =>
  obtain⟨v,u,rfl,rp,rq⟩:=r.two
  cases rp with
  | int i=>cases rq with
   | int j=>exact⟨i,j,rfl,dS.flat h s (.int _)⟩
   | _=>exact h.elim
  | _=>exact h.elim
end
def cW(n:Nat)(sem:List PV->M PV):Sp:=λvs H Q E=>vs.length=n/\∃ Hs ps,bu Hs H/\aW Hs ps vs/\az (sem ps) (dS Hs H Q) (XW E Hs H)
section
variable{X:Cx}{E:St->XK}{k n:Nat}{f C:Addr}{fd:FuncData}{ps:List Str}{sem:List PV->M PV}{x m:Str}{p pos apos:Pos}{e o:Expr}{es:List Expr}{fs:af->M (List PV)}{g:af->M PV}
theorem EV{ds:List Value}{N7:List V}{OV:List PV}(F:aO X.prog X.w X.K X.mg X.base (bG X.prog X.w) k f fd ps (cW n sem))(hr:cJ k X.A)(hg:Gl X x)(hm:X.mg x=some (.ref f))(hk:PySem.W.keepIn X.K (.ref f)=true)(hb:Binds X.K fd ps ds)(hd:Vals N7 ds)(hdp:∀ H,aW H OV N7)(O:fg X E)
  (hl:∀ ps,sem (ps++OV)≠none->ps.length+OV.length=n)
  (ha:PA X (e::es) (tL E fs)) (Oo:autoParam ((x==("__debug__" : Str))=false) aD._auto_1) (he:autoParam (starEach (e::es) X.env=(false,eval e X.env)::starEach es X.env) aR._auto_1) (NQ:autoParam ((backTo pos (starEach es X.env)).any (·.1)=false) aR._auto_1) :
  PE X (.Call (.Name x p) (e::es) [] pos) (tE E (ai (λps=>sem (ps++OV)) fs)):=by
 refine(AL F hr hg hm hk hb hd O ha Oo he NQ).imp fun σ H Q q=>dC (K:=jU Q) jU.g q λB H₀ Hs H1 env O6 v sr rp hp=>?_
 have r2:aW Hs (O6++OV) (v++N7):=rp.append (hdp Hs)
 have hn:sem (O6++OV)≠none:=λz=>by rw[z] at hp;exact hp
 refine⟨?_,Hs,O6++OV,sr.gr.sub,r2,hp⟩
 rw[← r2.length,List.length_append]
 exact hl O6 hn
def dy(ok:Addr->Bool)(f:Str)(g:af->M PV):af->M PV:=λenv=>(g env).bind λp=>match p with
 | .obj C fs=>cP (ok C=true) (dZ (fs.lookup f))
 | _=>none
theorem IP{ok:Addr->Bool}{fl:Str}(he:PE X e (tE E g))(bJ:∀ C,ok C=true->kE X.K C/\bH X.K C fl)(hb:attributeBase e fl X.env (eval e X.env)=eval e X.env):PE X (.Attribute e fl pos) (tE E (dy ok fl g)):=by
 refine(HB he hb).imp fun σ H Q q=>bQ (K:=jU Q) jU.g q λB H₀ Hs H1 env p v sr rp hp=>?_
 cases rp with
 | obj ha hx =>
  obtain⟨hc,hp⟩:=az.cP hp
  obtain⟨x,ex,hp⟩:=az.opt hp
  obtain⟨u,h1,h2⟩:=hx.look ex
  exact⟨_,_,_,_,u,rfl,sr.gr.sub _ _ ha,(bJ _ hc).1,(bJ _ hc).2,h1,dS.flat hp sr.gr.sub h2⟩
 | _=>exact hp.elim
def bD(C:Addr)(m:Str)(sem:List PV->M PV)(g:af->M PV)(fs:af->M (List PV)):af->M PV:=λenv=>(g env).bind λp=>match p with
 | .obj C' fl=>cP (C'=C/\fl.lookup m=none) ((fs env).bind λps=>sem (.obj C' fl::ps))
 | _=>none
theorem DQ{pl:Sem Bool}(he:PE X o (tE E g))(c:kE X.K C)(hm:Meth X.K C m f)(F:aO X.prog X.w X.K X.mg X.base (bG X.prog X.w) k f fd ps (cW n sem))(hr:cJ k X.A)(hb:Binds X.K fd ps [])(O:fg X E)(hl:∀ ps,sem ps≠none->ps.length=n)(ha:PA X (e::es) (tL E fs))
  (NU:autoParam (starEach (e::es) X.env=(false,eval e X.env)::starEach es X.env) aR._auto_1) (NQ:autoParam ((backTo pos (starEach es X.env)).any (·.1)=false) aR._auto_1)
  (ht:autoParam (eval (.Call (.Attribute o m apos) (e::es) [] pos) X.env=(do
   let ov ← eval o X.env
   standAt apos.atName
   let (f,first) ← holding [ov] (getMethod ov m pl)
   callWith pos f first (backTo pos (starEach (e::es) X.env)) (backToKw pos (keywordEach [] X.env)))) aR._auto_1) :
  PE X (.Call (.Attribute o m apos) (e::es) [] pos) (tE E (bD C m sem g fs)):=by
 refine(CP he c hm F hr hb .nil O ha NU NQ ht).imp fun σ H Q q=>bQ (K:=jU Q) jU.g q λB H₀ Hs H1 env p v sr rp hp=>?_
 cases rp with
 | @obj a C' dx fl fvs ho hx =>
  obtain⟨⟨e1,hn⟩,I_⟩:=az.cP hp
  subst e1
  refine⟨a,dx,fvs,rfl,sr.gr.sub _ _ ho,hx.none hn,B,H₀,Hs,env,sr,(az.bind I_).imp (λO6 Rc vs Nr H' g' r=>?_) λe he=>he⟩
  have r2:aW Nr (.obj C' fl::O6) (V.ref a::(vs++[])):=by rw[List.append_nil];exact .cons ((Rep.obj ho hx).mono g'.st) r
  have hn:sem (.obj C' fl::O6)≠none:=λz=>by rw[z] at Rc;exact Rc
  refine⟨by rw[← r2.length];exact hl _ hn,Nr,_,g'.sub,r2,Rc.imp (λz hz w NC H2 g2 r2=>hz w NC H2 (g'.trans g2) r2) λe he=>he.grow g'⟩
 | _=>exact hp.elim
theorem C_{pl:Sem Bool}(he:PE X o (tE E g))(c:kE X.K C)(hm:Meth X.K C m f)(F:aO X.prog X.w X.K X.mg X.base (bG X.prog X.w) k f fd ps (cW n sem))(hr:cJ k X.A)(hb:Binds X.K fd ps [])(O:fg X E)(hl:∀ ps,sem ps≠none->ps.length=n)
  (ht:autoParam (eval (.Call (.Attribute o m apos) [] [] pos) X.env=(do
   let ov ← eval o X.env
   standAt apos.atName
   let (f,first) ← holding [ov] (getMethod ov m pl)
   callWith pos f first (backTo pos (starEach [] X.env)) (backToKw pos (keywordEach [] X.env)))) aR._auto_1) :
  PE X (.Call (.Attribute o m apos) [] [] pos) (tE E (bD C m sem g aj)):=by
 refine(zW he c hm F hr hb .nil O ht).imp fun σ H Q q=>bQ (K:=jU Q) jU.g q λB H₀ Hs H1 env p v sr rp hp=>?_
 cases rp with
 | @obj a C' dx fl fvs ho hx =>
  obtain⟨⟨e1,hn⟩,I_⟩:=az.cP hp
  subst e1
  have r2:aW Hs [.obj C' fl] [V.ref a]:=.cons (Rep.obj ho hx) .nil
  have hn':sem [.obj C' fl]≠none:=λz=>by
   have QC:az (sem [.obj C' fl]) (dS Hs H1 Q) (XW (E σ) Hs H1):=I_
   rw[z] at QC;exact QC
  exact⟨a,dx,fvs,rfl,sr.gr.sub _ _ ho,hx.none hn,by rw[show ([]:List V)++[]=[] from rfl];exact r2.length▸hl _ hn',Hs,_,sr.gr.sub,r2,I_⟩
 | _=>exact hp.elim
end
end L2
namespace L2
open PySem PySem.Spec PyProof.Rows
inductive Out where
 | nx (env:af) | rt (p:PV) | bk (env:af) | ct (env:af)
def KS(D:Ends)(B H₀:Hp):Out->Prop
 | .nx env=>∀ σ Hs H,SR B H₀ Hs H σ env->D.nx σ H
 | .rt p=>∀ v Hs H,bN B H₀ Hs H->Rep Hs p v->D.rt v H
 | .bk env=>∀ σ Hs H,SR B H₀ Hs H σ env->D.bk σ H
 | .ct env=>∀ σ Hs H,SR B H₀ Hs H σ env->D.ct σ H
def tS(E:XK)(f:af->M Out):TS:=λD σ H=>∃ B H₀ Hs env,SR B H₀ Hs H σ env/\az (f env) (KS D B H₀) (XW E B H₀)
theorem PS.imp{X:Cx}{st:Stmt}{t t':TS}(h:PS X st t)(i:∀ D σ H,t' D σ H->t D σ H):PS X st t':=λNm s σ H D I q=>h Nm s σ H D I (i D σ H q)
theorem mL.imp{X:Cx}{st:List Stmt}{t t':TS}(h:mL X st t)(i:∀ D σ H,t' D σ H->t D σ H):mL X st t':=λNm s σ H D I q=>h Nm s σ H D I (i D σ H q)
def ar:af->M Out:=λenv=>M.ok (.nx env)
def AK(g:af->M Out):Out->M Out
 | .nx env=>g env
 | o=>M.ok o
noncomputable def aq(f g:af->M Out):af->M Out:=λenv=>(f env).bind (AK g)
theorem kr{E:XK}{f:af->M PV}{g:af->PV->M Out}{D:Ends}{σ:St}{H:Hp}{R:VK}(h:tS E (λenv=>(f env).bind (g env)) D σ H)
  (k:∀ B H₀ Hs H1 env p v,SR B H₀ Hs H1 σ env->Rep Hs p v->az (g env p) (KS D B H₀) (XW E B H₀)->R v H1):tE (λ_=>E) f σ H R:=by
 obtain⟨B,H₀,Hs,env,sr,h⟩:=h
 refine⟨B,H₀,Hs,env,sr,(az.bind h).imp (λp hp v Nr H' g r=>?_) λe he=>he.grow sr.gr⟩
 exact k B H₀ Nr H' env p v (sr.grow g) r hp
theorem CY{E:XK}{f:af->M Bool}{g:af->Bool->M Out}{D:Ends}{σ:St}{H:Hp}{R:Bool->Hp->Prop}(h:tS E (λenv=>(f env).bind (g env)) D σ H)
  (k:∀ B H₀ Hs H1 env p,SR B H₀ Hs H1 σ env->az (g env p) (KS D B H₀) (XW E B H₀)->R p H1):tT (λ_=>E) f σ H R:=by
 obtain⟨B,H₀,Hs,env,sr,h⟩:=h
 refine⟨B,H₀,Hs,env,sr,(az.bind h).imp (λp hp Nr H' g=>?_) λe he=>he.grow sr.gr⟩
 exact k B H₀ Nr H' env p (sr.grow g) hp
theorem pQ{E:XK}{f:af->M (List PV)}{g:af->List PV->M Out}{D:Ends}{σ:St}{H:Hp}{R:List V->Hp->Prop}(h:tS E (λenv=>(f env).bind (g env)) D σ H)
  (k:∀ B H₀ Hs H1 env p v,SR B H₀ Hs H1 σ env->aW Hs p v->az (g env p) (KS D B H₀) (XW E B H₀)->R v H1):tL (λ_=>E) f σ H R:=by
 obtain⟨B,H₀,Hs,env,sr,h⟩:=h
 refine⟨B,H₀,Hs,env,sr,(az.bind h).imp (λp hp v Nr H' g r=>?_) λe he=>he.grow sr.gr⟩
 exact k B H₀ Nr H' env p v (sr.grow g) r hp
theorem SR.set{B H₀ Hs H:Hp}{σ:St}{env:af}{p:PV}{v:V}{i:Nat}(r:SR B H₀ Hs H σ env)(h:Rep Hs p v):SR B H₀ Hs H (σ.set i (some v)) (env.set i (some (.sh p))) where
 gr:=r.gr
 len:=by rw[List.length_set,List.length_set];exact r.len
 sh:=λj q e=>by
  rw[List.getElem?_set] at e ⊢
  by_cases z:i=j
  ·subst z
   rw[if_pos rfl] at e ⊢
   split at e
   ·cases e
    rw[if_pos (by rw[r.len];assumption)]
    exact⟨v,rfl,h⟩
   ·cases e
  ·rw[if_neg z] at e ⊢
   exact r.sh j q e
 ow:=λj xs e=>by
  rw[List.getElem?_set] at e ⊢
  by_cases z:i=j
  ·subst z
   rw[if_pos rfl] at e
   split at e <;> cases e
  ·rw[if_neg z] at e ⊢
   exact r.ow j xs e
 sep:=λj k xs ys a n e1 e2 e3 e4=>by
  rw[List.getElem?_set] at e1 e2 e3 e4
  by_cases z:i=j
  ·subst z
   rw[if_pos rfl] at e1
   split at e1 <;> cases e1
  ·by_cases z2:i=k
   ·subst z2
    rw[if_pos rfl] at e2
    split at e2 <;> cases e2
   ·rw[if_neg z] at e1 e3
    rw[if_neg z2] at e2 e4
    exact r.sep j k xs ys a n e1 e2 e3 e4
 bd:=λj a C fs e=>by
  rw[List.getElem?_set] at e ⊢
  by_cases z:i=j
  ·subst z
   rw[if_pos rfl] at e
   split at e <;> cases e
  ·rw[if_neg z] at e ⊢
   exact r.bd j a C fs e
 one:=λj k a b C D fs gs e1 e2=>by
  rw[List.getElem?_set] at e1 e2
  by_cases z:i=j
  ·subst z
   rw[if_pos rfl] at e1
   split at e1 <;> cases e1
  ·by_cases z2:i=k
   ·subst z2
    rw[if_pos rfl] at e2
    split at e2 <;> cases e2
   ·rw[if_neg z] at e1
    rw[if_neg z2] at e2
    exact r.one j k _ _ C D fs gs e1 e2
theorem SR.own{B H₀ Hs H:Hp}{σ:St}{env:af}{xs:List PV}{vs:List V}{i:Nat}{p:Addr}(r:SR B H₀ Hs H σ env)(h:aW Hs xs vs)(n:H p=none):SR B H₀ Hs (upd H p (.lst vs)) (σ.set i (some (.ref p))) (env.set i (some (.ow xs))):=by
 have ne:∀ c u,H c=some u->c≠p:=λc u e z=>by rw[z,n] at e;cases e
 have hs:Hs p=none:=by
  cases q:Hs p with
  | none=>rfl
  | some o=>have:=r.gr.sub _ _ q;rw[n] at this;cases this
 have h0:H₀ p=none:=by
  cases q:H₀ p with
  | none=>rfl
  | some o=>have:=r.gr.al _ _ q;rw[n] at this;cases this
 refine⟨⟨r.gr.st,λc u e=>by rw[aw (ne c u (r.gr.al c u e))];exact r.gr.al c u e,λc u e=>by rw[aw (ne c u (r.gr.sub c u e))];exact r.gr.sub c u e,r.gr.nw⟩,by rw[List.length_set,List.length_set];exact r.len,λj q e=>?_,λj ys e=>?_,λj k ys zs a nj e1 e2 e3 e4=>?_,λj ba C fs e=>?_,λj k _ _ C D fs gs e1 e2=>?_⟩
 ·rw[List.getElem?_set] at e ⊢
  by_cases z:i=j
  ·subst z
   rw[if_pos rfl] at e
   split at e <;> cases e
  ·rw[if_neg z] at e ⊢
   exact r.sh j q e
 ·rw[List.getElem?_set] at e ⊢
  by_cases z:i=j
  ·subst z
   rw[if_pos rfl] at e ⊢
   split at e
   ·cases e
    rw[if_pos (by rw[r.len];assumption)]
    exact⟨p,vs,rfl,aE,hs,h0,h⟩
   ·cases e
  ·rw[if_neg z] at e ⊢
   obtain⟨a,us,h1,h2,h3,h4,h5⟩:=r.ow j ys e
   exact⟨a,us,h1,by rw[aw (ne a _ h2)];exact h2,h3,h4,h5⟩
 ·rw[List.getElem?_set] at e1 e2 e3 e4
  by_cases z:i=j
  ·subst z
   rw[if_pos rfl] at e3
   split at e3
   ·cases e3
    rw[if_neg nj] at e2 e4
    obtain⟨a',us,h1,h2,_⟩:=r.ow k zs e2
    rw[e4] at h1;cases h1
    rw[n] at h2;cases h2
   ·cases e3
  ·rw[if_neg z] at e1 e3
   by_cases z2:i=k
   ·subst z2
    rw[if_pos rfl] at e4
    split at e4
    ·cases e4
     obtain⟨a',us,h1,h2,_⟩:=r.ow j ys e1
     rw[e3] at h1;cases h1
     rw[n] at h2;cases h2
    ·cases e4
   ·rw[if_neg z2] at e2 e4
    exact r.sep j k ys zs a nj e1 e2 e3 e4
 ·rw[List.getElem?_set] at e ⊢
  by_cases z:i=j
  ·subst z
   rw[if_pos rfl] at e
   split at e <;> cases e
  ·rw[if_neg z] at e ⊢
   obtain⟨dx,us,h1,h2,h3,h4,h5⟩:=r.bd j ba C fs e
   exact⟨dx,us,h1,by rw[aw (ne ba _ h2)];exact h2,h3,h4,h5⟩
 ·rw[List.getElem?_set] at e1 e2
  by_cases z:i=j
  ·subst z
   rw[if_pos rfl] at e1
   split at e1 <;> cases e1
  ·by_cases z2:i=k
   ·subst z2
    rw[if_pos rfl] at e2
    split at e2 <;> cases e2
   ·rw[if_neg z] at e1
    rw[if_neg z2] at e2
    exact r.one j k _ _ C D fs gs e1 e2
def ni(i:Nat)(env:af):af:=match env[i]? with
 | some (some (.ow xs))=>env.set i (some (.sh (.lst xs)))
 | _=>env
theorem SR.rN{B H₀ Hs H:Hp}{σ:St}{env:af}(i:Nat)(r:SR B H₀ Hs H σ env):∃ Nr,SR B H₀ Nr H σ (ni i env)/\bu Hs Nr:=by
 unfold ni
 split
 ·rename_i xs e
  obtain⟨a,vs,h1,h2,h3,h4,h5⟩:=r.ow i xs e
  have ne:∀ c u,Hs c=some u->c≠a:=λc u q z=>by rw[z,h3] at q;cases q
  have NU:bu Hs (upd Hs a (.lst vs)):=λc u q=>by rw[aw (ne c u q)];exact q
  refine⟨upd Hs a (.lst vs),⟨⟨λc u q=>NU c u (r.gr.st c u q),r.gr.al,λc u q=>?_,λc u q1 q2=>?_⟩,by rw[List.length_set];exact r.len,λj q ej=>?_,λj ys ej=>?_,λj k ys zs b nj e1 e2 e3 e4=>?_,λj ba C fs ej=>?_,λj k _ _ C D fs gs e1 e2=>?_⟩,NU⟩
  ·by_cases z:c=a
   ·subst z;rw[aE] at q;cases q;exact h2
   ·rw[aw z] at q;exact r.gr.sub c u q
  ·have z:c≠a:=λz=>by rw[z,h4] at q2;cases q2
   rw[aw z];exact r.gr.nw c u q1 q2
  ·rw[List.getElem?_set] at ej
   by_cases z:i=j
   ·subst z
    rw[if_pos rfl] at ej
    split at ej
    ·cases ej
     exact⟨.ref a,h1,.lst aE (h5.mono NU)⟩
    ·cases ej
   ·rw[if_neg z] at ej
    obtain⟨v,q1,q2⟩:=r.sh j q ej
    exact⟨v,q1,q2.mono NU⟩
  ·rw[List.getElem?_set] at ej
   by_cases z:i=j
   ·subst z
    rw[if_pos rfl] at ej
    split at ej <;> cases ej
   ·rw[if_neg z] at ej
    obtain⟨b,us,q1,q2,q3,q4,q5⟩:=r.ow j ys ej
    have nb:b≠a:=λw=>by subst w;exact r.sep i j xs ys b z e ej h1 q1
    exact⟨b,us,q1,q2,by rw[aw nb];exact q3,q4,q5.mono NU⟩
  ·rw[List.getElem?_set] at e1 e2
   by_cases z:i=j
   ·subst z
    rw[if_pos rfl] at e1
    split at e1 <;> cases e1
   ·by_cases z2:i=k
    ·subst z2
     rw[if_pos rfl] at e2
     split at e2 <;> cases e2
    ·rw[if_neg z] at e1
     rw[if_neg z2] at e2
     exact r.sep j k ys zs b nj e1 e2 e3 e4
  ·rw[List.getElem?_set] at ej
   by_cases z:i=j
   ·subst z
    rw[if_pos rfl] at ej
    split at ej <;> cases ej
   ·rw[if_neg z] at ej
    obtain⟨dx,us,q1,q2,q3,q4,q5⟩:=r.bd j ba C fs ej
    have nb:ba≠a:=λw=>by subst w;rw[h2] at q2;cases q2
    exact⟨dx,us,q1,q2,by rw[aw nb];exact q3,q4,q5.mono NU⟩
  ·rw[List.getElem?_set] at e1 e2
   by_cases z:i=j
   ·subst z
    rw[if_pos rfl] at e1
    split at e1 <;> cases e1
   ·by_cases z2:i=k
    ·subst z2
     rw[if_pos rfl] at e2
     split at e2 <;> cases e2
    ·rw[if_neg z] at e1
     rw[if_neg z2] at e2
     exact r.one j k _ _ C D fs gs e1 e2
 ·exact⟨Hs,r,λ_ _ q=>q⟩
def um(is:List Nat)(f:af->M Out):af->M Out:=λenv=>f (is.foldl (λe i=>ni i e) env)
theorem SR.nA{B H₀ H:Hp}{σ:St}:∀ {is:List Nat} {Hs:Hp} {env:af},SR B H₀ Hs H σ env->∃ Nr,SR B H₀ Nr H σ (is.foldl (λe i=>ni i e) env)/\bu Hs Nr
 | [],Hs,_,r=>⟨Hs,r,λ_ _ q=>q⟩
 | i::is,_,_,r=>by
  obtain⟨NA,r1,s1⟩:=r.rN i
  obtain⟨NC,r2,s2⟩:=SR.nA (is:=is) r1
  exact⟨NC,r2,λc u q=>s2 c u (s1 c u q)⟩
section
variable{X:Cx}{E:XK}{e:Expr}{pos pos':Pos}{f:af->M PV}{st:Stmt}{sts rest:List Stmt}{u:af->M Bool}{g h:af->M Out}{i:Nat}{x:Str}
theorem Iw(is:List Nat)(hs:PS X st (tS E g)):PS X st (tS E (um is g)):=hs.imp λD σ H q=>by
 obtain⟨B,H₀,Hs,env,sr,q⟩:=q
 obtain⟨Nr,r,_⟩:=sr.nA (is:=is)
 exact⟨B,H₀,Nr,_,r,q⟩
theorem EA:mL X [] (tS E ar):=Ed.imp λD σ H q=>by
 obtain⟨B,H₀,Hs,env,sr,q⟩:=q
 exact q σ Hs H sr
theorem Cu(h1:PS X st (tS E g))(h2:mL X rest (tS E h)):mL X (st::rest) (tS E (aq g h)):=by
 refine(AE h1 h2).imp λD σ H q=>?_
 obtain⟨B,H₀,Hs,env,sr,q⟩:=q
 refine⟨B,H₀,Hs,env,sr,(az.bind q).imp (λo ho=>?_) λe he=>he⟩
 cases o with
 | nx Nq=>exact fun σ' Nr H' Pd=>⟨B,H₀,Nr,Nq,Pd,ho⟩
 | rt p=>exact ho
 | bk Nq=>exact ho
 | ct Nq=>exact ho
def aX(i:Nat)(f:af->M PV):af->M Out:=λenv=>(f env).bind λp=>M.ok (.nx (env.set i (some (.sh p))))
theorem HE{pos':Pos}(hN:X.N.Nodup)(hi:X.N[i]?=some x)(hx:Loc X.env.scope x)(he:PE X e (tE (λ_=>E) f))(hs:autoParam (swapsWith e (some (.Name x pos')) pos.line X.env=pure false) aR._auto_1)(hf:autoParam (X.fn x=true\/X.env.scope.names.lookup x=some .local) aF._auto_1) :
  PS X (.Assign [.Name x pos'] e pos) (tS E (aX i f)) :=
 (BO hN hi hx he hs hf).imp λD σ H q=>kr q λB H₀ Hs H1 env p v sr rp hp=>hp _ Hs H1 (sr.set rp)
def retS(f:af->M PV):af->M Out:=λenv=>(f env).bind λp=>M.ok (.rt p)
theorem G7(he:PE X e (tE (λ_=>E) f)):PS X (.Return (some e) pos) (tS E (retS f)) :=
 (H_ he).imp λD σ H q=>kr q λB H₀ Hs H1 env p v sr rp hp=>hp v Hs H1 sr.gr rp
def jN(f:af->M PV):af->M Out:=λenv=>(f env).bind λ_=>M.ok (.nx env)
theorem Fi(he:PE X e (tE (λ_=>E) f))(hs:autoParam (swapsWith e none pos.line X.env=pure false) aR._auto_1):PS X (.Expr e pos) (tS E (jN f)) :=
 (yD he hs).imp λD σ H q=>kr q λB H₀ Hs H1 env p v sr rp hp=>hp σ Hs H1 sr
def iO(u:af->M Bool)(g h:af->M Out):af->M Out:=λenv=>(u env).bind λb=>if b=true then g env else h env
theorem Ka{c:Expr}{a b:List Stmt}(hc:PT X c (tT (λ_=>E) u))(ha:mL X a (tS E g))(hb:mL X b (tS E h)):PS X (.If c a b pos) (tS E (iO u g h)):=by
 refine(JE hc ha hb).imp λD σ H q=>CY q λB H₀ Hs H1 env p sr hp=>?_
 cases p with
 | true=>exact⟨B,H₀,Hs,env,sr,hp⟩
 | false=>exact⟨B,H₀,Hs,env,sr,hp⟩
end
end L2
namespace L2
open PySem PySem.Spec PyProof.Rows
def ov(Hs H₀:Hp):Hp:=λa=>match Hs a with
 | some o=>some o
 | none=>H₀ a
theorem o_{Hs H₀:Hp}{a:Addr}{o:HO}(h:Hs a=some o):ov Hs H₀ a=some o:=by unfold ov;rw[h]
theorem jE{Hs H₀:Hp}{a:Addr}(h:Hs a=none):ov Hs H₀ a=H₀ a:=by unfold ov;rw[h]
theorem Ei{Hs H₀ H:Hp}(s:bu Hs H)(t:bu H₀ H):bu (ov Hs H₀) H:=λa o e=>by
 cases q:Hs a with
 | some o'=>rw[o_ q] at e;cases e;exact s _ _ q
 | none=>rw[jE q] at e;exact t _ _ e
theorem SR.rebase{B H₀ Hs H:Hp}{σ:St}{env:af}(r:SR B H₀ Hs H σ env):SR Hs (ov Hs H₀) Hs H σ env where
 gr:=⟨λ_ _ e=>e,Ei r.gr.sub r.gr.al,r.gr.sub,λ_ _ e _=>e⟩
 len:=r.len
 sh:=r.sh
 ow:=λi xs e=>let ⟨a,vs,h1,h2,h3,h4,h5⟩:=r.ow i xs e;⟨a,vs,h1,h2,h3,by rw[jE h3];exact h4,h5⟩
 sep:=r.sep
 bd:=λi a C fs e=>let ⟨dx,vs,h1,h2,h3,h4,h5⟩:=r.bd i a C fs e;⟨dx,vs,h1,h2,h3,by rw[jE h3];exact h4,h5⟩
 one:=r.one
theorem bN.lQ{B H₀ Hs H NC H2:Hp}(g:bN B H₀ Hs H)(g2:bN Hs (ov Hs H₀) NC H2):bN B H₀ NC H2 where
 st:=λa o e=>g2.st a o (g.st a o e)
 al:=λa o e=>by
  cases q:Hs a with
  | some o' =>
   have h1:=g.sub a o' q
   have h2:=g.al a o e
   rw[h1] at h2;cases h2
   exact g2.al a _ (o_ q)
  | none=>exact g2.al a o (by rw[jE q];exact e)
 sub:=g2.sub
 nw:=λa o e q=>by
  have h1:=g.nw a o e q
  exact g2.nw a o h1 (by rw[jE h1];exact q)
theorem SR.lQ{B H₀ Hs H NC H2:Hp}{σ:St}{env:af}(g:bN B H₀ Hs H)(r:SR Hs (ov Hs H₀) NC H2 σ env):SR B H₀ NC H2 σ env where
 gr:=g.lQ r.gr
 len:=r.len
 sh:=r.sh
 ow:=λi xs e=>by
  obtain⟨a,vs,h1,h2,h3,h4,h5⟩:=r.ow i xs e
  refine⟨a,vs,h1,h2,h3,?_,h5⟩
  cases q:Hs a with
  | some o=>rw[o_ q] at h4;cases h4
  | none=>rw[jE q] at h4;exact h4
 sep:=r.sep
 bd:=λi a C fs e=>by
  obtain⟨dx,vs,h1,h2,h3,h4,h5⟩:=r.bd i a C fs e
  refine⟨dx,vs,h1,h2,h3,?_,h5⟩
  cases q:Hs a with
  | some o=>rw[o_ q] at h4;cases h4
  | none=>rw[jE q] at h4;exact h4
 one:=r.one
theorem XW.rebase{E:XK}{B H₀ Hs H:Hp}(g:bN B H₀ Hs H){x:EX}(h:XW E B H₀ x):XW E Hs (ov Hs H₀) x:=λea NC H2 r q=>h ea NC H2 (g.lQ r) q
def KJ(k:af->M Out):Out->M Out
 | .nx env=>k env
 | .ct env=>k env
 | .bk env=>M.ok (.nx env)
 | .rt p=>M.ok (.rt p)
def lj(set:PV->af->M af)(body:af->M Out):List PV->af->M Out
 | [],env=>M.ok (.nx env)
 | x::xs,env=>(set x env).bind λNq=>(body Nq).bind (KJ (lj set body xs))
def Dj(E:XK)(g:TG)(set:PV->af->M af):Prop:=∀ (B H₀ Hs H:Hp) (σ:St) (env:af) (p:PV) (v:V) (Q:St->Hp->Prop) (Z:EX->Prop),SR B H₀ Hs H σ env->Rep Hs p v->az (set p env) (λNq=>∀ σ',SR B H₀ Hs H σ' Nq->Q σ' H) Z->g v σ H Q
def b_(i:Nat)(p:PV)(env:af):M af:=M.ok (env.set i (some (.sh p)))
theorem bw{E:XK}{i:Nat}:Dj E (aJ i) (b_ i):=λB H₀ Hs H σ env p v Q Z sr r h=>h _ (sr.set r)
def bC(i j:Nat):PV->af->M af
 | .tup [p,q],env=>M.ok ((env.set i (some (.sh p))).set j (some (.sh q)))
 | _,_=>none
theorem cn{E:XK}{K:PySem.W.Frag}{i j:Nat}:Dj E (f6 K 2 (bc (aJ i) (bc (aJ j) f_))) (bC i j):=by
 intro B H₀ Hs H σ env p v Q Z sr r h
 cases r with
 | @tup a xs vs ha hx =>
  match xs,hx with
  | [p,q],hx =>
   obtain⟨v,u,rfl,rp,rq⟩:=hx.two
   exact⟨a,[v,u],rfl,gc.of (sr.gr.sub _ _ ha),rfl,v,[u],rfl,u,[],rfl,rfl,h _ ((sr.set rp).set rq)⟩
  | [],_=>exact h.elim
  | [_],_=>exact h.elim
  | _::_::_::_,_=>exact h.elim
 | _=>exact h.elim
section
variable{E:XK}{g:TG}{set:PV->af->M af}{body:af->M Out}{D:Ends}{B H₀ NA:Hp}{xs:List PV}
def Jv(E:XK)(set:PV->af->M af)(body:af->M Out)(D:Ends)(B H₀ NA:Hp)(xs:List PV)(i:Nat)(σ:St)(H:Hp):Prop:=∃ Hs env,SR B H₀ Hs H σ env/\bu NA Hs/\az (lj set body (xs.drop i) env) (KS D B H₀) (XW E B H₀)
theorem Jv.done{n:Nat}{σ:St}{H:Hp}(j:Jv E set body D B H₀ NA xs n σ H)(hn:xs.length<=n):D.nx σ H:=by
 obtain⟨Hs,env,sr,_,h⟩:=j
 rw[List.drop_eq_nil_of_le hn] at h
 exact h σ Hs H sr
theorem Jv.turn{i:Nat}{σ:St}{H H1 Hx:Hp}{x:PV}{v:V}(tg:Dj E g set)(hx:xs[i]?=some x){Hs:Hp}{env:af}(sr:SR B H₀ Hs H σ env)(s1:bu NA Hs)(h:az (lj set body (xs.drop i) env) (KS D B H₀) (XW E B H₀)){NC H2:Hp}(gr:bN Hs H NC H2)(rv:Rep NC x v) :
  g v σ H2 fun σ2 H3=>tS E body { D with nx:=Jv E set body D B H₀ NA xs (i+1),ct:=Jv E set body D B H₀ NA xs (i+1),bk:=D.nx } σ2 H3:=by
 have N4:i<xs.length:=(List.getElem?_eq_some_iff.mp hx).1
 have hd:xs.drop i=x::xs.drop (i+1):=by
  rw[List.drop_eq_getElem_cons N4]
  rw[List.getElem?_eq_getElem N4] at hx
  rw[Option.some.inj hx]
 rw[hd] at h
 have NT:=sr.grow gr
 refine tg B H₀ NC H2 σ env x v _ _ NT rv ((az.bind h).imp (λNq h' σ' Pd=>?_) λ_ z=>z)
 refine⟨NC,ov NC H₀,NC,Nq,Pd.rebase,(az.bind h').imp (λo ho=>?_) λe he=>he.rebase Pd.gr⟩
 cases o with
 | nx e2=>exact fun σ3 OU H3 r=>⟨OU,e2,r.lQ Pd.gr,λa o z=>r.gr.st a o (gr.st a o (s1 a o z)),ho⟩
 | ct e2=>exact fun σ3 OU H3 r=>⟨OU,e2,r.lQ Pd.gr,λa o z=>r.gr.st a o (gr.st a o (s1 a o z)),ho⟩
 | bk e2=>exact fun σ3 OU H3 r=>ho σ3 OU H3 (r.lQ Pd.gr)
 | rt p=>exact λv3 OU H3 r q=>ho v3 OU H3 (Pd.gr.lQ r) q
end
def iI(it:af->M (List PV))(set:PV->af->M af)(body:af->M Out):af->M Out:=λenv=>(it env).bind λxs=>lj set body xs env
def itemsOf(f:af->M PV):af->M (List PV):=λenv=>(f env).bind λp=>match cH p with | some xs=>M.ok xs | none=>none
theorem jG{K:PySem.W.Frag}{Hs H:Hp}{p:PV}{v:V}{xs:List PV}(s:bu Hs H)(r:Rep Hs p v)(e:cH p=some xs):∃ b a vs,v=.ref a/\(∀ Nr H',bu Hs Nr->bu Nr H'->kG K H' b a vs)/\aW Hs xs vs:=by
 cases r with
 | tup h r=>cases e;exact⟨false,_,_,rfl,λNr H' s1 s2=>gc.of (s2 _ _ (s1 _ _ h)),r⟩
 | lst h r=>cases e;exact⟨true,_,_,rfl,λNr H' s1 s2=>hX.of (s2 _ _ (s1 _ _ h)),r⟩
 | jW h r=>cases e;exact⟨true,_,_,rfl,λNr H' s1 s2=>.inl (.inr ⟨_,s2 _ _ (s1 _ _ h)⟩),r⟩
 | _=>cases e
section
variable{X:Cx}{E:XK}{tg iter:Expr}{pos p:Pos}{f f2:af->M PV}{g:TG}{set:PV->af->M af}{body:af->M Out}{bd:List Stmt}
end
end L2
namespace L2
open PySem PySem.Spec PyProof.Rows
def LG:PV->M (List PV)
 | .int n=>cP (-(2^62)<=n/\n<2^62) (M.ok ((List.range n.toNat).map λ(i:Nat)=>.int (0+(i:Int))))
 | _=>none
def LH:PV->PV->M (List PV)
 | .int a,.int b=>cP (-(2^62)<=a/\a<2^62/\-(2^62)<=b/\b<2^62) (M.ok ((List.range (b-a).toNat).map λ(i:Nat)=>.int (a+(i:Int))))
 | _,_=>none
def p6:List PV->M (List PV)
 | [p]=>LG p
 | _=>none
def zi:List PV->M (List PV)
 | [p,q]=>LH p q
 | _=>none
theorem Ar{ps:List PV}{α:Type}{k:List PV->M α}{Q:α->Prop}{Z:EX->Prop}(h:az ((p6 ps).bind k) Q Z):∃ n:Int,ps=[.int n]/\-(2^62)<=n/\n<2^62/\az (k ((List.range n.toNat).map λ(i:Nat)=>.int (0+(i:Int)))) Q Z:=by
 match ps with
 | []=>exact h.elim
 | _::_::_=>exact h.elim
 | [p] =>
  cases p with
  | int n =>
   obtain⟨hc,h⟩:=az.cP (az.bind h)
   exact⟨n,rfl,hc.1,hc.2,h⟩
  | _=>exact h.elim
theorem Ap{ps:List PV}{α:Type}{k:List PV->M α}{Q:α->Prop}{Z:EX->Prop}(h:az ((zi ps).bind k) Q Z):∃ a b:Int,ps=[.int a,.int b]/\(-(2^62)<=a/\a<2^62/\-(2^62)<=b/\b<2^62)/\az (k ((List.range (b-a).toNat).map λ(i:Nat)=>.int (a+(i:Int)))) Q Z:=by
 match ps with
 | []=>exact h.elim
 | [_]=>exact h.elim
 | _::_::_::_=>exact h.elim
 | [p,q] =>
  cases p with
  | int a=>cases q with
   | int b =>
    obtain⟨hc,h⟩:=az.cP (az.bind h)
    exact⟨a,b,rfl,hc,h⟩
   | _=>exact h.elim
  | _=>exact h.elim
def zip2:List PV->M (List PV)
 | [p,q]=>match cH p,cH q with
  | some xs,some ys=>M.ok (List.zipWith (λa b=>.tup [a,b]) xs ys)
  | _,_=>none
 | _=>none
theorem zY{ps:List PV}{α:Type}{k:List PV->M α}{Q:α->Prop}{Z:EX->Prop}(h:az ((zip2 ps).bind k) Q Z):∃ p q xs ys,ps=[p,q]/\cH p=some xs/\cH q=some ys/\az (k (List.zipWith (λa b=>.tup [a,b]) xs ys)) Q Z:=by
 match ps with
 | []=>exact h.elim
 | [_]=>exact h.elim
 | _::_::_::_=>exact h.elim
 | [p,q] =>
  unfold zip2 at h
  dsimp only at h
  cases e1:cH p with
  | none=>rw[e1] at h;exact h.elim
  | some xs =>
   cases e2:cH q with
   | none=>rw[e1,e2] at h;exact h.elim
   | some ys=>rw[e1,e2] at h;exact⟨p,q,xs,ys,rfl,e1,e2,h⟩
theorem zt{n i:Nat}{f:Nat->PV}(h:i<n):((List.range n).map f)[i]?=some (f i):=by
 rw[List.getElem?_map,List.getElem?_range h];rfl
section
variable{X:Cx}{E:XK}{tg a b l l1 l2:Expr}{pos p tp:Pos}{fs:af->M (List PV)}{g:TG}{set:PV->af->M af}{body:af->M Out}{bd:List Stmt}
end
def KO(Q:VK):Hp->Hp->List PV->Prop:=λHs H ps=>∀ vs p Nr H',bN Hs H Nr H'->aW Nr ps vs->H' p=none->Q (.ref p) (upd H' p (.lst vs))
def tO(E:St->XK)(f:af->M (List PV)):TE:=fun σ H Q=>tG E f (KO Q) σ H
section
variable{X:Cx}{E:XK}{e:Expr}{es:List Expr}{pos pos':Pos}{fs:af->M (List PV)}{f:af->M PV}{i:Nat}{x:Str}
def pZ(i:Nat)(f:af->M (List PV)):af->M Out:=λenv=>(f env).bind λps=>M.ok (.nx (env.set i (some (.ow ps))))
theorem D8{pos':Pos}(hN:X.N.Nodup)(hi:X.N[i]?=some x)(hx:Loc X.env.scope x)(he:PE X e (tO (λ_=>E) fs))(hs:autoParam (swapsWith e (some (.Name x pos')) pos.line X.env=pure false) aR._auto_1)(hf:autoParam (X.fn x=true\/X.env.scope.names.lookup x=some .local) aF._auto_1) :
  PS X (.Assign [.Name x pos'] e pos) (tS E (pZ i fs)):=by
 refine(BO hN hi hx he hs hf).imp λD σ H q=>?_
 obtain⟨B,H₀,Hs,env,sr,q⟩:=q
 refine⟨B,H₀,Hs,env,sr,(az.bind q).imp (λps hp vs p Nr H' g r n=>?_) λe he=>he.grow sr.gr⟩
 exact hp _ Nr _ ((sr.grow g).own r n)
def nV(fs:af->M (List PV)):af->M (List PV):=λenv=>(fs env).bind λps=>if ps.length<=sizeLine then M.ok ps else none
theorem GP{E:St->XK}(hr:PA X es (tL E fs)):PE X (.List es pos) (tO E (nV fs)):=by
 refine(CH hr).imp fun σ H Q q=>?_
 obtain⟨B,H₀,Hs,env,sr,q⟩:=q
 refine⟨B,H₀,Hs,env,sr,(az.bind q).imp (λps hp vs Nr H' g r=>?_) λe he=>he⟩
 by_cases hz:ps.length<=sizeLine
 ·rw[if_pos hz] at hp
  exact⟨by rw[← r.length];exact hz,λp n=>hp vs p Nr H' g r n⟩
 ·rw[if_neg hz] at hp;exact hp.elim
def BB(f:af->M PV):af->M (List PV):=itemsOf f
def qH(i:Nat)(f:af->M PV):af->M Out:=λenv=>match env[i]? with
 | some (some (.ow xs))=>(f env).bind λp=>if xs.length<sizeLine then M.ok (.nx (env.set i (some (.ow (xs++[p]))))) else none
 | _=>none
theorem SR.put{B H₀ Hs H:Hp}{σ:St}{env:af}{i:Nat}{a:Addr}{xs ys:List PV}{us:List V}(r:SR B H₀ Hs H σ env)(e:env[i]?=some (some (.ow xs)))(hi:σ[i]?=some (some (.ref a)))(h:aW Hs ys us):SR B H₀ Hs (upd H a (.lst us)) σ (env.set i (some (.ow ys))):=by
 obtain⟨a',vs,h1,h2,h3,h4,h5⟩:=r.ow i xs e
 rw[hi] at h1;cases h1
 have nS:∀ c u,Hs c=some u->c≠a:=λc u q z=>by rw[z,h3] at q;cases q
 have n0:∀ c u,H₀ c=some u->c≠a:=λc u q z=>by rw[z,h4] at q;cases q
 refine⟨⟨r.gr.st,λc u q=>by rw[aw (n0 c u q)];exact r.gr.al c u q,λc u q=>by rw[aw (nS c u q)];exact r.gr.sub c u q,r.gr.nw⟩,by rw[List.length_set];exact r.len,λj q ej=>?_,λj zs ej=>?_,λj k y1 y2 b nj e1 e2 e3 e4=>?_,λj ba C fs ej=>?_,λj k _ _ C D fs gs e1 e2=>?_⟩
 ·rw[List.getElem?_set] at ej
  by_cases z:i=j
  ·subst z
   rw[if_pos rfl] at ej
   split at ej <;> cases ej
  ·rw[if_neg z] at ej;exact r.sh j q ej
 ·rw[List.getElem?_set] at ej
  by_cases z:i=j
  ·subst z
   rw[if_pos rfl] at ej
   split at ej
   ·cases ej;exact⟨a,us,hi,aE,h3,h4,h⟩
   ·cases ej
  ·rw[if_neg z] at ej
   obtain⟨b,ws,q1,q2,q3,q4,q5⟩:=r.ow j zs ej
   have nb:b≠a:=λw=>by subst w;exact r.sep i j xs zs b z e ej hi q1
   exact⟨b,ws,q1,by rw[aw nb];exact q2,q3,q4,q5⟩
 ·have o1:∃ w,env[j]?=some (some (.ow w)):=by
   rw[List.getElem?_set] at e1
   by_cases z:i=j
   ·subst z;exact⟨xs,e⟩
   ·rw[if_neg z] at e1;exact⟨_,e1⟩
  have o2:∃ w,env[k]?=some (some (.ow w)):=by
   rw[List.getElem?_set] at e2
   by_cases z:i=k
   ·subst z;exact⟨xs,e⟩
   ·rw[if_neg z] at e2;exact⟨_,e2⟩
  obtain⟨w1,o1⟩:=o1
  obtain⟨w2,o2⟩:=o2
  exact r.sep j k w1 w2 b nj o1 o2 e3 e4
 ·rw[List.getElem?_set] at ej
  by_cases z:i=j
  ·subst z
   rw[if_pos rfl] at ej
   split at ej <;> cases ej
  ·rw[if_neg z] at ej
   obtain⟨dx,ws,q1,q2,q3,q4,q5⟩:=r.bd j ba C fs ej
   have nb:ba≠a:=λw=>by subst w;rw[h2] at q2;cases q2
   exact⟨dx,ws,q1,by rw[aw nb];exact q2,q3,q4,q5⟩
 ·rw[List.getElem?_set] at e1 e2
  by_cases z:i=j
  ·subst z
   rw[if_pos rfl] at e1
   split at e1 <;> cases e1
  ·by_cases z2:i=k
   ·subst z2
    rw[if_pos rfl] at e2
    split at e2 <;> cases e2
   ·rw[if_neg z] at e1
    rw[if_neg z2] at e2
    exact r.one j k _ _ C D fs gs e1 e2
theorem z0{apos NG px:Pos}(hi:X.N[i]?=some x)(hv:Dp X.env.scope x)(he:PE X e (tE (λ_=>E) f))(hd:autoParam ((x==("__debug__" : Str))=false) aD._auto_1)(OH:autoParam ((x==("__classdict__" : Str))=false) aD._auto_1)
  (Pe:autoParam (attributeBase (.Name x px) "append" X.env (eval (.Name x px) X.env)=eval (.Name x px) X.env) aR._auto_1)
  (P5:autoParam (((backTo NG (starEach [e] X.env)).all (λx=>!x.1)&&(backToKw NG (keywordEach [] X.env)).all (λx=>x.1.isSome)
   && decide (([e]:List Expr).length+([]:List Keyword).length+(if ([]:List Keyword).isEmpty then 0 else 1)<30))=true) aR._auto_1)
  (Pf:autoParam ((apos.endLine==NG.line)=true) aR._auto_1) (NU:autoParam (starEach [e] X.env=(false,eval e X.env)::starEach [] X.env) aR._auto_1) (OX:autoParam ((backTo NG (starEach [] X.env)).any (·.1)=false) aR._auto_1)
  (hs:autoParam (swapsWith (.Call (.Attribute (.Name x px) "append" apos) [e] [] NG) none pos.line X.env=pure false) aR._auto_1) :
  PS X (.Expr (.Call (.Attribute (.Name x px) "append" apos) [e] [] NG) pos) (tS E (qH i f)):=by
 refine(yD (F5 PySem.F.plainAttrs_list PySem.F.slot_list_append PySem.F.type_list_append sS (nL hi hv hd OH) (eB he kz NU) Pe P5 Pf NU OX) hs).imp λD σ H q=>?_
 obtain⟨B,H₀,Hs,env,sr,q⟩:=q
 unfold qH at q
 split at q
 ·rename_i xs ex
  obtain⟨a,vs,h1,h2,h3,h4,h5⟩:=sr.ow i xs ex
  refine⟨.ref a,h1,.inl ⟨rfl,vs,hX.of h2⟩,B,H₀,Hs,env,sr,(az.bind q).imp (λp hp v Nr H' g r=>?_) λe he=>he.grow sr.gr⟩
  by_cases hz:xs.length<sizeLine
  ·rw[if_pos hz] at hp
   have Pd:=sr.grow g
   have r5:aW Nr (xs++[p]) (vs++[v]):=(h5.mono g.st).snoc r
   exact⟨a,vs,v,rfl,rfl,g.al _ _ h2,by rw[← h5.length];exact hz,hp σ Nr _ (Pd.put ex h1 r5)⟩
  ·rw[if_neg hz] at hp;exact hp.elim
 ·exact q.elim
end
end L2
namespace L2
open PySem PySem.Spec PyProof.Rows
def IQ:Out->M PV
 | .rt p=>M.ok p
 | .nx _=>M.ok .cR
 | _=>none
def lJ(m:Nat)(ps:List PV):af:=ps.map (λp=>some (.sh p))++List.replicate (m-ps.length) none
def ay(m:Nat)(g:af->M Out)(ps:List PV):M PV:=(g (lJ m ps)).bind IQ
theorem SR.start{Hs H:Hp}{N:List Str}{ps:List PV}{vs:List V}(s:bu Hs H)(r:aW Hs ps vs):SR Hs H Hs H (start N vs) (lJ N.length ps) where
 gr:=.refl s
 len:=by unfold L2.start lJ;simp[r.length]
 sh:=λi p e=>by
  unfold lJ at e
  unfold L2.start
  by_cases hi:i<ps.length
  ·rw[List.getElem?_append_left (by simpa using hi),List.getElem?_map,List.getElem?_eq_getElem hi] at e
   cases e
   obtain⟨v,h1,h2⟩:=r.get (List.getElem?_eq_getElem hi)
   exact⟨v,by rw[List.getElem?_append_left (by simpa using (r.length▸hi)),List.getElem?_map,h1];rfl,h2⟩
  ·rw[List.getElem?_append_right (by simpa using hi),List.getElem?_replicate] at e
   split at e <;> cases e
 ow:=λi xs e=>by
  unfold lJ at e
  by_cases hi:i<ps.length
  ·rw[List.getElem?_append_left (by simpa using hi),List.getElem?_map,List.getElem?_eq_getElem hi] at e
   cases e
  ·rw[List.getElem?_append_right (by simpa using hi),List.getElem?_replicate] at e
   split at e <;> cases e
 sep:=λi j xs ys a _ e=>by
  unfold lJ at e
  by_cases hi:i<ps.length
  ·rw[List.getElem?_append_left (by simpa using hi),List.getElem?_map,List.getElem?_eq_getElem hi] at e
   cases e
  ·rw[List.getElem?_append_right (by simpa using hi),List.getElem?_replicate] at e
   split at e <;> cases e
 bd:=λi a C fs e=>by
  unfold lJ at e
  by_cases hi:i<ps.length
  ·rw[List.getElem?_append_left (by simpa using hi),List.getElem?_map,List.getElem?_eq_getElem hi] at e
   cases e
  ·rw[List.getElem?_append_right (by simpa using hi),List.getElem?_replicate] at e
   split at e <;> cases e
 one:=λi j a b C D fs gs e=>by
  unfold lJ at e
  by_cases hi:i<ps.length
  ·rw[List.getElem?_append_left (by simpa using hi),List.getElem?_map,List.getElem?_eq_getElem hi] at e
   cases e
  ·rw[List.getElem?_append_right (by simpa using hi),List.getElem?_replicate] at e
   split at e <;> cases e
theorem Ic{P:Program}{w:World}{K:PySem.W.Frag}{mg:Str->Option Value}{base:Heap}{k:Nat}{f:Addr}{name qual:Str}{params:Arguments}{body:List Stmt}{scope:Scope}{dV kV doc pm NM ct oc:Value}{an od:Option Addr}
  {PF:Array (Option Value)} {N ps:List Str} {g:af->M Out} (lk:K.lookup f=some ⟨oc,od,.func (PySem.W.fnOf name qual params body scope dV kV doc pm an NM ct),PF⟩) (OH:PySem.W.codeIn K NM qual=true) (S:cA N ps scope)
  (hb:∀ (A:Around) (outer:List Env) (s:Shared) (H:Hp) (E:XK),cJ k (A.deeper (envOfC qual scope s.heap.objs.size f NM))->mL ((lY (bG P w) P w K mg base N qual scope f NM A outer s H E).out λ_=>E) body (tS E g)) :
  aO P w K mg base (bG P w) (k+1) f (PySem.W.fnOf name qual params body scope dV kV doc pm an NM ct) ps (cW ps.length (ay N.length g)):=by
 refine xJ lk OH S (λvs H Q E h=>h.1) λA outer s H vs Q E hr hs=>⟨_,hb A outer s H E hr,?_⟩
 obtain⟨_,Hs,O6,sm,r,h⟩:=hs
 refine⟨Hs,H,Hs,_,SR.start sm r,(az.bind h).imp (λo ho=>?_) λe he=>he⟩
 cases o with
 | rt p=>exact λv Nr H' gr rv=>ho v Nr H' gr rv
 | nx env=>exact fun σ Nr H' sr=>ho .cR Nr H' sr.gr .cR
 | bk env=>exact ho.elim
 | ct env=>exact ho.elim
section
variable{X:Cx}{E:XK}{e:Expr}{es:List Expr}{pos p NG:Pos}{x:Str}{C f:Addr}{k:Nat}{fd:FuncData}{ps:List Str}{fs:af->M (List PV)}
def lM(C:Addr)(fs:af->M (List PV)):af->M Out:=λenv=>(fs env).bind λps=>cP (ps.length<=sizeLine) (some (.error (C,none)))
theorem An(O:fg X λ_=>E)(NB:X.calm=true)(hc:PySem.W.excIn X.K C fq "ValueError.__new__" = true)(c:gK X.K C)(ht:PySem.W.typeIn X.K (.ref C)=some (.type "type"))(kp:PySem.W.keepIn X.K (.ref C)=true)(hg:Gl X x)(hm:X.mg x=some (.ref C))(ha:PA X (e::es) (tL (λ_=>E) fs))
  (Oo:autoParam ((x==("__debug__" : Str))=false) aD._auto_1) (he:autoParam (starEach (e::es) X.env=(false,eval e X.env)::starEach es X.env) aR._auto_1) (NQ:autoParam ((backTo NG (starEach es X.env)).any (·.1)=false) aR._auto_1) :
  PS X (.Raise (some (.Call (.Name x p) (e::es) [] NG)) none pos) (tS E (lM C fs)):=by
 refine(wg O NB (Er hc kp hg hm ha Oo he NQ)).imp λD σ H q=>pQ q λB H₀ Hs H1 env O6 v sr rp hp=>?_
 obtain⟨hz,hp⟩:=az.cP hp
 refine⟨by rw[← rp.length];exact hz,λa n=>⟨a,C,none,rfl,aE,c,ht,?_⟩⟩
 rw[yA]
 exact hp a (upd Hs a (jf C none a)) _ (sr.gr.trans (bN.new sr.gr.sub n)) (.zH aE)
def zA(K:PySem.W.Frag)(C:Addr)(fl:Str):Sp:=λvs H Q _=>∃ a y,vs=[.ref a,y]/\H a=some (k9 C none a)/\∀ d,H d=none->d≠a->Q .cR (upd (upd H d (.xd [(fl,y)])) a (k9 C (some d) a))
def jn(C:Addr)(fl:Str)(fs:af->M (List PV)):af->M Out:=λenv=>(fs env).bind λps=>match ps with
 | [p]=>some (.error (C,some [(fl,p)]))
 | _=>none
theorem zx{fl:Str}(O:fg X λ_=>E)(NB:X.calm=true)(hc:pU X.K C "ValueError.__new__" f=true)(hf:PySem.W.isFn X.K (.ref f)=true)(c:gK X.K C)(ht:PySem.W.typeIn X.K (.ref C)=some (.type "type"))(kp:PySem.W.keepIn X.K (.ref C)=true)(F:aO X.prog X.w X.K X.mg X.base (bG X.prog X.w) k f fd ps (zA X.K C fl))(hr:cJ (k+1) X.A)(hb:Binds X.K fd ps [])
  (hg:Gl X x) (hm:X.mg x=some (.ref C)) (ha:PA X [e] (tL (λ_=>E) fs))
  (Oo:autoParam ((x==("__debug__" : Str))=false) aD._auto_1) (he:autoParam (starEach [e] X.env=(false,eval e X.env)::starEach [] X.env) aR._auto_1) (NQ:autoParam ((backTo NG (starEach [] X.env)).any (·.1)=false) aR._auto_1) :
  PS X (.Raise (some (.Call (.Name x p) [e] [] NG)) none pos) (tS E (jn C fl fs)):=by
 refine(wg O NB (BX hc hf kp F hr hb hg hm ha Oo he NQ)).imp λD σ H q=>pQ q λB H₀ Hs H1 env O6 v sr rp hp=>?_
 match O6,rp,hp with
 | [],_,hp=>exact hp.elim
 | _::_::_,_,hp=>exact hp.elim
 | [y],rp,hp =>
  obtain⟨v,rfl,ry⟩:=rp.one
  refine⟨by show 1<=sizeLine;decide,λa n=>⟨a,v,rfl,aE,λd hd hda=>⟨rfl,a,C,some d,rfl,aE,c,ht,?_⟩⟩⟩
  rw[yA]
  have hd1:H1 d=none:=by rw[aw hda] at hd;exact hd
  have g1:=bN.new (o:=.xd [(fl,v)]) sr.gr.sub hd1
  have Qo:upd H1 d (.xd [(fl,v)]) a=none:=by rw[aw (Ne.symm hda)];exact n
  have g2:=bN.new (o:=jf C (some d) a) g1.sub Qo
  have hH:upd (upd (upd H1 a (k9 C none a)) d (.xd [(fl,v)])) a (jf C (some d) a)=upd (upd H1 d (.xd [(fl,v)])) a (jf C (some d) a):=by
   funext b
   by_cases z:b=a
   ·subst z;rw[aE,aE]
   ·rw[aw z,aw z]
    by_cases z2:b=d
    ·subst z2;rw[aE,aE]
    ·rw[aw z2,aw z2,aw z]
  rw[hH]
  refine hp a (upd (upd Hs d (.xd [(fl,v)])) a (jf C (some d) a)) _ ((sr.gr.trans g1).trans g2) ?_
  exact .zJ aE (by rw[aw hda];exact aE) (.cons ((ry.mono g1.st).mono g2.st) .nil)
theorem qJ{P:Program}{w:World}{K:PySem.W.Frag}{mg:Str->Option Value}{base:Heap}{f:Addr}{name qual:Str}{params:Arguments}{scope:Scope}{dV kV doc pm NM ct oc:Value}{an od:Option Addr}
  {PF:Array (Option Value)} {n0 n1 fl:Str} {p0 p1 p2 p3:Pos} (lk:K.lookup f=some ⟨oc,od,.func (PySem.W.fnOf name qual params [.Assign [.Attribute (.Name n0 p0) fl p1] (.Name n1 p2) p3] scope dV kV doc pm an NM ct),PF⟩) (OH:PySem.W.codeIn K NM qual=true) (S:cA [n0,n1] [n0,n1] scope)
  (c:gK K C) (ho:((PySem.W.clsIn K C).any λcd=>gB cd.mro)=true) (na:bH K C fl) (v0:Dp scope n0) (v1:Dp scope n1) (d0:(n0==("__debug__" : Str))=false) (d1:(n1==("__debug__" : Str))=false) (c0:(n0==("__classdict__" : Str))=false) (c1:(n1==("__classdict__" : Str))=false)
  (hs:∀ env,swapsWith (.Name n1 p2) (some (.Attribute (.Name n0 p0) fl p1)) p3.line env=pure false) :
  aO P w K mg base (bG P w) 1 f (PySem.W.fnOf name qual params [.Assign [.Attribute (.Name n0 p0) fl p1] (.Name n1 p2) p3] scope dV kV doc pm an NM ct) [n0,n1] (zA K C fl):=by
 refine xJ (k:=0) lk OH S (λvs H Q E h=>by obtain⟨a,y,rfl,_⟩:=h;rfl) λA outer s H vs Q E hr h=>?_
 obtain⟨a,y,rfl,ha,hq⟩:=h
 refine⟨_,DN (AV (nL (i:=0) rfl v0 d0 c0) (nL (i:=1) rfl v1 d1 c1) (hs _)),?_⟩
 exact⟨y,rfl,.ref a,rfl,a,C,rfl,ha,c,ho,na,hq⟩
end
end L2
namespace L2
open PySem PySem.Spec PyProof.Rows
structure j0 (J:It) (NA:Hp) (xs:List PV):Prop where
 stop:∀ (i:Nat) (Hs H:Hp),bu NA Hs->bu Hs H->xs.length<=i->J.stop i H
 go:∀ (i:Nat) (Hs H:Hp),bu NA Hs->bu Hs H->i<xs.length->J.go i H
 uY:∀ (i:Nat) (Hs H:Hp) (x:V) (H2:Hp),bu NA Hs->bu Hs H->i<xs.length->J.uY i H x H2->∃ p NC,xs[i]?=some p/\bN Hs H NC H2/\Rep NC p x
def KI(R:It->Hp->Prop):Hp->Hp->List PV->Prop:=λHs H xs=>∀ J Nr H',bN Hs H Nr H'->j0 J Nr xs->R J H'
def y0(E:St->XK)(wi:TI)(it:af->M (List PV)):Prop:=∀ (σ:St) (H:Hp) (R:It->Hp->Prop),tG E it (KI R) σ H->wi σ H R
theorem KI.g{R:It->Hp->Prop}:KG (KI R):=λHs H Nr H' b k g J NC H2 g2 o=>k J NC H2 (g.trans g2) o
section
variable{E:St->XK}{K:PySem.W.Frag}{f:af->M PV}{fs:af->M (List PV)}
theorem By{b:Bool}{a:Addr}{NA:Hp}{xs:List PV}{vs:List V}(hq:∀ Nr H',bu NA Nr->bu Nr H'->kG K H' b a vs)(hr:aW NA xs vs):j0 (Mi K b a) NA xs where
 stop:=λi Hs H s1 s2 hi=>by
  have q:=hq Hs H s1 s2
  cases b with
  | true=>exact⟨vs,q,by rw[← hr.length];exact hi⟩
  | false=>exact⟨vs,q,by rw[← hr.length];exact hi⟩
 go:=λi Hs H s1 s2 hi=>by
  have q:=hq Hs H s1 s2
  obtain⟨v,e,_⟩:=hr.get (List.getElem?_eq_getElem hi)
  cases b with
  | true=>exact⟨vs,v,q,e⟩
  | false=>exact⟨vs,v,q,e⟩
 uY:=λi Hs H x H2 s1 s2 hi y=>by
  have q:=hq Hs H s1 s2
  obtain⟨v,e,r⟩:=hr.get (List.getElem?_eq_getElem hi)
  have z:H2=H/\vs[i]?=some x:=by
   cases b with
   | true=>exact⟨y.1,y.2 vs q⟩
   | false=>exact⟨y.1,y.2 vs q⟩
  obtain⟨rfl,z⟩:=z
  rw[e] at z;cases z
  exact⟨xs[i],Hs,List.getElem?_eq_getElem hi,.refl s2,r.mono s1⟩
theorem c8:y0 E (KC K (tE E f)) (itemsOf f):=by
 intro σ H R q
 refine bQ (K:=KI R) KI.g q λB H₀ Hs H1 env p v sr rp hp=>?_
 cases e:cH p with
 | none=>rw[e] at hp;exact hp.elim
 | some xs =>
  rw[e] at hp
  obtain⟨b,a,vs,rfl,hq,hr⟩:=jG (K:=K) sr.gr.sub rp e
  exact⟨b,a,rfl,⟨vs,hq Hs H1 (λ_ _ z=>z) sr.gr.sub⟩,hp (Mi K b a) Hs H1 (.refl sr.gr.sub) (By hq hr)⟩
def i8(o:List PV->M (List PV))(fs:af->M (List PV)):af->M (List PV):=λenv=>(fs env).bind o
theorem vi{lo:Int}{n:Nat}{NA:Hp}:j0 (Kj lo n) NA ((List.range n).map λ(i:Nat)=>PV.int (lo+(i:Int))) where
 stop:=λi Hs H s1 s2 hi=>show n<=i by simpa using hi
 go:=λi Hs H s1 s2 hi=>show i<n by simpa using hi
 uY:=λi Hs H x H2 s1 s2 hi y=>by
  obtain⟨rfl,rfl⟩:=y
  exact⟨_,Hs,zt (by simpa using hi),.refl s2,.int _⟩
theorem aP{α:Type}(x:M α):x.bind M.ok=x:=by
 cases x with
 | none=>rfl
 | some x=>cases x <;> rfl
theorem hU:y0 E (FK (tL E fs)) (i8 p6 fs):=by
 intro σ H R q
 refine dC (K:=KI R) KI.g q λB H₀ Hs H1 env ps v sr rp hp=>?_
 rw[← aP (p6 ps)] at hp
 obtain⟨n,rfl,h1,h2,hp⟩:=Ar hp
 obtain⟨w,rfl,O7⟩:=rp.one
 cases O7
 exact⟨n,rfl,h1,h2,hp _ Hs H1 (.refl sr.gr.sub) vi⟩
theorem CA:y0 E (FH (tL E fs)) (i8 zi fs):=by
 intro σ H R q
 refine dC (K:=KI R) KI.g q λB H₀ Hs H1 env ps v sr rp hp=>?_
 rw[← aP (zi ps)] at hp
 obtain⟨n,m,rfl,h1,hp⟩:=Ap hp
 obtain⟨w,u,rfl,O7,ru⟩:=rp.two
 cases O7
 cases ru
 exact⟨n,m,rfl,h1,hp _ Hs H1 (.refl sr.gr.sub) vi⟩
theorem Ct{xs ys:List PV}{i:Nat}(h1:i<xs.length)(h2:i<ys.length):(List.zipWith (λa b=>PV.tup [a,b]) xs ys)[i]?=some (.tup [xs[i],ys[i]]):=by
 rw[List.getElem?_zipWith,List.getElem?_eq_getElem h1,List.getElem?_eq_getElem h2]
theorem CT{b1 b2:Bool}{a1 a2:Addr}{NA:Hp}{xs ys:List PV}{vs us:List V}(N6:∀ Nr H',bu NA Nr->bu Nr H'->kG K H' b1 a1 vs)(P9:aW NA xs vs)(NW:∀ Nr H',bu NA Nr->bu Nr H'->kG K H' b2 a2 us)(P_:aW NA ys us) :
  j0 (MJ K b1 b2 a1 a2) NA (List.zipWith (λa b=>PV.tup [a,b]) xs ys) where
 stop:=λi Hs H s1 s2 hi=>by
  rw[List.length_zipWith,P9.length,P_.length] at hi
  exact⟨vs,us,N6 Hs H s1 s2,NW Hs H s1 s2,by omega⟩
 go:=λi Hs H s1 s2 hi=>by
  rw[List.length_zipWith] at hi
  obtain⟨v,e,_⟩:=P9.get (List.getElem?_eq_getElem (show i<xs.length by omega))
  obtain⟨u,e',_⟩:=P_.get (List.getElem?_eq_getElem (show i<ys.length by omega))
  exact⟨vs,us,v,u,N6 Hs H s1 s2,NW Hs H s1 s2,e,e'⟩
 uY:=λi Hs H x H2 s1 s2 hi y=>by
  rw[List.length_zipWith] at hi
  have l1:i<xs.length:=by omega
  have l2:i<ys.length:=by omega
  obtain⟨v,e,r⟩:=P9.get (List.getElem?_eq_getElem l1)
  obtain⟨u,e',r'⟩:=P_.get (List.getElem?_eq_getElem l2)
  obtain⟨pa,v',u',hn,rfl,rfl,y1,y2⟩:=y
  have z1:=y1 vs (N6 Hs H s1 s2)
  have z2:=y2 us (NW Hs H s1 s2)
  rw[e] at z1;cases z1
  rw[e'] at z2;cases z2
  have gr:=bN.new (o:=.tup [v,u]) s2 hn
  exact⟨_,_,Ct l1 l2,gr,.tup aE (.cons ((r.mono s1).mono gr.st) (.cons ((r'.mono s1).mono gr.st) .nil))⟩
theorem fK:y0 E (Ju K (tL E fs)) (i8 zip2 fs):=by
 intro σ H R q
 refine dC (K:=KI R) KI.g q λB H₀ Hs H1 env ps v sr rp hp=>?_
 rw[← aP (zip2 ps)] at hp
 obtain⟨p,q,xs,ys,rfl,e1,e2,hp⟩:=zY hp
 obtain⟨w,u,rfl,O7,ru⟩:=rp.two
 obtain⟨b1,a1,vs,rfl,N6,P9⟩:=jG (K:=K) sr.gr.sub O7 e1
 obtain⟨b2,a2,us,rfl,NW,P_⟩:=jG (K:=K) sr.gr.sub ru e2
 exact⟨b1,b2,a1,a2,rfl,⟨vs,N6 Hs H1 (λ_ _ z=>z) sr.gr.sub⟩,⟨us,NW Hs H1 (λ_ _ z=>z) sr.gr.sub⟩,hp _ Hs H1 (.refl sr.gr.sub) (CT N6 P9 NW P_)⟩
end
theorem ck{X:Cx}{E:XK}{tg iter:Expr}{pos:Pos}{g:TG}{set:PV->af->M af}{body:af->M Out}{bd:List Stmt}{wi:TI}{it:af->M (List PV)}(O:fg X λ_=>E)(hc:X.calm=true)(hi:PI X tg iter wi)(hv:y0 (λ_=>E) wi it)(hg:PG X tg g)(Qj:Dj E g set)(hb:mL X bd (tS E body))(hs:autoParam (∀ x,foldedSetIterable iter X.env x=pure x) aI._auto_1) :
  PS X (.For tg iter bd [] pos) (tS E (iI it set body)):=by
 refine(ID O.own hc hi hg hb hs).imp λD σ H q=>hv σ H _ ?_
 obtain⟨B,H₀,Hs,env,sr,q⟩:=q
 refine⟨B,H₀,Hs,env,sr,(az.bind q).imp (λxs hp J Nr H' gr ok=>?_) λe he=>he.grow sr.gr⟩
 have Pd:=sr.grow gr
 refine⟨λi m σ H=>m=xs.length-i/\i<=xs.length/\Jv E set body D B H₀ Nr xs i σ H,⟨xs.length,by simp,Nat.zero_le _,Nr,env,Pd,λ_ _ z=>z,hp⟩,?_⟩
 rintro i m σ' H2 ⟨rfl,hi,NC,env2,NT,s2,h2⟩
 by_cases N4:i<xs.length
 ·refine .inr ⟨ok.go i NC H2 s2 NT.gr.sub N4,Jv E set body D B H₀ Nr xs (i+1),fun σ3 H3 j=>⟨xs.length-(i+1),by omega,rfl,N4,j⟩,λx H3 y=>?_⟩
  obtain⟨p,OU,ep,g3,r3⟩:=ok.uY i NC H2 x H3 s2 NT.gr.sub N4 y
  exact Jv.turn (Hx:=H2) (H1:=H2) Qj ep NT s2 h2 g3 r3
 ·have e:i=xs.length:=by omega
  refine .inl ⟨ok.stop i NC H2 s2 NT.gr.sub (by omega),?_⟩
  exact Jv.done (E:=E) (set:=set) (body:=body) (xs:=xs) (B:=B) (H₀:=H₀) (NA:=Nr) (n:=i) ⟨NC,env2,NT,s2,h2⟩ (by omega)
end L2
namespace L2
open PySem PySem.Spec PyProof.Rows
abbrev EF:St->XK:=λ_ _ _ _=>False
def oW(env:af):Prop:=∀ (i:Nat) (x:SV),env[i]?=some (some x)->∃ p,x=.sh p
theorem oW.ow{env:af}(n:oW env){i:Nat}{xs:List PV}(e:env[i]?=some (some (.ow xs))):False:=by obtain⟨p,z⟩:=n i _ e;cases z
theorem oW.bd{env:af}(n:oW env){i:Nat}{a C:Addr}{fs:List (Str×PV)}(e:env[i]?=some (some (.bd a C fs))):False:=by obtain⟨p,z⟩:=n i _ e;cases z
def IX{α:Type}:M α->M α
 | some (.ok a)=>some (.ok a)
 | _=>none
theorem az.IX{α:Type}{x:M α}{Q:α->Prop}{E:EX->Prop}(h:az (L2.IX x) Q E):az x Q (λ_=>False):=by
 cases x with
 | none=>exact h
 | some x=>cases x with
  | ok a=>exact h
  | error e=>exact h
def lO(n:Nat)(js:List Nat)(env:af):af:=List.replicate n none++js.map λj=>match env[j]? with
 | some (some (.sh p))=>some (.sh p)
 | _=>none
theorem sJ{n:Nat}{js:List Nat}{env:af}{i:Nat}{x:SV}(h:(lO n js env)[i]?=some (some x)):∃ j p,n<=i/\js[i-n]?=some j/\env[j]?=some (some (.sh p))/\x=.sh p:=by
 unfold lO at h
 by_cases hi:i<n
 ·rw[List.getElem?_append_left (by simpa using hi),List.getElem?_replicate] at h
  split at h <;> cases h
 ·rw[List.getElem?_append_right (by simpa using hi),List.getElem?_map,List.length_replicate] at h
  cases hj:js[i-n]? with
  | none=>rw[hj] at h;cases h
  | some j =>
   rw[hj] at h
   have h':(match env[j]? with | some (some (.sh p))=>some (SV.sh p) | _=>none)=some x:=Option.some.inj h
   split at h'
   ·rename_i p e
    cases h'
    exact⟨j,p,by omega,rfl,e,rfl⟩
   ·cases h'
theorem eD{n:Nat}{js:List Nat}{env:af}:oW (lO n js env):=λi xs e=>by
 obtain⟨_,p,_,_,_,z⟩:=sJ e
 exact⟨p,z⟩
theorem SR.block{B H₀ Hs H:Hp}{σ:St}{env:af}{ts:List Str}{js:List Nat}{D:Addr}(r:SR B H₀ Hs H σ env)(hD:H D=none):SR Hs H Hs (upd H D (.lst [])) (fM ts js σ) (lO ts.length js env) where
 gr:=by
  have ne:∀ c u,H c=some u->c≠D:=λc u q z=>by rw[z,hD] at q;cases q
  exact⟨λ_ _ e=>e,λc u e=>by rw[aw (ne c u e)];exact e,λc u e=>by rw[aw (ne c u (r.gr.sub c u e))];exact r.gr.sub c u e,λ_ _ e _=>e⟩
 len:=by unfold fM lO;simp
 sh:=λi p e=>by
  obtain⟨j,q,hn,hj,he,z⟩:=sJ e
  cases z
  obtain⟨v,h1,h2⟩:=r.sh j p he
  refine⟨v,?_,h2⟩
  unfold fM
  rw[List.getElem?_append_right (by simpa using hn),List.getElem?_map,List.length_map,hj]
  show some (σ[j]?).join=_
  rw[h1];rfl
 ow:=λi xs e=>(eD.ow e).elim
 sep:=λi j xs ys a _ e=>(eD.ow e).elim
 bd:=λi a C fs e=>(eD.bd e).elim
 one:=λi j a b C D fs gs e=>(eD.bd e).elim
theorem SR.Gj{B H₀ Hs H:Hp}{σ:St}{env:af}{D:Addr}{o:HO}(r:SR B H₀ Hs H σ env)(n:oW env)(h1:Hs D=none)(h2:H₀ D=none):SR B H₀ Hs (upd H D o) σ env where
 gr:=⟨r.gr.st,λc u q=>by rw[aw (λz=>by rw[z,h2] at q;cases q)];exact r.gr.al c u q,λc u q=>by rw[aw (λz=>by rw[z,h1] at q;cases q)];exact r.gr.sub c u q,r.gr.nw⟩
 len:=r.len
 sh:=r.sh
 ow:=λi xs e=>(n.ow e).elim
 sep:=λi j xs ys a _ e=>(n.ow e).elim
 bd:=λi a C fs e=>(n.bd e).elim
 one:=λi j a b C D fs gs e=>(n.bd e).elim
def bp(set:PV->af->M af)(t:Option (af->M Bool))(f:af->M PV):List PV->af->M (List PV)
 | [],_=>M.ok []
 | x::xs,env=>(set x env).bind λe=>match t with
  | none=>(f e).bind λy=>(bp set t f xs e).bind λys=>M.ok (y::ys)
  | some t'=>(t' e).bind λb=>if b=true then (f e).bind λy=>(bp set t f xs e).bind λys=>M.ok (y::ys) else bp set t f xs e
def bR(it:af->M (List PV))(set:PV->af->M af)(t:Option (af->M Bool))(f:af->M PV)(n:Nat)(js:List Nat):af->M (List PV):=λenv=>(it env).bind λxs=>cP (xs.length<=sizeLine) (IX (bp set t f xs (lO n js env)))
def nX(set:PV->af->M af):Prop:=∀ p env e,set p env=some (.ok e)->oW env->oW e
theorem k6{i:Nat}{env:af}{p:PV}(n:oW env):oW (env.set i (some (.sh p))):=λj xs e=>by
 rw[List.getElem?_set] at e
 by_cases z:i=j
 ·rw[if_pos z] at e
  split at e
  ·cases e;exact⟨p,rfl⟩
  ·cases e
 ·rw[if_neg z] at e;exact n j xs e
theorem bV{i:Nat}:nX (b_ i):=λp env e h n=>by
 cases h
 exact k6 n
theorem bM{i j:Nat}:nX (bC i j):=λp env e h n=>by
 unfold bC at h
 split at h
 ·cases h;exact k6 (k6 n)
 ·cases h
section
variable{set:PV->af->M af}{t:Option (af->M Bool)}{f:af->M PV}{Q:VK}{NA H1:Hp}{D:Addr}{xs:List PV}
def Jc(set:PV->af->M af)(t:Option (af->M Bool))(f:af->M PV)(Q:VK)(NA H1:Hp)(D:Addr)(xs:List PV)(i:Nat)(σ:St)(H:Hp):Prop:=∃ Hs env ys vs,SR NA H1 Hs H σ env/\oW env/\H D=some (.lst vs)/\Hs D=none/\aW Hs ys vs/\ys.length<=i ∧
 az (bp set t f (xs.drop i) env) (λzs=>KO Q NA H1 (ys++zs)) (λ_=>False)
def rem(H:Hp)(D:Addr):Hp:=λa=>if a=D then none else H a
theorem BP{H:Hp}{D:Addr}:rem H D D=none:=by unfold rem;rw[if_pos rfl]
theorem xi{H:Hp}{D a:Addr}(n:a≠D):rem H D a=H a:=by unfold rem;rw[if_neg n]
theorem D_{H:Hp}{D:Addr}{o:HO}(h:H D=some o):upd (rem H D) D o=H:=by
 funext a
 by_cases z:a=D
 ·subst z;rw[aE,h]
 ·rw[aw z,xi z]
theorem Jc.done{i:Nat}{σ:St}{H:Hp}(hD:H1 D=none)(j:Jc set t f Q NA H1 D xs i σ H)(hi:xs.length<=i):Q (.ref D) H:=by
 obtain⟨Hs,env,ys,vs,sr,n,h1,h2,r,_,h⟩:=j
 rw[List.drop_eq_nil_of_le hi] at h
 have h':KO Q NA H1 (ys++[]):=h
 rw[List.append_nil] at h'
 have gr:bN NA H1 Hs (rem H D):=by
  refine⟨sr.gr.st,λc u q=>?_,λc u q=>?_,sr.gr.nw⟩
  ·rw[xi (λz=>by rw[z,hD] at q;cases q)];exact sr.gr.al c u q
  ·rw[xi (λz=>by rw[z,h2] at q;cases q)];exact sr.gr.sub c u q
 have:=h' vs D Hs (rem H D) gr r BP
 rw[D_ h1] at this
 exact this
theorem Jc.put{i:Nat}{σ:St}{Hs H:Hp}{env:af}{ys:List PV}{vs:List V}{y:PV}{v:V}(hD:H1 D=none)(sr:SR NA H1 Hs H σ env)(n:oW env)(h1:H D=some (.lst vs))(h2:Hs D=none)(r:aW Hs ys vs)(hy:ys.length<=i)(hi:i<sizeLine)(rv:Rep Hs y v)
  (h:az ((bp set t f (xs.drop (i+1)) env).bind λzs=>M.ok (y::zs)) (λzs=>KO Q NA H1 (ys++zs)) (λ_=>False)) :
  ∃ us,H D=some (.lst us)/\us.length<sizeLine/\Jc set t f Q NA H1 D xs (i+1) σ (upd H D (.lst (us++[v]))):=by
 refine⟨vs,h1,by rw[← r.length];omega,Hs,env,ys++[y],vs++[v],sr.Gj n h2 hD,n,aE,h2,r.snoc rv,by rw[List.length_append];show ys.length+1<=i+1;omega,(az.bind h).imp (λzs hz=>?_) λ_ z=>z⟩
 have QD:KO Q NA H1 (ys++(y::zs)):=hz
 rw[List.append_assoc]
 exact QD
end
section
variable{X:Cx}{E:St->XK}{tg elt iter c:Expr}{scope:Scope}{cl:List (Str×Addr)}{pos:Pos}{wi:TI}{it:af->M (List PV)}{g:TG}{set:PV->af->M af}{f:af->M PV}{u:af->M Bool}{ts fs:List Str}{js:List Nat}
theorem yk{C:Addr}{s₀:Shared}{H₀:Hp}{ex:List Addr}{Nm:List (Addr×Obj)}{N:List Str}:fg (oZ X scope cl N C s₀ H₀ ex Nm) EF where
 pass:=λ_ _ _ _ _ _ _ h=>by
  obtain⟨_,_,_,_,_,_,_,_,_,_,_,_,_,z⟩:=h
  exact z.elim
 new:=λ_ _ _ _ _ _ _ _ _ z=>z.elim
 own:=PassesOwn.never
theorem bA(NB:X.calm=true)
  (NO:closureFor scope X.env=pure cl) (hk:scope.kind=.function) (nc:fm scope.names=true) (lo:gM scope.names=true) (fh:gF cl scope.names=true) (ag:eF X cl) (fr:iy X scope cl fs js)
  (hi:PI X tg iter wi) (hv:y0 E wi it) (hg:∀ C s₀ H₀ ex Nm,PG (oZ X scope cl (ts++fs) C s₀ H₀ ex Nm) tg g) (Qj:∀ E,Dj E g set) (so:nX set) (he:∀ C s₀ H₀ ex Nm,PE (oZ X scope cl (ts++fs) C s₀ H₀ ex Nm) elt (tE EF f))
  (hs:autoParam (∀ x,foldedSetIterable iter X.env x=pure x) aI._auto_1):PE X (.ListComp elt [⟨tg,iter,[],0⟩] scope pos) (tO E (bR it set none f ts.length js)):=by
 refine(Bj NB NO hk nc lo fh ag fr hi hg he hs).imp fun σ H Q q=>hv σ H _ ?_
 obtain⟨B,H₀,Hs,env,sr,q⟩:=q
 refine⟨B,H₀,Hs,env,sr,(az.bind q).imp (λxs hp J NA H1 gr ok D hD=>?_) λe he=>he⟩
 obtain⟨hz,hp⟩:=az.cP hp
 have hp:=az.IX hp
 have Qu:=sr.grow gr
 refine⟨λi m σ H=>m=xs.length-i/\i<=xs.length/\Jc set none f Q NA H1 D xs i σ H,⟨xs.length,by simp,Nat.zero_le _,NA,_,[],[],Qu.block hD,eD,aE,?_,.nil,Nat.le_refl _,hp.imp (λzs hz vs p NC H2 g2 r n=>hz vs p NC H2 (gr.trans g2) r n) λ_ z=>z⟩,?_⟩
 ·cases z:NA D with
  | none=>rfl
  | some o=>have:=gr.sub _ _ z;rw[hD] at this;cases this
 rintro i m σ' H2 ⟨rfl,hi,NC,env2,ys,vs,NT,n2,d1,d2,r2,l2,h2⟩
 by_cases N4:i<xs.length
 ·refine .inr ⟨ok.go i NC H2 NT.gr.st NT.gr.sub N4,Jc set none f Q NA H1 D xs (i+1),fun σ3 H3 j=>⟨xs.length-(i+1),by omega,rfl,N4,j⟩,λx H3 y=>?_⟩
  obtain⟨p,OU,ep,g3,r3⟩:=ok.uY i NC H2 x H3 NT.gr.st NT.gr.sub N4 y
  have hd:xs.drop i=p::xs.drop (i+1):=by
   rw[List.drop_eq_getElem_cons N4]
   rw[List.getElem?_eq_getElem N4] at ep
   rw[Option.some.inj ep]
  rw[hd] at h2
  have h3:=az.bind h2
  have Pl:=NT.grow g3
  refine Qj (λ_ _ _=>False) NA H1 OU H3 σ' env2 p x _ (λ_=>False) Pl r3 ?_
  cases hset:set p env2 with
  | none=>rw[hset] at h3;exact h3
  | some z=>cases z with
   | error e=>rw[hset] at h3;exact h3
   | ok e3 =>
    rw[hset] at h3
    intro σ4 sr4
    have n4:=so p env2 e3 hset n2
    refine⟨NA,H1,OU,e3,sr4,(az.bind h3).imp (λy hy v QT H5 g5 r5=>?_) λ_ z=>z.elim⟩
    exact Jc.put (set:=set) (t:=none) (f:=f) hD (sr4.grow g5) n4 (g5.al _ _ (g3.al _ _ d1)) (g5.nw _ _ (g3.nw _ _ d2 d1) (g3.al _ _ d1)) ((r2.mono g3.st).mono g5.st) l2 (by omega) r5 hy
 ·refine .inl ⟨ok.stop i NC H2 NT.gr.st NT.gr.sub (by omega),?_⟩
  exact Jc.done (set:=set) (t:=none) (f:=f) (xs:=xs) (NA:=NA) (H1:=H1) (i:=i) hD ⟨NC,env2,ys,vs,NT,n2,d1,d2,r2,l2,h2⟩ (by omega)
theorem wG(NB:X.calm=true)
  (NO:closureFor scope X.env=pure cl) (hk:scope.kind=.function) (nc:fm scope.names=true) (lo:gM scope.names=true) (fh:gF cl scope.names=true) (ag:eF X cl) (fr:iy X scope cl fs js)
  (hi:PI X tg iter wi) (hv:y0 E wi it) (hg:∀ C s₀ H₀ ex Nm,PG (oZ X scope cl (ts++fs) C s₀ H₀ ex Nm) tg g) (Qj:∀ E,Dj E g set) (so:nX set) (ht:∀ C s₀ H₀ ex Nm,PT (oZ X scope cl (ts++fs) C s₀ H₀ ex Nm) c (tT EF u)) (he:∀ C s₀ H₀ ex Nm,PE (oZ X scope cl (ts++fs) C s₀ H₀ ex Nm) elt (tE EF f))
  (hs:autoParam (∀ x,foldedSetIterable iter X.env x=pure x) aI._auto_1):PE X (.ListComp elt [⟨tg,iter,[c],0⟩] scope pos) (tO E (bR it set (some u) f ts.length js)):=by
 refine(BA NB NO hk nc lo fh ag fr hi hg ht he hs).imp fun σ H Q q=>hv σ H _ ?_
 obtain⟨B,H₀,Hs,env,sr,q⟩:=q
 refine⟨B,H₀,Hs,env,sr,(az.bind q).imp (λxs hp J NA H1 gr ok D hD=>?_) λe he=>he⟩
 obtain⟨hz,hp⟩:=az.cP hp
 have hp:=az.IX hp
 have Qu:=sr.grow gr
 refine⟨λi m σ H=>m=xs.length-i/\i<=xs.length/\Jc set (some u) f Q NA H1 D xs i σ H,⟨xs.length,by simp,Nat.zero_le _,NA,_,[],[],Qu.block hD,eD,aE,?_,.nil,Nat.le_refl _,hp.imp (λzs hz vs p NC H2 g2 r n=>hz vs p NC H2 (gr.trans g2) r n) λ_ z=>z⟩,?_⟩
 ·cases z:NA D with
  | none=>rfl
  | some o=>have:=gr.sub _ _ z;rw[hD] at this;cases this
 rintro i m σ' H2 ⟨rfl,hi,NC,env2,ys,vs,NT,n2,d1,d2,r2,l2,h2⟩
 by_cases N4:i<xs.length
 ·refine .inr ⟨ok.go i NC H2 NT.gr.st NT.gr.sub N4,Jc set (some u) f Q NA H1 D xs (i+1),fun σ3 H3 j=>⟨xs.length-(i+1),by omega,rfl,N4,j⟩,λx H3 y=>?_⟩
  obtain⟨p,OU,ep,g3,r3⟩:=ok.uY i NC H2 x H3 NT.gr.st NT.gr.sub N4 y
  have hd:xs.drop i=p::xs.drop (i+1):=by
   rw[List.drop_eq_getElem_cons N4]
   rw[List.getElem?_eq_getElem N4] at ep
   rw[Option.some.inj ep]
  rw[hd] at h2
  have h3:=az.bind h2
  have Pl:=NT.grow g3
  refine Qj (λ_ _ _=>False) NA H1 OU H3 σ' env2 p x _ (λ_=>False) Pl r3 ?_
  cases hset:set p env2 with
  | none=>rw[hset] at h3;exact h3
  | some z=>cases z with
   | error e=>rw[hset] at h3;exact h3
   | ok e3 =>
    rw[hset] at h3
    intro σ4 sr4
    have n4:=so p env2 e3 hset n2
    refine⟨NA,H1,OU,e3,sr4,(az.bind h3).imp (λb hb QT H5 g5=>?_) λ_ z=>z.elim⟩
    have d5:=g5.al _ _ (g3.al _ _ d1)
    have e5:=g5.nw _ _ (g3.nw _ _ d2 d1) (g3.al _ _ d1)
    cases b with
    | true =>
     refine⟨NA,H1,QT,e3,sr4.grow g5,(az.bind hb).imp (λy hy v Hs6 H6 g6 r6=>?_) λ_ z=>z.elim⟩
     exact Jc.put (set:=set) (t:=some u) (f:=f) hD ((sr4.grow g5).grow g6) n4 (g6.al _ _ d5) (g6.nw _ _ e5 d5) (((r2.mono g3.st).mono g5.st).mono g6.st) l2 (by omega) r6 hy
    | false=>exact⟨QT,e3,ys,vs,sr4.grow g5,n4,d5,e5,(r2.mono g3.st).mono g5.st,by omega,hb⟩
 ·refine .inl ⟨ok.stop i NC H2 NT.gr.st NT.gr.sub (by omega),?_⟩
  exact Jc.done (set:=set) (t:=some u) (f:=f) (xs:=xs) (NA:=NA) (H1:=H1) (i:=i) hD ⟨NC,env2,ys,vs,NT,n2,d1,d2,r2,l2,h2⟩ (by omega)
def cD(fo:af->M (List PV)):af->M PV:=λenv=>(fo env).bind λps=>M.ok (.lst ps)
theorem cG{fo:af->M (List PV)}{e:Expr}(he:PE X e (tO E fo)):PE X e (tE E (cD fo)):=he.imp fun σ H Q q=>by
 obtain⟨B,H₀,Hs,env,sr,q⟩:=q
 refine⟨B,H₀,Hs,env,sr,(az.bind q).imp (λps hp vs p Nr H' g r n=>?_) λe he=>he⟩
 have gn:=bN.new (o:=.lst vs) g.sub n
 exact hp _ _ _ (g.trans gn) (.lst aE (r.mono gn.st))
end
end L2
namespace L2
open PySem PySem.Spec PyProof.Rows
def uz(f:Str)(v:PV):List (Str×PV)->List (Str×PV)
 | []=>[(f,v)]
 | (g,x)::r=>if g=f then (g,v)::r else (g,x)::uz f v r
theorem iQ.put{H:Hp}{f:Str}{p:PV}{v:V}(h:Rep H p v):∀ {fs:List (Str×PV)} {vs:List (Str×V)},iQ H fs vs->iQ H (uz f p fs) (jT f v vs)
 | _,_,.nil=>.cons h .nil
 | (g,x)::r,_,.cons hx hr=>by
  unfold uz jT
  by_cases z:g=f
  ·rw[if_pos z,if_pos z];exact .cons h hr
  ·rw[if_neg z,if_neg z];exact .cons hx (hr.put h)
theorem iQ.length{H:Hp}:∀ {fs:List (Str×PV)} {vs:List (Str×V)},iQ H fs vs->fs.length=vs.length
 | _,_,.nil=>rfl
 | _,_,.cons _ r=>by simp[r.length]
theorem SR.L9{B H₀ Hs H:Hp}{σ:St}{env:af}{i:Nat}{a C dx:Addr}{fs gs:List (Str×PV)}{us:List (Str×V)}(r:SR B H₀ Hs H σ env)(e:env[i]?=some (some (.bd a C fs)))(h:iQ Hs gs us):SR B H₀ Hs (upd H a (.ins C dx us)) σ (env.set i (some (.bd a C gs))):=by
 obtain⟨dx0,vs,h1,h2,h3,h4,h5⟩:=r.bd i a C fs e
 have nS:∀ c u,Hs c=some u->c≠a:=λc u q z=>by rw[z,h3] at q;cases q
 have n0:∀ c u,H₀ c=some u->c≠a:=λc u q z=>by rw[z,h4] at q;cases q
 refine⟨⟨r.gr.st,λc u q=>by rw[aw (n0 c u q)];exact r.gr.al c u q,λc u q=>by rw[aw (nS c u q)];exact r.gr.sub c u q,r.gr.nw⟩,by rw[List.length_set];exact r.len,λj q ej=>?_,λj zs ej=>?_,λj k y1 y2 b nj e1 e2 e3 e4=>?_,λj ba D Qw ej=>?_,λj k _ _ C' D Qw gs' e1 e2=>?_⟩
 ·rw[List.getElem?_set] at ej
  by_cases z:i=j
  ·subst z
   rw[if_pos rfl] at ej
   split at ej <;> cases ej
  ·rw[if_neg z] at ej;exact r.sh j q ej
 ·rw[List.getElem?_set] at ej
  by_cases z:i=j
  ·subst z
   rw[if_pos rfl] at ej
   split at ej <;> cases ej
  ·rw[if_neg z] at ej
   obtain⟨b,ws,q1,q2,q3,q4,q5⟩:=r.ow j zs ej
   have nb:b≠a:=λw=>by subst w;rw[h2] at q2;cases q2
   exact⟨b,ws,q1,by rw[aw nb];exact q2,q3,q4,q5⟩
 ·rw[List.getElem?_set] at e1 e2
  by_cases z:i=j
  ·subst z
   rw[if_pos rfl] at e1
   split at e1 <;> cases e1
  ·by_cases z2:i=k
   ·subst z2
    rw[if_pos rfl] at e2
    split at e2 <;> cases e2
   ·rw[if_neg z] at e1
    rw[if_neg z2] at e2
    exact r.sep j k y1 y2 b nj e1 e2 e3 e4
 ·rw[List.getElem?_set] at ej
  by_cases z:i=j
  ·subst z
   rw[if_pos rfl] at ej
   split at ej
   ·cases ej;exact⟨dx,us,h1,aE,h3,h4,h⟩
   ·cases ej
  ·rw[if_neg z] at ej
   exact absurd (r.one i j _ _ _ _ _ _ e ej) z
 ·have o1:∃ b D w,env[j]?=some (some (.bd b D w)):=by
   rw[List.getElem?_set] at e1
   by_cases z:i=j
   ·subst z;exact⟨_,_,_,e⟩
   ·rw[if_neg z] at e1;exact⟨_,_,_,e1⟩
  have o2:∃ b D w,env[k]?=some (some (.bd b D w)):=by
   rw[List.getElem?_set] at e2
   by_cases z:i=k
   ·subst z;exact⟨_,_,_,e⟩
   ·rw[if_neg z] at e2;exact⟨_,_,_,e2⟩
  obtain⟨_,_,w1,o1⟩:=o1
  obtain⟨_,_,w2,o2⟩:=o2
  exact r.one j k _ _ _ _ _ _ o1 o2
def BE(i:Nat)(C:Addr)(f:Str)(p:PV)(env:af):M Out:=match env[i]? with
 | some (some (.bd a C' fs))=>cP (C'=C/\fs.length<1000) (M.ok (.nx (env.set i (some (.bd a C (uz f p fs))))))
 | _=>none
def jy(i:Nat)(C:Addr)(fl:Str)(f:af->M PV):af->M Out:=λenv=>(f env).bind λp=>BE i C fl p env
section
variable{X:Cx}{E:XK}{e:Expr}{pos pos' px:Pos}{f:af->M PV}{i:Nat}{x fl:Str}{C:Addr}
theorem jh(hi:X.N[i]?=some x)(hv:Dp X.env.scope x)(c:kE X.K C)(na:bH X.K C fl)(he:PE X e (tE (λ_=>E) f))(hd:autoParam ((x==("__debug__" : Str))=false) aD._auto_1)(OH:autoParam ((x==("__classdict__" : Str))=false) aD._auto_1)
  (hs:autoParam (swapsWith e (some (.Attribute (.Name x px) fl pos')) pos.line X.env=pure false) aR._auto_1):PS X (.Assign [.Attribute (.Name x px) fl pos'] e pos) (tS E (jy i C fl f)):=by
 refine(HP (nL hi hv hd OH) he hs).imp λD σ H q=>kr q λB H₀ Hs H1 env p v sr rp hp=>?_
 unfold BE at hp
 split at hp
 ·rename_i a C' fs ex
  obtain⟨⟨rfl,hz⟩,hp⟩:=az.cP hp
  obtain⟨dx,vs,h1,h2,h3,h4,h5⟩:=sr.bd i a _ fs ex
  exact⟨.ref a,h1,a,_,dx,vs,rfl,h2,c,na,by rw[← h5.length];exact hz,hp σ Hs _ (sr.L9 ex (h5.put rp))⟩
 ·exact hp.elim
end
def vm(m:Nat)(a C:Addr)(ps:List PV):af:=some (.bd a C [])::lJ (m-1) ps
def BR(a C:Addr)(env:af):M (List (Str×PV)):=match (env[0]?:Option (Option SV)) with
 | some (some (.bd b D fs))=>cP (b=a/\D=C) (M.ok fs)
 | _=>none
def outI(a C:Addr):Out->M (List (Str×PV))
 | .nx env=>BR a C env
 | _=>none
def qY(m:Nat)(g:af->M Out)(C a:Addr)(ps:List PV):M (List (Str×PV)):=(g (vm m a C ps)).bind (outI a C)
def IW{α:Type}(s:Addr->M α):M α:=open Classical in if h:∃ r,∀ a,s a=r then h.choose else none
theorem tW{α:Type}{s:Addr->M α}{r:M α}(h:∀ a,s a=r):IW s=r:=by
 have hx:∃ r,∀ a,s a=r:=⟨r,h⟩
 unfold IW
 rw[dif_pos hx,← hx.choose_spec 0,h 0]
theorem az.IW{α:Type}{s:Addr->M α}{Q:α->Prop}{E:EX->Prop}(h:az (L2.IW s) Q E)(a:Addr):az (s a) Q E:=by
 unfold L2.IW at h
 split at h
 ·rename_i hx
  rw[hx.choose_spec a];exact h
 ·exact h.elim
def Dk(n:Nat)(C:Addr)(sem:Addr->List PV->M (List (Str×PV))):Sp:=λvs H Q E=>vs.length=n/\∃ a dx us Hs H1 ps,vs=.ref a::us/\H1 a=none/\H1 dx=none/\dx≠a/\H=upd (upd H1 dx (.own a)) a (.ins C dx [])/\bu Hs H1/\aW Hs ps us ∧
 az (sem a ps) (λfs=>∀ QU ws Nr H',bN Hs H1 Nr H'->H' a=some (.ins C QU ws)->Nr a=none->iQ Nr fs ws->Q .cR H') (XW E Hs H1)
theorem SR.Hi{Hs H₀ H:Hp}{N:List Str}{a C dx:Addr}{ps:List PV}{vs:List V}(s:bu Hs H₀)(hN:0<N.length)(ha:H₀ a=none)(r:aW Hs ps vs)(hH:H=upd H₀ a (.ins C dx [])):SR Hs H₀ Hs H (L2.start N (.ref a::vs)) (vm N.length a C ps):=by
 have hs:Hs a=none:=by
  cases q:Hs a with
  | none=>rfl
  | some o=>have:=s _ _ q;rw[ha] at this;cases this
 have ne:∀ c u,H₀ c=some u->c≠a:=λc u e z=>by rw[z,ha] at e;cases e
 have s0:=SR.start (N:=N.tail) s r
 have e1:L2.start N (.ref a::vs)=some (.ref a)::L2.start N.tail vs:=by
  unfold L2.start
  simp only[List.map_cons,List.cons_append,List.length_cons,List.length_tail]
  rw[Nat.sub_sub,Nat.add_comm]
 have e2:vm N.length a C ps=some (.bd a C [])::lJ N.tail.length ps:=by unfold vm;rw[List.length_tail]
 have al:bu H₀ H:=λc u q=>by rw[hH,aw (ne c u q)];exact q
 rw[e1,e2]
 refine⟨⟨λ_ _ e=>e,al,λc u q=>al c u (s c u q),λc u q _=>q⟩,by simp[s0.len],λj q ej=>?_,λj zs ej=>?_,λj k y1 y2 b nj e1 e2 e3 e4=>?_,λj ba D Qw ej=>?_,λj k a1 a2 C' D Qw gs' e1 e2=>?_⟩
 ·cases j with
  | zero=>cases ej
  | succ j=>exact s0.sh j q (by simpa using ej)
 ·cases j with
  | zero=>cases ej
  | succ j=>exact absurd (s0.ow j zs (by simpa using ej)) (λ⟨b,ws,q1,q2,q3,q4,q5⟩=>by rw[q4] at q2;cases q2)
 ·cases j with
  | zero=>cases e1
  | succ j=>exact absurd (s0.ow j y1 (by simpa using e1)) (λ⟨b,ws,q1,q2,q3,q4,q5⟩=>by rw[q4] at q2;cases q2)
 ·cases j with
  | zero=>cases ej;exact⟨dx,[],rfl,by rw[hH];exact aE,hs,ha,.nil⟩
  | succ j=>exact absurd (s0.bd j ba D Qw (by simpa using ej)) (λ⟨b,ws,q1,q2,q3,q4,q5⟩=>by rw[q4] at q2;cases q2)
 ·cases j with
  | zero=>cases k with
   | zero=>rfl
   | succ k=>exact absurd (s0.bd k a2 D gs' (by simpa using e2)) (λ⟨b,ws,q1,q2,q3,q4,q5⟩=>by rw[q4] at q2;cases q2)
  | succ j=>exact absurd (s0.bd j a1 C' Qw (by simpa using e1)) (λ⟨b,ws,q1,q2,q3,q4,q5⟩=>by rw[q4] at q2;cases q2)
theorem DE{P:Program}{w:World}{K:PySem.W.Frag}{mg:Str->Option Value}{base:Heap}{k:Nat}{f C:Addr}{name qual:Str}{params:Arguments}{body:List Stmt}{scope:Scope}{dV kV doc pm NM ct oc:Value}{an od:Option Addr}
  {PF:Array (Option Value)} {N ps:List Str} {g:af->M Out} (lk:K.lookup f=some ⟨oc,od,.func (PySem.W.fnOf name qual params body scope dV kV doc pm an NM ct),PF⟩) (OH:PySem.W.codeIn K NM qual=true) (S:cA N ps scope) (hN:0<N.length)
  (hb:∀ (A:Around) (outer:List Env) (s:Shared) (H:Hp) (E:XK),cJ k (A.deeper (envOfC qual scope s.heap.objs.size f NM))->mL ((lY (bG P w) P w K mg base N qual scope f NM A outer s H E).out λ_=>E) body (tS E g)) :
  aO P w K mg base (bG P w) (k+1) f (PySem.W.fnOf name qual params body scope dV kV doc pm an NM ct) ps (Dk ps.length C (qY N.length g C)):=by
 refine xJ lk OH S (λvs H Q E h=>h.1) λA outer s H vs Q E hr hs=>⟨_,hb A outer s H E hr,?_⟩
 obtain⟨_,a,dx,us,Hs,H1,O6,rfl,ha,hdx,Pm,hH,sm,r,h⟩:=hs
 have ne:∀ c u,H1 c=some u->c≠dx:=λc u e z=>by rw[z,hdx] at e;cases e
 have s0:bu H1 (upd H1 dx (.own a)):=λc u q=>by rw[aw (ne c u q)];exact q
 have g0:bN Hs H1 Hs (upd H1 dx (.own a)):=⟨λ_ _ e=>e,s0,λc u q=>s0 c u (sm c u q),λ_ _ e _=>e⟩
 refine⟨Hs,_,Hs,_,SR.Hi (dx:=dx) g0.sub hN (by rw[aw (Ne.symm Pm)];exact ha) r hH,(az.bind h).imp (λo ho=>?_) λe he=>he.grow g0⟩
 cases o with
 | rt p=>exact ho.elim
 | bk env=>exact ho.elim
 | ct env=>exact ho.elim
 | nx env =>
  intro σ Nr H' sr
  have O9:az (BR a C env) _ _:=ho
  unfold BR at O9
  split at O9
  ·rename_i b D fs ex
   obtain⟨⟨rfl,rfl⟩,hp⟩:=az.cP O9
   obtain⟨QU,ws,h1,h2,h3,h4,h5⟩:=sr.bd 0 _ _ fs ex
   exact hp QU ws Nr H' (g0.trans sr.gr) h2 h3 h5
  ·exact O9.elim
def dR(C:Addr)(sem:Addr->List PV->M (List (Str×PV)))(OV:List PV)(ps:List PV):M PV:=(IW λa=>sem a (ps++OV)).bind λfs=>M.ok (.obj C fs)
section
variable{X:Cx}{E:St->XK}{k n:Nat}{f C:Addr}{fd:FuncData}{ns:List Str}{sem:Addr->List PV->M (List (Str×PV))}{x:Str}{p pos:Pos}{e:Expr}{es:List Expr}{fs:af->M (List PV)}
theorem DZ{ds:List Value}{N7:List V}{OV:List PV}(Mk:Mk X.K C f)(F:aO X.prog X.w X.K X.mg X.base (bG X.prog X.w) k f fd ns (Dk n C sem))(hr:cJ (k+1) X.A)(hg:Gl X x)(hm:X.mg x=some (.ref C))(hb:Binds X.K fd ns ds)(hd:Vals N7 ds)(hdp:∀ H,aW H OV N7)(O:fg X E)
  (hl:∀ a ps,sem a (ps++OV)≠none->ps.length+OV.length+1=n)
  (ha:PA X (e::es) (tL E fs)) (Oo:autoParam ((x==("__debug__" : Str))=false) aD._auto_1) (he:autoParam (starEach (e::es) X.env=(false,eval e X.env)::starEach es X.env) aR._auto_1) (NQ:autoParam ((backTo pos (starEach es X.env)).any (·.1)=false) aR._auto_1) :
  PE X (.Call (.Name x p) (e::es) [] pos) (tE E (ai (dR C sem OV) fs)):=by
 refine(Bz Mk F hr hg hm hb hd O ha Oo he NQ).imp fun σ H Q q=>dC (K:=jU Q) jU.g q λB H₀ Hs H1 env O6 v sr rp hp=>?_
 intro a dx ha hdx Pm
 have r2:aW Hs (O6++OV) (v++N7):=rp.append (hdp Hs)
 have QC:=(az.bind hp).IW a
 have hn:sem a (O6++OV)≠none:=λz=>by
  rw[z] at QC;exact QC
 refine⟨?_,a,dx,v++N7,Hs,H1,O6++OV,rfl,ha,hdx,Pm,rfl,sr.gr.sub,r2,QC.imp (λfl hfl QU ws Nr H' g hw QN O7=>⟨rfl,?_⟩) λe he=>he⟩
 ·show (v++N7).length+1=n
  rw[← r2.length,List.length_append]
  exact hl a O6 hn
 ·have ne:∀ c u,Nr c=some u->c≠a:=λc u q z=>by rw[z,QN] at q;cases q
  have NU:bu Nr (upd Nr a (.ins C QU ws)):=λc u q=>by rw[aw (ne c u q)];exact q
  refine hfl (.ref a) (upd Nr a (.ins C QU ws)) H' ⟨λc u q=>NU c u (g.st c u q),g.al,λc u q=>?_,λc u q1 q2=>?_⟩ (.obj aE (O7.mono NU))
  ·by_cases z:c=a
   ·subst z;rw[aE] at q;cases q;exact hw
   ·rw[aw z] at q;exact g.sub c u q
  ·have z:c≠a:=λz=>by rw[z,ha] at q2;cases q2
   rw[aw z];exact g.nw c u q1 q2
end
end L2
namespace L2
open PySem PySem.Spec PyProof.Rows
section
variable{X:Cx}{E:St->XK}{a b c e:Expr}{pos:Pos}{f g h:af->M PV}
theorem nW{n m:Nat}(h:n.log2<m):n<2^m:=by
 by_cases z:n=0
 ·subst z;exact Nat.two_pow_pos m
 ·exact(Nat.log2_lt z).mp h
theorem aW.rep{H:Hp}{xs:List PV}{vs:List V}(r:aW H xs vs):∀ k:Nat,aW H (List.replicate k xs).flatten (List.replicate k vs).flatten
 | 0=>.nil
 | k+1=>by rw[List.replicate_succ,List.replicate_succ,List.flatten_cons,List.flatten_cons];exact r.append (r.rep k)
def bS:PV->PV->M PV
 | .int i,.int j=>cP (i.natAbs.log2<67108864/\j.natAbs.log2<67108864) (M.ok (.int (i*j)))
 | .tup xs,.int k=>cP (xs.isEmpty=false/\-(2^63)<=k/\k<2^63/\xs.length*k.toNat<=sizeLine) (M.ok (.tup (List.replicate k.toNat xs).flatten))
 | .lst xs,.int k=>cP (-(2^63)<=k/\k<2^63/\xs.length*k.toNat<=sizeLine) (M.ok (.lst (List.replicate k.toNat xs).flatten))
 | _,_=>none
def F4(K:PySem.W.Frag):R2:=λx y H Q=>(rI (λi j=>IntMulOk i j) λi j=>.int (i*j)) x y H Q\/FL K x y H Q\/Jx x y H Q
theorem Ec:gf X (binaryOp .Mult) (F4 X.K):=gf.or EJ (gf.or D7 CN)
theorem Ga{K:PySem.W.Frag}:lE E (F4 K) bS:=by
 intro σ Hs H p q v u Q s rp rq h
 cases rp with
 | int i=>cases rq with
  | int j =>
   obtain⟨hz,h⟩:=az.cP h
   exact .inl ⟨i,j,rfl,rfl,CI (nW hz.1) (nW hz.2) (Nat.le_refl _),dS.flat h s (.int _)⟩
  | _=>exact h.elim
 | @tup a xs vs ha hx=>cases rq with
  | int k =>
   obtain⟨⟨h0,h1,h2,h3⟩,h⟩:=az.cP h
   have n1:vs≠[]:=λz=>by
    have:=hx.length
    rw[z] at this
    cases xs with
    | nil=>cases h0
    | cons _ _=>cases this
   refine .inr (.inl ⟨a,k,vs,rfl,rfl,gc.of (s _ _ ha),n1,h1,h2,by rw[← hx.length];exact h3,λz=>?_,λz=>dS.tup h s (hx.rep _)⟩)
   subst z
   rw[show (1:Int).toNat=1 from rfl,List.replicate_succ,List.replicate_zero,List.flatten_cons,List.flatten_nil,List.append_nil] at h
   exact dS.flat h s (.tup ha hx)
  | _=>exact h.elim
 | @lst a xs vs ha hx=>cases rq with
  | int k =>
   obtain⟨⟨h1,h2,h3⟩,h⟩:=az.cP h
   exact .inr (.inr ⟨a,k,vs,rfl,rfl,s _ _ ha,h1,h2,by rw[← hx.length];exact h3,dS.lst h s (hx.rep _)⟩)
  | _=>exact h.elim
 | _=>exact h.elim
theorem EE:lE E (rI C5 λi j=>.int (i.fdiv j)) (xm (λ_ j=>decide (j≠0/\j.natAbs.log2<9000)) λi j=>i.fdiv j):=xD λi j z=>(of_decide_eq_true z:j≠0/\j.natAbs.log2<9000)
theorem Ho:lE E (rI (λ_ j=>j≠0) λi j=>.int (i.fmod j)) (xm (λ_ j=>decide (j≠0)) λi j=>i.fmod j):=xD λi j z=>of_decide_eq_true z
theorem G4:lE E (rI Gk λi j=>.int (i^j.toNat)) (xm (λi j=>decide (0<=j/\j<=1000000/\i.natAbs<2^64)) λi j=>i^j.toNat):=xD λi j z=>(of_decide_eq_true z:0<=j/\j<=1000000/\i.natAbs<2^64)
def Ks:PV->M PV
 | .int i=>M.ok (.int (-i))
 | _=>none
def kn(f:af->M PV):af->M PV:=λenv=>(f env).bind Ks
theorem HJ(ha:PE X a (tE E f)):PE X (.UnaryOp .USub a pos) (tE E (kn f)) :=
 (JV HI ha).imp fun σ H Q q=>Kh q λHs H1 p v s rp h=>by
  cases rp with
  | int i=>exact⟨i,rfl,dS.flat h s (.int _)⟩
  | _=>exact h.elim
def sH:PV->Bool
 | .cR=>true
 | _=>false
theorem wH{H:Hp}{p:PV}{v:V}(r:Rep H p v):decide (v=.cR)=sH p:=by
 cases r <;> rfl
def uE:PV->PV->M PV
 | p,.cR=>M.ok (.bl (sH p))
 | _,_=>none
def kQ:PV->PV->M PV
 | p,.cR=>M.ok (.bl (!sH p))
 | _,_=>none
theorem BL:lE E (λx y H Q=>y=.cR/\Q (.bl (decide (x=.cR))) H) uE:=by
 intro σ Hs H p q v u Q s rp rq h
 cases rq with
 | cR =>
  have h':az (M.ok (PV.bl (sH p))) (dS Hs H Q) (XW (E σ) Hs H):=by cases p <;> exact h
  exact⟨rfl,by rw[wH rp];exact dS.flat h' s (.bl _)⟩
 | _=>cases p <;> exact h.elim
theorem yi:lE E (λx y H Q=>y=.cR/\Q (.bl (!decide (x=.cR))) H) kQ:=by
 intro σ Hs H p q v u Q s rp rq h
 cases rq with
 | cR =>
  have h':az (M.ok (PV.bl (!sH p))) (dS Hs H Q) (XW (E σ) Hs H):=by cases p <;> exact h
  exact⟨rfl,by rw[wH rp];exact dS.flat h' s (.bl _)⟩
 | _=>cases p <;> exact h.elim
def gZ(o o':PV->PV->M PV)(f g h:af->M PV):af->M PV:=λenv=>(f env).bind λp=>(g env).bind λq=>(o p q).bind λz=>(w5 z).bind λk=>if k=true then (h env).bind λr=>o' q r else M.ok (.bl false)
theorem vc{r r':R2}{o o':PV->PV->M PV}(hv:lE E r o)(QO:lE E r' o'){σ:St}{H:Hp}{Q:VK}(q:tE E (gZ o o' f g h) σ H Q):xj r r' (tE E f) (tE E g) (tE E h) σ H Q:=by
 refine bQ (K:=jU Q) jU.g q λB H₀ Hs H1 env p v sr rp hp=>?_
 refine⟨B,H₀,Hs,env,sr,(az.bind hp).imp (λq hq u NC H2 g2 ru=>?_) λe he=>he⟩
 have NT:=sr.grow g2
 refine hv σ NC H2 p q v u _ NT.gr.sub (rp.mono g2.st) ru ((az.bind hq).imp (λz hz w OU H3 g3 O7=>?_) λe he=>he.grow g2)
 obtain⟨k,ek,hk⟩:=az.Kf (az.bind hz)
 subst ek
 cases O7
 refine⟨k,rfl,?_⟩
 have Pl:=NT.grow g3
 cases k with
 | false=>exact hk _ _ _ (g2.trans g3) (.bl _)
 | true =>
  have O5:az ((h env).bind λr=>o' q r) (jU Q Hs H1) (XW (E σ) Hs H1):=hk
  refine⟨B,H₀,OU,env,Pl,(az.bind O5).imp (λr hr w Hs4 H4 g4 rw4=>?_) λe he=>he.grow (g2.trans g3)⟩
  exact QO σ Hs4 H4 q r u w Q (Pl.grow g4).gr.sub ((ru.mono g3.st).mono g4.st) rw4 (hr.imp (λz hz w' QT H5 g5 r5=>hz w' QT H5 ((g2.trans g3).trans (g4.trans g5)) r5) λe he=>he.grow ((g2.trans g3).trans g4))
theorem vK{op Pr:CmpOp}{r r':R2}{o o':PV->PV->M PV}(ho:gf X (compareOp op) r)(hv:lE E r o)(O9:gf X (compareOp Pr) r')(QO:lE E r' o')(ha:PE X a (tE E f))(hb:PE X b (tE E g))(hc:PE X c (tE E h))
  (hm:autoParam (lastMarks [op,Pr] [b,c]=false) aU._auto_1):PE X (.Compare a [op,Pr] [b,c] pos) (tE E (gZ o o' f g h)) :=
 (AB ho O9 ha hb hc hm).imp fun σ H Q q=>vc hv QO q
theorem B8{op Pr:CmpOp}{r r':R2}{o o':PV->PV->M PV}(ho:gf X (compareOp op) r)(hv:lE E r o)(O9:gf X (compareOp Pr) r')(QO:lE E r' o')(ha:PE X a (tE E f))(hb:PE X b (tE E g))(hc:PE X c (tE E h))
  (hm:autoParam (lastMarks [op,Pr] [b,c]=false) aU._auto_1):PT X (.Compare a [op,Pr] [b,c] pos) (tT E (dm (gZ o o' f g h))) :=
 (Co ho O9 ha hb hc hm).imp fun σ H Q q=>vc hv QO (qw q)
def cU(u:af->M Bool)(b:af->M Out):Nat->af->M Out
 | 0,_=>none
 | n+1,env=>(u env).bind λt=>if t=true then (b env).bind λo=>match o with
   | .nx Nq=>cU u b n Nq
   | .ct Nq=>cU u b n Nq
   | .bk Nq=>M.ok (.nx Nq)
   | .rt p=>M.ok (.rt p)
  else M.ok (.nx env)
theorem Ag{E:XK}{u:af->M Bool}{g:af->M Out}{body:List Stmt}(n:af->Nat)(O:fg X λ_=>E)(hc:PT X c (tT (λ_=>E) u))(hb:mL X body (tS E g)):PS X (.While c body [] pos) (tS E λenv=>cU u g (n env) env):=by
 refine(CL O.own hc hb).imp λD σ H q=>?_
 obtain⟨B,H₀,Hs,env,sr,q⟩:=q
 refine⟨λm σ H=>∃ Hs env,SR B H₀ Hs H σ env/\az (cU u g m env) (KS D B H₀) (XW E B H₀),⟨n env,Hs,env,sr,q⟩,?_⟩
 rintro m σ1 H1 ⟨NA,env1,Qu,q1⟩
 cases m with
 | zero=>exact q1.elim
 | succ m =>
  refine⟨B,H₀,NA,env1,Qu,(az.bind q1).imp (λt ht NC H2 g2=>?_) λe he=>he.grow Qu.gr⟩
  have NT:=Qu.grow g2
  cases t with
  | false=>exact ht σ1 NC H2 NT
  | true =>
   refine⟨fun σ' H'=>∃ Nr Nq,SR B H₀ Nr H' σ' Nq/\az (cU u g m Nq) (KS D B H₀) (XW E B H₀),fun σ' H' z=>⟨m,Nat.lt_succ_self m,z⟩,B,H₀,NC,env1,NT,(az.bind ht).imp (λo ho=>?_) λe he=>he⟩
   cases o with
   | nx Nq=>exact fun σ' Nr H' Pd=>⟨Nr,Nq,Pd,ho⟩
   | ct Nq=>exact fun σ' Nr H' Pd=>⟨Nr,Nq,Pd,ho⟩
   | bk Nq=>exact ho
   | rt p=>exact ho
theorem ju{u:af->M Bool}{g:af->M Out}:∀ (n k:Nat) (env:af),cU u g n env≠none->cU u g (n+k) env=cU u g n env
 | 0,_,_,h=>(h rfl).elim
 | n+1,k,env,h=>by
  rw[show n+1+k=(n+k)+1 by omega]
  unfold cU at h ⊢
  cases hu:u env with
  | none=>rfl
  | some z =>
   cases z with
   | error e=>rfl
   | ok t =>
    rw[hu] at h
    cases t with
    | false=>rfl
    | true =>
     show M.bind (g env) _=M.bind (g env) _
     have h':M.bind (g env) (λo=>match o with
      | .nx Nq=>cU u g n Nq
      | .ct Nq=>cU u g n Nq
      | .bk Nq=>M.ok (.nx Nq)
      | .rt p=>M.ok (.rt p))≠none:=h
     cases hg:g env with
     | none=>rfl
     | some z =>
      cases z with
      | error e=>rfl
      | ok o =>
       rw[hg] at h'
       cases o with
       | nx Nq=>exact ju n k Nq h'
       | ct Nq=>exact ju n k Nq h'
       | bk Nq=>rfl
       | rt p=>rfl
def lK(u:af->M Bool)(b:af->M Out)(env:af):M Out:=open Classical in cU u b (if h:∃ n,cU u b n env≠none then h.choose else 0) env
theorem zh{u:af->M Bool}{b:af->M Out}{n:Nat}{env:af}(h:cU u b n env≠none):lK u b env=cU u b n env:=by
 have hx:∃ n,cU u b n env≠none:=⟨n,h⟩
 unfold lK
 rw[dif_pos hx]
 have h1:=hx.choose_spec
 rw[← ju _ n env h1,← ju n hx.choose env h,Nat.add_comm]
theorem wD{E:XK}{u:af->M Bool}{g:af->M Out}{body:List Stmt}(O:fg X λ_=>E)(hc:PT X c (tT (λ_=>E) u))(hb:mL X body (tS E g)):PS X (.While c body [] pos) (tS E (lK u g)) :=
 Ag (λenv=>open Classical in if h:∃ n,cU u g n env≠none then h.choose else 0) O hc hb
end
end L2
namespace L2
open PySem PySem.Spec PyProof.Rows
def FW:PV->Option String
 | .cR=>some "NoneType"
 | .bl _=>some "bool"
 | .int _=>some "int"
 | .str _=>some "str"
 | .lst _=>some "list"
 | .jW _=>some "list"
 | .tup _=>some "tuple"
 | .emp=>some "dict"
 | _=>none
def lF(a t:String):Bool:=a==t||(a == "bool" && t == "int")
theorem oJ(K:PySem.W.Frag):PySem.W.kitOne K (.type "NoneType") (.type "int")=some false:=by with_unfolding_all kernel_rfl
theorem vU(K:PySem.W.Frag):PySem.W.kitOne K (.type "bool") (.type "int")=some true:=by with_unfolding_all kernel_rfl
def tys:List String:=["int", "bool", "str", "list", "tuple"]
theorem JG(K:PySem.W.Frag){p:PV}{a t:String}(ha:FW p=some a)(ht:t∈tys):PySem.W.kitOne K (.type a) (.type t)=some (lF a t):=by
 have ht2:t = "int" \/ t = "bool" \/ t = "str" \/ t = "list" \/ t = "tuple" := by simpa [tys] using ht
 cases p <;> cases ha <;> rcases ht2 with rfl | rfl | rfl | rfl | rfl <;> first
  | exact oJ K
  | exact kt_NoneType_bool K
  | exact kt_NoneType_str K
  | exact kt_NoneType_list K
  | exact kt_NoneType_tuple K
  | exact vU K
  | exact kt_bool_bool K
  | exact kt_bool_str K
  | exact kt_bool_list K
  | exact kt_bool_tuple K
  | exact kt_int_int K
  | exact kt_int_bool K
  | exact kt_int_str K
  | exact kt_int_list K
  | exact kt_int_tuple K
  | exact kt_str_int K
  | exact kt_str_bool K
  | exact kt_str_str K
  | exact kt_str_list K
  | exact kt_str_tuple K
  | exact kt_list_int K
  | exact kt_list_bool K
  | exact kt_list_str K
  | exact kt_list_list K
  | exact kt_list_tuple K
  | exact kt_tuple_int K
  | exact kt_tuple_bool K
  | exact kt_tuple_str K
  | exact kt_tuple_list K
  | exact kt_tuple_tuple K
  | exact kt_dict_int K
  | exact kt_dict_bool K
  | exact kt_dict_str K
  | exact kt_dict_list K
  | exact kt_dict_tuple K
theorem x9{K:PySem.W.Frag}{Hs H:Hp}{p:PV}{v:V}{a:String}(s:bu Hs H)(r:Rep Hs p v)(ha:FW p=some a):jV K H v (.type a):=by
 cases r with
 | cR=>cases ha;exact .cR
 | bl b=>cases ha;exact .bl b
 | int i=>cases ha;exact .int i
 | str x=>cases ha;exact .str x
 | tup h _=>cases ha;exact .tup (s _ _ h)
 | lst h _=>cases ha;exact .lst (s _ _ h)
 | jW h _=>cases ha;exact .rN (s _ _ h)
 | emp h=>cases ha;exact .dK (s _ _ h)
 | _=>cases ha
theorem yt(K:PySem.W.Frag){p:PV}{a:String}(ha:FW p=some a):∀ {Ts:List String},(∀ t∈Ts,t∈tys)->PySem.W.kitAny K (.type a) (Ts.map Value.type)=some (Ts.any λt=>lF a t)
 | [],_=>rfl
 | t::r,h=>by
  have h1:=JG K ha (h t List.mem_cons_self)
  have h2:=yt K ha (Ts:=r) λt q=>h t (List.mem_cons_of_mem _ q)
  simp only[List.map_cons,PySem.W.kitAny,h1,List.any_cons]
  cases lF a t with
  | true=>rfl
  | false=>exact h2
structure pK (K:PySem.W.Frag) (C:Addr):Prop where
 cls:kE K C
 ha:PySem.W.findIn K (.ref C) "__class__" = some (some (.builtin "object.__class__"))
 hn:PySem.W.specialIn K (.builtin "object.__class__") "__get__" = some (some (.builtin "getset_descriptor.__get__"))
 Jf:PySem.W.takesIn K (.builtin "object.__class__")=some true
 hm:PySem.W.mroIn K C (.type "object")=some true
def yH(b:String->Bool)(ob oe:Addr->Option Bool):PV->M PV
 | .obj C _=>dZ ((ob C).map .bl)
 | .exc C _=>dZ ((oe C).map .bl)
 | p=>dZ ((FW p).map λa=>.bl (b a))
section
variable{X:Cx}{E:St->XK}{e:Expr}{pos p px pt:Pos}{f:af->M PV}{T:String}{x:Str}{C:Addr}{ob oe:Addr->Option Bool}
theorem C1{H:Hp}{C:Addr}{fo:Option (List (Str×PV))}{Hs:Hp}{v:V}(s:bu Hs H)(r:Rep Hs (.exc C fo) v):∃ a Q2,v=.ref a/\ExcAt H a C Q2:=by
 cases r with
 | @zH a _ h=>exact⟨a,none,rfl,s _ _ h⟩
 | @zJ a _ d _ vs h h2 _=>exact⟨a,some vs,rfl,d,s _ _ h,s _ _ h2⟩
def rT(b:String->Bool)(ob oe:Addr->Option Bool)(f:af->M PV):af->M PV:=λenv=>(f env).bind (yH b ob oe)
theorem pe{b:String->Bool}{p:PV}{Q:PV->Prop}{F:EX->Prop}(h:az (yH b ob oe p) Q F):(∃ a,FW p=some a/\Q (.bl (b a)))\/(∃ C fs k,p=.obj C fs/\ob C=some k/\Q (.bl k))\/∃ C fo k,p=.exc C fo/\oe C=some k/\Q (.bl k):=by
 cases p with
 | obj C fs =>
  obtain⟨z,e,q⟩:=az.opt h
  obtain⟨k,e2,rfl⟩:=Option.map_eq_some_iff.mp e
  exact .inr (.inl ⟨C,fs,k,rfl,e2,q⟩)
 | exc C fo =>
  obtain⟨z,e,q⟩:=az.opt h
  obtain⟨k,e2,rfl⟩:=Option.map_eq_some_iff.mp e
  exact .inr (.inr ⟨C,fo,k,rfl,e2,q⟩)
 | cR=>exact .inl ⟨_,rfl,h⟩
 | bl _=>exact .inl ⟨_,rfl,h⟩
 | int _=>exact .inl ⟨_,rfl,h⟩
 | str _=>exact .inl ⟨_,rfl,h⟩
 | tup _=>exact .inl ⟨_,rfl,h⟩
 | lst _=>exact .inl ⟨_,rfl,h⟩
 | jW _=>exact .inl ⟨_,rfl,h⟩
 | emp=>exact .inl ⟨_,rfl,h⟩
theorem wZ{K:PySem.W.Frag}{Hs H:Hp}{C:Addr}{fs:List (Str×PV)}{v:V}(s:bu Hs H)(r:Rep Hs (.obj C fs) v)(c:pK K C):jV K H v (.ref C):=by
 cases r with
 | obj h _=>exact .ins (s _ _ h) c.cls c.ha c.hn c.Jf c.hm
theorem kf(hg:Gl X "isinstance")(hm:X.mg "isinstance" = none)(hT:PE X (.Name x pt) (tC (.ty T)))(ht:T∈tys)(QB:∀ C b,ob C=some b->pK X.K C/\PySem.W.kitOne X.K (.ref C) (.type T)=some b)(OQ:∀ C b,oe C=some b->gK X.K C/\PySem.W.kitOne X.K (.ref C) (.type T)=some b)(he:PE X e (tE E f))
  (h1:autoParam (starEach [e,.Name x pt] X.env=(false,eval e X.env)::starEach [.Name x pt] X.env) aR._auto_1) (h2:autoParam (starEach [.Name x pt] X.env=(false,eval (.Name x pt) X.env)::starEach [] X.env) aR._auto_1) (NQ:autoParam ((backTo pos (starEach [.Name x pt] X.env)).any (·.1)=false) aR._auto_1) :
  PE X (.Call (.Name "isinstance" p) [e,.Name x pt] [] pos) (tE E (rT (λa=>lF a T) ob oe f)):=by
 refine(me (cZ.or AI vz) hg hm yc (eB he (eB hT kz h2) h1) (by decide) (by decide) h1 NQ).imp fun σ H Q q=>bQ (K:=jU Q) jU.g q λB H₀ Hs H1 env p v sr rp hp=>?_
 rcases pe hp with ⟨a,ha,q⟩ | ⟨C,fs,k,rfl,e,q⟩ | ⟨C,fo,k,rfl,e,q⟩
 ·exact .inl ⟨v,T,_,_,rfl,x9 sr.gr.sub rp ha,JG X.K ha ht,dS.flat q sr.gr.sub (.bl _)⟩
 ·exact .inl ⟨v,T,_,_,rfl,wZ sr.gr.sub rp (QB C k e).1,(QB C k e).2,dS.flat q sr.gr.sub (.bl _)⟩
 ·obtain⟨a,Q2,rfl,hx⟩:=C1 sr.gr.sub rp
  exact .inr ⟨a,C,Q2,k,(OQ C k e).1,hx,.inl ⟨T,rfl,(OQ C k e).2⟩,dS.flat q sr.gr.sub (.bl _)⟩
theorem IC{D:Addr}(hg:Gl X "isinstance")(hm:X.mg "isinstance" = none)(hT:PE X (.Name x pt) (tC (.ref D)))(hk:∀ p a,FW p=some a->PySem.W.kitOne X.K (.type a) (.ref D)=some false)(QB:∀ C b,ob C=some b->pK X.K C/\PySem.W.kitOne X.K (.ref C) (.ref D)=some b)(OQ:∀ C b,oe C=some b->gK X.K C/\PySem.W.kitOne X.K (.ref C) (.ref D)=some b)(he:PE X e (tE E f))
  (h1:autoParam (starEach [e,.Name x pt] X.env=(false,eval e X.env)::starEach [.Name x pt] X.env) aR._auto_1) (h2:autoParam (starEach [.Name x pt] X.env=(false,eval (.Name x pt) X.env)::starEach [] X.env) aR._auto_1) (NQ:autoParam ((backTo pos (starEach [.Name x pt] X.env)).any (·.1)=false) aR._auto_1) :
  PE X (.Call (.Name "isinstance" p) [e,.Name x pt] [] pos) (tE E (rT (λ_=>false) ob oe f)):=by
 refine(me (cZ.or AO vz) hg hm yc (eB he (eB hT kz h2) h1) (by decide) (by decide) h1 NQ).imp fun σ H Q q=>bQ (K:=jU Q) jU.g q λB H₀ Hs H1 env p v sr rp hp=>?_
 rcases pe hp with ⟨a,ha,q⟩ | ⟨C,fs,k,rfl,e,q⟩ | ⟨C,fo,k,rfl,e,q⟩
 ·exact .inl ⟨v,D,_,_,rfl,x9 sr.gr.sub rp ha,hk p a ha,dS.flat q sr.gr.sub (.bl _)⟩
 ·exact .inl ⟨v,D,_,_,rfl,wZ sr.gr.sub rp (QB C k e).1,(QB C k e).2,dS.flat q sr.gr.sub (.bl _)⟩
 ·obtain⟨a,Q2,rfl,hx⟩:=C1 sr.gr.sub rp
  exact .inr ⟨a,C,Q2,k,(OQ C k e).1,hx,.inr ⟨D,rfl,(OQ C k e).2⟩,dS.flat q sr.gr.sub (.bl _)⟩
theorem EY{e2:Expr}{t2:TE}{Ts:List String}(hg:Gl X "isinstance")(hm:X.mg "isinstance" = none)(hT:PE X e2 t2)(ht2:∀ σ H R,(∀ p,H p=none->R (.ref p) (upd H p (.tup (Ts.map V.ty))))->t2 σ H R)(ht:∀ t∈Ts,t∈tys)(QB:∀ C b,ob C=some b->pK X.K C/\PySem.W.kitAny X.K (.ref C) (Ts.map Value.type)=some b)(he:PE X e (tE E f))
  (h1:autoParam (starEach [e,e2] X.env=(false,eval e X.env)::starEach [e2] X.env) aR._auto_1) (h2:autoParam (starEach [e2] X.env=(false,eval e2 X.env)::starEach [] X.env) aR._auto_1) (NQ:autoParam ((backTo pos (starEach [e2] X.env)).any (·.1)=false) aR._auto_1) :
  PE X (.Call (.Name "isinstance" p) [e,e2] [] pos) (tE E (rT (λa=>Ts.any λt=>lF a t) ob (λ_=>none) f)):=by
 refine(me yW hg hm yc (eB he (eB hT kz h2) h1) (by decide) (by decide) h1 NQ).imp fun σ H Q q=>bQ (K:=jU Q) jU.g q λB H₀ Hs H1 env p v sr rp hp=>?_
 refine ht2 σ H1 _ λtp hn=>?_
 have g:=bN.new (o:=.tup (Ts.map V.ty)) sr.gr.sub hn
 rcases pe hp with ⟨a,ha,q⟩ | ⟨C,fs,k,rfl,e,q⟩ | ⟨C,fo,k,rfl,e,q⟩
 ·exact⟨v,tp,Ts,_,_,rfl,aE,x9 g.sub (rp.mono g.st) ha,yt X.K ha ht,q _ _ _ g (.bl _)⟩
 ·exact⟨v,tp,Ts,_,_,rfl,aE,wZ g.sub (rp.mono g.st) (QB C k e).1,(QB C k e).2,q _ _ _ g (.bl _)⟩
 ·cases e
end
end L2
namespace L2
open PySem PySem.Spec PyProof.Rows
open PySem.SeqAt (shaped noMix noMixAll)
mutual
def dat:PV->Option PyData
 | .cR=>some .none
 | .bl b=>some (.bool b)
 | .int i=>some (.int i)
 | .str x=>some (.str x)
 | .tup xs=>(qb xs).map .tuple
 | .lst xs=>(qb xs).map .list
 | .jW xs=>(qb xs).map .list
 | .obj _ _=>none
 | .exc _ _=>none
 | .emp=>none
def qb:List PV->Option (List PyData)
 | []=>some []
 | p::r=>(dat p).bind λd=>(qb r).map (d::·)
end
section
variable{X:Cx}{Nm:List (Addr×Obj)}{σ:St}{H:Hp}{s:Shared}
mutual
theorem Rep.reads{Hs:Hp}(I:Inv X Nm σ H s)(sm:bu Hs H):∀ {p:PV} {v:V} {u:Value} {d:PyData},Rep Hs p v->RelV v u->dat p=some d->∃ as,Reads s.heap u d as
 | _,_,u,d,.cR,r,e=>by
  cases e;cases (show u=Value.none from r);exact⟨_,.none⟩
 | _,_,u,d,.bl b,r,e=>by
  cases e;cases (show u=Value.bool b from r);exact⟨_,.bool b⟩
 | _,_,u,d,.int i,r,e=>by
  cases e;obtain⟨t,rfl⟩:=(show ∃ t,u=Value.int i t from r);exact⟨_,.int i t⟩
 | _,_,u,d,.str i,r,e=>by
  cases e;obtain⟨t,rfl⟩:=(show ∃ t,u=Value.str i t from r);exact⟨_,.str i t⟩
 | _,_,u,d,.tup (a:=a) ha hx,r,e=>by
  obtain⟨ds,e2,rfl⟩:=Option.map_eq_some_iff.mp (show (qb _).map PyData.tuple=some d from e)
  cases (show u=Value.ref a from r)
  obtain⟨Nn,r1,⟨o,ho,hc,n,hd⟩,_⟩:=I.tuple (gc.of (sm _ _ ha))
  obtain⟨as,ra⟩:=aW.reads I sm hx r1 e2
  exact⟨_,.tuple ho hc hd (by simpa using ra)⟩
 | _,_,u,d,.lst (a:=a) ha hx,r,e=>by
  obtain⟨ds,e2,rfl⟩:=Option.map_eq_some_iff.mp (show (qb _).map PyData.list=some d from e)
  cases (show u=Value.ref a from r)
  obtain⟨Nn,r1,⟨o,n,ho,hc,_,hd⟩,_⟩:=I.list (hX.of (sm _ _ ha))
  obtain⟨as,ra⟩:=aW.reads I sm hx r1 e2
  exact⟨_,.list ho hc hd (by simpa using ra)⟩
 | _,_,u,d,.jW (a:=a) (o:=ob) ha hx,r,e=>by
  obtain⟨ds,e2,rfl⟩:=Option.map_eq_some_iff.mp (show (qb _).map PyData.list=some d from e)
  cases (show u=Value.ref a from r)
  obtain⟨Nn,r1,⟨o,n,ho,hc,_,hd⟩,_⟩:=I.list (.inl (.inr ⟨ob,sm _ _ ha⟩))
  obtain⟨as,ra⟩:=aW.reads I sm hx r1 e2
  exact⟨_,.list ho hc hd (by simpa using ra)⟩
 | _,_,u,d,.obj _ _,r,e=>by cases e
 | _,_,u,d,.zH _,r,e=>by cases e
 | _,_,u,d,.zJ _ _ _,r,e=>by cases e
 | _,_,u,d,.emp _,r,e=>by cases e
theorem aW.reads{Hs:Hp}(I:Inv X Nm σ H s)(sm:bu Hs H):∀ {p:List PV} {v:List V} {u:List Value} {d:List PyData},aW Hs p v->Vals v u->qb p=some d->∃ as,ReadsAll s.heap u d as
 | _,_,_,_,.nil,.nil,e=>by cases e;exact⟨_,.nil⟩
 | _,_,_,d,.cons (p:=p) (ps:=ps) h hr,.cons r rr,e=>by
  obtain⟨d1,e1,e2⟩:=Option.bind_eq_some_iff.mp (show (dat p).bind (λd=>(qb ps).map (d::·))=some d from e)
  obtain⟨ds,e3,rfl⟩:=Option.map_eq_some_iff.mp e2
  obtain⟨as,ra⟩:=Rep.reads I sm h r e1
  obtain⟨bs,rb⟩:=aW.reads I sm hr rr e3
  exact⟨_,.cons ra rb⟩
end
end
def IL(d e:PyData):M Bool:=cP (shaped d=true/\shaped e=true/\noMix d e=true) (M.ok (same d e))
def rO(o:Bool->PV)(p q:PV):M PV:=match dat p,dat q with
 | some d,some e=>(IL d e).bind λb=>M.ok (o b)
 | _,_=>none
def j7:PV->PV->M PV:=rO λb=>.bl b
def rm:PV->PV->M PV:=rO λb=>.bl (!b)
def AD(o:Bool->Bool):R2:=λx y H Q=>∃ Hs p q d e,bu Hs H/\Rep Hs p x/\Rep Hs q y/\dat p=some d/\dat q=some e/\shaped d=true/\shaped e=true/\noMix d e=true/\Q (.bl (o (same d e))) H
section
variable{X:Cx}{E:St->XK}
theorem Cv(hu:X.A.units+64<cLine):gf X (compareOp .Eq) (AD id):=by
 intro Nm s σ H x y v u Q I rx ry h
 obtain⟨Hs,p,q,d,e,sm,rp,rq,hd,he,h1,h2,h3,hq⟩:=h
 obtain⟨as,ra⟩:=Rep.reads I sm rp rx hd
 obtain⟨bs,rb⟩:=Rep.reads I sm rq ry he
 exact eq_dataH_same ra rb h1 h2 hu h3 (uo I hq rfl)
theorem AU(hu:X.A.units+64<cLine):gf X (compareOp .NotEq) (AD not):=by
 intro Nm s σ H x y v u Q I rx ry h
 obtain⟨Hs,p,q,d,e,sm,rp,rq,hd,he,h1,h2,h3,hq⟩:=h
 obtain⟨as,ra⟩:=Rep.reads I sm rp rx hd
 obtain⟨bs,rb⟩:=Rep.reads I sm rq ry he
 exact ne_dataH_same ra rb h1 h2 hu h3 (uo I hq rfl)
theorem AS{o:Bool->Bool}:lE E (AD o) (rO λb=>.bl (o b)):=by
 intro σ Hs H p q v u Q s rp rq h
 unfold rO at h
 split at h
 ·rename_i d e hd he
  have h':=az.bind h
  obtain⟨⟨h1,h2,h3⟩,h⟩:=az.cP h'
  exact⟨Hs,p,q,d,e,s,rp,rq,hd,he,h1,h2,h3,dS.flat h s (.bl _)⟩
 ·exact h.elim
theorem FZ:lE E (AD id) j7:=AS
theorem Ft:lE E (AD not) rm:=AS
end
def la(xs:List PV)(lo hi:Option Int):List PV:=(xs.drop (HT.da xs.length 0 lo)).take (HT.da xs.length xs.length hi-HT.da xs.length 0 lo)
theorem aW.cut{H:Hp}{xs:List PV}{vs:List V}(r:aW H xs vs)(lo hi:Option Int):aW H (la xs lo hi) (vH vs lo hi):=by
 unfold la vH
 rw[r.length]
 exact(r.drop _).take _
abbrev JW(Q:Option Int->Hp->Prop):Hp->Hp->Option Int->Prop:=λHs H k=>∀ Nr H',bN Hs H Nr H'->Q k H'
def La(E:St->XK)(g:af->M (Option Int)):TO:=fun σ H Q=>tG E g (JW Q) σ H
theorem PO.imp{X:Cx}{e:Option Expr}{t t':TO}(h:PO X e t)(i:∀ σ H Q,t' σ H Q->t σ H Q):PO X e t':=λNm s σ H Q I q=>h Nm s σ H Q I (i σ H Q q)
def Hn:PV->M (Option Int)
 | .int i=>M.ok (some i)
 | _=>none
def vT:af->M (Option Int):=λ_=>M.ok none
def iG(f:af->M PV):af->M (Option Int):=λenv=>(f env).bind Hn
section
variable{X:Cx}{E:St->XK}{e:Expr}{lo hi:Option Expr}{pos p2:Pos}{f:af->M PV}{gl gh:af->M (Option Int)}
theorem JW.g{Q:Option Int->Hp->Prop}:KG (JW Q):=λHs H Nr H' b k g NC H2 g2=>k NC H2 (g.trans g2)
theorem uh:PO X none (La E vT):=Dx.imp fun σ H Q q=>by
 obtain⟨B,H₀,Hs,env,sr,q⟩:=q
 exact q Hs H (.refl sr.gr.sub)
theorem ml(he:PE X e (tE E f)):PO X (some e) (La E (iG f)):=(Ee he).imp fun σ H Q q=>bQ (K:=JW Q) JW.g q λB H₀ Hs H1 env p v sr rp hp=>by
 cases rp with
 | int i=>exact⟨i,rfl,hp Hs H1 (.refl sr.gr.sub)⟩
 | _=>exact hp.elim
end
def h9(xs:List PV):List PV:=xs.mapIdx λi x=>.tup [.int (i:Nat),x]
section
variable{E:St->XK}{K:PySem.W.Frag}{fs:af->M (List PV)}
theorem rX{a:Addr}{NA:Hp}{xs:List PV}{vs:List V}(hq:∀ Nr H',bu NA Nr->bu Nr H'->hX K H' a vs)(hr:aW NA xs vs):j0 (Gm K a) NA (h9 xs) where
 stop:=λi Hs H s1 s2 hi=>by
  unfold h9 at hi
  rw[List.length_mapIdx,hr.length] at hi
  exact⟨vs,hq Hs H s1 s2,hi⟩
 go:=λi Hs H s1 s2 hi=>by
  unfold h9 at hi
  rw[List.length_mapIdx] at hi
  obtain⟨v,e,_⟩:=hr.get (List.getElem?_eq_getElem hi)
  exact⟨vs,v,hq Hs H s1 s2,e⟩
 uY:=λi Hs H x H2 s1 s2 hi y=>by
  unfold h9 at hi
  rw[List.length_mapIdx] at hi
  obtain⟨v,e,r⟩:=hr.get (List.getElem?_eq_getElem hi)
  obtain⟨pa,v',hn,rfl,rfl,y1⟩:=y
  have z1:=y1 vs (hq Hs H s1 s2)
  rw[e] at z1;cases z1
  have gr:=bN.new (o:=.tup [.int (i:Nat),v]) s2 hn
  refine⟨.tup [.int (i:Nat),xs[i]],_,?_,gr,.tup aE (.cons (.int _) (.cons ((r.mono s1).mono gr.st) .nil))⟩
  unfold h9
  rw[List.getElem?_mapIdx,List.getElem?_eq_getElem hi]
  rfl
end
end L2
namespace L2
open PySem PySem.Spec PyProof.Rows
def EB(lo st:Int)(n:Nat):It:=⟨λi _=>i<n,λi H x H'=>H'=H/\x=.int (lo+(i:Nat)*st),λi _=>n<=i⟩
theorem vb{P:Program}{w:World}{K:PySem.W.Frag}{tg:Expr}(it:Addr)(lo st:Int)(n:Nat):Turn P w K tg (EB lo st n) [it] it (λi h=>IsRangeIter h it (lo+(i:Nat)*st) ((n:Int)-(i:Nat)) st) where
 mem:=by simp
 obj:=λi h st b hb=>by
  have e:b=it:=by simpa using hb
  subst e
  exact⟨_,st,λv z=>by
   have z':Data.fields _=Data.cell v:=z
   cases z'⟩
 keep:=λi h h' st k=>k it (by simp) _ st
 item:=by
  intro X hP hw hK hc i Nm s σ H E I hf Oq hg
  subst hP hw hK
  obtain⟨f0,f1,f2,f3,f4,f5⟩:=hf it (by simp)
  have W:=Walks.range (prog:=X.prog) (w:=X.w) (I.ok.hd hc) it lo st n
  refine W.item i s _ _ hg Oq λv h' tk hv Rt kk=>?_
  obtain⟨t,rfl⟩:=hv
  have I1:Inv X Nm σ H { s with heap:=h',toks:=tk }:=I.turned (λb o hb e=>kk b o (by simpa using hb) e) f0 f1 f3 f4 f5
  exact⟨_,rfl,yR (s:={ s with heap:=h',toks:=tk }) (n := "range_iterator") Rt rfl rfl (by decide) ⟨.int (lo+(i:Nat)*st),H,I1,⟨t,rfl⟩,⟨rfl,rfl⟩,Rt,λb hb=>(hf b hb).1⟩⟩
 done:=by
  intro X hP hw hK hc i Nm s σ H E I hf Oq hg
  subst hP hw hK
  obtain⟨f0,f1,f2,f3,f4,f5⟩:=hf it (by simp)
  exact wpAny_pyNext_range_end (I.ok.hd hc) Oq (by have:n<=i:=hg;omega) λh' eb=>⟨rfl,I.turned (t':=s.toks) (λb o hb e=>eb b o hb e) f0 f1 f3 f4 f5⟩
 self:=λ_ _ _ _ _ st h=>wpAny_pyIter_rangeiter st h
theorem uL(a b c:Int):0<=Builtin.Range.rangeSize a b c:=by
 unfold Builtin.Range.rangeSize
 split
 ·split
  ·have:=Int.ediv_nonneg (a:=b-a-1) (b:=c) (by omega) (by omega);omega
  ·omega
 ·split
  ·have:=Int.ediv_nonneg (a:=a-b-1) (b:=-c) (by omega) (by omega);omega
  ·omega
section
variable{X:Cx}{tg:Expr}
theorem Ac{Nm:List (Addr×Obj)}{σ:St}{H:Hp}{s:Shared}{R:It->Hp->Prop}{E:Value->Shared->Prop}{lo hi st:Int}{t u v:Tok}{tk:Nat}(I:Inv X Nm σ H s)(hsm:Builtin.Range.small lo hi st=true)
  (q:R (EB lo st (Builtin.Range.rangeSize lo hi st).toNat) H):wpAny (model X.prog X.w) X.A (pyIter (.ref s.heap.objs.size)) (LU X Nm σ tg R) E { s with heap:=s.heap.push { cls:=.type "range", data:=.fields #[.int lo t,.int hi u,.int st v] },toks:=tk }:=by
 refine wpAny_pyIter_range (IsRange.new ..) hsm ?_
 have I1:Inv X Nm σ H { s with heap:=s.heap.push { cls:=.type "range", data:=.fields #[.int lo t,.int hi u,.int st v] },toks:=tk }:=I.kept λb o e=>Heap.get?_push_of_some _ e
 refine⟨(s.heap.push { cls:=.type "range", data:=.fields #[.int lo t,.int hi u,.int st v] }).objs.size,[(s.heap.push { cls:=.type "range", data:=.fields #[.int lo t,.int hi u,.int st v] }).objs.size],_,_,H,rfl,
  I1.kept (t':=tk) λb o e=>Heap.get?_push_of_some _ e,vb _ lo st (Builtin.Range.rangeSize lo hi st).toNat,?_,λb hb=>?_,q⟩
 ·have e1:lo+((0:Nat):Int)*st=lo:=by simp
  have e2:(((Builtin.Range.rangeSize lo hi st).toNat:Nat):Int)-((0:Nat):Int)=Builtin.Range.rangeSize lo hi st:=by have:=uL lo hi st;omega
  show IsRangeIter _ _ (lo+((0:Nat):Int)*st) ((((Builtin.Range.rangeSize lo hi st).toNat:Nat):Int)-((0:Nat):Int)) st
  rw[e1,e2]
  exact Heap.get?_push_size _ rfl
 ·have e:b=(s.heap.push { cls:=.type "range", data:=.fields #[.int lo t,.int hi u,.int st v] }).objs.size:=by simpa using hb
  subst e
  exact I1.uM (Nat.le_refl _) (I1.bJ.fresh (Nat.le_refl _))
def C3(i j k:Int):Bool:=decide (k≠0)&&decide (k.natAbs<1073741824)&&Builtin.Range.small i j k
def Fw(ta:TA):TI:=fun σ H R=>ta σ H λvs H1=>∃ i j k:Int,vs=[.int i,.int j,.int k]/\C3 i j k=true/\R (EB i k (Builtin.Range.rangeSize i j k).toNat) H1
theorem sC{a b c:Expr}{ta:TA}{p pos:Pos}(hg:Gl X "range")(hm:X.mg "range" = none)(ha:PA X [a,b,c] ta)(hs:autoParam (starEach [a,b,c] X.env=[(false,eval a X.env),(false,eval b X.env),(false,eval c X.env)]) aR._auto_1)(OR:autoParam (starEach [b,c] X.env=[(false,eval b X.env),(false,eval c X.env)]) aR._auto_1) :
  PI X tg (.Call (.Name "range" p) [a,b,c] [] pos) (Fw ta):=by
 intro Nm s σ H R I h
 refine Call_ (jm I hg hm boot_range (PyProof.Rows.callWith_type1 (cL (ha pos Nm s σ H _ I h) λus s1 ⟨vs,H1,I1,r1,q1⟩=>?_) (by rw[hs,OR]) (by rw[OR];rfl)))
 obtain⟨i,j,k,e,hc,q⟩:=q1
 subst e
 cases r1 with
 | cons r rr =>
  cases rr with
  | cons r' rr =>
   cases rr with
   | cons Rr rr =>
    cases rr
    obtain⟨t,rfl⟩:=r
    obtain⟨t',rfl⟩:=r'
    obtain⟨t'',rfl⟩:=Rr
    unfold C3 at hc
    rw[Bool.and_eq_true,Bool.and_eq_true] at hc
    exact call_range_3 (of_decide_eq_true hc.1.1) (Ac I1 hc.2 q) (.inl (PyProof.noPylong_small (of_decide_eq_true hc.1.2)))
end
def zk:List PV->M (List PV)
 | [.int i,.int j,.int k]=>cP (C3 i j k=true) (M.ok ((List.range (Builtin.Range.rangeSize i j k).toNat).map λ(n:Nat)=>.int (i+n*k)))
 | _=>none
section
variable{E:St->XK}{K:PySem.W.Frag}{fs:af->M (List PV)}
theorem Aq{lo st:Int}{n:Nat}{NA:Hp}:j0 (EB lo st n) NA ((List.range n).map λ(i:Nat)=>PV.int (lo+(i:Int)*st)) where
 stop:=λi Hs H s1 s2 hi=>show n<=i by simpa using hi
 go:=λi Hs H s1 s2 hi=>show i<n by simpa using hi
 uY:=λi Hs H x H2 s1 s2 hi y=>by
  obtain⟨rfl,rfl⟩:=y
  have PR:i<n:=by simpa using hi
  exact⟨.int (lo+(i:Int)*st),Hs,by simp[PR],.refl s2,.int _⟩
theorem Aa{ps:List PV}{Q:List PV->Prop}{F:EX->Prop}(h:az (zk ps) Q F):∃ i j k,ps=[.int i,.int j,.int k]/\C3 i j k=true/\Q ((List.range (Builtin.Range.rangeSize i j k).toNat).map λ(n:Nat)=>.int (i+n*k)):=by
 unfold zk at h
 split at h
 ·obtain⟨hc,h⟩:=az.cP h
  exact⟨_,_,_,rfl,hc,h⟩
 ·exact h.elim
theorem aW.three{H:Hp}{p q r:PV}{vs:List V}(h:aW H [p,q,r] vs):∃ v u w,vs=[v,u,w]/\Rep H p v/\Rep H q u/\Rep H r w:=by
 cases h with
 | cons h r=>obtain⟨u,w,rfl,h2,h3⟩:=r.two;exact⟨_,_,_,rfl,h,h2,h3⟩
theorem vN:y0 E (Fw (tL E fs)) (i8 zk fs):=by
 intro σ H R q
 refine dC (K:=KI R) KI.g q λB H₀ Hs H1 env ps v sr rp hp=>?_
 obtain⟨i,j,k,rfl,hc,hp⟩:=Aa hp
 obtain⟨w,u,z,rfl,O7,ru,rz⟩:=rp.three
 cases O7
 cases ru
 cases rz
 exact⟨i,j,k,rfl,hc,hp _ Hs H1 (.refl sr.gr.sub) Aq⟩
end
end L2
namespace L2
open PySem PySem.Spec PyProof.Rows
def jR:List PV->List PV->List PV->List PV
 | x::xs,y::ys,z::zs=>.tup [x,y,z]::jR xs ys zs
 | _,_,_=>[]
theorem rZ:∀ {xs ys zs:List PV} {i:Nat} (h1:i<xs.length) (h2:i<ys.length) (h3:i<zs.length),(jR xs ys zs)[i]?=some (.tup [xs[i],ys[i],zs[i]])
 | x::xs,y::ys,z::zs,0,_,_,_=>rfl
 | x::xs,y::ys,z::zs,i+1,h1,h2,h3=>by
  show (jR xs ys zs)[i]?=_
  exact rZ (xs:=xs) (ys:=ys) (zs:=zs) (i:=i) (by simpa using h1) (by simpa using h2) (by simpa using h3)
 | [],_,_,_,h1,_,_=>by simp at h1
 | _::_,[],_,_,_,h2,_=>by simp at h2
 | _::_,_::_,[],_,_,_,h3=>by simp at h3
theorem kR:∀ {xs ys zs:List PV},(jR xs ys zs).length=min xs.length (min ys.length zs.length)
 | x::xs,y::ys,z::zs=>by
  show (jR xs ys zs).length+1=_
  rw[kR]
  simp only[List.length_cons]
  omega
 | [],_,_=>by simp[jR]
 | _::_,[],_=>by simp[jR]
 | _::_,_::_,[]=>by simp[jR]
def qO:List PV->M (List PV)
 | [p,q,r]=>match cH p,cH q,cH r with
  | some xs,some ys,some zs=>M.ok (jR xs ys zs)
  | _,_,_=>none
 | _=>none
section
variable{E:St->XK}{K:PySem.W.Frag}{fs:af->M (List PV)}
theorem z8{b1 b2 b3:Bool}{a1 a2 a3:Addr}{NA:Hp}{xs ys zs:List PV}{vs us ws:List V}(N6:∀ Nr H',bu NA Nr->bu Nr H'->kG K H' b1 a1 vs)(P9:aW NA xs vs)(NW:∀ Nr H',bu NA Nr->bu Nr H'->kG K H' b2 a2 us)(P_:aW NA ys us)
  (Pq:∀ Nr H',bu NA Nr->bu Nr H'->kG K H' b3 a3 ws) (Rf:aW NA zs ws):j0 (Lw K b1 b2 b3 a1 a2 a3) NA (jR xs ys zs) where
 stop:=λi Hs H s1 s2 hi=>by
  rw[kR,P9.length,P_.length,Rf.length] at hi
  exact⟨vs,us,ws,N6 Hs H s1 s2,NW Hs H s1 s2,Pq Hs H s1 s2,by omega⟩
 go:=λi Hs H s1 s2 hi=>by
  rw[kR] at hi
  obtain⟨v,e,_⟩:=P9.get (List.getElem?_eq_getElem (show i<xs.length by omega))
  obtain⟨u,e',_⟩:=P_.get (List.getElem?_eq_getElem (show i<ys.length by omega))
  obtain⟨w,e'',_⟩:=Rf.get (List.getElem?_eq_getElem (show i<zs.length by omega))
  exact⟨vs,us,ws,v,u,w,N6 Hs H s1 s2,NW Hs H s1 s2,Pq Hs H s1 s2,e,e',e''⟩
 uY:=λi Hs H x H2 s1 s2 hi y=>by
  rw[kR] at hi
  have l1:i<xs.length:=by omega
  have l2:i<ys.length:=by omega
  have l3:i<zs.length:=by omega
  obtain⟨v,e,r⟩:=P9.get (List.getElem?_eq_getElem l1)
  obtain⟨u,e',r'⟩:=P_.get (List.getElem?_eq_getElem l2)
  obtain⟨w,e'',Rr⟩:=Rf.get (List.getElem?_eq_getElem l3)
  obtain⟨pa,v',u',w',hn,rfl,rfl,y1,y2,y3⟩:=y
  have z1:=y1 vs (N6 Hs H s1 s2)
  have z2:=y2 us (NW Hs H s1 s2)
  have z3:=y3 ws (Pq Hs H s1 s2)
  rw[e] at z1;cases z1
  rw[e'] at z2;cases z2
  rw[e''] at z3;cases z3
  have gr:=bN.new (o:=.tup [v,u,w]) s2 hn
  exact⟨_,_,rZ l1 l2 l3,gr,.tup aE (.cons ((r.mono s1).mono gr.st) (.cons ((r'.mono s1).mono gr.st) (.cons ((Rr.mono s1).mono gr.st) .nil)))⟩
theorem yT{ps:List PV}{Q:List PV->Prop}{F:EX->Prop}(h:az (qO ps) Q F):∃ p q r xs ys zs,ps=[p,q,r]/\cH p=some xs/\cH q=some ys/\cH r=some zs/\Q (jR xs ys zs):=by
 unfold qO at h
 split at h
 ·split at h
  ·exact⟨_,_,_,_,_,_,rfl,by assumption,by assumption,by assumption,h⟩
  ·exact h.elim
 ·exact h.elim
theorem qG:y0 E (FY K (tL E fs)) (i8 qO fs):=by
 intro σ H R q
 refine dC (K:=KI R) KI.g q λB H₀ Hs H1 env ps v sr rp hp=>?_
 obtain⟨p,q,r,xs,ys,zs,rfl,e1,e2,e3,hp⟩:=yT hp
 obtain⟨w,u,z,rfl,O7,ru,rz⟩:=rp.three
 obtain⟨b1,a1,vs,rfl,N6,P9⟩:=jG (K:=K) sr.gr.sub O7 e1
 obtain⟨b2,a2,us,rfl,NW,P_⟩:=jG (K:=K) sr.gr.sub ru e2
 obtain⟨b3,a3,ws,rfl,Pq,Rf⟩:=jG (K:=K) sr.gr.sub rz e3
 exact⟨b1,b2,b3,a1,a2,a3,rfl,⟨vs,N6 Hs H1 (λ_ _ z=>z) sr.gr.sub⟩,⟨us,NW Hs H1 (λ_ _ z=>z) sr.gr.sub⟩,⟨ws,Pq Hs H1 (λ_ _ z=>z) sr.gr.sub⟩,hp _ Hs H1 (.refl sr.gr.sub) (z8 N6 P9 NW P_ Pq Rf)⟩
end
end L2
namespace L2
open PySem PySem.Spec PyProof.Rows
def ki(i j k:Nat):PV->af->M af
 | .tup [p,q,r],env=>M.ok (((env.set i (some (.sh p))).set j (some (.sh q))).set k (some (.sh r)))
 | _,_=>none
theorem uj{E:XK}{K:PySem.W.Frag}{i j k:Nat}:Dj E (f6 K 3 (bc (aJ i) (bc (aJ j) (bc (aJ k) f_)))) (ki i j k):=by
 intro B H₀ Hs H σ env p v Q Z sr r h
 cases r with
 | @tup a xs vs ha hx =>
  match xs,hx with
  | [p,q,r],hx =>
   obtain⟨v,u,w,rfl,rp,rq,rr⟩:=hx.three
   exact⟨a,[v,u,w],rfl,gc.of (sr.gr.sub _ _ ha),rfl,v,[u,w],rfl,u,[w],rfl,w,[],rfl,rfl,h _ (((sr.set rp).set rq).set rr)⟩
  | [],_=>exact h.elim
  | [_],_=>exact h.elim
  | [_,_],_=>exact h.elim
  | _::_::_::_::_,_=>exact h.elim
 | _=>exact h.elim
theorem lH{i j k:Nat}:nX (ki i j k):=λp env e h n=>by
 unfold ki at h
 split at h
 ·cases h;exact k6 (k6 (k6 n))
 ·cases h
section
variable{X:Cx}{E:XK}{e:Expr}{es:List Expr}{pos pos' px:Pos}{fs:af->M (List PV)}{f h:af->M PV}{i:Nat}{x:Str}
def ownAt(i:Nat)(env:af):M (List PV):=match env[i]? with
 | some (some (.ow xs))=>M.ok xs
 | _=>none
theorem az.own{i:Nat}{env:af}{Q:List PV->Prop}{F:EX->Prop}(h:az (ownAt i env) Q F):∃ xs,env[i]?=some (some (.ow xs))/\Q xs:=by
 unfold ownAt at h
 split at h
 ·exact⟨_,by assumption,h⟩
 ·exact h.elim
def FJ(i:Nat)(xs:List PV)(p:PV)(env:af):PV->M Out
 | .int n=>match As xs.length n with
  | some j=>M.ok (.nx (env.set i (some (.ow (xs.set j p)))))
  | none=>none
 | _=>none
def GY(i:Nat)(g f:af->M PV):af->M Out:=λenv=>(f env).bind λp=>(ownAt i env).bind λxs=>(g env).bind (FJ i xs p env)
theorem De{ie:Expr}(hi:X.N[i]?=some x)(hv:Dp X.env.scope x)(hk:PE X ie (tE (λ_=>E) h))(he:PE X e (tE (λ_=>E) f))(hd:autoParam ((x==("__debug__" : Str))=false) aD._auto_1)(OH:autoParam ((x==("__classdict__" : Str))=false) aD._auto_1)
  (ha:autoParam (∀ v,assign (.Subscript (.Name x px) ie pos') X.env v=(do
   let ov ← holding [v] (eval (.Name x px) X.env)
   let iv ← holding [v,ov] (eval ie X.env)
   standAt pos'
   holding [v,ov,iv] (setItem ov iv v)
   release [v,ov,iv] [])) aI._auto_1)
  (hs:autoParam (swapsWithSole [.Subscript (.Name x px) ie pos'] e pos.line X.env=pure false) aR._auto_1) (hw:autoParam (swappedStores [.Subscript (.Name x px) ie pos'] e X.env=pure none) aR._auto_1)
  (h1:autoParam ((assignEach [.Subscript (.Name x px) ie pos'] X.env).map (·.2)=[assign (.Subscript (.Name x px) ie pos') X.env]) aR._auto_1):PS X (.Assign [.Subscript (.Name x px) ie pos'] e pos) (tS E (GY i h f)):=by
 refine(Gw he (HX (nL hi hv hd OH) hk set_list ha) hs hw h1).imp λD σ H q=>kr q λB H₀ Hs H1 env p v sr rp hp=>?_
 obtain⟨xs,ex,hp⟩:=az.own (az.bind hp)
 obtain⟨a,vs,h1,h2,h3,h4,h5⟩:=sr.ow i xs ex
 refine⟨.ref a,h1,B,H₀,Hs,env,sr,(az.bind hp).imp (λk hk w NC H2 g2 rk=>?_) λe he=>he.grow sr.gr⟩
 have NT:=sr.grow g2
 cases rk with
 | int n =>
  have O5:az (match As xs.length n with | some j=>M.ok (Out.nx (env.set i (some (.ow (xs.set j p))))) | none=>none) (KS D B H₀) (XW E B H₀):=hk
  split at O5
  ·rename_i j ej
   exact⟨a,vs,n,j,rfl,rfl,g2.al _ _ h2,by rw[← h5.length];exact ej,O5 σ NC _ (NT.put ex h1 ((h5.mono g2.st).set (rp.mono g2.st) j))⟩
  ·exact O5.elim
 | _=>exact hk.elim
end
theorem KO.gr{Q:VK}:KG (KO Q):=λHs H Nr H' b k g vs p NC H2 g2 r n=>k vs p NC H2 (g.trans g2) r n
section
variable{X:Cx}{E:St->XK}{k n:Nat}{f C:Addr}{fd:FuncData}{ps:List Str}{sem:List PV->M (List PV)}{m:Str}{p pos apos NG:Pos}{e o:Expr}{es:List Expr}{fs:af->M (List PV)}{g:af->M PV}
end
end L2
namespace L2
open PySem PySem.Spec PyProof.Rows
mutual
def p7:PV->Bool
 | .cR=>true
 | .bl _=>true
 | .int _=>true
 | .str _=>true
 | .tup xs=>jb xs
 | _=>false
def jb:List PV->Bool
 | []=>true
 | p::r=>p7 p&&jb r
end
mutual
theorem Rep.away{Hs:Hp}{a:Addr}{ws:List V}(ha:Hs a=some (.lst ws)):∀ {p:PV} {v:V},Rep Hs p v->p7 p=true->Rep (rem Hs a) p v
 | _,_,.cR,_=>.cR
 | _,_,.bl b,_=>.bl b
 | _,_,.int b,_=>.int b
 | _,_,.str b,_=>.str b
 | _,_,.tup (a:=c) h r,n=>by
  have nc:c≠a:=λz=>by subst z;rw[ha] at h;cases h
  exact .tup (by unfold rem;rw[if_neg nc];exact h) (r.away ha n)
 | _,_,.lst _ _,n=>by cases n
 | _,_,.jW _ _,n=>by cases n
 | _,_,.obj _ _,n=>by cases n
 | _,_,.zH _,n=>by cases n
 | _,_,.zJ _ _ _,n=>by cases n
theorem aW.away{Hs:Hp}{a:Addr}{ws:List V}(ha:Hs a=some (.lst ws)):∀ {p:List PV} {v:List V},aW Hs p v->jb p=true->aW (rem Hs a) p v
 | _,_,.nil,_=>.nil
 | _,_,.cons h r,n=>by
  have n':=Bool.and_eq_true_iff.mp (show (p7 _&&jb _)=true from n)
  exact .cons (h.away ha n'.1) (r.away ha n'.2)
end
def AR:M PV->M PV
 | some (.ok p)=>cP (p7 p=true) (M.ok p)
 | _=>none
theorem az.AR{r:M PV}{Q:PV->Prop}{E:EX->Prop}(h:az (L2.AR r) Q E):az r (λp=>p7 p=true/\Q p) (λ_=>False):=by
 cases r with
 | none=>exact h
 | some r=>cases r with
  | error e=>exact h
  | ok p =>
   obtain⟨n,h⟩:=az.cP h
   exact⟨n,h⟩
theorem bN.back{Hs H Nr H':Hp}{a:Addr}{ws:List V}(h1:Hs a=none)(hH:H a=some (.lst ws))(s:bu Hs H)(g:bN (upd Hs a (.lst ws)) H Nr H'):bN Hs H (rem Nr a) H'/\Nr a=some (.lst ws):=by
 have e:Nr a=some (.lst ws):=g.st _ _ aE
 refine⟨⟨λc u q=>?_,g.al,λc u q=>?_,λc u q1 q2=>?_⟩,e⟩
 ·have nc:c≠a:=λz=>by subst z;rw[h1] at q;cases q
  unfold rem;rw[if_neg nc]
  exact g.st c u (by rw[aw nc];exact q)
 ·unfold rem at q
  split at q
  ·cases q
  ·exact g.sub c u q
 ·unfold rem
  by_cases nc:c=a
  ·rw[if_pos nc]
  ·rw[if_neg nc]
   exact g.nw c u (by rw[aw nc];exact q1) q2
theorem SR.lend{B H₀ Hs H:Hp}{σ:St}{env:af}{i:Nat}{xs:List PV}(r:SR B H₀ Hs H σ env)(e:env[i]?=some (some (.ow xs))):∃ a vs,Hs a=none/\H a=some (.lst vs)/\SR B H₀ (upd Hs a (.lst vs)) H σ (ni i env):=by
 obtain⟨a,vs,h1,h2,h3,h4,h5⟩:=r.ow i xs e
 refine⟨a,vs,h3,h2,?_⟩
 have ne:∀ c u,Hs c=some u->c≠a:=λc u q z=>by rw[z,h3] at q;cases q
 have NU:bu Hs (upd Hs a (.lst vs)):=λc u q=>by rw[aw (ne c u q)];exact q
 unfold ni
 rw[e]
 refine⟨⟨λc u q=>NU c u (r.gr.st c u q),r.gr.al,λc u q=>?_,λc u q1 q2=>?_⟩,by rw[List.length_set];exact r.len,λj q ej=>?_,λj ys ej=>?_,λj k ys zs b nj e1 e2 e3 e4=>?_,λj ba C fs ej=>?_,λj k _ _ C D fs gs e1 e2=>?_⟩
 ·by_cases z:c=a
  ·subst z;rw[aE] at q;cases q;exact h2
  ·rw[aw z] at q;exact r.gr.sub c u q
 ·have z:c≠a:=λz=>by rw[z,h4] at q2;cases q2
  rw[aw z];exact r.gr.nw c u q1 q2
 ·rw[List.getElem?_set] at ej
  by_cases z:i=j
  ·subst z
   rw[if_pos rfl] at ej
   split at ej
   ·cases ej
    exact⟨.ref a,h1,.lst aE (h5.mono NU)⟩
   ·cases ej
  ·rw[if_neg z] at ej
   obtain⟨v,q1,q2⟩:=r.sh j q ej
   exact⟨v,q1,q2.mono NU⟩
 ·rw[List.getElem?_set] at ej
  by_cases z:i=j
  ·subst z
   rw[if_pos rfl] at ej
   split at ej <;> cases ej
  ·rw[if_neg z] at ej
   obtain⟨b,us,q1,q2,q3,q4,q5⟩:=r.ow j ys ej
   have nb:b≠a:=λw=>by subst w;exact r.sep i j xs ys b z e ej h1 q1
   exact⟨b,us,q1,q2,by rw[aw nb];exact q3,q4,q5.mono NU⟩
 ·rw[List.getElem?_set] at e1 e2
  by_cases z:i=j
  ·subst z
   rw[if_pos rfl] at e1
   split at e1 <;> cases e1
  ·by_cases z2:i=k
   ·subst z2
    rw[if_pos rfl] at e2
    split at e2 <;> cases e2
   ·rw[if_neg z] at e1
    rw[if_neg z2] at e2
    exact r.sep j k ys zs b nj e1 e2 e3 e4
 ·rw[List.getElem?_set] at ej
  by_cases z:i=j
  ·subst z
   rw[if_pos rfl] at ej
   split at ej <;> cases ej
  ·rw[if_neg z] at ej
   obtain⟨dx,us,q1,q2,q3,q4,q5⟩:=r.bd j ba C fs ej
   have nb:ba≠a:=λw=>by subst w;rw[h2] at q2;cases q2
   exact⟨dx,us,q1,q2,by rw[aw nb];exact q3,q4,q5.mono NU⟩
 ·rw[List.getElem?_set] at e1 e2
  by_cases z:i=j
  ·subst z
   rw[if_pos rfl] at e1
   split at e1 <;> cases e1
  ·by_cases z2:i=k
   ·subst z2
    rw[if_pos rfl] at e2
    split at e2 <;> cases e2
   ·rw[if_neg z] at e1
    rw[if_neg z2] at e2
    exact r.one j k _ _ C D fs gs e1 e2
def qk(i:Nat)(f:af->M PV):af->M PV:=λenv=>(ownAt i env).bind λ_=>AR (f (ni i env))
section
variable{X:Cx}{E:St->XK}{e:Expr}{f:af->M PV}{u:af->M Bool}
theorem uf(i:Nat)(he:PE X e (tE E f)):PE X e (tE E (qk i f)):=he.imp fun σ H Q q=>by
 obtain⟨B,H₀,Hs,env,sr,q⟩:=q
 obtain⟨xs,ex,q⟩:=az.own (az.bind q)
 obtain⟨a,vs,h3,h2,NT⟩:=sr.lend ex
 refine⟨B,H₀,_,_,NT,(az.AR q).imp (λp hp v Nr H' g r=>?_) λ_ z=>z.elim⟩
 obtain⟨g2,ea⟩:=bN.back h3 h2 sr.gr.sub g
 exact hp.2 v _ _ g2 (r.away ea hp.1)
def wb(i:Nat)(f:af->M (List PV)):af->M (List PV):=λenv=>(ownAt i env).bind λ_=>match f (ni i env) with
 | some (.ok ps)=>cP (jb ps=true) (M.ok ps)
 | _=>none
end
end L2
namespace L2
open PySem PySem.Spec PyProof.Rows
def cQ:PV->PV->M PV:=xm (λ_ j=>decide (j≠0/\j.natAbs.log2<9000)) λi j=>i.fdiv j
def cy:PV->PV->M PV:=xm (λ_ j=>decide (j≠0)) λi j=>i.fmod j
def DH:PV->PV->M PV:=xm (λi j=>decide (0<=j/\j<=1000000/\i.natAbs<2^64)) λi j=>i^j.toNat
def Bi:PV->PV->M PV:=AW λi j=>decide (i<j)
def Cq:PV->PV->M PV:=AW λi j=>decide (i<=j)
def FC:PV->PV->M PV:=AW λi j=>decide (j<i)
def Jd:PV->PV->M PV:=AW λi j=>decide (j<=i)
section
variable{E:St->XK}
theorem Cf:lE E (rI C5 λi j=>.int (i.fdiv j)) cQ:=EE
theorem DM:lE E (rI (λ_ j=>j≠0) λi j=>.int (i.fmod j)) cy:=Ho
theorem EC:lE E (rI Gk λi j=>.int (i^j.toNat)) DH:=G4
theorem tj:lE E (yG λi j=>.bl (decide (i<j))) Bi:=uI
theorem m9:lE E (yG λi j=>.bl (decide (i<=j))) Cq:=uI
theorem Bq:lE E (yG λi j=>.bl (decide (j<i))) FC:=uI
theorem C0:lE E (yG λi j=>.bl (decide (j<=i))) Jd:=uI
end
def bb(n:Nat)(s:List PV->M PV):List PV->M PV:=λps=>cP (ps.length=n) (s ps)
theorem qD{n:Nat}{s:List PV->M PV}{ps:List PV}(h:bb n s ps≠none):ps.length=n:=by
 unfold bb cP at h
 split at h
 ·assumption
 ·exact(h rfl).elim
section
variable{P:Program}{w:World}{K:PySem.W.Frag}{mg:Str->Option Value}{base:Heap}
theorem BM{k n:Nat}{f:Addr}{fd:FuncData}{ps:List Str}{s:List PV->M PV}(F:aO P w K mg base (bG P w) k f fd ps (cW n s)):aO P w K mg base (bG P w) k f fd ps (cW n (bb n s)) where
 len:=λvs H Q E h=>by
  obtain⟨h0,Hs,qs,sm,r,h⟩:=h
  exact F.len vs H Q E ⟨h0,Hs,qs,sm,r,(az.cP h).2⟩
 run:=λA outer s H args us vs Q E hr e hb rv h=>by
  obtain⟨h0,Hs,qs,sm,r,h⟩:=h
  exact F.run A outer s H args us vs Q E hr e hb rv ⟨h0,Hs,qs,sm,r,(az.cP h).2⟩
structure cq (P:Program) (w:World) (K:PySem.W.Frag) (mg:Str->Option Value) (base:Heap) (n:Nat) (x:Str) (m:Nat) (sem:List PV->M PV):Prop where
 ex:∃ (f:Addr) (fd:FuncData) (ps:List Str),mg x=some (.ref f)/\PySem.W.keepIn K (.ref f)=true/\ps.length=m/\Binds K fd ps []/\aO P w K mg base (bG P w) n f fd ps (cW m (bb m sem))
theorem aZ.M6{x qual:Str}{st:Stmt}{dv:Value}{f:Addr}{fd:FuncData}{N ps:List Str}{k:Nat}{g:af->M Out}(F:aZ K x qual st dv f fd)(S:cA N ps (a_ st))
  (hb:∀ (NM:Value) (A:Around) (outer:List Env) (s:Shared) (H:Hp) (E:XK),cJ k (A.deeper (envOfC qual (a_ st) s.heap.objs.size f NM))->fg ((lY (bG P w) P w K mg base N qual (a_ st) f NM A outer s H E).out λ_=>E) (λ_=>E)->mL ((lY (bG P w) P w K mg base N qual (a_ st) f NM A outer s H E).out λ_=>E) (eR st) (tS E g)) :
  aO P w K mg base (bG P w) (k+1) f fd ps (cW ps.length (bb ps.length (ay N.length g))):=by
 obtain⟨oc,od,kV,doc,pm,an,NM,ct,PF,rfl,lk,OH⟩:=F.ex
 exact BM (Ic lk OH S λA outer s H E hr=>hb NM A outer s H E hr (F1 rfl rfl))
end
section
variable{X:Cx}{E:St->XK}{n m k:Nat}{x:Str}{sem:List PV->M PV}{e:Expr}{es:List Expr}{fs:af->M (List PV)}{p pos:Pos}
theorem cq.call(F:cq X.prog X.w X.K X.mg X.base n x m sem)(hr:cJ k X.A)(hn:n<=k)(hg:Gl X x)(O:fg X E)(ha:PA X (e::es) (tL E fs))(Oo:autoParam ((x==("__debug__" : Str))=false) aD._auto_1)(he:autoParam (starEach (e::es) X.env=(false,eval e X.env)::starEach es X.env) aR._auto_1)(NQ:autoParam ((backTo pos (starEach es X.env)).any (·.1)=false) aR._auto_1) :
  PE X (.Call (.Name x p) (e::es) [] pos) (tE E (ai (bb m sem) fs)):=by
 obtain⟨f,fd,ps,h1,h2,h3,h4,h5⟩:=F.ex
 have:=EV (p:=p) (OV:=[]) h5 (hr.mono hn) hg h1 h2 h4 .nil (λ_=>.nil) O (λO6 hp=>by rw[List.append_nil] at hp;exact qD hp) ha Oo he NQ
 refine this.imp fun σ H Q q=>?_
 have e:(λps=>bb m sem (ps++[]))=bb m sem:=by funext ps;rw[List.append_nil]
 rw[e];exact q
structure k_ (P:Program) (w:World) (K:PySem.W.Frag) (mg:Str->Option Value) (base:Heap) (C:Addr) (n:Nat) (x:Str) (m:Nat) (sem:List PV->M PV):Prop where
 ex:∃ (f:Addr) (fd:FuncData) (ps:List Str),kE K C/\Meth K C x f/\Binds K fd ps []/\aO P w K mg base (bG P w) n f fd ps (cW m (bb m sem))
theorem k_.call{C:Addr}{o:Expr}{g:af->M PV}{apos:Pos}{pl:Sem Bool}(F:k_ X.prog X.w X.K X.mg X.base C n x m sem)(hr:cJ k X.A)(hn:n<=k)(O:fg X E)(ho:PE X o (tE E g))(ha:PA X (e::es) (tL E fs))
  (NU:autoParam (starEach (e::es) X.env=(false,eval e X.env)::starEach es X.env) aR._auto_1) (NQ:autoParam ((backTo pos (starEach es X.env)).any (·.1)=false) aR._auto_1)
  (ht:autoParam (eval (.Call (.Attribute o x apos) (e::es) [] pos) X.env=(do
   let ov ← eval o X.env
   standAt apos.atName
   let (f,first) ← holding [ov] (getMethod ov x pl)
   callWith pos f first (backTo pos (starEach (e::es) X.env)) (backToKw pos (keywordEach [] X.env)))) aR._auto_1) :
  PE X (.Call (.Attribute o x apos) (e::es) [] pos) (tE E (bD C x (bb m sem) g fs)):=by
 obtain⟨f,fd,ps,h1,h2,h3,h4⟩:=F.ex
 exact DQ ho h1 h2 h4 (hr.mono hn) h3 O (λO6 hp=>qD hp) ha NU NQ ht
theorem k_.J3{C:Addr}{o:Expr}{g:af->M PV}{apos:Pos}{pl:Sem Bool}(F:k_ X.prog X.w X.K X.mg X.base C n x m sem)(hr:cJ k X.A)(hn:n<=k)(O:fg X E)(ho:PE X o (tE E g))
  (ht:autoParam (eval (.Call (.Attribute o x apos) [] [] pos) X.env=(do
   let ov ← eval o X.env
   standAt apos.atName
   let (f,first) ← holding [ov] (getMethod ov x pl)
   callWith pos f first (backTo pos (starEach [] X.env)) (backToKw pos (keywordEach [] X.env)))) aR._auto_1) :
  PE X (.Call (.Attribute o x apos) [] [] pos) (tE E (bD C x (bb m sem) g aj)):=by
 obtain⟨f,fd,ps,h1,h2,h3,h4⟩:=F.ex
 exact C_ ho h1 h2 h4 (hr.mono hn) h3 O (λO6 hp=>qD hp) ht
end
structure wJ (P:Program) (w:World) (K:PySem.W.Frag) (mg:Str->Option Value) (base:Heap) (C:Addr) (n:Nat) (x:Str) (m:Nat) (OV:List PV) (sem:Addr->List PV->M (List (Str×PV))):Prop where
 ex:∃ (f:Addr) (fd:FuncData) (ps:List Str) (ds:List Value) (N7:List V),mg x=some (.ref C)/\Mk K C f/\Binds K fd ps ds/\Vals N7 ds/\(∀ H,aW H OV N7)/\aO P w K mg base (bG P w) n f fd ps (Dk m C sem)
def mU(m:Nat)(sem:Addr->List PV->M (List (Str×PV))):Addr->List PV->M (List (Str×PV)):=λa ps=>cP (ps.length+1=m) (sem a ps)
theorem zB{P:Program}{w:World}{K:PySem.W.Frag}{mg:Str->Option Value}{base:Heap}{k n:Nat}{f C:Addr}{fd:FuncData}{ps:List Str}{s:Addr->List PV->M (List (Str×PV))}(F:aO P w K mg base (bG P w) k f fd ps (Dk n C s)):aO P w K mg base (bG P w) k f fd ps (Dk n C (mU n s)) where
 len:=λvs H Q E h=>by
  obtain⟨h0,a,dx,us,Hs,H1,qs,e1,e2,e3,e4,e5,sm,r,h⟩:=h
  exact F.len vs H Q E ⟨h0,a,dx,us,Hs,H1,qs,e1,e2,e3,e4,e5,sm,r,(az.cP h).2⟩
 run:=λA outer s H args us vs Q E hr e hb rv h=>by
  obtain⟨h0,a,dx,us',Hs,H1,qs,e1,e2,e3,e4,e5,sm,r,h⟩:=h
  exact F.run A outer s H args us vs Q E hr e hb rv ⟨h0,a,dx,us',Hs,H1,qs,e1,e2,e3,e4,e5,sm,r,(az.cP h).2⟩
theorem aZ.KZ{P:Program}{w:World}{K:PySem.W.Frag}{mg:Str->Option Value}{base:Heap}{x qual:Str}{st:Stmt}{dv:Value}{f C:Addr}{fd:FuncData}{N ps:List Str}{k:Nat}{g:af->M Out}(F:aZ K x qual st dv f fd)(S:cA N ps (a_ st))(hN:0<N.length)
  (hb:∀ (NM:Value) (A:Around) (outer:List Env) (s:Shared) (H:Hp) (E:XK),cJ k (A.deeper (envOfC qual (a_ st) s.heap.objs.size f NM))->fg ((lY (bG P w) P w K mg base N qual (a_ st) f NM A outer s H E).out λ_=>E) (λ_=>E)->mL ((lY (bG P w) P w K mg base N qual (a_ st) f NM A outer s H E).out λ_=>E) (eR st) (tS E g)) :
  aO P w K mg base (bG P w) (k+1) f fd ps (Dk ps.length C (mU ps.length (qY N.length g C))):=by
 obtain⟨oc,od,kV,doc,pm,an,NM,ct,PF,rfl,lk,OH⟩:=F.ex
 exact zB <| DE lk OH S hN λA outer s H E hr=>hb NM A outer s H E hr (F1 rfl rfl)
section
variable{X:Cx}{E:St->XK}{n m k:Nat}{x:Str}{e:Expr}{es:List Expr}{fs:af->M (List PV)}{p pos:Pos}
theorem wJ.make{C:Addr}{OV:List PV}{sem:Addr->List PV->M (List (Str×PV))}(F:wJ X.prog X.w X.K X.mg X.base C n x m OV (mU m sem))(hr:cJ k X.A)(hn:n+1<=k)(hg:Gl X x)(O:fg X E)(ha:PA X (e::es) (tL E fs))(Oo:autoParam ((x==("__debug__" : Str))=false) aD._auto_1)(he:autoParam (starEach (e::es) X.env=(false,eval e X.env)::starEach es X.env) aR._auto_1)(NQ:autoParam ((backTo pos (starEach es X.env)).any (·.1)=false) aR._auto_1) :
  PE X (.Call (.Name x p) (e::es) [] pos) (tE E (ai (dR C (mU m sem) OV) fs)):=by
 obtain⟨f,fd,ps,ds,N7,h1,h2,h4,h5,h6,h7⟩:=F.ex
 refine DZ (p:=p) h2 h7 (hr.mono hn) hg h1 h4 h5 h6 O (λa O6 hp=>?_) ha Oo he NQ
 unfold mU cP at hp
 split at hp
 ·rename_i h;rwa [List.length_append] at h
 ·exact(hp rfl).elim
theorem Dv{f:af->M PV}{e:Expr}(hg:Gl X "list")(hm:X.mg "list" = none)(he:PE X e (tE E f))(h1:autoParam (starEach [e] X.env=(false,eval e X.env)::starEach [] X.env) aR._auto_1)(NQ:autoParam ((backTo pos (starEach [] X.env)).any (·.1)=false) aR._auto_1) :
  PE X (.Call (.Name "list" p) [e] [] pos) (tO E (BB f)):=by
 refine(sj mG hg hm tJ (eB he kz h1) (by decide) (by decide) h1 NQ).imp fun σ H Q q=>bQ (K:=KO Q) KO.gr q λB H₀ Hs H1 env p v sr rp hp=>?_
 cases hs:cH p with
 | none=>rw[hs] at hp;exact hp.elim
 | some xs =>
  rw[hs] at hp
  obtain⟨a,us,rfl,hq,hx⟩:=xt (K:=X.K) sr.gr.sub rp hs
  exact⟨a,us,rfl,hq,λl n=>hp us l Hs H1 (.refl sr.gr.sub) hx n⟩
end
def oB:Addr->Option Bool:=λ_=>none
theorem kD{P:Addr->Bool->Prop}:∀ C b,oB C=some b->P C b:=λ_ _ h=>by cases h
theorem vr{X:Cx}{E:St->XK}{x:Str}{pos:Pos}(i:Nat)(hN:autoParam (X.N[i]?=some x) aR._auto_1)(hv:Dp X.env.scope x:=by first | exact .inl rfl | exact .inr (.inl rfl) | exact .inr (.inr rfl))(hd:autoParam ((x==("__debug__" : Str))=false) aD._auto_1)(OH:autoParam ((x==("__classdict__" : Str))=false) aD._auto_1):PE X (.Name x pos) (tE E (ae i)):=IV hN hv hd OH
end L2
namespace L2
open PySem PySem.Spec PyProof.Rows
theorem FP{env:Env}{e:Expr}{es:List Expr}(h:(match e with | .Starred ..=>true | _=>false)=false):starEach (e::es) env=(false,eval e env)::starEach es env:=by
 cases e <;> first | rfl | cases h
def kZ:List Expr->Option (List Int)
 | []=>some []
 | .Constant (.int i) _ _::r=>(kZ r).map (i::·)
 | _=>none
section
variable{X:Cx}{E:St->XK}{pos:Pos}
theorem yQ:∀ {es:List Expr} {ns:List Int},kZ es=some ns->PA X es (tL E λ_=>M.ok (ns.map PV.int))
 | [],_,h=>by cases h;exact Bb
 | .Constant (.int i) j p::r,ns,h=>by
  obtain⟨ms,h1,rfl⟩:=Option.map_eq_some_iff.mp (show (kZ r).map (i::·)=some ns from h)
  exact yK BU (yQ h1) (FP rfl)
theorem Ds{es:List Expr}(ns:List Int)(h:autoParam (kZ es=some ns) aR._auto_1)(hz:autoParam (ns.length<=1000) aD._auto_1):PE X (.List es pos) (tE E λ_=>M.ok (.lst (ns.map PV.int))):=by
 refine(A9 (E:=E) (yQ h)).imp fun σ H Q q=>?_
 have e:(tP λ_=>M.ok (ns.map PV.int))=λ_=>M.ok (.lst (ns.map PV.int)):=by
  funext env
  show cP _ _=_
  unfold cP
  rw[if_pos (by rw[List.length_map];exact Nat.le_trans hz (by decide))]
 rw[e];exact q
end
end L2
namespace L2
open PySem PySem.Spec PyProof.Rows
def AQ:PV->PV->M (List PV)
 | .lst xs,.int k=>cP (-(2^63)<=k/\k<2^63/\xs.length*k.toNat<=sizeLine) (M.ok (List.replicate k.toNat xs).flatten)
 | _,_=>none
def HZ(f g:af->M PV):af->M (List PV):=λenv=>(f env).bind λp=>(g env).bind λq=>AQ p q
section
variable{X:Cx}{E:St->XK}{a b:Expr}{pos:Pos}{f g:af->M PV}
theorem F_(ha:PE X a (tE E f))(hb:PE X b (tE E g)):PE X (.BinOp a .Mult b pos) (tO E (HZ f g)):=by
 refine(Fx CN ha hb).imp fun σ H Q q=>bQ (K:=KO Q) KO.gr q λB H₀ Hs H1 env p v sr rp hp=>?_
 refine⟨B,H₀,Hs,env,sr,(az.bind hp).imp (λq hq u Nr H' g' ru=>?_) λe he=>he⟩
 have Pd:=sr.grow g'
 have rp':=rp.mono g'.st
 cases rp' with
 | @lst l xs vs ha hx=>cases ru with
  | int k =>
   obtain⟨⟨h1,h2,h3⟩,h⟩:=az.cP hq
   exact⟨l,k,vs,rfl,rfl,Pd.gr.sub _ _ ha,h1,h2,by rw[← hx.length];exact h3,λp n=>h _ p Nr H' g' (hx.rep _) n⟩
  | _=>exact hq.elim
 | _=>exact hq.elim
end
end L2
namespace L2
open PySem PySem.Spec PyProof.Rows
structure z_ (K:PySem.W.Frag) (mg:Str->Option Value) (C:Addr) (x:Str):Prop where
 hc:PySem.W.excIn K C fq "ValueError.__new__" = true
 c:gK K C
 ht:PySem.W.typeIn K (.ref C)=some (.type "type")
 kp:PySem.W.keepIn K (.ref C)=true
 m:mg x=some (.ref C)
structure rD (P:Program) (w:World) (K:PySem.W.Frag) (mg:Str->Option Value) (base:Heap) (C:Addr) (x fl:Str):Prop where
 ex:∃ (f:Addr) (fd:FuncData) (ps:List Str),pU K C "ValueError.__new__" f=true/\PySem.W.isFn K (.ref f)=true/\aO P w K mg base (bG P w) 1 f fd ps (zA K C fl)/\Binds K fd ps []
 c:gK K C
 ht:PySem.W.typeIn K (.ref C)=some (.type "type")
 kp:PySem.W.keepIn K (.ref C)=true
 m:mg x=some (.ref C)
section
variable{X:Cx}{E:XK}{e:Expr}{es:List Expr}{pos p NG:Pos}{x fl:Str}{C:Addr}{k:Nat}{fs:af->M (List PV)}
theorem z_.raise(F:z_ X.K X.mg C x)(O:fg X λ_=>E)(NB:X.calm=true)(hg:Gl X x)(ha:PA X (e::es) (tL (λ_=>E) fs))
  (Oo:autoParam ((x==("__debug__" : Str))=false) aD._auto_1) (he:autoParam (starEach (e::es) X.env=(false,eval e X.env)::starEach es X.env) aR._auto_1) (NQ:autoParam ((backTo NG (starEach es X.env)).any (·.1)=false) aR._auto_1) :
  PS X (.Raise (some (.Call (.Name x p) (e::es) [] NG)) none pos) (tS E (lM C fs)):=An O NB F.hc F.c F.ht F.kp hg F.m ha Oo he NQ
theorem rD.raise(F:rD X.prog X.w X.K X.mg X.base C x fl)(hr:cJ k X.A)(hn:2<=k)(O:fg X λ_=>E)(NB:X.calm=true)(hg:Gl X x)(ha:PA X [e] (tL (λ_=>E) fs))
  (Oo:autoParam ((x==("__debug__" : Str))=false) aD._auto_1) (he:autoParam (starEach [e] X.env=(false,eval e X.env)::starEach [] X.env) aR._auto_1) (NQ:autoParam ((backTo NG (starEach [] X.env)).any (·.1)=false) aR._auto_1) :
  PS X (.Raise (some (.Call (.Name x p) [e] [] NG)) none pos) (tS E (jn C fl fs)):=by
 obtain⟨f,fd,ps,h1,h2,h3,h4⟩:=F.ex
 exact zx O NB h1 h2 F.c F.ht F.kp h3 (hr.mono hn) h4 hg F.m ha Oo he NQ
end
end L2
namespace L2
open PySem PySem.Spec PyProof.Rows
def iz(bt:Int->Int->Bool):List Int->Int->Int
 | [],m=>m
 | n::r,m=>iz bt r (if bt n m=true then n else m)
theorem sN(bt:Int->Int->Bool)(n:Int):∀ (r:List Int) (j:Nat),j<r.length+1->(n::r).getD (argBest (λi k=>bt ((n::r).getD i 0) ((n::r).getD k 0)) j) 0=iz bt (r.take j) n
 | r,0,_=>by simp[argBest,iz]
 | r,j+1,h=>by
  have ih:=sN bt n r j (by omega)
  have hj:j<r.length:=by omega
  have e1:iz bt (r.take (j+1)) n=(if bt r[j] (iz bt (r.take j) n)=true then r[j] else iz bt (r.take j) n):=by
   have:∀ (l:List Int) (x m:Int),iz bt (l++[x]) m=(if bt x (iz bt l m)=true then x else iz bt l m):=by
    intro l x
    induction l with
    | nil=>intro m;rfl
    | cons a l ih=>intro m;exact ih _
   rw[List.take_succ,List.getElem?_eq_getElem hj]
   exact this _ _ _
  have e2:(n::r).getD (j+1) 0=r[j]:=by simp[List.getD,hj]
  rw[e1,← ih]
  have e3:argBest (λi k=>bt ((n::r).getD i 0) ((n::r).getD k 0)) (j+1)=if bt ((n::r).getD (j+1) 0) ((n::r).getD (argBest (λi k=>bt ((n::r).getD i 0) ((n::r).getD k 0)) j) 0)=true then j+1 else argBest (λi k=>bt ((n::r).getD i 0) ((n::r).getD k 0)) j:=rfl
  rw[e3]
  by_cases z:bt ((n::r).getD (j+1) 0) ((n::r).getD (argBest (λi k=>bt ((n::r).getD i 0) ((n::r).getD k 0)) j) 0)=true
  ·rw[if_pos z,e2,if_pos (by rw[← e2];exact z)]
  ·rw[if_neg z,if_neg (by rw[← e2];exact z)]
theorem Ba(bt:Int->Int->Bool)(n:Int)(r:List Int):(n::r).getD (argBest (λi k=>bt ((n::r).getD i 0) ((n::r).getD k 0)) r.length) 0=iz bt r n:=by
 rw[sN bt n r r.length (by omega),List.take_length]
section
variable{X:Cx}{E:St->XK}
theorem xS{ns:List Int}{Nn:List Value}(rv:Vals (ns.map V.int) Nn):∀ (i:Nat) (v:Value),Nn.toArray[i]?=some v->∃ t,v=Value.int (ns.getD i 0) t:=by
 intro i v h
 have h':Nn[i]?=some v:=by simpa using h
 have hl:=rv.length
 have hi:i<ns.length:=by
  have:=(List.getElem?_eq_some_iff.mp h').1
  rw[← hl,List.length_map] at this;exact this
 obtain⟨u,hu,ru⟩:=rv.get (show (ns.map V.int)[i]?=some (.int ns[i]) by rw[List.getElem?_map,List.getElem?_eq_getElem hi];rfl)
 rw[h'] at hu;cases hu
 obtain⟨t,e⟩:=ru
 exact⟨t,by rw[e];simp[List.getD,hi]⟩
def Fp(K:PySem.W.Frag)(bt:Int->Int->Bool):List V->Hp->VK->Prop:=λxs H Q=>∃ (b:Bool) (a:Addr) (n:Int) (r:List Int),xs=[.ref a]/\kG K H b a ((n::r).map V.int)/\Q (.int (iz bt r n)) H
theorem zM(hc:X.calm=true):cZ X (.builtin "min") (Fp X.K λi j=>decide (i<j)):=by
 intro Nm s σ H xs us Q I r h
 obtain⟨b,a,n,rr,rfl,hq,q⟩:=h
 cases r with
 | cons r1 r2 =>
  cases r2
  cases (show _=Value.ref a from r1)
  obtain⟨Nn,rv,p,hz⟩:=I.row hq
  have hln:Nn.length=rr.length+1:=by have:=rv.length;simpa using this.symm
  obtain⟨oa,na,ea,_⟩:=p.obj
  have N4:a<s.heap.objs.size:=Heap.lt_size ea
  have fin:∀ (v:Value) (h':Heap) (tk:Nat),Nn.toArray[argBest (λi j=>decide ((n::rr).getD i 0<(n::rr).getD j 0)) (Nn.toArray.size-1)]?=some v->(∀ c o,c≠s.heap.objs.size->(s.heap.push (Dm b a)).get? c=some o->h'.get? c=some o)->EP X Nm σ Q v { s with heap:=h',toks:=tk }:=by
   intro v h' tk hv hk
   obtain⟨t,e⟩:=xS rv _ _ hv
   have e2:=Ba (λi j=>decide (i<j)) n rr
   rw[show Nn.toArray.size-1=rr.length by simp[hln]] at e
   rw[e2] at e
   refine⟨.int _,H,I.kept (t':=tk) (λc x e'=>?_),⟨t,e⟩,q⟩
   exact hk c x (λz=>by rw[z] at e';exact Nat.lt_irrefl _ (Heap.lt_size e')) (Heap.get?_push_of_some _ e')
  have Od:0<Nn.toArray.size:=by simp[hln]
  cases b with
  | true =>
   refine call_min_walk (wpAny_pyIter_list p ⟨s.heap.objs.size,[s.heap.objs.size,a],[s.heap.objs.size],Nn.toArray.size,_,_,_,rfl,Walks.list (A:=X.A.in1) (I.ok.hd hc) _ a (Nat.ne_of_lt N4) Nn.toArray,⟨⟨_,Heap.get?_push_size _ rfl,rfl,rfl⟩,Heap.IsList.push p _⟩,λc PK=>?_,Od,CmpOf.ints_lt (λi=>(n::rr).getD i 0) (λi v hv=>xS rv i v hv),λv h' tk hP hk=>fin v h' tk hP λc o nc e=>hk c o (by simpa using nc) e⟩)
   rw[Heap.size_push]
   rcases List.mem_cons.mp PK with z | z
   ·rw[z];exact Nat.lt_succ_self _
   ·rw[List.mem_singleton.mp z];exact Nat.lt_succ_of_lt N4
  | false =>
   refine call_min_walk (wpAny_pyIter_tuple p ⟨s.heap.objs.size,[s.heap.objs.size,a],[s.heap.objs.size],Nn.toArray.size,_,_,_,rfl,Walks.tuple (A:=X.A.in1) (I.ok.hd hc) _ a (Nat.ne_of_lt N4) Nn.toArray,⟨⟨_,Heap.get?_push_size _ rfl,rfl,rfl⟩,fU.push (b:=false) p _⟩,λc PK=>?_,Od,CmpOf.ints_lt (λi=>(n::rr).getD i 0) (λi v hv=>xS rv i v hv),λv h' tk hP hk=>fin v h' tk hP λc o nc e=>hk c o (by simpa using nc) e⟩)
   rw[Heap.size_push]
   rcases List.mem_cons.mp PK with z | z
   ·rw[z];exact Nat.lt_succ_self _
   ·rw[List.mem_singleton.mp z];exact Nat.lt_succ_of_lt N4
def BQ(bt:Int->Int->Bool)(p:PV):M PV:=match (cH p).bind lp with
 | some (n::r)=>M.ok (.int (iz bt r n))
 | _=>none
def CG(bt:Int->Int->Bool):List PV->M PV
 | [p]=>BQ bt p
 | _=>none
theorem Eb{K:PySem.W.Frag}{bt:Int->Int->Bool}:kv E (Fp K bt) (CG bt):=by
 intro σ Hs H ps vs Q s r h
 match ps,r with
 | [],_=>exact h.elim
 | _::_::_,_=>exact h.elim
 | [p],r =>
  obtain⟨v,rfl,rp⟩:=r.one
  have h':az (BQ bt p) (dS Hs H Q) (XW (E σ) Hs H):=h
  unfold BQ at h'
  split at h'
  ·rename_i n rr e
   obtain⟨xs,e1,e2⟩:=Option.bind_eq_some_iff.mp e
   obtain⟨b,a,us,rfl,hq,hx⟩:=jG (K:=K) s rp e1
   rw[uw e2] at hx
   exact⟨b,a,n,rr,rfl,hx.ints▸hq Hs H (λ_ _ z=>z) s,dS.flat h' s (.int _)⟩
  ·exact h'.elim
end
end L2
namespace L2
open PySem PySem.Spec PyProof.Rows
end L2
namespace L2
open PySem PySem.Spec PyProof.Rows
def KR(i j:Nat)(env:af):List PV->M Out
 | [p,q]=>M.ok (.nx ((env.set i (some (.sh p))).set j (some (.sh q))))
 | _=>none
def G_(i j:Nat)(fs:af->M (List PV)):af->M Out:=λenv=>(fs env).bind (KR i j env)
theorem HY{X:Cx}{E:XK}{i j:Nat}{x y:Str}{a b:Expr}{fs:af->M (List PV)}{px py pt pos:Pos}{kt k2:Nat}{QR:Pos}(hc:X.calm=true)(hN:X.N.Nodup)(hi:X.N[i]?=some x)(hj:X.N[j]?=some y)(hij:i≠j)
  (hx:X.env.scope.names.lookup x=some .local) (hy:X.env.scope.names.lookup y=some .local) (ha:PA X [a,b] (tL (λ_=>E) fs))
  (hw:swappedStores [.Tuple [.Name x px,.Name y py] kt pt] (.Tuple [a,b] k2 QR) X.env=pure (some [x,y]))
  (hs:autoParam (swapsWithSole [.Tuple [.Name x px,.Name y py] kt pt] (.Tuple [a,b] k2 QR) pos.line X.env=pure false) aR._auto_1) :
  PS X (.Assign [.Tuple [.Name x px,.Name y py] kt pt] (.Tuple [a,b] k2 QR) pos) (tS E (G_ i j fs)):=by
 refine(Hw hc hN hi hj hij hx hy ha hw hs).imp λD σ H q=>pQ q λB H₀ Hs H1 env ps v sr rp hp=>?_
 match ps,rp,hp with
 | [],_,hp=>exact hp.elim
 | [_],_,hp=>exact hp.elim
 | _::_::_::_,_,hp=>exact hp.elim
 | [p,q],rp,hp =>
  obtain⟨v,u,rfl,r1,r2⟩:=rp.two
  exact⟨v,u,rfl,hp _ Hs H1 ((sr.set r1).set r2)⟩
end L2
namespace L2
open PySem PySem.Spec PyProof.Rows
section
variable{X:Cx}{E:St->XK}{pos:Pos}
end
end L2
namespace L2
open PySem PySem.Spec PyProof.Rows
section
variable{X:Cx}{tg elt iter c:Expr}{scope:Scope}{cl:List (Str×Addr)}{pos:Pos}{wi:TI}{it:af->M (List PV)}{g:TG}{set:PV->af->M af}{f:af->M PV}{ts fs:List Str}{js:List Nat}
theorem wC{E:St->XK}{σ:St}{H:Hp}{Q:VK}(hv:y0 E wi it)(Qj:∀ E,Dj E g set)(so:nX set)(q:tO E (bR it set none f ts.length js) σ H Q):w4 wi g (tE EF f) ts js σ H Q:=by
 refine hv σ H _ ?_
 obtain⟨B,H₀,Hs,env,sr,q⟩:=q
 refine⟨B,H₀,Hs,env,sr,(az.bind q).imp (λxs hp J NA H1 gr ok D hD=>?_) λe he=>he⟩
 obtain⟨hz,hp⟩:=az.cP hp
 have hp:=az.IX hp
 have Qu:=sr.grow gr
 refine⟨λi m σ H=>m=xs.length-i/\i<=xs.length/\Jc set none f Q NA H1 D xs i σ H,⟨xs.length,by simp,Nat.zero_le _,NA,_,[],[],Qu.block hD,eD,aE,?_,.nil,Nat.le_refl _,hp.imp (λzs hz vs p NC H2 g2 r n=>hz vs p NC H2 (gr.trans g2) r n) λ_ z=>z⟩,?_⟩
 ·cases z:NA D with
  | none=>rfl
  | some o=>have:=gr.sub _ _ z;rw[hD] at this;cases this
 rintro i m σ' H2 ⟨rfl,hi,NC,env2,ys,vs,NT,n2,d1,d2,r2,l2,h2⟩
 by_cases N4:i<xs.length
 ·refine .inr ⟨ok.go i NC H2 NT.gr.st NT.gr.sub N4,Jc set none f Q NA H1 D xs (i+1),fun σ3 H3 j=>⟨xs.length-(i+1),by omega,rfl,N4,j⟩,λx H3 y=>?_⟩
  obtain⟨p,OU,ep,g3,r3⟩:=ok.uY i NC H2 x H3 NT.gr.st NT.gr.sub N4 y
  have hd:xs.drop i=p::xs.drop (i+1):=by
   rw[List.drop_eq_getElem_cons N4]
   rw[List.getElem?_eq_getElem N4] at ep
   rw[Option.some.inj ep]
  rw[hd] at h2
  have h3:=az.bind h2
  have Pl:=NT.grow g3
  refine Qj (λ_ _ _=>False) NA H1 OU H3 σ' env2 p x _ (λ_=>False) Pl r3 ?_
  cases hset:set p env2 with
  | none=>rw[hset] at h3;exact h3
  | some z=>cases z with
   | error e=>rw[hset] at h3;exact h3
   | ok e3 =>
    rw[hset] at h3
    intro σ4 sr4
    have n4:=so p env2 e3 hset n2
    refine⟨NA,H1,OU,e3,sr4,(az.bind h3).imp (λy hy v QT H5 g5 r5=>?_) λ_ z=>z.elim⟩
    exact Jc.put (set:=set) (t:=none) (f:=f) hD (sr4.grow g5) n4 (g5.al _ _ (g3.al _ _ d1)) (g5.nw _ _ (g3.nw _ _ d2 d1) (g3.al _ _ d1)) ((r2.mono g3.st).mono g5.st) l2 (by omega) r5 hy
 ·refine .inl ⟨ok.stop i NC H2 NT.gr.st NT.gr.sub (by omega),?_⟩
  exact Jc.done (set:=set) (t:=none) (f:=f) (xs:=xs) (NA:=NA) (H1:=H1) (i:=i) hD ⟨NC,env2,ys,vs,NT,n2,d1,d2,r2,l2,h2⟩ (by omega)
variable{E:XK}{i:Nat}{y:Str}{py Pk:Pos}
theorem mC(NB:X.calm=true)
  (NO:closureFor scope X.env=pure cl) (hk:scope.kind=.function) (nc:fm scope.names=true) (lo:gM scope.names=true) (fh:gF cl scope.names=true) (ag:eF X cl) (fr:iy X scope cl fs js)
  (hi:PI X tg iter wi) (hv:y0 (λ_=>E) wi it) (hg:∀ C s₀ H₀ ex Nm,PG (oZ X scope cl (ts++fs) C s₀ H₀ ex Nm) tg g) (Qj:∀ E,Dj E g set) (so:nX set) (he:∀ C s₀ H₀ ex Nm,PE (oZ X scope cl (ts++fs) C s₀ H₀ ex Nm) elt (tE EF f))
  (hN:X.N.Nodup) (Q9:X.N[i]?=some y) (hy:Loc X.env.scope y)
  (hs:autoParam (∀ x,foldedSetIterable iter X.env x=pure x) aI._auto_1) (QN:autoParam (swapsWith (.ListComp elt [⟨tg,iter,[],0⟩] scope pos) (some (.Name y py)) Pk.line X.env=pure true) aR._auto_1)
  (hf:autoParam (X.fn y=true\/X.env.scope.names.lookup y=some .local) aF._auto_1) :
  PS X (.Assign [.Name y py] (.ListComp elt [⟨tg,iter,[],0⟩] scope pos) Pk) (tS E (aX i (cD (bR it set none f ts.length js)))):=by
 refine(yI hN Q9 hy NB NO hk nc lo fh ag fr hi hg he hs QN hf).imp λD σ H q=>?_
 refine wC hv Qj so ?_
 obtain⟨B,H₀,Hs,env,sr,q⟩:=q
 refine⟨B,H₀,Hs,env,sr,(az.bind (az.bind q)).imp (λps hp vs p Nr H' g r n=>?_) λe he=>he.grow sr.gr⟩
 have gn:=bN.new (o:=.lst vs) g.sub n
 exact hp _ _ _ ((sr.grow (g.trans gn)).set (.lst aE (r.mono gn.st)))
end
end L2
namespace L2
open PySem PySem.Spec PyProof.Rows
section
variable{X:Cx}{tg:Expr}{a:Expr}{ta:TA}{p pos:Pos}
end
section
variable{E:St->XK}{X:Cx}{fs:af->M (List PV)}{a tg:Expr}{p p2 pos pos2:Pos}
end
end L2
namespace L2
open PySem PySem.Spec PyProof.Rows
open AutoSeq1 (wpAny_loadPart')
theorem Am(l:Addr)(items:Array Value)(n:Nat)(dct:Option Addr)(sl:Array (Option Value)) :
  Meets (Builtin.«enumerate.__new__» ⟨[.type "enumerate", .ref l],[]⟩) (λ_ R s=>s.heap.get? l=some { cls:=.type "tuple", dict:=dct,data:=.seq items n,slots:=sl } ∧
   R (.ok (.ret (.ref (s.heap.push { cls:=.type "tuple_iterator", data:=.fields #[.ref l,.int 0 0] }).objs.size)))
    { s with heap:=(s.heap.push { cls:=.type "tuple_iterator", data:=.fields #[.ref l,.int 0 0] }).push { cls:=.type "enumerate", data:=.fields #[.none,.bool false,.ref s.heap.objs.size,rawInt 0,.none,.none] } }) :=
 .of_wp λprog w A R s h=>by
  obtain⟨hp,g,d,tk,os⟩:=s;obtain⟨hl,h⟩:=h
  have Rh:=sub_enumerate
  have hL:Heap.IsTuple (Shared.heap ⟨hp,g,d,tk,os⟩) l items:=⟨_,hl,rfl,n,rfl⟩
  wp_walk using wpAny_loadPart' hl
  refine wpAny_stack_any λst=>wpAny_pure ?_
  split
  ·rename_i c _ _ _ _ _
   cases (c==Value.type "enumerate")
   ·wp_walk using wpAny_loadPart' hl,wpAny_pyIter_tuple hL
    exact⟨_,rfl,h⟩
   ·wp_walk using wpAny_loadPart' hl,wpAny_pyIter_tuple hL
    exact⟨_,rfl,h⟩
  ·wp_walk using wpAny_loadPart' hl,wpAny_pyIter_tuple hL
   exact⟨_,rfl,h⟩
section
variable{prog:Program}{w:World}{A:Around}{E:Value->Shared->Prop}{s:Shared}
theorem xG{l:Addr}{items:Array Value}{Q:Value->Shared->Prop}(hL:s.heap.IsTuple l items)
  (h:∀ h',IsEnum h' (s.heap.objs.size+1) s.heap.objs.size 0 .none->h'.IsTupleIter s.heap.objs.size l 0->h'.objs.size=s.heap.objs.size+2 ->
   (∀ b o,s.heap.get? b=some o->h'.get? b=some o)->Q (.ref (s.heap.objs.size+1)) { s with heap:=h' }) :
  wpAny (model prog w) A (call (.type "enumerate") [.ref l]) Q E s:=by
 obtain⟨⟨c,dct,dt,sl⟩,hl,hc,n,hd⟩:=hL
 replace hc:c=.type "tuple" := hc
 replace hd:dt=.seq items n:=hd
 subst hc hd
 refine callType_new F.called_enumerate (by decide) (F.typeCall_enumerate_1 _) (F.newCall_enumerate_1 _) (λobj=>F.args_object_init_2 obj _) F.entry_enumerate_new
  (Am l items n dct sl) ⟨hl,?_⟩
 have hz:(s.heap.push { cls:=.type "tuple_iterator", data:=.fields #[.ref l,.int 0 0] }).objs.size=s.heap.objs.size+1:=Heap.size_push ..
 show _/\_
 rw[hz]
 have he:IsEnum ((s.heap.push { cls:=.type "tuple_iterator", data:=.fields #[.ref l,.int 0 0] }).push
   { cls:=.type "enumerate", data:=.fields #[.none,.bool false,.ref s.heap.objs.size,rawInt 0,.none,.none] }) (s.heap.objs.size+1) s.heap.objs.size 0 .none:=by
  have:=Heap.get?_push_size (s.heap.push { cls:=.type "tuple_iterator", data:=.fields #[.ref l,.int 0 0] })
   (o:={ cls:=.type "enumerate", data:=.fields #[.none,.bool false,.ref s.heap.objs.size,rawInt 0,.none,.none] }) rfl
  rw[hz] at this;exact this
 refine⟨⟨_,he,rfl⟩,h _ he ⟨_,Heap.get?_push_of_some _ (Heap.get?_push_size _ rfl),rfl,rfl⟩ (by rw[Heap.size_push,hz]) λb o x=>Heap.get?_push_of_some _ (Heap.get?_push_of_some _ x)⟩
end
theorem Iq{prog:Program}{w:World}{A:Around}(hh:A.handled=none)(it t:Addr)(items:Array Value) :
  Draws prog w A it [it,t] items.size (λi v=>items[i]?=some v) (λi h=>h.IsTupleIter it t i/\h.IsTuple t items) where
 live:=λ_ _ st=>let ⟨⟨o,ho,_⟩,_⟩:=st;⟨o,ho⟩
 frame:=λ_ _ _ st hk=>by
  obtain⟨⟨o,ho,r⟩,⟨o2,Pb,r2⟩⟩:=st
  exact⟨⟨o,hk it (by simp) o ho,r⟩,⟨o2,hk t (by simp) o2 Pb,r2⟩⟩
 item:=λi s Q E hi st hQ=>by
  obtain⟨st,tt⟩:=st
  refine iu st tt (x:=items[i]) (by simp[hi]) λh' QI QL=>?_
  refine hQ _ h' s.toks (by simp[hi]) ⟨QI,?_⟩ QL
  obtain⟨o,ho,c1,_⟩:=st
  obtain⟨o2,Pb,c2,r2⟩:=tt
  refine⟨o2,(QL.2 t λz=>?_).trans Pb,c2,r2⟩
  rw[z,ho] at Pb;cases Pb
  rw[c1] at c2;exact absurd c2 (by decide)
 done:=λs Q E st hE=>e9 hh st.1 st.2 (by simp) hE
section
variable{X:Cx}
def GO (K : PySem.W.Frag) (a : Addr) : It :=
  ⟨λi H => ∃ xs x, gc K H a xs /\ xs[i]? = some x,
   λi H y H' => ∃ p x, H p = none /\ y = .ref p /\ H' = upd H p (.tup [.int i, x]) /\ ∀ xs, gc K H a xs -> xs[i]? = some x,
   λi H => ∃ xs, gc K H a xs /\ xs.length <= i⟩
theorem wW{P:Program}{w:World}{K:PySem.W.Frag}{elts:List Expr}{x1:Nat}{tp:Pos}(a e it:Addr)(Pm:e≠it):Turn P w K (.Tuple elts x1 tp) (GO K a) [e,it] e (λi h=>(∃ old,IsEnum h e it i old)/\h.IsTupleIter it a i) where
 mem:=by simp
 obj:=λi h st b hb=>by
  obtain⟨⟨old,he⟩,⟨o,e1,c,d⟩⟩:=st
  rcases List.mem_cons.mp hb with z | z
  ·subst z
   exact⟨_,he,λv z=>by cases z⟩
  ·have z':b=it:=by simpa using z
   subst z'
   exact⟨o,e1,λv z=>by rw[d] at z;cases z⟩
 keep:=λi h h' st k=>by
  obtain⟨⟨old,he⟩,⟨o,ho,r⟩⟩:=st
  exact⟨⟨old,k e (by simp) _ he⟩,⟨o,k it (by simp) o ho,r⟩⟩
 item:=by
  intro X hP hw hK hc i Nm s σ H E I hf st hg
  subst hP hw hK
  obtain⟨xs,x,hq,hx⟩:=hg
  obtain⟨Nn,rv,p,hz⟩:=I.tuple hq
  obtain⟨u,hu,ru⟩:=rv.get hx
  obtain⟨⟨old,he⟩,hit⟩:=st
  have P4:e<s.heap.objs.size:=Heap.lt_size he
  have QH:it<s.heap.objs.size:=by obtain⟨_,z,_⟩:=hit;exact Heap.lt_size z
  have hea:e ∉ [it,a]:=λz=>by
   rcases List.mem_cons.mp z with z | z
   ·exact Pm z
   ·obtain⟨o,ho,c,_⟩:=p
    rw[← List.mem_singleton.mp z,he] at ho
    cases ho;exact absurd (show Value.type "enumerate" = Value.type "tuple" from c) (by decide)
  have PR:i<Nn.toArray.size:=by
   have:=(List.getElem?_eq_some_iff.mp hu).1
   simpa using this
  refine wpAny_pyNext_enum_itemD (Iq (A:=X.A.in1) (I.ok.hd hc) it a Nn.toArray) he ⟨hit,p⟩ PR Pm hea λu' h' tk hu' ho NU hT Od hk=>⟨_,rfl,?_⟩
  have eu:u'=u:=by
   rw[List.getElem?_toArray,hu] at hu';exact(Option.some.inj hu').symm
  subst eu
  refine wpAny_letOwnedTupleGo_enum (s:={ s with heap:=h',toks:=tk+1 }) ho λh2 he2 OR=>?_
  have Qc:∀ b o,b ∉ [e,it]->s.heap.get? b=some o->h2.get? b=some o:=λb o hb q=>by
   have n1:b≠e:=λz=>hb (by simp[z])
   have n2:b≠it:=λz=>hb (by simp[z])
   exact(OR.2 b n1).trans (hk b o n1 n2 q)
  have Ql:h2.get? s.heap.objs.size=some { cls:=.type "tuple", data:=.seq #[.int i tk,u'] }:=(OR.2 _ (Nat.ne_of_gt P4)).trans hT
  have I2:Inv X Nm σ (upd H s.heap.objs.size (.tup [.int i,x])) { s with heap:=h2,toks:=tk+1 } :=
   I.kK (ch:=[e,it]) Qc hf (Nat.le_refl _) (λb hb=>by
    rcases List.mem_cons.mp hb with z | z
    ·subst z;exact⟨_,he⟩
    ·have z':b=it:=by simpa using z
     subst z'
     obtain⟨o,z,_⟩:=hit
     exact⟨o,z⟩)
    ⟨by show 2<=sizeLine;decide,[.int i tk,u'],.cons ⟨_,rfl⟩ (.cons ru .nil),⟨_,Ql,rfl,_,rfl⟩⟩
  have OP:H s.heap.objs.size=none:=I.bJ.fresh (Nat.le_refl _)
  obtain⟨oi,hoi,ri⟩:=NU.1
  refine⟨.ref s.heap.objs.size,_,I2,rfl,⟨_,x,OP,rfl,rfl,λys hy=>by rw[I.mP hy hq];exact hx⟩,⟨⟨u',by simpa using he2⟩,⟨oi,(OR.2 it (Ne.symm Pm)).trans hoi,ri⟩⟩,λb hb=>?_⟩
  have nb:b≠s.heap.objs.size:=by
   rcases List.mem_cons.mp hb with z | z
   ·rw[z];exact Nat.ne_of_lt P4
   ·have z':b=it:=by simpa using z
    rw[z'];exact Nat.ne_of_lt QH
  rw[aw nb]
  exact(hf b hb).1
 done:=by
  intro X hP hw hK hc i Nm s σ H E I hf st hg
  subst hP hw hK
  obtain⟨xs,hq,hx⟩:=hg
  obtain⟨Nn,rv,p,hz⟩:=I.tuple hq
  have hl:=rv.length
  obtain⟨⟨old,he⟩,hit⟩:=st
  obtain⟨f0,f1,f2,f3,f4,f5⟩:=hf it (by simp)
  have hT:s.TypeIs (.ref e) "enumerate" := ⟨_,he,rfl⟩
  unfold pyNext
  refine wpAny_bind (wpAny_attempt (wpAny_callSpecial?_slot (name:=Str.ofString "__next__") hT F.slot_enumerate_next
   (wpAny_call_entry F.slot_enumerate_next hT F.entry_enumerate_next ?_ (F.args_enumerate_next_1 _))))
  show wpAny _ _ (field (.ref e) 2 >>= _) _ _ _
  refine wpAny_bind (wpAny_field he rfl (x:=.ref it) rfl ?_)
  refine wpAny_bind (e9 (I.ok.hd hc) hit p (by simp;omega) λh' x he' Ri=>?_)
  obtain⟨o,ho,PK⟩:=Ri
  refine wpAny_bind (wpAny_isInstance (T := "StopIteration") (b:=true) ⟨o,ho,PK⟩ isSubtype_stop ?_)
  exact wpAny_pure ⟨rfl,I.turned (t':=s.toks) (λb o hb e=>he' b o hb e) f0 f1 f3 f4 f5⟩
 self:=λ_ _ _ _ _ st h=>by
  obtain⟨⟨old,he⟩,_⟩:=st
  exact wpAny_pyIter_enum he h
def KW(K:PySem.W.Frag)(tl:TA):TI:=fun σ H R=>tl σ H λvs H1=>∃ a,vs=[.ref a]/\(((∃ xs,hX K H1 a xs)/\R (Gm K a) H1)\/((∃ xs,gc K H1 a xs)/\R (GO K a) H1))
theorem jl{elts:List Expr}{x1:Nat}{tp:Pos}{l:Expr}{tl:TA}{p pos:Pos}(hg:Gl X "enumerate")(hm:X.mg "enumerate" = none)(hl:PA X [l] tl)(hs:autoParam (starEach [l] X.env=[(false,eval l X.env)]) aR._auto_1) :
  PI X (.Tuple elts x1 tp) (.Call (.Name "enumerate" p) [l] [] pos) (KW X.K tl):=by
 intro Nm s σ H R I h
 refine Call_ (jm I hg hm PyProof.Rows.boot_enumerate (PyProof.Rows.callWith_type1 (cL (hl pos Nm s σ H _ I h) λus s1 ⟨vs,H1,I1,r1,q1⟩=>?_) hs rfl))
 obtain⟨a,e,q⟩:=q1
 subst e
 cases r1 with
 | cons r rr =>
  cases rr
  cases (show _=Value.ref a from r)
  have fp:∀ b∈[s1.heap.objs.size+1,s1.heap.objs.size],lU X Nm H1 b:=λb hb=>by
   rcases List.mem_cons.mp hb with z | z
   ·subst z
    exact I1.uM (Nat.le_succ _) (I1.bJ.fresh (Nat.le_succ _))
   ·have z':b=s1.heap.objs.size:=by simpa using z
    subst z'
    exact I1.uM (Nat.le_refl _) (I1.bJ.fresh (Nat.le_refl _))
  rcases q with ⟨⟨xs,hq⟩,q⟩ | ⟨⟨xs,hq⟩,q⟩
  ·obtain⟨Nn,rv,pl,hz⟩:=I1.list hq
   refine call_enumerate_list pl.isList λh' he hit Od hk=>?_
   refine wpAny_pyIter_enum (s:={ s1 with heap:=h' }) he ?_
   exact⟨s1.heap.objs.size+1,[s1.heap.objs.size+1,s1.heap.objs.size],_,_,H1,rfl,I1.kept (t':=s1.toks) hk,y9 a _ _ (Nat.succ_ne_self _),⟨⟨_,he⟩,hit⟩,fp,q⟩
  ·obtain⟨Nn,rv,pl,hz⟩:=I1.tuple hq
   refine xG pl λh' he hit Od hk=>?_
   refine wpAny_pyIter_enum (s:={ s1 with heap:=h' }) he ?_
   exact⟨s1.heap.objs.size+1,[s1.heap.objs.size+1,s1.heap.objs.size],_,_,H1,rfl,I1.kept (t':=s1.toks) hk,wW a _ _ (Nat.succ_ne_self _),⟨⟨_,he⟩,hit⟩,fp,q⟩
end
def Mv(p:PV):M (List PV):=match cH p with
 | some xs=>M.ok (h9 xs)
 | none=>none
def zG:List PV->M (List PV)
 | [p]=>Mv p
 | _=>none
section
variable{E:St->XK}{K:PySem.W.Frag}{fs:af->M (List PV)}
theorem Bu{a:Addr}{NA:Hp}{xs:List PV}{vs:List V}(hq:∀ Nr H',bu NA Nr->bu Nr H'->gc K H' a vs)(hr:aW NA xs vs):j0 (GO K a) NA (h9 xs) where
 stop:=λi Hs H s1 s2 hi=>by
  unfold h9 at hi
  rw[List.length_mapIdx,hr.length] at hi
  exact⟨vs,hq Hs H s1 s2,hi⟩
 go:=λi Hs H s1 s2 hi=>by
  unfold h9 at hi
  rw[List.length_mapIdx] at hi
  obtain⟨v,e,_⟩:=hr.get (List.getElem?_eq_getElem hi)
  exact⟨vs,v,hq Hs H s1 s2,e⟩
 uY:=λi Hs H x H2 s1 s2 hi y=>by
  unfold h9 at hi
  rw[List.length_mapIdx] at hi
  obtain⟨v,e,r⟩:=hr.get (List.getElem?_eq_getElem hi)
  obtain⟨pa,v',hn,rfl,rfl,y1⟩:=y
  have z1:=y1 vs (hq Hs H s1 s2)
  rw[e] at z1;cases z1
  have gr:=bN.new (o:=.tup [.int (i:Nat),v]) s2 hn
  refine⟨.tup [.int (i:Nat),xs[i]],_,?_,gr,.tup aE (.cons (.int _) (.cons ((r.mono s1).mono gr.st) .nil))⟩
  unfold h9
  rw[List.getElem?_mapIdx,List.getElem?_eq_getElem hi]
  rfl
theorem gE:y0 E (KW K (tL E fs)) (i8 zG fs):=by
 intro σ H R q
 refine dC (K:=KI R) KI.g q λB H₀ Hs H1 env ps v sr rp hp=>?_
 match ps,rp,hp with
 | [],_,hp=>exact hp.elim
 | _::_::_,_,hp=>exact hp.elim
 | [p],rp,hp =>
  obtain⟨w,rfl,O7⟩:=rp.one
  cases O7 with
  | lst ha hx=>exact⟨_,rfl,.inl ⟨⟨_,hX.of (sr.gr.sub _ _ ha)⟩,hp _ Hs H1 (.refl sr.gr.sub) (rX (λNr H' s1 s2=>hX.of (s2 _ _ (s1 _ _ ha))) hx)⟩⟩
  | jW ha hx=>exact⟨_,rfl,.inl ⟨⟨_,.inl (.inr ⟨_,sr.gr.sub _ _ ha⟩)⟩,hp _ Hs H1 (.refl sr.gr.sub) (rX (λNr H' s1 s2=>.inl (.inr ⟨_,s2 _ _ (s1 _ _ ha)⟩)) hx)⟩⟩
  | tup ha hx=>exact⟨_,rfl,.inr ⟨⟨_,gc.of (sr.gr.sub _ _ ha)⟩,hp _ Hs H1 (.refl sr.gr.sub) (Bu (λNr H' s1 s2=>gc.of (s2 _ _ (s1 _ _ ha))) hx)⟩⟩
  | _=>exact hp.elim
end
end L2
namespace L2
open PySem PySem.Spec PyProof.Rows
section
variable{X:Cx}{E:St->XK}{e:Expr}{pos pos':Pos}{f:af->M PV}{i:Nat}{x:Str}
end
section
variable{X:Cx}{E:St->XK}{e:Expr}{pos pos':Pos}{f:af->M PV}{i:Nat}{x:Str}
end
section
variable{X:Cx}{Nm Qi:List (Addr×Obj)}{σ:St}{H:Hp}{s:Shared}{ea:Addr}
end
section
variable{X:Cx}{Nm:List (Addr×Obj)}{σ:St}{H Hc B H₀ Hs:Hp}{s:Shared}{ea T C:Addr}{dd:Option Addr}{E:XK}{env:af}{fo:Option (List (Str×PV))}{D:Ends}{Z:EX->Prop}{F:Value->Shared->Prop}
end
end L2
namespace L2
open PySem PySem.Spec PyProof.Rows
def ma(ys ns:List Addr)(C:Addr):Option Bool:=if ys.contains C=true then some true else if ns.contains C=true then some false else none
theorem qC{ys ns:List Addr}{C:Addr}{b:Bool}(h:ma ys ns C=some b):(b=true/\C∈ys)\/(b=false/\C∈ns):=by
 unfold ma at h
 by_cases h1:ys.contains C=true
 ·rw[if_pos h1] at h;cases h;exact .inl ⟨rfl,by simpa using h1⟩
 ·rw[if_neg h1] at h
  by_cases h2:ns.contains C=true
  ·rw[if_pos h2] at h;cases h;exact .inr ⟨rfl,by simpa using h2⟩
  ·rw[if_neg h2] at h;cases h
def FD(f:Addr->Option Bool)(ys ns:List Addr):Bool:=ys.all (λC=>f C==some true)&&ns.all λC=>f C==some false
theorem Cd{f:Addr->Option Bool}{ys ns:List Addr}(h:FD f ys ns=true){C:Addr}{b:Bool}(e:ma ys ns C=some b):f C=some b:=by
 unfold FD at h
 rw[Bool.and_eq_true,List.all_eq_true,List.all_eq_true] at h
 rcases qC e with ⟨rfl,m⟩ | ⟨rfl,m⟩
 ·exact eq_of_beq (h.1 C m)
 ·exact eq_of_beq (h.2 C m)
theorem vA{α:Type}{p:α->Prop}:∀ x∈([]:List α),p x:=λ_ h=>nomatch h
theorem Fz{α:Type}{p:α->Prop}{a:α}{l:List α}(h:p a)(r:∀ x∈l,p x):∀ x∈a::l,p x:=λx m=>by
 rcases List.mem_cons.mp m with rfl | m
 ·exact h
 ·exact r x m
def Fb:List String:=["NoneType", "bool", "int", "str", "tuple", "list", "dict"]
theorem DY{p:PV}{a:String}(h:FW p=some a):a∈Fb:=by
 cases p <;> first | (cases h;decide) | cases h
structure Jh (K:PySem.W.Frag) (mg:Str->Option Value) (x:Str) (D:Addr) (ys ns yo no:List Addr):Prop where
 mg:mg x=some (.ref D)
 ty:∀ p a,FW p=some a->PySem.W.kitOne K (.type a) (.ref D)=some false
 ob:∀ C b,ma yo no C=some b->pK K C/\PySem.W.kitOne K (.ref C) (.ref D)=some b
 oe:∀ C b,ma ys ns C=some b->gK K C/\PySem.W.kitOne K (.ref C) (.ref D)=some b
theorem Jh.of{K:PySem.W.Frag}{mg:Str->Option Value}{x:Str}{D:Addr}{ys ns yo no:List Addr}(h1:mg x=some (.ref D))(h2:(Fb.all λa=>PySem.W.kitOne K (.type a) (.ref D)==some false)=true)
  (h3:FD (λC=>PySem.W.kitOne K (.ref C) (.ref D)) yo no=true) (h4:FD (λC=>PySem.W.kitOne K (.ref C) (.ref D)) ys ns=true) (o1:∀ C∈yo,pK K C) (o2:∀ C∈no,pK K C) (e1:∀ C∈ys,gK K C) (e2:∀ C∈ns,gK K C):Jh K mg x D ys ns yo no where
 mg:=h1
 ty:=λp a h=>by
  rw[List.all_eq_true] at h2
  exact eq_of_beq (h2 a (DY h))
 ob:=λC b h=>⟨by rcases qC h with ⟨_,m⟩ | ⟨_,m⟩ <;> first | exact o1 C m | exact o2 C m,Cd h3 h⟩
 oe:=λC b h=>⟨by rcases qC h with ⟨_,m⟩ | ⟨_,m⟩ <;> first | exact e1 C m | exact e2 C m,Cd h4 h⟩
section
variable{X:Cx}{E:St->XK}{e:Expr}{pos p px pt:Pos}{f:af->M PV}{x:Str}{D:Addr}{ys ns yo no:List Addr}
theorem Jh.is(c:Jh X.K X.mg x D ys ns yo no)(hg:Gl X "isinstance")(hm:X.mg "isinstance" = none)(hx:Gl X x)(he:PE X e (tE E f))(hd:autoParam ((x==("__debug__" : Str))=false) aD._auto_1)
  (h1:autoParam (starEach [e,.Name x pt] X.env=(false,eval e X.env)::starEach [.Name x pt] X.env) aR._auto_1) (h2:autoParam (starEach [.Name x pt] X.env=(false,eval (.Name x pt) X.env)::starEach [] X.env) aR._auto_1) (NQ:autoParam ((backTo pos (starEach [.Name x pt] X.env)).any (·.1)=false) aR._auto_1) :
  PE X (.Call (.Name "isinstance" p) [e,.Name x pt] [] pos) (tE E (rT (λ_=>false) (ma yo no) (ma ys ns) f)) :=
 IC hg hm (yC hx c.mg rfl hd) c.ty c.ob c.oe he h1 h2 NQ
end
end L2
namespace L2
open PySem PySem.Spec PyProof.Rows
section
variable{X:Cx}{E:St->XK}{e o:Expr}{pos apos NG:Pos}{f g:af->M PV}
def JT(K:PySem.W.Frag):V->List V->Hp->VK->Prop:=λx vs H Q=>∃ (l:Addr) (bs:List Bool) (b:Bool) (j:Nat),x=.ref l/\vs=[.bl b]/\hX K H l (bs.map V.bl)/\bs.findIdx? (·==b)=some j/\Q (.int j) H
theorem Vals.JY{bs:List Bool}{us:List Value}(r:Vals (bs.map V.bl) us):us=bs.map Value.bool:=by
 induction bs generalizing us with
 | nil=>cases r;rfl
 | cons a t ih =>
  cases r with
  | cons h r =>
   cases (show _=Value.bool a from h)
   rw[ih r];rfl
theorem A5:MN X "list.index" (JT X.K):=by
 intro Nm s σ H x vs v us Q I rx rv h
 obtain⟨l,bs,b,j,rfl,rfl,hq,hj,q⟩:=h
 cases rx
 obtain⟨u,rfl,ru⟩:=rv.one
 cases ru
 obtain⟨Nn,r,⟨ob,n,e,c,hdd,hd⟩,hz⟩:=I.list hq
 obtain rfl:=r.JY
 obtain⟨oc,od,dt,sl⟩:=ob
 simp only at c hd
 subst c hd
 obtain⟨hj1,hj2,hj3⟩:=List.findIdx?_eq_some_iff_getElem.mp hj
 have hl:j<(bs.map Value.bool).toArray.size:=by simpa using hj1
 have QD:bs.length<=sizeLine:=by simpa using hz
 have hs:(j:Int)<2^63-1:=by
  have:sizeLine<2^40:=by decide
  omega
 refine call_meets F.slot_list_index ⟨_,e,rfl⟩ F.entry_list_index (F.args_list_index_2 _ _) (SeqAt.list_indexAt l (bs.map Value.bool).toArray n od sl (.bool b) (λy=>y==.bool b) j hl hs ?_ ?_) ⟨e,λy hy=>?_,?_⟩
 ·have:=eq_of_beq hj2
  simp[this]
 ·intro m hm h2
  have:=hj3 m h2
  simpa using this
 ·obtain⟨a,ha,rfl⟩:∃ a,a∈bs/\Value.bool a=y:=by simpa using hy
  have:=SeqAt.EqAt.bool_bool (A:=X.A.in1) (s:=s) a b
  have e2:(Value.bool a==Value.bool b)=(a==b):=by cases a <;> cases b <;> rfl
  rw[e2];exact this
 ·exact⟨.int j,H,I.kept (t':=s.toks+1) λ_ _ z=>z,⟨_,rfl⟩,q⟩
def FA(p q:PV):M PV:=match p,q with
 | .lst xs,.bl b=>dZ ((xw xs).bind λbs=>(bs.findIdx? (·==b)).map λ(j:Nat)=>.int (j:Int))
 | _,_=>none
def KD(p:PV)(k:M PV):M PV:=match p with
 | .lst xs=>k.bind λq=>FA (.lst xs) q
 | _=>none
def CK(f g:af->M PV):af->M PV:=λenv=>(f env).bind λp=>KD p (g env)
theorem BV(ho:PE X o (tE E f))(ha:PE X e (tE E g))(Pe:autoParam (attributeBase o "index" X.env (eval o X.env)=eval o X.env) aR._auto_1)
  (P5:autoParam (((backTo NG (starEach [e] X.env)).all (λx=>!x.1)&&(backToKw NG (keywordEach [] X.env)).all (λx=>x.1.isSome)&&decide ([e].length+([]:List Keyword).length+(if ([]:List Keyword).isEmpty then 0 else 1)<30))=true) aR._auto_1)
  (Pf:autoParam ((apos.endLine==NG.line)=true) aR._auto_1) (hs:autoParam (starEach [e] X.env=(false,eval e X.env)::starEach [] X.env) aR._auto_1) (OX:autoParam ((backTo NG (starEach [] X.env)).any (·.1)=false) aR._auto_1) :
  PE X (.Call (.Attribute o "index" apos) [e] [] NG) (tE E (CK f g)):=by
 refine(F5 PySem.F.plainAttrs_list PySem.F.slot_list_index PySem.F.type_list_index A5 ho (eB ha kz hs) Pe P5 Pf hs OX).imp fun σ H Q q=>?_
 refine t8 q λB H₀ Hs H1 env p v sr rp hp=>?_
 cases rp with
 | @lst a _ vs ha' hx =>
  refine⟨.inl ⟨rfl,_,hX.of (sr.gr.sub _ _ ha')⟩,B,H₀,Hs,env,sr,(az.bind hp).imp (λq2 hq u Nr H' g' ru=>?_) λe he=>he⟩
  cases ru with
  | bl b =>
   obtain⟨z,ez,NW⟩:=az.opt hq
   obtain⟨bs,e1,e2⟩:=Option.bind_eq_some_iff.mp ez
   obtain⟨j,e3,rfl⟩:=Option.map_eq_some_iff.mp e2
   obtain rfl:=xr e1
   obtain rfl:=hx.JY
   exact⟨a,bs,b,j,rfl,rfl,hX.of ((sr.grow g').gr.sub _ _ (g'.st _ _ ha')),e3,NW _ _ _ g' (.int _)⟩
  | _=>exact hq.elim
 | _=>exact hp.elim
end
end L2
namespace L2
open PySem PySem.Spec PyProof.Rows _root_.HT
section
variable{prog:Program}{w:World}{A:Around}{E:Value->Shared->Prop}{s:Shared}
theorem lV{t sl:Addr}{items:Array Value}{vl vu:Value}{lo hi:Option Int}{Q:Value->Shared->Prop}(ht:IsTup s.heap t items)(hs:s.heap.IsSliceOf sl vl vu .none)(pl:IsPart vl lo)(pu:IsPart vu hi)
  (hw:da items.size 0 lo=0/\da items.size items.size hi=items.size) (h:Q (.ref t) s):wpAny (model prog w) A (getItem (.ref t) (.ref sl)) Q E s:=by
 obtain⟨os,QK,hcs,Q6⟩:=id hs
 have hTs:s.TypeIs (.ref sl) "slice" := ⟨os,QK,hcs⟩
 unfold getItem
 try with_reducible refine wpAny_holding ?_
 first | refine wpAny_bind (wpAny_pure ?_) | skip
 refine wpAny_bind (wpAny_sequenceKey ht.typeIs (by decide) ?_)
 refine wpAny_bind (wpAny_callSpecial?_slot (name:=Str.ofString "__getitem__") ht.typeIs PyProof.Rows.slot_tuple_getitem
  (wpAny_call_entry PyProof.Rows.slot_tuple_getitem ht.typeIs entry_tuple_getitem ?_ (args_tuple_getitem _ _)))
 show wpAny _ _ (Builtin.Tuple.tupleItemsOf (.ref t) >>= _) _ _ s
 refine wpAny_bind (tupleItemsOf_ ht ?_)
 refine wpAny_bind (wpAny_typeOf hTs ?_)
 rw[if_pos (by decide)]
 refine wpAny_bind (i7 hs pl pu ?_)
 have hyes:(((da items.size 0 lo:Nat):Int)==0&&(1:Int)==1&&(da items.size items.size hi-da items.size 0 lo)==items.size)=true:=by
  rw[hw.1,hw.2];simp
 show wpAny _ _ (if (((da items.size 0 lo:Nat):Int)==0&&(1:Int)==1&&(da items.size items.size hi-da items.size 0 lo)==items.size)=true then _ else _) _ _ s
 rw[if_pos hyes]
 unfold Builtin.Tuple.tupleIsExact
 refine wpAny_bind (wpAny_bind (wpAny_typeOf ht.typeIs (wpAny_pure ?_)))
 rw[if_pos (show ((Value.type "tuple" == Value.type "tuple")=true) from beq_self_eq_true _)]
 refine wpAny_bind (wpAny_rule ?_)
 first
  | exact wpAny_bind (wpAny_pure (wpAny_pure ⟨_,rfl,wpAny_pure h⟩))
  | exact wpAny_bind (wpAny_pure ⟨_,rfl,wpAny_pure h⟩)
  | exact wpAny_pure ⟨_,rfl,wpAny_pure h⟩
end
section
variable{X:Cx}{E:St->XK}{e:Expr}{lo hi:Option Expr}{pos p2:Pos}{f:af->M PV}{gl gh:af->M (Option Int)}
def MK(K:PySem.W.Frag):V->Option Int->Option Int->Hp->VK->Prop:=λx lo hi H Q=>∃ a xs,x=.ref a/\gc K H a xs/\(da xs.length 0 lo=0/\da xs.length xs.length hi=xs.length)/\Q (.ref a) H
theorem DR:Dl X (MK X.K):=by
 intro Nm s σ H x v vl vu lo hi sl Q I rx hs pl pu h
 obtain⟨a,xs,rfl,hx,hw,q⟩:=h
 cases rx
 obtain⟨Nn,r,ht,hz⟩:=I.tuple hx
 have hlen:Nn.toArray.size=xs.length:=by rw[List.size_toArray];exact r.length.symm
 refine⟨"tuple", _,PyProof.Rows.slot_tuple_getitem.lookup,ht.typeIs,?_⟩
 exact lV ht hs pl pu (by rw[hlen];exact hw) ⟨.ref a,H,I,rfl,q⟩
def IF(p:PV)(lo hi:Option Int):M PV:=match p with
 | .tup xs=>M.ok (.tup (la xs lo hi))
 | .lst xs=>M.ok (.lst (la xs lo hi))
 | .jW xs=>M.ok (.lst (la xs lo hi))
 | _=>none
def jc(f:af->M PV)(lo hi:af->M (Option Int)):af->M PV:=λenv=>(f env).bind λp=>(lo env).bind λl=>(hi env).bind λh=>IF p l h
theorem kY(he:PE X e (tE E f))(hl:PO X lo (La E gl))(hh:PO X hi (La E gh)):PE X (.Subscript e (.Slice lo hi none p2) pos) (tE E (jc f gl gh)):=by
 refine(Cz (Dl.or IB (Dl.or DR E1)) he hl hh).imp fun σ H Q q=>bQ (K:=jU Q) jU.g q λB H₀ Hs H1 env p v sr rp hp=>?_
 refine⟨B,H₀,Hs,env,sr,(az.bind hp).imp (λl hl NC H2 g2=>?_) λe he=>he⟩
 have NT:=sr.grow g2
 refine⟨B,H₀,NC,env,NT,(az.bind hl).imp (λh hh OU H3 g3=>?_) λe he=>he.grow g2⟩
 have Pl:=NT.grow g3
 have hz:az (IF p l h) (dS OU H3 Q) (λ_=>True):=hh.imp (λz hz w Hs4 H4 g4 r=>hz w Hs4 H4 ((g2.trans g3).trans g4) r) λ_ _=>trivial
 have rp3:=(rp.mono g2.st).mono g3.st
 cases rp3 with
 | @tup a xs vs ha hx =>
  by_cases hn:da xs.length 0 l=0/\da xs.length xs.length h=xs.length
  ·refine .inr (.inl ⟨_,_,rfl,gc.of (Pl.gr.sub _ _ ha),by rw[← hx.length];exact hn,?_⟩)
   have e:la xs l h=xs:=by
    unfold la;rw[hn.1,hn.2,List.drop_zero,Nat.sub_zero,List.take_length]
   have QD:dS OU H3 Q (.tup xs):=by
    have z:dS OU H3 Q (.tup (la xs l h)):=hz
    rw[e] at z;exact z
   exact dS.flat QD Pl.gr.sub (.tup ha hx)
  ·exact .inl ⟨_,_,rfl,gc.of (Pl.gr.sub _ _ ha),by rw[← hx.length];exact hn,dS.tup hz Pl.gr.sub (hx.cut l h)⟩
 | lst ha hx=>exact .inr (.inr ⟨_,_,rfl,hX.of (Pl.gr.sub _ _ ha),dS.lst hz Pl.gr.sub (hx.cut l h)⟩)
 | jW ha hx=>exact .inr (.inr ⟨_,_,rfl,.inl (.inr ⟨_,Pl.gr.sub _ _ ha⟩),dS.lst hz Pl.gr.sub (hx.cut l h)⟩)
 | _=>exact hz.elim
end
end L2
namespace L2
open PySem PySem.Spec PyProof.Rows
end L2
namespace L2
open PySem PySem.Spec PyProof.Rows
section
variable{X:Cx}{E:St->XK}
end
section
variable{X:Cx}{E:St->XK}{o e:Expr}{es:List Expr}{pos apos:Pos}{m:Str}{k:Nat}{g:af->M PV}{fs:af->M (List PV)}{L:List (Addr×(List PV->M PV))}{P:Program}{w:World}{K:PySem.W.Frag}{mg:Str->Option Value}{base:Heap}
end
end L2
namespace L2
open PySem PySem.Spec PyProof.Rows
end L2
namespace L2
open PySem PySem.Spec PyProof.Rows
open PySem.SeqAt (shaped EqAt RcAt RcNeAt)
section
variable{X:Cx}{E:St->XK}{Nm:List (Addr×Obj)}{σ:St}{H:Hp}{s:Shared}{a b:Addr}{A:Around}
end
section
variable{X:Cx}{E:St->XK}
end
end L2
namespace HT
open PySem PyProof.Rows
section
variable{prog:Program}{w:World}{A:Around}{E:Value->Shared->Prop}{a b v:Value}{k:Bool}{I S ax:Addr}{t:Shared}{n:Nat}{R:Result->Shared->Prop}
theorem CO(hS:t.heap.get? S=some { cls:=.type "list", dict:=none,data:=.seq #[v,v] n,slots:=#[] })(hn:ax≠I)(hs:S≠I/\S≠ax)(hi:t.heap.IsTupleIter I ax 2/\t.heap.IsTuple ax #[a,b])(hh:A.handled=none)
  (h:∀ h' tk,(∀ c o,c≠I->c≠S->t.heap.get? c=some o->h'.get? c=some o)->R (.ok (.ret v)) { t with heap:=h',toks:=tk }) :
  codeAny (model prog w) A (.builtin "min.loop" ⟨[.ref I,.none,.ref S],[]⟩) R t:=by
 have W:=Walks.tuple (prog:=prog) (w:=w) (A:=A.in1) hh I ax hn #[a,b]
 refine codeAny_builtin F.entry_min_loop ?_
 rw[Around.under_plainId F.plain_min_loop _]
 show wpAny _ A.in1 (seqItems? (.ref S) >>= _) _ _ t
 refine wpAny_bind (wpAny_seqItems hS rfl ?_)
 show wpAny _ A.in1 (tryCatch (pyNext (.ref I)) _ >>= _) _ _ t
 refine wpAny_bind (wpAny_tryCatch (W.done t _ _ hi λh' tk O5=>?_))
 have Qx:=O5 S _ (by simp[hs.1]) hS
 show wpAny _ A.in1 (updateSeq S (λ_=>#[]) >>= _) _ _ _
 refine wpAny_bind ?_
 refine wpAny_updateSeq Qx rfl (wpAny_bind (wpAny_letGo (wpAny_pure ?_)))
 exact h _ tk λc o h1 h2 e=>(Heap.get?_update_other _ _ (Ne.symm h2)).trans (O5 c o (by simp[h1]) e)
theorem He(hS:t.heap.get? S=some { cls:=.type "list", dict:=none,data:=.seq #[a,a] n,slots:=#[] })(hn:ax≠I)(hs:S≠I/\S≠ax)(hi:t.heap.IsTupleIter I ax 1/\t.heap.IsTuple ax #[a,b])(hh:A.handled=none)
  (hc:∀ h' tk,(∀ c o,c≠I->c≠S->t.heap.get? c=some o->h'.get? c=some o)->∀ Q E,Q (.bool k) { t with heap:=h',toks:=tk }->wpAny (model prog w) A.in1 (richCompare .Lt b a) Q E { t with heap:=h',toks:=tk })
  (h:∀ h' tk,(∀ c o,c≠I->c≠S->t.heap.get? c=some o->h'.get? c=some o)->R (.ok (.ret (if k then b else a))) { t with heap:=h',toks:=tk }) :
  codeAny (model prog w) A (.builtin "min.loop" ⟨[.ref I,.none,.ref S],[]⟩) R t:=by
 have W:=Walks.tuple (prog:=prog) (w:=w) (A:=A.in1) hh I ax hn #[a,b]
 have O8:(toString "min" ++ toString ".loop" : String) = "min.loop" := by decide
 refine codeAny_builtin F.entry_min_loop ?_
 rw[Around.under_plainId F.plain_min_loop _]
 show wpAny _ A.in1 (seqItems? (.ref S) >>= _) _ _ t
 refine wpAny_bind (wpAny_seqItems hS rfl ?_)
 show wpAny _ A.in1 (tryCatch (pyNext (.ref I)) _ >>= _) _ _ t
 refine wpAny_bind (wpAny_tryCatch (W.item 1 t _ _ (by simp) hi λv h' tk hP Qp O5=>?_))
 obtain rfl:b=v:=by simpa using hP
 have Qx:=O5 S _ (by simp[hs.1]) hS
 show wpAny _ A.in1 (tryCatch (holding [b,b] (richCompare .Lt b a >>= _)) _ >>= _) _ _ _
 refine wpAny_bind (wpAny_tryCatch (wpAny_holding (wpAny_bind (hc h' tk (λc o h1 h2 e=>O5 c o (by simp[h1]) e) _ _ ?_))))
 refine wpAny_bind (wpAny_holding (wpAny_truthy_bool ?_))
 refine wpAny_bind (wpAny_letGo (wpAny_pure ?_))
 cases k with
 | true =>
  simp only[if_true]
  refine wpAny_bind ?_
  refine wpAny_updateSeq Qx rfl (wpAny_bind (wpAny_letGo ?_))
  rw[O8]
  refine wpAny_pure ⟨plainId_quiet F.plain_min_loop _,CO (a:=a) (b:=b) (Heap.get?_update_self _ Qx rfl) hn hs (W.frame _ _ _ Qp λc hb o e=>?_) hh λh2 QS k2=>?_⟩
  ·exact(Heap.get?_update_other _ _ (λz:S=c=>by subst z;simp at hb;rcases hb with z | z;exact hs.1 z;exact hs.2 z)).trans e
  ·exact h h2 QS λc o h1 h3 e=>k2 c o h1 h3 ((Heap.get?_update_other _ _ (Ne.symm h3)).trans (O5 c o (by simp[h1]) e))
 | false =>
  simp only[Bool.false_eq_true,if_false]
  refine wpAny_bind (wpAny_letGo ?_)
  rw[O8]
  exact wpAny_pure ⟨plainId_quiet F.plain_min_loop _,CO (a:=a) (b:=b) Qx hn hs Qp hh λh2 QS k2=>h h2 QS λc o h1 h3 e=>k2 c o h1 h3 (O5 c o (by simp[h1]) e)⟩
theorem IY(hS:t.heap.get? S=some { cls:=.type "list", dict:=none,data:=.seq #[] n,slots:=#[] })(hn:ax≠I)(hs:S≠I/\S≠ax)(hi:t.heap.IsTupleIter I ax 0/\t.heap.IsTuple ax #[a,b])(hh:A.handled=none)
  (hc:∀ h' tk,(∀ c o,c≠I->c≠S->t.heap.get? c=some o->h'.get? c=some o)->∀ Q E,Q (.bool k) { t with heap:=h',toks:=tk }->wpAny (model prog w) A.in1 (richCompare .Lt b a) Q E { t with heap:=h',toks:=tk })
  (h:∀ h' tk,(∀ c o,c≠I->c≠S->t.heap.get? c=some o->h'.get? c=some o)->R (.ok (.ret (if k then b else a))) { t with heap:=h',toks:=tk }) :
  codeAny (model prog w) A (.builtin "min.loop" ⟨[.ref I,.none,.ref S],[]⟩) R t:=by
 have W:=Walks.tuple (prog:=prog) (w:=w) (A:=A.in1) hh I ax hn #[a,b]
 have O8:(toString "min" ++ toString ".loop" : String) = "min.loop" := by decide
 refine codeAny_builtin F.entry_min_loop ?_
 rw[Around.under_plainId F.plain_min_loop _]
 show wpAny _ A.in1 (seqItems? (.ref S) >>= _) _ _ t
 refine wpAny_bind (wpAny_seqItems hS rfl ?_)
 show wpAny _ A.in1 (tryCatch (pyNext (.ref I)) _ >>= _) _ _ t
 refine wpAny_bind (wpAny_tryCatch (W.item 0 t _ _ (by simp) hi λv h' tk hP Qp O5=>?_))
 obtain rfl:a=v:=by simpa using hP
 have Qx:=O5 S _ (by simp[hs.1]) hS
 show wpAny _ A.in1 (updateSeq S (λ_=>#[a,a]) >>= _) _ _ _
 refine wpAny_bind ?_
 refine wpAny_updateSeq Qx rfl ?_
 rw[O8]
 refine wpAny_pure ⟨plainId_quiet F.plain_min_loop _,He (b:=b) (k:=k) (Heap.get?_update_self _ Qx rfl) hn hs (W.frame _ _ _ Qp λc hb o e=>?_) hh (λh2 QS k2=>?_) λh2 QS k2=>?_⟩
 ·exact(Heap.get?_update_other _ _ (λz:S=c=>by subst z;simp at hb;rcases hb with z | z;exact hs.1 z;exact hs.2 z)).trans e
 ·exact hc h2 QS λc o h1 h3 e=>k2 c o h1 h3 ((Heap.get?_update_other _ _ (Ne.symm h3)).trans (O5 c o (by simp[h1]) e))
 ·exact h h2 QS λc o h1 h3 e=>k2 c o h1 h3 ((Heap.get?_update_other _ _ (Ne.symm h3)).trans (O5 c o (by simp[h1]) e))
theorem min_two{s:Shared}{Q:Value->Shared->Prop}(hh:A.handled=none)
  (hc:∀ h' tk,(∀ c o,s.heap.get? c=some o->h'.get? c=some o)->∀ Q E,Q (.bool k) { s with heap:=h',toks:=tk }->wpAny (model prog w) A.in1 (richCompare .Lt b a) Q E { s with heap:=h',toks:=tk })
  (h:∀ h' tk,(∀ c o,s.heap.get? c=some o->h'.get? c=some o)->Q (if k then b else a) { s with heap:=h',toks:=tk }) :
  wpAny (model prog w) A (call (.builtin "min") [a,b]) Q E s:=by
 have O8:(toString "min" ++ toString ".loop" : String) = "min.loop" := by decide
 refine call_function_tree F.kind_min F.plain_min F.entry_min (F.args_min2 _ _) ?_
 show wpAny _ A.in1 (Builtin.Builtins.bindParams "min" ["key", "default"] 0 ⟨[],[]⟩ >>= _) _ _ s
 refine wpAny_bind (wpAny_of_eq (show Builtin.Builtins.bindParams "min" ["key", "default"] 0 ⟨[],[]⟩=pure [none,none] from rfl) ?_)
 show wpAny _ A.in1 (newTuple [a,b] >>= _) _ _ s
 refine wpAny_bind (wpAny_newObj_type ?_)
 have hT:(s.heap.push { cls:=.type "tuple", data:=.seq #[a,b] }).IsTuple s.heap.objs.size #[a,b]:=⟨_,Heap.get?_push_size _ rfl,rfl,0,rfl⟩
 have Od:(s.heap.push { cls:=.type "tuple", data:=.seq #[a,b] }).objs.size=s.heap.objs.size+1:=Heap.size_push ..
 refine wpAny_bind (wpAny_pyIter_tuple hT ?_)
 refine wpAny_bind (wpAny_newObj_type ?_)
 rw[O8]
 refine wpAny_pure ⟨plainId_quiet F.plain_min_loop _,IY (a:=a) (b:=b) (k:=k) (ax:=s.heap.objs.size) (Heap.get?_push_size _ rfl) (by rw[Od];exact Nat.ne_of_lt (Nat.lt_succ_self _)) ⟨?_,?_⟩ ⟨⟨_,Heap.get?_push_of_some _ (Heap.get?_push_size _ rfl),rfl,rfl⟩,(hT.push _).push _⟩ hh (λh' tk k'=>?_) λh' tk k'=>?_⟩
 ·rw[Heap.size_push];exact Nat.succ_ne_self _
 ·rw[Heap.size_push,Od];exact Nat.ne_of_gt (Nat.lt_succ_of_lt (Nat.lt_succ_self _))
 ·exact hc h' tk λc o e=>k' c o (by rw[Od];exact Nat.ne_of_lt (Nat.lt_succ_of_lt (Heap.lt_size e))) (by rw[Heap.size_push,Od];exact Nat.ne_of_lt (Nat.lt_succ_of_lt (Nat.lt_succ_of_lt (Heap.lt_size e)))) (Heap.get?_push_of_some _ (Heap.get?_push_of_some _ (Heap.get?_push_of_some _ e)))
 ·exact h h' tk λc o e=>k' c o (by rw[Od];exact Nat.ne_of_lt (Nat.lt_succ_of_lt (Heap.lt_size e))) (by rw[Heap.size_push,Od];exact Nat.ne_of_lt (Nat.lt_succ_of_lt (Nat.lt_succ_of_lt (Heap.lt_size e)))) (Heap.get?_push_of_some _ (Heap.get?_push_of_some _ (Heap.get?_push_of_some _ e)))
end
def lexLe(xs ys:List Int):Bool:=!lexLt ys xs
theorem xF(x y:Int)(xs ys:List Int):lexLe (x::xs) (y::ys)=if x=y then lexLe xs ys else decide (x<=y):=by
 unfold lexLe
 rw[lG]
 by_cases h:x=y
 ·rw[if_pos h.symm,if_pos h]
 ·rw[if_neg (λe=>h e.symm),if_neg h]
  by_cases q:y<x
  ·rw[decide_eq_true q,decide_eq_false (by omega)];rfl
  ·rw[decide_eq_false q,decide_eq_true (by omega)];rfl
theorem B9(A:Around)(s:Shared)(a:Int)(t:Tok)(c:Int)(u:Tok)(prog:Program)(w:World)(E:Value->Shared->Prop)(Q:Value->Shared->Prop)(h:Q (.bool (decide (a<=c))) s) :
  wpAny (model prog w) A (richCompare .LtE (.int a t) (.int c u)) Q E s :=
 (PyProof.Rows.le_int h:wpAny (model prog w) A (compareOp .LtE (.int a t) (.int c u)) Q E s)
section
open PySem.SeqAt
open PySem.AutoSeq1 (wpAny_loadPart')
open PySem.MeetsSeq PySem.MeetsSeq2 PySem.MeetsSeq3
theorem rg(l b:Addr)(items Nz:Array Value)(n n2:Nat)(dd PH:Option Addr)(sl PU:Array (Option Value))(ns ms:List Int)(hi:IntsAre items.toList ns)(hj:IntsAre Nz.toList ms) :
  Meets (Builtin.«tuple.__le__» ⟨[.ref l,.ref b],[]⟩)
   (λ_ R s=>s.heap.get? l=some { cls:=.type "tuple", dict:=dd,data:=.seq items n,slots:=sl }/\s.heap.get? b=some { cls:=.type "tuple", dict:=PH,data:=.seq Nz n2,slots:=PU } ∧
    R (.ok (.ret (.bool (lexLe ns ms)))) s) :=
 .of_wp λprog w A R s h=>by
  obtain⟨hp,g,d,tk,os⟩:=s;obtain⟨hl,hb,h⟩:=h
  have f2:=AutoSeq1.sub_tuple_tuple
  have z1:items.size=ns.length:=by rw[← hi.length];simp
  have z2:Nz.size=ms.length:=by rw[← hj.length];simp
  wp_walk using wpAny_loadPart' hl,wpAny_loadPart' hb,wpAny_forIn_list _ (λrest b s'=>b.1=none/\s'=⟨hp,g,d,tk,os⟩/\∃ (vs ws:List Value) (PQ PN:List Int),rest=vs.zip ws ∧
   IntsAre vs PQ/\IntsAre ws PN/\PQ.length+Nz.size=PN.length+items.size/\R (.ok (.ret (.bool (lexLe PQ PN)))) ⟨hp,g,d,tk,os⟩) _
  case turn =>
   rintro⟨y,x⟩ rest b s' ⟨QG,rfl,vs,ws,PQ,PN,hz,QP,Qq,hlen,hR⟩
   cases QP with
   | nil=>rw[List.zip_nil_left] at hz;cases hz
   | cons a t hvi' =>
    cases Qq with
    | nil=>rw[List.zip_nil_right] at hz;cases hz
    | cons c u hwi' =>
     rw[List.zip_cons_cons] at hz
     injection hz with hyx qi
     injection hyx with hy hx
     subst hy hx
     rw[xF] at hR
     simp only[List.length_cons] at hlen
     obtain⟨e,he,P7⟩:=vk A.in1 ⟨hp,g,d,tk,os⟩ a t c u
     refine wpAny_bind (he prog w _ _ ?_)
     cases e with
     | true =>
      rw[if_pos (P7.mp rfl)] at hR
      wp_walk
      exact⟨rfl,rfl,_,_,_,_,qi,hvi',hwi',by omega,hR⟩
     | false =>
      rw[if_neg (λq=>absurd (P7.mpr q) Bool.false_ne_true)] at hR
      have hri:=B9 A.in1 ⟨hp,g,d,tk,os⟩ a t c u prog w
      wp_walk using hri
      exact⟨_,rfl,by simpa using hR⟩
  case fin =>
   rintro⟨b1,b2⟩ s' ⟨QG,rfl,vs,ws,PQ,PN,hz,QP,Qq,hlen,hR⟩
   simp only at QG
   subst QG
   have hv:lexLe PQ PN=decide (items.size<=Nz.size):=by
    unfold lexLe
    cases QP with
    | nil =>
     cases Qq with
     | nil =>
      simp only[List.length_nil] at hlen
      rw[ly]
      exact(decide_eq_true (by omega)).symm
     | cons c u hw =>
      simp only[List.length_nil,List.length_cons] at hlen
      rw[kh]
      exact(decide_eq_true (by omega)).symm
    | cons a t hv =>
     cases Qq with
     | nil =>
      simp only[List.length_nil,List.length_cons] at hlen
      rw[ku]
      exact(decide_eq_false (by omega)).symm
     | cons c u hw =>
      rw[List.zip_cons_cons] at hz
      cases hz
   rw[hv] at hR
   wp_walk
   exact⟨_,rfl,by simpa [Builtin.Tuple.tupleCompareSizes] using hR⟩
  case h =>
   exact⟨rfl,rfl,items.toList,Nz.toList,ns,ms,rfl,hi,hj,by omega,h⟩
end
section
variable{prog:Program}{w:World}{A:Around}{E:Value->Shared->Prop}{s:Shared}
theorem wX{l b:Addr}{items Nz:Array Value}{ns ms:List Int}{Q:Value->Shared->Prop}(hl:IsTup s.heap l items)(hb:IsTup s.heap b Nz)(hi:IntsAre items.toList ns)(hj:IntsAre Nz.toList ms)
  (hu:A.units<cLine) (h:Q (.bool (lexLe ns ms)) s):wpAny (model prog w) A (compareOp .LtE (.ref l) (.ref b)) Q E s:=by
 obtain⟨⟨cls,dd,data,sl⟩,ho,hc,n,hd⟩:=id hl
 obtain⟨⟨QF,PH,data2,PU⟩,Pb,Pn,n2,hd2⟩:=id hb
 simp only at hc hd Pn hd2
 subst hc hd Pn hd2
 exact richCompare_meets_room (op:=.LtE) ⟨_,ho,rfl⟩ ⟨_,Pb,rfl⟩ PySem.F.slot_tuple_le PySem.F.entry_tuple_le (PySem.F.args_tuple_le_2 _ _) (rg l b items Nz n n2 dd PH sl PU ns ms hi hj)
  ⟨ho,Pb,show Value.bool (lexLe ns ms)≠Value.notImplemented/\Q (.bool (lexLe ns ms)) s from ⟨(λx=>nomatch x),h⟩⟩ hu
end
end HT
namespace L2
open PySem PySem.Spec PyProof.Rows
theorem xY{xs:List PV}:∀ {ns:List Int},lp xs=some ns->xs=ns.map PV.int:=by
 induction xs with
 | nil=>intro ns h;cases h;rfl
 | cons p r ih =>
  intro ns h
  cases p with
  | int i =>
   obtain⟨m,e,rfl⟩:=Option.map_eq_some_iff.mp (show (lp r).map (i::·)=some ns from h)
   rw[ih e];rfl
  | _=>cases h
def n6:PV->Option (List Int)
 | .tup xs=>lp xs
 | _=>none
def Im(p q:PV):M PV:=match n6 p,n6 q with
 | some ns,some ms=>M.ok (.bl (HT.lexLe ns ms))
 | _,_=>none
def CC:List PV->M PV
 | [p,q]=>match n6 p,n6 q with
  | some ns,some ms=>M.ok (if HT.lexLt ms ns then q else p)
  | _,_=>none
 | _=>none
def J9:R2:=λx y H Q=>∃ a b ns ms,x=.ref a/\y=.ref b/\H a=some (.tup (ns.map V.int))/\H b=some (.tup (ms.map V.int))/\Q (.bl (HT.lexLe ns ms)) H
section
variable{X:Cx}{E:St->XK}
theorem Hg(hu:X.A.units+64<cLine):gf X (compareOp .LtE) J9:=by
 intro Nm s σ H x y v u Q I rx ry h
 obtain⟨a,b,ns,ms,rfl,rfl,ha,hb,q⟩:=h
 cases rx
 cases ry
 obtain⟨Nn,r1,p1,_⟩:=I.tuple (gc.of ha)
 obtain⟨Ot,r2,p2,_⟩:=I.tuple (gc.of hb)
 have i1:IntsAre Nn.toArray.toList ns:=intsAre_of r1
 have i2:IntsAre Ot.toArray.toList ms:=intsAre_of r2
 exact HT.wX p1 p2 i1 i2 (by omega) ⟨.bl (HT.lexLe ns ms),H,I,rfl,q⟩
theorem kW{Hs:Hp}{p:PV}{v:V}{ns:List Int}(r:Rep Hs p v)(h:n6 p=some ns):∃ a,v=.ref a/\Hs a=some (.tup (ns.map V.int)):=by
 cases r with
 | tup ht hx =>
  have e:=xY (show lp _=some ns from h)
  subst e
  rw[hx.ints] at ht
  exact⟨_,rfl,ht⟩
 | _=>cases h
theorem GF:lE E J9 Im:=by
 intro σ Hs H p q v u Q s rp rq h
 unfold Im at h
 split at h
 ·rename_i ns ms h1 h2
  obtain⟨a,rfl,ea⟩:=kW rp h1
  obtain⟨b,rfl,eb⟩:=kW rq h2
  exact⟨a,b,ns,ms,rfl,rfl,s _ _ ea,s _ _ eb,dS.flat h s (.bl _)⟩
 ·exact h.elim
theorem zP(hc:X.calm=true)(hu:X.A.units+64<cLine):cZ X (.builtin "min") (λxs H Q=>∃ a b ns ms,xs=[.ref a,.ref b]/\H a=some (.tup (ns.map V.int))/\H b=some (.tup (ms.map V.int))/\Q (if HT.lexLt ms ns then .ref b else .ref a) H):=by
 intro Nm s σ H xs us Q I r h
 obtain⟨a,b,ns,ms,rfl,ha,hb,q⟩:=h
 obtain⟨u,w',rfl,r1,r2⟩:=vals2 r
 cases r1;cases r2
 refine HT.min_two (k:=HT.lexLt ms ns) (I.ok.hd hc) (λh' tk kp Q' E' hq=>?_) λh' tk kp=>⟨_,H,I.kept kp,?_,q⟩
 ·have I':=I.kept (t':=tk) kp
  obtain⟨Nn,r1,p1,_⟩:=I'.tuple (gc.of ha)
  obtain⟨Ot,r2,p2,_⟩:=I'.tuple (gc.of hb)
  have i1:IntsAre Nn.toArray.toList ns:=intsAre_of r1
  have i2:IntsAre Ot.toArray.toList ms:=intsAre_of r2
  exact HT.xK (A:=X.A.in1) p2 p1 i2 i1 (by show X.A.units+1<cLine;omega) hq
 ·cases HT.lexLt ms ns <;> rfl
theorem Ew:kv E (λxs H Q=>∃ a b ns ms,xs=[.ref a,.ref b]/\H a=some (.tup (ns.map V.int))/\H b=some (.tup (ms.map V.int))/\Q (if HT.lexLt ms ns then .ref b else .ref a) H) CC:=by
 intro σ Hs H ps vs Q s r h
 unfold CC at h
 split at h
 ·obtain⟨v,u,rfl,rp,rq⟩:=r.two
  split at h
  ·rename_i ns ms h1 h2
   obtain⟨a,rfl,ea⟩:=kW rp h1
   obtain⟨b,rfl,eb⟩:=kW rq h2
   refine⟨a,b,ns,ms,rfl,s _ _ ea,s _ _ eb,h _ Hs H (.refl s) ?_⟩
   cases HT.lexLt ms ns
   ·exact rp
   ·exact rq
  ·exact h.elim
 ·exact h.elim
end
end L2
namespace L2
open PySem PySem.Spec PyProof.Rows
section
variable{X:Cx}{tg elt iter c:Expr}{scope:Scope}{cl:List (Str×Addr)}{pos:Pos}{wi:TI}{it:af->M (List PV)}{g:TG}{set:PV->af->M af}{f:af->M PV}{ts fs:List Str}{js:List Nat}
variable{E:XK}{i:Nat}{y:Str}{py Pk:Pos}
theorem zj(l:Nat)(NB:X.calm=true)
  (NO:closureFor scope X.env=pure cl) (hk:scope.kind=.function) (nc:fm scope.names=true) (lo:gM scope.names=true) (fh:gF cl scope.names=true) (ag:eF X cl) (fr:iy X scope cl fs js)
  (hi:PI X tg iter wi) (hv:y0 (λ_=>E) wi it) (hg:∀ C s₀ H₀ ex Nm,PG (oZ X scope cl (ts++fs) C s₀ H₀ ex Nm) tg g) (Qj:∀ E,Dj E g set) (so:nX set) (he:∀ C s₀ H₀ ex Nm,PE (oZ X scope cl (ts++fs) C s₀ H₀ ex Nm) elt (tE EF f))
  (hN:X.N.Nodup) (Q9:X.N[i]?=some y) (hy:Loc X.env.scope y)
  (hs:autoParam (∀ x,foldedSetIterable iter X.env x=pure x) aI._auto_1) (QN:autoParam (swapsWith (.ListComp elt [⟨tg,iter,[],0⟩] scope pos) (some (.Name y py)) Pk.line X.env=pure true) aR._auto_1)
  (hf:autoParam (X.fn y=true\/X.env.scope.names.lookup y=some .local) aF._auto_1) :
  PS X (.Assign [.Name y py] (.ListComp elt [⟨tg,iter,[],0⟩] scope pos) Pk) (tS E (pZ i (wb l (bR it set none f ts.length js)))):=by
 refine(yI hN Q9 hy NB NO hk nc lo fh ag fr hi hg he hs QN hf).imp λD σ H q=>?_
 refine wC hv Qj so ?_
 obtain⟨B,H₀,Hs,env,sr,q⟩:=q
 obtain⟨xs,ex,q⟩:=az.own (az.bind (az.bind q))
 obtain⟨a,vs,h3,h2,NT⟩:=sr.lend ex
 refine⟨B,H₀,_,_,NT,?_⟩
 split at q
 ·rename_i ps hf
  rw[hf]
  obtain⟨n,q⟩:=az.cP q
  intro us p Nr H' g r hn
  obtain⟨g2,ea⟩:=bN.back h3 h2 sr.gr.sub g
  exact q _ _ _ ((sr.grow g2).own (r.away ea n) hn)
 ·exact q.elim
end
end L2
namespace L2
open PySem PySem.Spec PyProof.Rows
open PySem.SeqAt (shaped noMix noMixAll)
section
variable{α β:Type}
theorem M.aP(a:α)(f:α->M β):M.bind (M.ok a) f=f a:=Eq.trans rfl rfl
theorem M.Bv(e:EX)(f:α->M β):M.bind (some (Except.error e)) f=some (.error e):=Eq.trans rfl rfl
theorem M.bind_none(f:α->M β):M.bind none f=none:=Eq.trans rfl rfl
theorem M.bind_some(a:α)(f:α->M β):M.bind (some (Except.ok a)) f=f a:=Eq.trans rfl rfl
theorem M.bind_assoc{γ:Type}(x:M α)(f:α->M β)(g:β->M γ):M.bind (M.bind x f) g=M.bind x λa=>M.bind (f a) g:=by
 cases x with
 | none=>rfl
 | some x=>cases x <;> rfl
theorem av{c:Prop}[Decidable c]{x:M α}(h:c):cP c x=x:=if_pos h
theorem Hd(a:α):IX (M.ok a)=M.ok a:=Eq.trans rfl rfl
end
theorem yV(x:PV):dZ (some x)=M.ok x:=Eq.trans rfl rfl
theorem vg(g:af->M Out)(env:af):AK g (.nx env)=g env:=Eq.trans rfl rfl
theorem vR(g:af->M Out)(p:PV):AK g (.rt p)=M.ok (.rt p):=Eq.trans rfl rfl
theorem El(b:Bool):w5 (.bl b)=M.ok b:=Eq.trans rfl rfl
theorem Ep(p:PV):IQ (.rt p)=M.ok p:=Eq.trans rfl rfl
theorem DB(e:af):IQ (.nx e)=M.ok .cR:=Eq.trans rfl rfl
def tI(xs:List Int):PV:=.tup (xs.map PV.int)
def lI(xs:List Int):PV:=.lst (xs.map PV.int)
theorem D4(xs:List Int):cH (tI xs)=some (xs.map PV.int):=Eq.trans rfl rfl
theorem DK(xs:List Int):cH (lI xs)=some (xs.map PV.int):=Eq.trans rfl rfl
theorem Ce(xs:List PV):cH (.tup xs)=some xs:=Eq.trans rfl rfl
theorem p9(xs:List PV):cH (.lst xs)=some xs:=Eq.trans rfl rfl
theorem Cp(xs:List PV):cH (.jW xs)=some xs:=Eq.trans rfl rfl
theorem DG(xs:List Int):wj (tI xs)=M.ok (.int xs.length):=by simp[wj,tI,cH,dZ]
theorem DW(xs:List Int):wj (lI xs)=M.ok (.int xs.length):=by simp[wj,lI,cH,dZ]
theorem Bf(xs:List PV):wj (.tup xs)=M.ok (.int xs.length):=Eq.trans rfl rfl
theorem CS(xs:List PV):wj (.lst xs)=M.ok (.int xs.length):=Eq.trans rfl rfl
theorem BJ(xs:List PV):wj (.jW xs)=M.ok (.int xs.length):=Eq.trans rfl rfl
theorem pH(xs:List Int):qN [.lst (xs.map PV.int)]=M.ok (.int xs.sum):=by simp[qN,JF,nI,dZ]
theorem wc(xs:List Bool):vZ [.lst (xs.map PV.bl)]=M.ok (.bl (xs.all id)):=by simp[vZ,all1,pG,dZ]
theorem g8{α:Type}{f:af->M PV}{inj h:α->PV}{rest:af}{x0:Option SV}(xs:List α)(H:∀ a∈xs,f (some (.sh (inj a))::rest)=M.ok (h a)):bp (b_ 0) none f (xs.map inj) (x0::rest)=M.ok (xs.map h):=by
 induction xs generalizing x0 with
 | nil=>rfl
 | cons a r ih =>
  rw[List.map_cons,bp]
  show M.bind (M.ok ((x0::rest).set 0 (some (.sh (inj a))))) _=_
  rw[M.aP,List.set_cons_zero]
  show M.bind (f _) _=_
  rw[H a List.mem_cons_self,M.aP,ih λb hb=>H b (List.mem_cons_of_mem _ hb)]
  rfl
theorem fZ{α:Type}{f:af->M PV}{p q h:α->PV}{rest:af}{x0 x1:Option SV}(xs:List α)(H:∀ a∈xs,f (some (.sh (p a))::some (.sh (q a))::rest)=M.ok (h a)):bp (bC 0 1) none f (xs.map λa=>.tup [p a,q a]) (x0::x1::rest)=M.ok (xs.map h):=by
 induction xs generalizing x0 x1 with
 | nil=>rfl
 | cons a r ih =>
  rw[List.map_cons,bp]
  show M.bind (M.ok (((x0::x1::rest).set 0 (some (.sh (p a)))).set 1 (some (.sh (q a))))) _=_
  rw[M.aP,List.set_cons_zero,List.set_cons_succ,List.set_cons_zero]
  show M.bind (f _) _=_
  rw[H a List.mem_cons_self,M.aP,ih λb hb=>H b (List.mem_cons_of_mem _ hb)]
  rfl
theorem wY{α:Type}{f:af->M PV}{p q s h:α->PV}{rest:af}{x0 x1 x2:Option SV}(xs:List α)(H:∀ a∈xs,f (some (.sh (p a))::some (.sh (q a))::some (.sh (s a))::rest)=M.ok (h a)):bp (ki 0 1 2) none f (xs.map λa=>.tup [p a,q a,s a]) (x0::x1::x2::rest)=M.ok (xs.map h):=by
 induction xs generalizing x0 x1 x2 with
 | nil=>rfl
 | cons a r ih =>
  rw[List.map_cons,bp]
  show M.bind (M.ok ((((x0::x1::x2::rest).set 0 (some (.sh (p a)))).set 1 (some (.sh (q a)))).set 2 (some (.sh (s a))))) _=_
  rw[M.aP,List.set_cons_zero,List.set_cons_succ,List.set_cons_zero,List.set_cons_succ,List.set_cons_succ,List.set_cons_zero]
  show M.bind (f _) _=_
  rw[H a List.mem_cons_self,M.aP,ih λb hb=>H b (List.mem_cons_of_mem _ hb)]
  rfl
theorem dW{α β:Type}{f:α->PV}{g:β->PV}{p q:PV}(xs:List α)(ys:List β)(hp:cH p=some (xs.map f))(hq:cH q=some (ys.map g)):zip2 [p,q]=M.ok ((xs.zip ys).map λz=>.tup [f z.1,g z.2]):=by
 simp only[zip2,hp,hq]
 congr 2
 rw[List.zipWith_map,List.zip_eq_zipWith,List.map_zipWith]
theorem pY{α β γ:Type}{f:α->PV}{g:β->PV}{h:γ->PV}{p q r:PV}(xs:List α)(ys:List β)(zs:List γ)(hp:cH p=some (xs.map f))(hq:cH q=some (ys.map g))(hr:cH r=some (zs.map h)):qO [p,q,r]=M.ok ((xs.zip (ys.zip zs)).map λz=>.tup [f z.1,g z.2.1,h z.2.2]):=by
 simp only[qO,hp,hq,hr]
 congr 2
 clear hp hq hr
 induction xs generalizing ys zs with
 | nil=>cases ys <;> cases zs <;> rfl
 | cons a r ih =>
  cases ys with
  | nil=>rfl
  | cons b s =>
   cases zs with
   | nil=>rfl
   | cons c t=>simp only[List.map_cons,jR,List.zip_cons_cons,ih]
theorem zX{α:Type}{f:α->PV}(xs:List α):h9 (xs.map f)=(xs.zipIdx).map λz=>.tup [.int (z.2:Int),f z.1]:=by
 unfold h9
 rw[List.mapIdx_eq_zipIdx_map,List.zipIdx_map,List.map_map]
 rfl
theorem ve{set:PV->af->M af}{body:af->M Out}{α:Type}{inj:α->PV}(J:List α->af->Prop)
  (H:∀ a r env,J (a::r) env->∃ e' Nq,set (inj a) env=M.ok e'/\body e'=M.ok (.nx Nq)/\J r Nq):∀ (xs:List α) (env:af),J xs env->∃ Nq,lj set body (xs.map inj) env=M.ok (.nx Nq)/\J [] Nq
 | [],env,h=>⟨env,rfl,h⟩
 | a::r,env,h=>by
  obtain⟨e',Nq,h1,h2,h3⟩:=H a r env h
  obtain⟨PX,h4,h5⟩:=ve J H r Nq h3
  refine⟨PX,?_,h5⟩
  rw[List.map_cons,lj,h1,M.aP,h2,M.aP]
  exact h4
theorem rQ{u:af->M Bool}{b:af->M Out}(J:af->Prop)(m:af->Nat)
  (H:∀ env,J env->(u env=M.ok false)\/(u env=M.ok true/\∃ Nq,b env=M.ok (.nx Nq)/\J Nq/\m Nq<m env)) (env:af) (h:J env):∃ Nq,lK u b env=M.ok (.nx Nq)/\J Nq/\u Nq=M.ok false:=by
 have key:∀ (n:Nat) (env:af),J env->m env<n->∃ Nq,cU u b n env=M.ok (.nx Nq)/\J Nq/\u Nq=M.ok false:=by
  intro n
  induction n with
  | zero=>intro env _ hn;omega
  | succ n ih =>
   intro env h hn
   rcases H env h with hu | ⟨hu,Nq,hb,hj,hm⟩
   ·exact⟨env,by rw[cU,hu,M.aP];rfl,h,hu⟩
   ·obtain⟨PX,h1,h2,h3⟩:=ih Nq hj (by omega)
    exact⟨PX,by rw[cU,hu,M.aP,if_pos rfl,hb,M.aP];exact h1,h2,h3⟩
 obtain⟨Nq,h1,h2,h3⟩:=key (m env+1) env h (Nat.lt_succ_self _)
 refine⟨Nq,?_,h2,h3⟩
 rw[zh (n:=m env+1) (by rw[h1];exact λz=>nomatch z),h1]
theorem log2_small{i:Int}{k:Nat}(h:i.natAbs<2^k)(hk:k<=9000):i.natAbs.log2<67108864:=by
 by_cases z:i.natAbs=0
 ·rw[z];decide
 ·have:=(Nat.log2_lt z).mpr h
  omega
theorem bf{i j:Int}{k l:Nat}(hi:i.natAbs<2^k)(hj:j.natAbs<2^l)(hk:autoParam (k<=9000) aD._auto_1)(hl:autoParam (l<=9000) aD._auto_1):bS (.int i) (.int j)=M.ok (.int (i*j)):=by
 rw[bS,av ⟨log2_small hi hk,log2_small hj hl⟩]
theorem si{i j:Int}(h0:j≠0)(h:j.natAbs<2^9000):cQ (.int i) (.int j)=M.ok (.int (i.fdiv j)):=by
 show cP _ _=_
 refine av (decide_eq_true ⟨h0,(Nat.log2_lt (by omega)).mpr h⟩)
theorem Ci{i j:Int}(h0:j≠0):cy (.int i) (.int j)=M.ok (.int (i.fmod j)):=by
 show cP _ _=_
 exact av (decide_eq_true h0)
theorem bB{i j:Int}(h0:0<j)(h:j<2^64):cQ (.int i) (.int j)=M.ok (.int (i/j)):=by
 rw[si (by omega) (Nat.lt_of_lt_of_le (show j.natAbs<2^64 by omega) (Nat.pow_le_pow_right (by decide) (by decide))),Int.fdiv_eq_ediv_of_nonneg _ (by omega)]
theorem aS{i j:Int}(h0:0<j):cy (.int i) (.int j)=M.ok (.int (i%j)):=by
 rw[Ci (by omega),Int.fmod_eq_emod_of_nonneg _ (by omega)]
theorem bZ{xs:List PV}{p:PV}{j:Nat}{x:PV}(hs:cH p=some xs)(h:xs[j]?=some x):aV p (.int (j:Int))=M.ok x:=by
 cases p with
 | tup ys=>cases hs;simp only[aV,tH h,dZ]
 | lst ys=>cases hs;simp only[aV,tH h,dZ]
 | jW ys=>cases hs;simp only[aV,tH h,dZ]
 | _=>cases hs
section
variable{b:String->Bool}{ob oe:Addr->Option Bool}
theorem GU(xs:List Int):yH b ob oe (tI xs)=M.ok (.bl (b "tuple")):=Eq.trans rfl rfl
theorem Gs(xs:List Int):yH b ob oe (lI xs)=M.ok (.bl (b "list")):=Eq.trans rfl rfl
theorem Ff(xs:List PV):yH b ob oe (.tup xs)=M.ok (.bl (b "tuple")):=Eq.trans rfl rfl
theorem Ex(xs:List PV):yH b ob oe (.lst xs)=M.ok (.bl (b "list")):=Eq.trans rfl rfl
theorem ED(i:Int):yH b ob oe (.int i)=M.ok (.bl (b "int")):=Eq.trans rfl rfl
theorem Gy(i:Bool):yH b ob oe (.bl i)=M.ok (.bl (b "bool")):=Eq.trans rfl rfl
theorem Ek:yH b ob oe .cR=M.ok (.bl (b "NoneType")):=Eq.trans rfl rfl
theorem Fh(x:Str):yH b ob oe (.str x)=M.ok (.bl (b "str")):=Eq.trans rfl rfl
theorem Fc:yH b ob oe .emp=M.ok (.bl (b "dict")):=Eq.trans rfl rfl
end
theorem Fe(i j:Int):rm (.int i) (.int j)=M.ok (.bl (!decide (i=j))):=by
 simp only[rm,rO,dat,IL,shaped,PyData.canLay0,PyData.depth,noMix]
 rw[av ⟨rfl,rfl,trivial⟩]
 unfold same
 rw[M.aP];congr
theorem Du(i j:Int):j7 (.int i) (.int j)=M.ok (.bl (decide (i=j))):=by
 simp only[j7,rO,dat,IL,shaped,PyData.canLay0,PyData.depth,noMix]
 rw[av ⟨rfl,rfl,trivial⟩]
 unfold same
 rw[M.aP];congr
theorem IT(i j:Bool):rm (.bl i) (.bl j)=M.ok (.bl (!decide (i=j))):=by
 simp only[rm,rO,dat,IL,shaped,PyData.canLay0,PyData.depth,noMix]
 rw[av ⟨rfl,rfl,trivial⟩]
 unfold same
 rw[M.aP];congr
theorem xH(i j:Bool):j7 (.bl i) (.bl j)=M.ok (.bl (decide (i=j))):=by
 simp only[j7,rO,dat,IL,shaped,PyData.canLay0,PyData.depth,noMix]
 rw[av ⟨rfl,rfl,trivial⟩]
 unfold same
 rw[M.aP];congr
theorem rW(xs:List Int):qb (xs.map PV.int)=some (xs.map PyData.int):=by
 induction xs with
 | nil=>rfl
 | cons a r ih=>simp[qb,dat,ih]
theorem nU(xs:List Int):PyData.canLayAll0 (xs.map PyData.int)=true:=by
 induction xs with
 | nil=>rfl
 | cons a r ih=>simp[PyData.canLayAll0,PyData.canLay0,ih]
theorem pR(xs:List Int):PyData.depthAll (xs.map PyData.int)=0:=by
 induction xs with
 | nil=>rfl
 | cons a r ih=>simp[PyData.depthAll,PyData.depth,ih]
theorem noMix_ints:∀ (xs ys:List Int),noMixAll (xs.map PyData.int) (ys.map PyData.int)=true
 | [],[]=>by simp[noMixAll]
 | [],_::_=>by simp[noMixAll]
 | _::_,[]=>by simp[noMixAll]
 | a::r,b::s=>by simp[noMixAll,noMix,noMix_ints r s]
theorem same_ints:∀ (xs ys:List Int),sameAll (xs.map PyData.int) (ys.map PyData.int)=decide (xs=ys)
 | [],[]=>by simp[sameAll]
 | [],_::_=>by simp[sameAll]
 | _::_,[]=>by simp[sameAll]
 | a::r,b::s=>by
  simp only[List.map_cons,sameAll,same_ints r s]
  unfold same
  rw[Bool.eq_iff_iff];simp
theorem pD(xs ys:List Int):j7 (tI xs) (tI ys)=M.ok (.bl (decide (xs=ys))):=by
 simp only[j7,rO,dat,tI,rW,Option.map_some,IL]
 rw[av (by simp[shaped,PyData.canLay0,PyData.depth,nU,pR,noMix,noMix_ints])]
 unfold same
 rw[same_ints];rfl
theorem xO(xs ys:List Int):rm (tI xs) (tI ys)=M.ok (.bl (!decide (xs=ys))):=by
 simp only[rm,rO,dat,tI,rW,Option.map_some,IL]
 rw[av (by simp[shaped,PyData.canLay0,PyData.depth,nU,pR,noMix,noMix_ints])]
 unfold same
 rw[same_ints];rfl
theorem DF(i j:Int):Bi (.int i) (.int j)=M.ok (.bl (decide (i<j))):=Eq.trans rfl rfl
theorem Dy(i j:Int):Cq (.int i) (.int j)=M.ok (.bl (decide (i<=j))):=Eq.trans rfl rfl
theorem EN(i j:Int):FC (.int i) (.int j)=M.ok (.bl (decide (j<i))):=Eq.trans rfl rfl
theorem DL(i j:Int):Jd (.int i) (.int j)=M.ok (.bl (decide (j<=i))):=Eq.trans rfl rfl
theorem Dc(i j:Int):dc (.int i) (.int j)=M.ok (.int (i+j)):=Eq.trans rfl rfl
theorem Cs(i j:Int):kb (.int i) (.int j)=M.ok (.int (i-j)):=Eq.trans rfl rfl
theorem i4{n:Int}(h:0<=n)(h2:n<2^62):p6 [.int n]=M.ok ((List.range n.toNat).map λ(i:Nat)=>.int (i:Int)):=by
 show cP (-(2^62)<=n/\n<2^62) _=_
 rw[av (by omega)]
 simp
theorem e7{β:Type}{set:PV->af->M af}{body:af->M Out}{α:Type}{inj:α->PV}{k:Out->M β}{r:M β}(xs:List α)(J:List α->af->Prop){env:af}(h:J xs env)
  (H:∀ a r env,J (a::r) env->∃ e' Nq,set (inj a) env=M.ok e'/\body e'=M.ok (.nx Nq)/\J r Nq) (hk:∀ Nq,J [] Nq->k (.nx Nq)=r):M.bind (lj set body (xs.map inj) env) k=r:=by
 obtain⟨Nq,e,h'⟩:=ve J H xs env h
 rw[e,M.aP];exact hk Nq h'
theorem xy{β:Type}{u:af->M Bool}{b:af->M Out}{k:Out->M β}{r:M β}(J:af->Prop)(m:af->Nat){env:af}(h:J env)
  (H:∀ env,J env->(u env=M.ok false)\/(u env=M.ok true/\∃ Nq,b env=M.ok (.nx Nq)/\J Nq/\m Nq<m env)) (hk:∀ Nq,J Nq->u Nq=M.ok false->k (.nx Nq)=r):M.bind (lK u b env) k=r:=by
 obtain⟨Nq,e,h',h2⟩:=rQ J m H env h
 rw[e,M.aP];exact hk Nq h' h2
theorem aQ{n:Nat}(h:n<=1000):n<=sizeLine:=Nat.le_of_lt (nK h)
def tupK(ps:List PV):M PV:=cP (ps.length<=sizeLine) (M.ok (.tup ps))
def lstK(ps:List PV):M PV:=cP (ps.length<=sizeLine) (M.ok (.lst ps))
theorem EK(fs:af->M (List PV))(env:af):lN fs env=(fs env).bind tupK:=rfl
theorem DC(fs:af->M (List PV))(env:af):tP fs env=(fs env).bind lstK:=rfl
theorem G8:tupK []=M.ok (.tup []):=av (aQ (show 0<=1000 by decide))
theorem Ip:lstK []=M.ok (.lst []):=av (aQ (show 0<=1000 by decide))
theorem G1(a:PV):tupK [a]=M.ok (.tup [a]):=av (aQ (show 1<=1000 by decide))
theorem Hv(a:PV):lstK [a]=M.ok (.lst [a]):=av (aQ (show 1<=1000 by decide))
theorem GB(a b:PV):tupK [a,b]=M.ok (.tup [a,b]):=av (aQ (show 2<=1000 by decide))
theorem Hy(a b:PV):lstK [a,b]=M.ok (.lst [a,b]):=av (aQ (show 2<=1000 by decide))
theorem Hr(a b c:PV):tupK [a,b,c]=M.ok (.tup [a,b,c]):=av (aQ (show 3<=1000 by decide))
theorem Ia(a b c:PV):lstK [a,b,c]=M.ok (.lst [a,b,c]):=av (aQ (show 3<=1000 by decide))
theorem HN(a b c d:PV):tupK [a,b,c,d]=M.ok (.tup [a,b,c,d]):=av (aQ (show 4<=1000 by decide))
theorem GZ(a b c d:PV):lstK [a,b,c,d]=M.ok (.lst [a,b,c,d]):=av (aQ (show 4<=1000 by decide))
theorem HM(a b c d e:PV):tupK [a,b,c,d,e]=M.ok (.tup [a,b,c,d,e]):=av (aQ (show 5<=1000 by decide))
theorem Gn(a b c d e:PV):lstK [a,b,c,d,e]=M.ok (.lst [a,b,c,d,e]):=av (aQ (show 5<=1000 by decide))
theorem GL(a b c d e f:PV):tupK [a,b,c,d,e,f]=M.ok (.tup [a,b,c,d,e,f]):=av (aQ (show 6<=1000 by decide))
theorem GG(a b c d e f:PV):lstK [a,b,c,d,e,f]=M.ok (.lst [a,b,c,d,e,f]):=av (aQ (show 6<=1000 by decide))
end L2
namespace L2
open PySem PySem.Spec PyProof.Rows
def jZ{α:Type}(m:M α)(Q:α->Prop):Prop:=∃ a,m=M.ok a/\Q a
section
variable{α β γ:Type}{Q Q':α->Prop}{m:M α}
theorem jZ.eq{a:α}(h:jZ m λx=>x=a):m=M.ok a:=by obtain⟨b,e,rfl⟩:=h;exact e
def Tn(J:af->Prop)(B:af->Prop)(R:PV->Prop):Out->Prop
 | .nx e=>J e
 | .ct e=>J e
 | .bk e=>B e
 | .rt p=>R p
theorem jZ.AF{set:PV->af->M af}{body:af->M Out}{inj:γ->PV}{B:af->Prop}{R:PV->Prop}(J:List γ->af->Prop)
  (H:∀ a r env,J (a::r) env->jZ (M.bind (set (inj a) env) body) (Tn (J r) B R)):∀ (xs:List γ) (env:af),J xs env->jZ (lj set body (xs.map inj) env) λo=>(∃ e,o=.nx e/\(J [] e\/B e))\/∃ p,o=.rt p/\R p
 | [],env,h=>⟨_,rfl,.inl ⟨_,rfl,.inl h⟩⟩
 | a::r,env,h=>by
  obtain⟨o,e,q⟩:=H a r env h
  rw[List.map_cons,lj,← M.bind_assoc,e,M.aP]
  cases o with
  | nx e'=>exact jZ.AF J H r e' q
  | ct e'=>exact jZ.AF J H r e' q
  | bk e'=>exact⟨_,rfl,.inl ⟨_,rfl,.inr q⟩⟩
  | rt p=>exact⟨_,rfl,.inr ⟨_,rfl,q⟩⟩
theorem jZ.loop{R:β->Prop}{set:PV->af->M af}{body:af->M Out}{inj:γ->PV}{k:Out->M β}{xs:List γ}{env:af}(J:List γ->af->Prop)(h:J xs env)
  (H:∀ a r env,J (a::r) env->jZ (M.bind (set (inj a) env) body) (Tn (J r) (λ_=>False) λ_=>False)) (hk:∀ Nq,J [] Nq->jZ (k (.nx Nq)) R):jZ (M.bind (lj set body (xs.map inj) env) k) R:=by
 obtain⟨o,e,q⟩:=jZ.AF J H xs env h
 rw[e,M.aP]
 rcases q with ⟨e',rfl,q | q⟩ | ⟨p,_,q⟩
 ·exact hk e' q
 ·exact q.elim
 ·exact q.elim
end
def Jj(i:Nat)(env:af)(xs:List PV)(p:PV):M Out:=if xs.length<sizeLine then M.ok (.nx (env.set i (some (.ow (xs++[p]))))) else none
theorem yj(i:Nat)(f:af->M PV)(env:af):qH i f env=(ownAt i env).bind λxs=>(f env).bind λp=>Jj i env xs p:=by
 unfold qH ownAt
 rcases env[i]? with _ | _ | (_ | _ | _) <;> rfl
theorem yN{i:Nat}{env:af}{xs:List PV}{p:PV}(h:xs.length<1000):Jj i env xs p=M.ok (.nx (env.set i (some (.ow (xs++[p]))))):=if_pos (nK (Nat.le_of_lt h))
def rS(C:Addr)(m:Str)(sem:List PV->M PV)(p:PV)(x:M (List PV)):M PV:=match p with
 | .obj C' fl=>cP (C'=C/\fl.lookup m=none) (x.bind λps=>sem (.obj C' fl::ps))
 | _=>none
theorem bX(C:Addr)(m:Str)(sem:List PV->M PV)(g:af->M PV)(fs:af->M (List PV))(env:af):bD C m sem g fs env=(g env).bind λp=>rS C m sem p (fs env):=rfl
theorem kM{C:Addr}{m:Str}{sem:List PV->M PV}{fl:List (Str×PV)}{x:M (List PV)}(h:fl.lookup m=none):rS C m sem (.obj C fl) x=x.bind λps=>sem (.obj C fl::ps):=av ⟨rfl,h⟩
def xP(ok:Addr->Bool)(f:Str)(p:PV):M PV:=match p with
 | .obj C fs=>cP (ok C=true) (dZ (fs.lookup f))
 | _=>none
theorem fD(ok:Addr->Bool)(f:Str)(g:af->M PV)(env:af):dy ok f g env=(g env).bind (xP ok f):=rfl
theorem ke{ok:Addr->Bool}{f:Str}{C:Addr}{fs:List (Str×PV)}{x:PV}(h:ok C=true)(hl:fs.lookup f=some x):xP ok f (.obj C fs)=M.ok x:=by
 show cP _ _=_
 rw[av h,hl];rfl
theorem sk(xs:List Int)(x:Int):xs.map PV.int++[.int x]=(xs++[x]).map PV.int:=by simp
end L2
namespace L2
open PySem PySem.Spec PyProof.Rows
theorem yF{α:Type}{f:α->PV}{p:PV}(xs:List α)(h:cH p=some (xs.map f)):zG [p]=M.ok (xs.zipIdx.map λz=>.tup [.int (z.2:Int),f z.1]):=by
 show Mv p=_
 unfold Mv
 rw[h]
 show M.ok (h9 _)=_
 rw[zX]
theorem uN(xs:List Int):zG [lI xs]=M.ok (xs.zipIdx.map λz=>.tup [.int (z.2:Int),.int z.1]):=yF xs rfl
theorem lR{α:Type}{f:α->PV}(xs:List α):zG [.lst (xs.map f)]=M.ok (xs.zipIdx.map λz=>.tup [.int (z.2:Int),f z.1]):=yF xs rfl
end L2
namespace L2
open PySem PySem.Spec PyProof.Rows
theorem Nd{α:Type}{us:List α}(h:us.length=1):∃ a,us=[a]:=by
 cases us with
 | nil=>cases h
 | cons a t=>cases t with
  | nil=>exact⟨a,rfl⟩
  | cons b t=>cases h
theorem ln2{α:Type}{us:List α}(h:us.length=2):∃ a b,us=[a,b]:=by
 cases us with
 | nil=>cases h
 | cons a t=>obtain⟨b,rfl⟩:=Nd (Nat.succ.inj h);exact⟨a,b,rfl⟩
theorem M9{α:Type}{us:List α}(h:us.length=3):∃ a b c,us=[a,b,c]:=by
 cases us with
 | nil=>cases h
 | cons a t=>obtain⟨b,c,rfl⟩:=ln2 (Nat.succ.inj h);exact⟨a,b,c,rfl⟩
def yE(K:PySem.W.Frag):Bool:=K.all λp=>match p.2.cls with
 | .type t=>t != "list"
 | _=>true
theorem Bt{K:PySem.W.Frag}(h:yE K=true){a:Addr}{o:Obj}(e:K.lookup a=some o):o.cls≠.type "list" := by
 induction K with
 | nil=>cases e
 | cons p r ih =>
  obtain⟨b,u⟩:=p
  rw[yE,List.all_cons,Bool.and_eq_true] at h
  rw[List.lookup_cons] at e
  cases q:a==b with
  | true =>
   rw[q] at e;cases e
   intro z
   have h1:=h.1
   simp only[z] at h1
   exact absurd h1 (by decide)
  | false=>rw[q] at e;exact ih h.2 e
theorem sd{H:Hp}:∀ ns:List Int,aW H (ns.map PV.int) (ns.map V.int)
 | []=>.nil
 | i::r=>.cons (.int i) (sd r)
theorem xI{l:PySem.W.OpenLaw}{n k:Nat}{q:Program}{loose:List Str}{XP:(Str->Option Value)->Heap->Prop}{YP:World->Heap->Prop}{d:DefRec}{K:Params->PySem.W.Frag}{sem:List PV->M PV}{x:Str}
  (hn:l.most=some n) (Qo:n<=sizeLine) (hdf:d.params.defaults=[]) (hr:cJ k callerA)
  (hY:∀ (w:World) (h:Heap),YP w h->(K w.params).In h)
  (hK:∀ w:World,yE (K w.params)=true)
  (F:∀ (w:World) (mg:Str->Option Value) (fa:Addr) (h:Heap),(K w.params).In h->h.Ns mainGlobals mg->mg d.name=some (.ref fa) ->
   ∃ fd:FuncData,(∀ (s:Shared) (u:Value),BindsTo s fd ⟨[u],[]⟩ [(x,u)]) ∧
    ∀ base:Heap,(K w.params).In base->base.Ns mainGlobals mg->aO l.prog w (K w.params) mg base (bG l.prog w) k fa fd [x] (cW 1 sem))
  (QM:∀ ns:List Int,ns.length<=n->(∀ i∈ns,Builtin.Int.intBits i<=1048576)->sem [.jW (ns.map PV.int)]=M.ok (.bl true)) :
  PySem.W.WalkO q loose XP YP l.row.toRowW d [] (λf vs=>PySem.call f vs):=by
 intro w s₀ s₁ mg mb G Y fa o pm cd doc dV kV ho hd OH hD hmg hg args vals as y_ hlay hrd hwl hlo
 obtain rfl:dV=.none:=PySem.W.Dflts.none hD hdf
 obtain rfl:kV=.none:=PySem.W.Dflts.noKw hD
 obtain⟨a,vs,ns,rfl,rfl,hobj,hints,hlen⟩:=Att.z7 hn y_ hwl
 have Q4:∀ i∈ns,Builtin.Int.intBits i<=1048576:=λi hi=>by
  have h1:=PySem.W.layableW_arg hlay _ (List.mem_singleton.mpr rfl)
  have h2:=PySem.W.layableW_item h1 (.int i) (List.mem_map.mpr ⟨i,hi,rfl⟩)
  exact intBits_le_of_layable h2
 have KX:=hY w _ Y
 obtain⟨fd,hb,hF⟩:=F w mg fa _ KX G.T.g hmg
 have hs:=QM ns hlen Q4
 refine PySem.W.enter_call (codeAny_mono (Aw KX G.T.g G.T.b G.T.builtins G.T.nolimit hg hobj hints (Nat.le_trans hlen Qo) hr hF hb (λH hO hS=>⟨rfl,H,[.jW (ns.map PV.int)],λ_ _ e=>e,?_,?_⟩) λH e s' z=>?_) λr s' hq=>?_)
 ·rcases hS with (hS | ⟨ob,hS⟩) | ⟨ob,Nn,m,e1,e2,_⟩
  ·rcases hO a with z | ⟨ob,xs,z⟩
   ·rw[z] at hS;cases hS
   ·rw[z] at hS;cases hS
  ·exact .cons (.jW hS (sd ns)) .nil
  ·exact absurd e2 (Bt (hK w) e1)
 ·rw[hs]
  intro v Nr H' g r
  cases r;rfl
 ·obtain⟨ea,T,C,dd,Hc,_,_,_,_,_,_,_,_,z⟩:=z;exact z
 ·obtain⟨rfl,h2,h3,h4⟩:=hq
  exact⟨.inl ⟨.bool true,.bool true,[],rfl,λ_=>rfl,.bool true,Att.yU l _,λ_=>⟨List.Pairwise.nil,λ_ hm=>(nomatch hm)⟩⟩,h2,h3,h4⟩
end L2
namespace L2
open PySem PySem.Spec PyProof.Rows
abbrev xQ(x q:Str)(t:Stmt)(s:Value)(c:Addr):FuncData:=PySem.W.fnOf x q (iq t) (eR t) (a_ t) .none .none .none s none (.ref c) .none
theorem aZ.of{K:PySem.W.Frag}{x q:Str}{t:Stmt}{dv kV doc pm:Value}{an:Option Addr}{NM ct:Value}{f:Addr}(h1:K.lookup f=some ⟨.type "function", none,.func (PySem.W.fnOf x q (iq t) (eR t) (a_ t) dv kV doc pm an NM ct),⟨[]⟩⟩)(h2:PySem.W.codeIn K NM q=true)(h3:PySem.W.keepIn K (.ref f)=true):aZ K x q t dv f (PySem.W.fnOf x q (iq t) (eR t) (a_ t) dv kV doc pm an NM ct):=⟨⟨_,_,_,_,_,_,_,_,_,rfl,h1,h2⟩,h3⟩
section
variable{α:Type}{P:List α->Prop}
theorem Ji(h:∀ a b,P [a,b]):∀ us,us.length=2->P us:=λus hl=>by obtain⟨a,b,rfl⟩:=ln2 hl;exact h a b
end
theorem cA.of{N P:List Str}{sc:Scope}(h1:autoParam (sc.kind=.function) aR._auto_1)(h2:autoParam (sc.isCoroutine=false) aR._auto_1)(h3:autoParam (sc.isGenerator=false) aR._auto_1)(h4:autoParam (N.Nodup) aN._auto_1)(h5:autoParam (N.take P.length=P) aR._auto_1)(h6:autoParam (∀ x∈P,sc.names.lookup x=some .local\/sc.names.lookup x=some .cell) aN._auto_1)(h7:autoParam (∀ y∈sc.names,y.2≠.free) aN._auto_1):cA N P sc:=⟨h1,h2,h3,h4,h5,h6,h7⟩
theorem aM{X:Cx}{pos:Pos}{i:Nat}{x:Str}(hN:X.N.Nodup)(hi:autoParam (X.N[i]?=some x) aR._auto_1)(hx:autoParam (Loc X.env.scope x) aG._auto_1)(hf:autoParam (X.fn x=true\/X.env.scope.names.lookup x=some .local) aG._auto_1):PG X (.Name x pos) (aJ i):=Fj hN hi hx hf
end L2
namespace L2
open PySem PySem.Spec PyProof.Rows
def DO:Nat->(List Value->Prop)->Prop
 | 0,P=>P []
 | n+1,P=>∀ a,DO n λl=>P (a::l)
theorem tY:∀ {n:Nat} {P:List Value->Prop},DO n P->∀ us:List Value,us.length=n->P us
 | 0,_,h,[],_=>h
 | n+1,_,h,a::r,e=>tY (h a) r (Nat.succ.inj e)
section
variable{K:PySem.W.Frag}{mg:Str->Option Value}{h:Heap}{x q:Str}{t:Stmt}{n m:Nat}{ps:List Str}{sem:List PV->M PV}{tO:List PV->M (List PV)}
theorem eX(P:Program)(w:World)(base:Heap)(X:K.In h)(G:h.Ns mainGlobals mg)(a c:Addr)(s:Value)(ok:aZ K x q t .none a (xQ x q t s c)->aO P w K mg base (bG P w) n a (xQ x q t s c) ps (cW m (bb m sem)))
  (h1:autoParam (K.lookup a=some ⟨.type "function", none,.func (xQ x q t s c),⟨[]⟩⟩) aK._auto_1) (h2:autoParam (PySem.W.codeIn K (.ref c) q=true) aK._auto_1) (h3:autoParam (PySem.W.keepIn K (.ref a)=true) aK._auto_1) (h4:autoParam (PySem.W.nsIn K mainGlobals x=some (some (.ref a))) aK._auto_1)
  (h5:autoParam (ps.length=m) aR._auto_1) (h6:DO ps.length λus=>bindArgs (xQ x q t s c) ⟨us,[]⟩=pure (ps.zip us):=by (repeat intro _);rfl):cq P w K mg base n x m sem :=
 ⟨⟨a,_,ps,PySem.W.mg_of X G h4,h3,h5,.all (tY h6),ok (.of h1 h2 h3)⟩⟩
theorem Dq(P:Program)(w:World)(base:Heap){C:Addr}(cc:kE K C)(a c:Addr)(s:Value)(ok:aZ K x q t .none a (xQ x q t s c)->aO P w K mg base (bG P w) n a (xQ x q t s c) ps (cW m (bb m sem)))
  (h1:autoParam (K.lookup a=some ⟨.type "function", none,.func (xQ x q t s c),⟨[]⟩⟩) aK._auto_1) (h2:autoParam (PySem.W.codeIn K (.ref c) q=true) aK._auto_1) (h3:autoParam (PySem.W.keepIn K (.ref a)=true) aK._auto_1) (h4:autoParam (PySem.W.findIn K (.ref C) x=some (some (.ref a))) aK._auto_1) (h5:autoParam (PySem.W.isFn K (.ref a)=true) aK._auto_1)
  (h6:DO ps.length λus=>bindArgs (xQ x q t s c) ⟨us,[]⟩=pure (ps.zip us):=by (repeat intro _);rfl):k_ P w K mg base C n x m sem :=
 ⟨⟨a,_,ps,cc,⟨h4,h5,h3⟩,.all (tY h6),ok (.of h1 h2 h3)⟩⟩
end
end L2
namespace L2
open PySem PySem.Spec PyProof.Rows
theorem aZ.dU{P:Program}{w:World}{K:PySem.W.Frag}{mg:Str->Option Value}{base:Heap}{x qual:Str}{st:Stmt}{dv:Value}{f:Addr}{fd:FuncData}{ps:List Str}{k:Nat}{g:af->M Out}(F:aZ K x qual st dv f fd)(N:List Str)
  (hb:N.Nodup->∀ (NM:Value) (A:Around) (outer:List Env) (s:Shared) (H:Hp) (E:XK),cJ k (A.deeper (envOfC qual (a_ st) s.heap.objs.size f NM))->fg ((lY (bG P w) P w K mg base N qual (a_ st) f NM A outer s H E).out λ_=>E) (λ_=>E)->mL ((lY (bG P w) P w K mg base N qual (a_ st) f NM A outer s H E).out λ_=>E) (eR st) (tS E g))
  (S:cA N ps (a_ st):=by exact .of):aO P w K mg base (bG P w) (k+1) f fd ps (cW ps.length (bb ps.length (ay N.length g))):=F.M6 S (hb S.nd)
end L2
namespace HD
open PySem PySem.W L2
abbrev pw:Program:=PySem.Challenge.pw_dialvault_k36_whole_one_stands_for_a_cla
noncomputable section
noncomputable def st(s:String)(t:Nat):Value:=.str (Str.ofString s) t
def en(P:Params)(s:String)(t:Nat)(v:Value):DictEntry:=⟨PyData.keyHash P (Str.ofString s),st s t,v⟩
def tu(xs:List Value):Obj:=⟨.type "tuple", none,.seq ⟨xs⟩ 0,⟨[]⟩⟩
def di(n:Nat)(es:List DictEntry):Obj:=⟨.type "dict", none,.dict ⟨es⟩ n,⟨[]⟩⟩
def tp(i:Nat):Stmt:=pw.main.body.getD i (.Pass ⟨0,0,0,0⟩)
def mp(i j:Nat):Stmt:=inClass (tp i) j
def co(a b:String)(t:Nat)(l n:Int)(x1 x2 x3 x4 x5:Nat)(u:Nat):Obj:=⟨.type "code", none,.fields ⟨[st a t,st b (t+1),st "/claim/cut.py" (t+2),.int l 0,.int n 0,.int 0 0,.int 0 0,.int 3 0,.ref x1,.bool true,.int 181 0,.ref x2,.none,.ref x3,.ref x4,.ref x5,.int u 0,.int l 0,st "/claim/cut.py" (u+1)]⟩,⟨[]⟩⟩
def ft(a b:String)(s:Stmt):Obj:=⟨.none,none,.func ⟨Str.ofString a,Str.ofString b,iq s,.stmts (eR s),a_ s,0,[],.none,.none,.none,.none,none,.none,.none,0⟩,⟨[]⟩⟩
def fo(a b:String)(s:Stmt)(df pm:Value)(cd:Nat):Obj:=⟨.type "function", none,.func ⟨Str.ofString a,Str.ofString b,iq s,.stmts (eR s),a_ s,3,[],df,.none,.none,pm,none,.ref cd,.none,0⟩,⟨[]⟩⟩
def HK:List Obj->List Obj
 | []=>[]
 | [a]=>[a]
 | a::_::r=>a::HK r
def bt:Nat->List Obj->BT
 | 0,_=>.nil
 | _+1,[]=>.nil
 | n+1,a::r=>.node a (bt n (HK r)) (bt n (HK (r.drop 1)))
def S(L:Params->List Obj)(n k:Nat)(w:World)(os:OsState):SharedT:=⟨bt 14 (L w.params),n,{},⟨[]⟩,⟨0,0,0,0⟩,k,os⟩
def F(L:Params->List Obj)(k:Nat)(w:World)(os:OsState):Shared:=⟨⟨⟨L w.params⟩,{}⟩,⟨[]⟩,⟨0,0,0,0⟩,k,os⟩
def cc(a:String)(t:Nat)(l:Int)(x y u:Nat):Obj:=⟨.type "code", none,.fields ⟨[st a t,st a (t+1),st "/claim/cut.py" (t+2),.int l 0,.int 0 0,.int 0 0,.int 0 0,.int 0 0,.ref x,.bool false,.int 181 0,.ref y,.none,.none,.none,.none,.int u 0,.int l 0,st "/claim/cut.py" (u+1)]⟩,⟨[]⟩⟩
def fr(a b:Nat)(s:String)(t:Nat):Obj:=⟨.type "frame", none,.plain,⟨[some (.ref a),some (.ref 3),some (.ref b),none,some (st s t),none,some (.ref 0)]⟩⟩
def su(a:Nat):Obj:=⟨.type "super", none,.fields ⟨[.ref a,.ref a,.ref a]⟩,⟨[]⟩⟩
def ii(a:Nat):Obj:=⟨.type "builtin_function_or_method", none,.fields ⟨[.builtin "object.__init_subclass__", .ref a]⟩,⟨[]⟩⟩
def wM:List Nat->List Value
 | a::b::c::r=>.int a 0::.int b 0::.ref c::wM r
 | _=>[]
def fi(xs:List Nat):Obj:=⟨.none,none,.fields ⟨wM xs⟩,⟨[]⟩⟩
def cl(n:Str)(bs ms:List Value)(k:Nat)(ss:List Value)(sl:List (Option Value)):Obj:=⟨.type "type", none,.cls ⟨n,bs,ms,k,n,true,[],ss,false,none,false⟩,⟨sl⟩⟩
def pt(L:List Obj)(us:List (Nat×Obj))(ns:List Obj):List Obj:=us.foldl (λl u=>l.set u.1 u.2) L++ns
abbrev b0:=boot_o_0
abbrev b1:=boot_o_1
abbrev b2:=boot_o_2
abbrev b3:=boot_o_3
abbrev b4:=boot_o_4
abbrev b5:=boot_o_5
abbrev b6:=boot_o_6
abbrev b7:=boot_o_7
abbrev b8:=boot_o_8
abbrev b9:=boot_o_9
abbrev MW:=boot_o_10
def m0:Value:=st "__main__" 164
def m1:Value:=st "dialvault.errors" 194
def m2:Value:=st "dialvault.wholes" 386
def m3:Value:=st "dialvault.vault" 443
def m4:Value:=st "dialvault.papers" 622
def m5:Value:=st "dialvault.rungs" 765
def m6:Value:=st "dialvault.classes" 950
def m7:Value:=st "law_dialvault_k36_whole_one_stands_for_a_cla" 992
def nl:List String->Nat->List Value
 | [],_=>[]
 | x::r,t=>st x t::nl r (t+1)
def fA(P:Params)(a t:Nat)(x q:String)(s:Stmt)(l n:Int)(vs:List String)(df pm:Value):List Obj:=[b7 P,b8 P,tu (nl vs (t+3)),b7 P,ft x q s,co x q t l n a (a+1) (a+2) (a+3) (a+4) (t+3+vs.length),fo x q s df pm (a+5)]
def fT(P:Params)(a t:Nat)(x:String)(s:Stmt)(l n:Int)(vs:List String)(pm:Value):List Obj:=fA P a t x x s l n vs .none pm
def fB(P:Params)(a t:Nat)(x q:String)(s:Stmt)(l n:Int)(df pm:Value):List Obj:=[b7 P,b8 P,ft x q s,⟨.type "code", none,.fields ⟨[st x t,st q (t+1),st "/claim/cut.py" (t+2),.int l 0,.int n 0,.int 0 0,.int 0 0,.int 3 0,.ref a,.bool true,.int 181 0,.ref (a+1),.none,.none,.none,.ref (a+2),.int (t+3) 0,.int l 0,st "/claim/cut.py" (t+4)]⟩,⟨[]⟩⟩,fo x q s df pm (a+3)]
def dB(P:Params)(n t:Nat)(m:Value)(l:Int)(r:List DictEntry):Obj:=di n (en P "__module__" t m::en P "__firstlineno__" (t+4) (.int l (t+3))::r)
def dA(P:Params)(n t:Nat)(m:Value)(x:String)(l:Int)(r:List DictEntry):Obj:=di n (en P "__module__" t m::en P "__qualname__" (t+2) (st x (t+1))::en P "__firstlineno__" (t+4) (.int l (t+3))::r)
def gw(t a:Nat):Obj:=⟨.type "getset_descriptor", none,.fields ⟨[st "__weakref__" t,.ref a,.builtin "ExceptionGroup.__weakref__", .none]⟩,⟨[]⟩⟩
def gd(t a:Nat):Obj:=⟨.type "getset_descriptor", none,.fields ⟨[st "__dict__" t,.ref a,.builtin "function.__dict__", .builtin "function.__dict__#set"]⟩,⟨[]⟩⟩
def ce(x:String)(b a k:Nat)(ss:List Value)(d t u:Nat):Obj:=cl x [.ref b] [.ref a,.ref b,.type "ValueError", .type "Exception", .type "BaseException", .type "object"] k ss [some (.ref d),none,some (st x t),some (st x u),some (.builtin "ValueError.__new__"),some (.bool true)]
def gl P:=[en P "__doc__" 166 .none,en P "__package__" 167 .none,en P "__loader__" 168 (.builtin "__main__.__loader__#opaque"),en P "__spec__" 169 .none,en P "__annotations__" 170 (.ref 6),en P "__builtins__" 171 (.ref 4),en P "__file__" 173 (st "/claim/cut.py" 172),en P "__cached__" 174 .none,en P "_wall" 193 (.ref 21),en P "VaultError" 220 (.ref 38),en P "NoDial" 252 (.ref 65),en P "NoLever" 284 (.ref 91),en P "NoPrice" 316 (.ref 117),en P "NoSetting" 339 (.ref 136),en P "NoPulls" 362 (.ref 155),en P "TooMany" 385 (.ref 174),en P "is_whole" 394 (.ref 183),en P "is_row" 400 (.ref 188),en P "common" 412 (.ref 195),en P "multiple_of" 421 (.ref 202),en P "product_of" 430 (.ref 209),en P "unit_row" 436 (.ref 214),en P "rest_sum" 442 (.ref 219),en P "MOST_DIALS" 446 (.int 6 445),en P "LEAST_SIZE" 448 (.int 2 447),en P "MOST_SIZE" 450 (.int 360 449),en P "MOST_LEVERS" 452 (.int 8 451),en P "LEAST_PRICE" 454 (.int 1 453),en P "MOST_PRICE" 456 (.int 1000 455),en P "Vault" 514 (.ref 263),en P "is_within" 523 (.ref 274),en P "need_sizes" 532 (.ref 281),en P "need_levers" 542 (.ref 288),en P "prices_for" 551 (.ref 295),en P "rests" 557 (.ref 300),en P "nought" 564 (.ref 307),en P "is_setting" 570 (.ref 312),en P "is_pulls" 578 (.ref 319),en P "need_setting" 586 (.ref 326),en P "need_pulls" 594 (.ref 333),en P "added" 600 (.ref 338),en P "turned" 612 (.ref 345),en P "between" 621 (.ref 352),en P "weigh" 629 (.ref 357),en P "Paper" 673 (.ref 388),en P "Way" 722 (.ref 430),en P "Bar" 764 (.ref 463),en P "mixed" 772 (.ref 470),en P "mixed_made" 784 (.ref 477),en P "unpulled" 792 (.ref 484),en P "pulled_once" 801 (.ref 491),en P "step_size" 811 (.ref 498),en P "taken_in" 826 (.ref 505),en P "lowered" 838 (.ref 512),en P "in_spans" 848 (.ref 519),en P "Rungs" 931 (.ref 582),en P "first_turned" 937 (.ref 591),en P "bring" 949 (.ref 598),en P "together_count" 958 (.ref 605),en P "class_count" 965 (.ref 612),en P "least_of" 973 (.ref 619),en P "belong" 983 (.ref 626),en P "normal" 991 (.ref 633),en P "_law_cell" 1001 (.ref 640),en P "_law_mixed" 1010 (.ref 647),en P "_law_whole" 1017 (.ref 654),en P "_law_dials" 1023 (.ref 659),en P "_law_digits" 1033 (.ref 666),en P "_law_lever" 1047 (.ref 673),en P "_law_kept" 1053 (.ref 678),en P "_law_setting" 1059 (.ref 683),en P "_law_divisor" 1067 (.ref 690),en P "_law_round" 1076 (.ref 697),en P "_law_weighs" 1082 (.ref 702),en P "_law_numbers" 1088 (.ref 707),en P "_law_leads" 1094 (.ref 712),en P "_law_bars" 1100 (.ref 717),en P "_law_gap" 1106 (.ref 722),en P "_law_other" 1112 (.ref 727),en P "_law_bool" 1120 (.ref 734),en P "_law_way" 1133 (.ref 741),en P "_law_stands" 1144 (.ref 748),en P "_law_pair" 1161 (.ref 755),en P "law" 1167 (.ref 760)]
def LA(P:Params):List Obj:=[b0 P,b1 P,b2 P,b3 P,b4 P,b5 P,b6 P,b7 P,b8 P,b9 P,MW P,b7 P,b8 P,cc "<module>" 182 1 11 12 185,fr 13 3 "__main__" 164]
def o9:Obj:=⟨.type "builtin_function_or_method", none,(.fields ⟨[.builtin "type.__prepare__", .type "type"]⟩),⟨[]⟩⟩
def M_:Obj:=gw 216 38
def Jg:=tu [.ref 38]
def L0 P:=pt (LA P) [(3,di 15 (en P "__name__" 165 m1::(gl P).take 14)),(12,fi [1,0,20,5,0,27,9,0,47,16,0,73,23,0,99,30,0,125])] (fT P 15 187 "_wall" (tp 0) 1 1 ["k"] m0++([tu [.type "ValueError"],o9,dA P 5 203 m1 "VaultError" 5 [en P "word" 214 (.ref 35),en P "__static_attributes__" 215 (.ref 36)],b7 P,fi [7,4,34],cc "VaultError" 198 5 25 26 201,fr 27 24 "dialvault.errors" 194]++(fA P 29 208 "word" "VaultError.word" (mp 2 0) 7 1 ["self"] .none m1++([b7 P,dB P 3 203 m1 5 [en P "word" 214 (.ref 35),en P "__static_attributes__" 215 (.ref 36),en P "__weakref__" 217 (.ref 39),en P "__doc__" 218 .none],cl "VaultError" [.type "ValueError"] [.ref 38,.type "ValueError", .type "Exception", .type "BaseException", .type "object"] 37 [.ref 65,.ref 91,.ref 117,.ref 136] [some (.ref 22),none,some (st "VaultError" 196),some (st "VaultError" 204),some (.builtin "ValueError.__new__"),some (.bool true)],M_,su 38,ii 38,Jg,o9,dA P 6 228 m1 "NoDial" 9 [en P "__init__" 240 (.ref 55),en P "word" 247 (.ref 62),en P "__static_attributes__" 249 (.ref 63)],b7 P,fi [11,4,54,14,4,61],cc "NoDial" 223 9 45 46 226,fr 47 44 "dialvault.errors" 194]++(fA P 49 233 "__init__" "NoDial.__init__" (mp 3 0) 11 2 ["self", "dial"] .none m1++(fA P 56 241 "word" "NoDial.word" (mp 3 1) 14 1 ["self"] .none m1++([tu [st "dial" 248],dB P 2 228 m1 9 [en P "__init__" 240 (.ref 55),en P "word" 247 (.ref 62),en P "__static_attributes__" 249 (.ref 63),en P "__doc__" 250 .none],ce "NoDial" 38 65 64 [] 42 221 229,su 65,ii 65,Jg,o9,dA P 6 260 m1 "NoLever" 16 [en P "__init__" 272 (.ref 81),en P "word" 279 (.ref 88),en P "__static_attributes__" 281 (.ref 89)],b7 P,fi [18,4,80,21,4,87],cc "NoLever" 255 16 71 72 258,fr 73 70 "dialvault.errors" 194]++(fA P 75 265 "__init__" "NoLever.__init__" (mp 4 0) 18 2 ["self", "lever"] .none m1++(fA P 82 273 "word" "NoLever.word" (mp 4 1) 21 1 ["self"] .none m1++([tu [st "lever" 280],dB P 2 260 m1 16 [en P "__init__" 272 (.ref 81),en P "word" 279 (.ref 88),en P "__static_attributes__" 281 (.ref 89),en P "__doc__" 282 .none],ce "NoLever" 38 91 90 [] 68 253 261,su 91,ii 91,Jg,o9,dA P 6 292 m1 "NoPrice" 23 [en P "__init__" 304 (.ref 107),en P "word" 311 (.ref 114),en P "__static_attributes__" 313 (.ref 115)],b7 P,fi [25,4,106,28,4,113],cc "NoPrice" 287 23 97 98 290,fr 99 96 "dialvault.errors" 194]++(fA P 101 297 "__init__" "NoPrice.__init__" (mp 5 0) 25 2 ["self", "lever"] .none m1++(fA P 108 305 "word" "NoPrice.word" (mp 5 1) 28 1 ["self"] .none m1++([tu [st "lever" 312],dB P 2 292 m1 23 [en P "__init__" 304 (.ref 107),en P "word" 311 (.ref 114),en P "__static_attributes__" 313 (.ref 115),en P "__doc__" 314 .none],ce "NoPrice" 38 117 116 [] 94 285 293,su 117,ii 117,Jg,o9,dA P 5 324 m1 "NoSetting" 30 [en P "word" 335 (.ref 133),en P "__static_attributes__" 336 (.ref 134)],b7 P,fi [32,4,132],cc "NoSetting" 319 30 123 124 322,fr 125 122 "dialvault.errors" 194]++(fA P 127 329 "word" "NoSetting.word" (mp 6 0) 32 1 ["self"] .none m1++([b7 P,dB P 2 324 m1 30 [en P "word" 335 (.ref 133),en P "__static_attributes__" 336 (.ref 134),en P "__doc__" 337 .none],ce "NoSetting" 38 136 135 [] 120 317 325,su 136,ii 136])))))))))))))))
def Lp:Obj:=gd 508 263
def Mh:Obj:=gw 510 263
def L1 P:=pt (L0 P) [(3,di 44 (en P "__name__" 165 m3::(gl P).take 43)),(12,fi [1,0,20,5,0,27,9,0,47,16,0,73,23,0,99,30,0,125,34,0,144,38,0,163,43,0,182,45,0,187,49,0,194,60,0,201,65,0,208,70,0,213,72,0,218,81,0,225,102,0,273,104,0,280,112,0,287,118,0,294,127,0,299,129,0,306,131,0,311,136,0,318,138,0,325,141,0,332,144,0,337,147,0,344,154,0,351]),(38,cl "VaultError" [.type "ValueError"] [.ref 38,.type "ValueError", .type "Exception", .type "BaseException", .type "object"] 37 [.ref 65,.ref 91,.ref 117,.ref 136,.ref 155,.ref 174] [some (.ref 22),none,some (st "VaultError" 196),some (st "VaultError" 204),some (.builtin "ValueError.__new__"),some (.bool true)])] ([Jg,o9,dA P 5 347 m1 "NoPulls" 34 [en P "word" 358 (.ref 152),en P "__static_attributes__" 359 (.ref 153)],b7 P,fi [36,4,151],cc "NoPulls" 342 34 142 143 345,fr 144 141 "dialvault.errors" 194]++(fA P 146 352 "word" "NoPulls.word" (mp 7 0) 36 1 ["self"] .none m1++([b7 P,dB P 2 347 m1 34 [en P "word" 358 (.ref 152),en P "__static_attributes__" 359 (.ref 153),en P "__doc__" 360 .none],ce "NoPulls" 38 155 154 [] 139 340 348,su 155,ii 155,Jg,o9,dA P 5 370 m1 "TooMany" 38 [en P "word" 381 (.ref 171),en P "__static_attributes__" 382 (.ref 172)],b7 P,fi [40,4,170],cc "TooMany" 365 38 161 162 368,fr 163 160 "dialvault.errors" 194]++(fA P 165 375 "word" "TooMany.word" (mp 8 0) 40 1 ["self"] .none m1++([b7 P,dB P 2 370 m1 38 [en P "word" 381 (.ref 171),en P "__static_attributes__" 382 (.ref 172),en P "__doc__" 383 .none],ce "TooMany" 38 174 173 [] 158 363 371,su 174,ii 174]++(fT P 177 388 "is_whole" (tp 10) 43 1 ["thing"] m2++(fB P 184 395 "is_row" "is_row" (tp 11) 45 2 .none m2++(fT P 189 401 "common" (tp 12) 49 2 ["one", "other", "row", "behind", "times", "rest"] m2++(fT P 196 413 "multiple_of" (tp 13) 60 1 ["numbers", "multiple", "number"] m2++(fT P 203 422 "product_of" (tp 14) 65 1 ["numbers", "product", "number"] m2++(fB P 210 431 "unit_row" "unit_row" (tp 15) 70 2 .none m2++(fB P 215 437 "rest_sum" "rest_sum" (tp 16) 72 3 .none m2++([b7 P,o9,dA P 9 464 m3 "Vault" 81 [en P "__init__" 474 (.ref 232),en P "sizes" 481 (.ref 239),en P "levers" 488 (.ref 246),en P "prices" 495 (.ref 253),en P "around" 502 (.ref 260),en P "__static_attributes__" 507 (.ref 261)],b7 P,fi [83,4,231,91,4,238,94,4,245,97,4,252,100,4,259],cc "Vault" 459 81 223 224 462,fr 225 222 "dialvault.vault" 443,tu [.none]]++(fB P 228 469 "__init__" "Vault.__init__" (mp 24 0) 83 4 (.ref 227) m3++(fA P 233 475 "sizes" "Vault.sizes" (mp 24 1) 91 1 ["self"] .none m3++(fA P 240 482 "levers" "Vault.levers" (mp 24 2) 94 1 ["self"] .none m3++(fA P 247 489 "prices" "Vault.prices" (mp 24 3) 97 1 ["self"] .none m3++(fA P 254 496 "around" "Vault.around" (mp 24 4) 100 1 ["self"] .none m3++([tu [st "dial_sizes" 503,st "least_round" 504,st "lever_prices" 505,st "lever_settings" 506],dB P 4 464 m3 81 [en P "__init__" 474 (.ref 232),en P "sizes" 481 (.ref 239),en P "levers" 488 (.ref 246),en P "prices" 495 (.ref 253),en P "around" 502 (.ref 260),en P "__static_attributes__" 507 (.ref 261),en P "__dict__" 509 (.ref 264),en P "__weakref__" 511 (.ref 265),en P "__doc__" 512 .none],cl "Vault" [.type "object"] [.ref 263,.type "object"] 262 [] [none,none,some (st "Vault" 457),some (st "Vault" 465),some (.builtin "object.__new__"),some (.bool true)],Lp,Mh,su 263,ii 263]++(fT P 268 515 "is_within" (tp 25) 102 3 ["thing", "least", "most"] m3++(fT P 275 524 "need_sizes" (tp 26) 104 1 ["sizes", "dial", "size"] m3++(fT P 282 533 "need_levers" (tp 27) 112 2 ["levers", "dials", "place", "lever"] m3++(fT P 289 543 "prices_for" (tp 28) 118 2 ["levers", "prices", "place"] m3++(fB P 296 552 "rests" "rests" (tp 29) 127 2 .none m3++(fT P 301 558 "nought" (tp 30) 129 1 ["vault"] m3++(fB P 308 565 "is_setting" "is_setting" (tp 31) 131 2 .none m3++(fT P 313 571 "is_pulls" (tp 32) 136 2 ["vault", "thing"] m3++(fT P 320 579 "need_setting" (tp 33) 138 2 ["vault", "thing"] m3++(fT P 327 587 "need_pulls" (tp 34) 141 2 ["vault", "thing"] m3++(fB P 334 595 "added" "added" (tp 35) 144 4 .none m3++(fT P 339 601 "turned" (tp 36) 147 3 ["vault", "setting", "pulls", "reached", "lever", "times"] m3++(fT P 346 613 "between" (tp 37) 154 3 ["vault", "one", "other"] m3))))))))))))))))))))))))))))))))
def Ly:Obj:=gd 667 388
def LR:Obj:=gw 669 388
def JB:=tu [.ref 388]
def L2 P:=pt (L1 P) [(3,di 56 (en P "__name__" 165 m5::(gl P).take 55)),(12,fi [1,0,20,5,0,27,9,0,47,16,0,73,23,0,99,30,0,125,34,0,144,38,0,163,43,0,182,45,0,187,49,0,194,60,0,201,65,0,208,70,0,213,72,0,218,81,0,225,102,0,273,104,0,280,112,0,287,118,0,294,127,0,299,129,0,306,131,0,311,136,0,318,138,0,325,141,0,332,144,0,337,147,0,344,154,0,351,159,0,356,165,0,363,175,0,398,188,0,438,199,0,469,201,0,476,204,0,483,206,0,490,209,0,497,212,0,504,221,0,511,226,0,518])] (fB P 353 624 "weigh" "weigh" (tp 39) 159 3 .none m4++([b7 P,o9,dA P 7 637 m4 "Paper" 165 [en P "brings" 648 (.ref 371),en P "shows" 658 (.ref 378),en P "words" 665 (.ref 385),en P "__static_attributes__" 666 (.ref 386)],b7 P,fi [167,4,370,170,4,377,173,4,384],cc "Paper" 632 165 361 362 635,fr 363 360 "dialvault.papers" 622]++(fA P 365 642 "brings" "Paper.brings" (mp 40 0) 167 1 ["self"] .none m4++(fA P 372 649 "shows" "Paper.shows" (mp 40 1) 170 4 ["self", "vault", "one", "other"] .none m4++(fA P 379 659 "words" "Paper.words" (mp 40 2) 173 1 ["self"] .none m4++([b7 P,dB P 4 637 m4 165 [en P "brings" 648 (.ref 371),en P "shows" 658 (.ref 378),en P "words" 665 (.ref 385),en P "__static_attributes__" 666 (.ref 386),en P "__dict__" 668 (.ref 389),en P "__weakref__" 670 (.ref 390),en P "__doc__" 671 .none],cl "Paper" [.type "object"] [.ref 388,.type "object"] 387 [.ref 430,.ref 463] [none,none,some (st "Paper" 630),some (st "Paper" 638),some (.builtin "object.__new__"),some (.bool true)],Ly,LR,su 388,ii 388,JB,o9,dA P 8 681 m4 "Way" 175 [en P "__init__" 693 (.ref 406),en P "brings" 700 (.ref 413),en P "shows" 710 (.ref 420),en P "words" 717 (.ref 427),en P "__static_attributes__" 719 (.ref 428)],b7 P,fi [177,4,405,180,4,412,183,4,419,186,4,426],cc "Way" 676 175 396 397 679,fr 398 395 "dialvault.papers" 622]++(fA P 400 686 "__init__" "Way.__init__" (mp 41 0) 177 2 ["self", "pulls"] .none m4++(fA P 407 694 "brings" "Way.brings" (mp 41 1) 180 1 ["self"] .none m4++(fA P 414 701 "shows" "Way.shows" (mp 41 2) 183 4 ["self", "vault", "one", "other"] .none m4++(fA P 421 711 "words" "Way.words" (mp 41 3) 186 1 ["self"] .none m4++([tu [st "pulls" 718],dB P 2 681 m4 175 [en P "__init__" 693 (.ref 406),en P "brings" 700 (.ref 413),en P "shows" 710 (.ref 420),en P "words" 717 (.ref 427),en P "__static_attributes__" 719 (.ref 428),en P "__doc__" 720 .none],cl "Way" [.ref 388] [.ref 430,.ref 388,.type "object"] 429 [] [some (.ref 393),none,some (st "Way" 674),some (st "Way" 682),some (.builtin "object.__new__"),some (.bool true)],su 430,ii 430,JB,o9,dA P 7 730 m4 "Bar" 188 [en P "__init__" 742 (.ref 446),en P "shows" 752 (.ref 453),en P "words" 759 (.ref 460),en P "__static_attributes__" 761 (.ref 461)],b7 P,fi [190,4,445,193,4,452,196,4,459],cc "Bar" 725 188 436 437 728,fr 438 435 "dialvault.papers" 622]++(fA P 440 735 "__init__" "Bar.__init__" (mp 42 0) 190 2 ["self", "weights"] .none m4++(fA P 447 743 "shows" "Bar.shows" (mp 42 1) 193 4 ["self", "vault", "one", "other"] .none m4++(fA P 454 753 "words" "Bar.words" (mp 42 2) 196 1 ["self"] .none m4++([tu [st "weights" 760],dB P 2 730 m4 188 [en P "__init__" 742 (.ref 446),en P "shows" 752 (.ref 453),en P "words" 759 (.ref 460),en P "__static_attributes__" 761 (.ref 461),en P "__doc__" 762 .none],cl "Bar" [.ref 388] [.ref 463,.ref 388,.type "object"] 462 [] [some (.ref 433),none,some (st "Bar" 723),some (st "Bar" 731),some (.builtin "object.__new__"),some (.bool true)],su 463,ii 463]++(fB P 466 767 "mixed" "mixed" (tp 44) 199 4 .none m5++(fT P 471 773 "mixed_made" (tp 45) 201 5 ["sizes", "made", "times", "other", "others", "doing"] m5++(fT P 478 785 "unpulled" (tp 46) 204 2 ["vault", "setting"] m5++(fT P 485 793 "pulled_once" (tp 47) 206 2 ["vault", "lever", "levers"] m5++(fT P 492 802 "step_size" (tp 48) 209 3 ["sizes", "made_rows", "dial", "notch"] m5++(fT P 499 812 "taken_in" (tp 49) 212 3 ["sizes", "made_rows", "left", "wider", "dial", "made", "step", "notch", "found"] m5++(fT P 506 827 "lowered" (tp 50) 221 4 ["sizes", "made_rows", "made", "first", "dial", "times"] m5++(fT P 513 839 "in_spans" (tp 51) 226 2 ["pulls", "idle_rows", "lever", "row"] m5)))))))))))))))))))))))
def L8:Obj:=gd 925 582
def LI:Obj:=gw 927 582
def L3 P:=pt (L2 P) [(3,di 85 (en P "__name__" 165 m7::gl P)),(12,fi [1,0,20,5,0,27,9,0,47,16,0,73,23,0,99,30,0,125,34,0,144,38,0,163,43,0,182,45,0,187,49,0,194,60,0,201,65,0,208,70,0,213,72,0,218,81,0,225,102,0,273,104,0,280,112,0,287,118,0,294,127,0,299,129,0,306,131,0,311,136,0,318,138,0,325,141,0,332,144,0,337,147,0,344,154,0,351,159,0,356,165,0,363,175,0,398,188,0,438,199,0,469,201,0,476,204,0,483,206,0,490,209,0,497,212,0,504,221,0,511,226,0,518,231,0,525,283,0,590,285,0,597,293,0,604,295,0,611,297,0,618,299,0,625,302,0,632,305,0,639,309,0,646,313,0,653,315,0,658,320,0,665,326,0,672,337,0,677,339,0,682,341,0,689,345,0,696,350,0,701,353,0,706,357,0,711,364,0,716,373,0,721,375,0,726,386,0,733,388,0,740,396,0,747,401,0,754,419,0,759])] ([b7 P,o9,dA P 13 856 m5 "Rungs" 231 [en P "__init__" 866 (.ref 531),en P "steps" 872 (.ref 536),en P "rows" 879 (.ref 543),en P "spans" 885 (.ref 548),en P "idle" 892 (.ref 555),en P "brought_down" 900 (.ref 562),en P "least" 908 (.ref 569),en P "pulls_to" 914 (.ref 574),en P "weights_at" 920 (.ref 579),en P "__static_attributes__" 924 (.ref 580)],b7 P,fi [233,4,530,245,4,535,249,4,542,252,4,547,255,4,554,258,4,561,262,4,568,265,4,573,271,4,578],cc "Rungs" 851 231 523 524 854,fr 525 522 "dialvault.rungs" 765]++(fB P 527 861 "__init__" "Rungs.__init__" (mp 52 0) 233 2 .none m5++(fB P 532 867 "steps" "Rungs.steps" (mp 52 1) 245 1 .none m5++(fA P 537 873 "rows" "Rungs.rows" (mp 52 2) 249 1 ["self"] .none m5++(fB P 544 880 "spans" "Rungs.spans" (mp 52 3) 252 1 .none m5++(fA P 549 886 "idle" "Rungs.idle" (mp 52 4) 255 1 ["self"] .none m5++(fA P 556 893 "brought_down" "Rungs.brought_down" (mp 52 5) 258 2 ["self", "setting"] .none m5++(fA P 563 901 "least" "Rungs.least" (mp 52 6) 262 2 ["self", "setting"] .none m5++(fB P 570 909 "pulls_to" "Rungs.pulls_to" (mp 52 7) 265 2 .none m5++(fB P 575 915 "weights_at" "Rungs.weights_at" (mp 52 8) 271 2 .none m5++([tu [st "idle_rows" 921,st "made_rows" 922,st "vault" 923],dB P 4 856 m5 231 [en P "__init__" 866 (.ref 531),en P "steps" 872 (.ref 536),en P "rows" 879 (.ref 543),en P "spans" 885 (.ref 548),en P "idle" 892 (.ref 555),en P "brought_down" 900 (.ref 562),en P "least" 908 (.ref 569),en P "pulls_to" 914 (.ref 574),en P "weights_at" 920 (.ref 579),en P "__static_attributes__" 924 (.ref 580),en P "__dict__" 926 (.ref 583),en P "__weakref__" 928 (.ref 584),en P "__doc__" 929 .none],cl "Rungs" [.type "object"] [.ref 582,.type "object"] 581 [] [none,none,some (st "Rungs" 849),some (st "Rungs" 857),some (.builtin "object.__new__"),some (.bool true)],L8,LI,su 582,ii 582]++(fB P 587 932 "first_turned" "first_turned" (tp 53) 283 1 .none m5++(fT P 592 938 "bring" (tp 54) 285 3 ["vault", "one", "other", "difference", "rungs", "pulls"] m5++(fT P 599 952 "together_count" (tp 56) 293 1 ["vault"] m6++(fT P 606 959 "class_count" (tp 57) 295 1 ["vault"] m6++(fT P 613 966 "least_of" (tp 58) 297 2 ["vault", "setting"] m6++(fT P 620 974 "belong" (tp 59) 299 3 ["vault", "one", "other", "difference"] m6++(fT P 627 984 "normal" (tp 60) 302 2 ["vault", "pulls"] m6++(fT P 634 994 "_law_cell" (tp 62) 305 2 ["_law_script", "_law_k"] m7++(fT P 641 1002 "_law_mixed" (tp 63) 309 2 ["_law_cell_here", "_law_k", "_law_number"] m7++(fT P 648 1011 "_law_whole" (tp 64) 313 1 ["_law_found"] m7++(fB P 655 1018 "_law_dials" "_law_dials" (tp 65) 315 1 .none m7++(fT P 660 1024 "_law_digits" (tp 66) 320 2 ["_law_rest", "_law_sizes", "_law_found", "_law_size"] m7++(fT P 667 1034 "_law_lever" (tp 67) 326 2 ["_law_cell_here", "_law_sizes", "_law_by", "_law_far", "_law_lever_here", "_law_k", "_law_number", "_law_turns"] m7++(fB P 674 1048 "_law_kept" "_law_kept" (tp 68) 337 2 .none m7++(fB P 679 1054 "_law_setting" "_law_setting" (tp 69) 339 3 .none m7++(fT P 684 1060 "_law_divisor" (tp 70) 341 2 ["_law_one", "_law_other_here"] m7++(fT P 691 1068 "_law_round" (tp 71) 345 1 ["_law_sizes", "_law_found", "_law_size"] m7++(fB P 698 1077 "_law_weighs" "_law_weighs" (tp 72) 350 3 .none m7++(fB P 703 1083 "_law_numbers" "_law_numbers" (tp 73) 353 2 .none m7++(fB P 708 1089 "_law_leads" "_law_leads" (tp 74) 357 4 .none m7++(fB P 713 1095 "_law_bars" "_law_bars" (tp 75) 364 4 .none m7++(fB P 718 1101 "_law_gap" "_law_gap" (tp 76) 373 3 .none m7++(fB P 723 1107 "_law_other" "_law_other" (tp 77) 375 4 .none m7++(fT P 728 1113 "_law_bool" (tp 78) 386 2 ["_law_found", "_law_due"] m7++(fT P 735 1121 "_law_way" (tp 79) 388 5 ["_law_vault", "_law_rows", "_law_sizes", "_law_one", "_law_other_here", "_law_paper", "_law_gap_here"] m7++(fT P 742 1134 "_law_stands" (tp 80) 396 4 ["_law_vault", "_law_rows", "_law_sizes", "_law_one", "_law_least"] m7++(fT P 749 1145 "_law_pair" (tp 81) 401 4 ["_law_vault", "_law_rows", "_law_sizes", "_law_cell_here", "_law_one", "_law_other_here", "_law_both_of", "_law_paper", "_law_due", "_law_kind", "_law_here"] m7++(fB P 756 1162 "law" "law" (tp 82) 419 1 .none m7)))))))))))))))))))))))))))))))))))))))
def LF(P:Params):=L3 P
def bE:List Stmt:=behindTheImports pw
def env:Env:={ scope:=pw.main.scope,locals:=mainNs,globals:=mainNs,cells:=[],code:=.ref 13,frame:=some 14 }
def cE:Code:=.body bE env
abbrev B:List Frame:=[topFrame ⟨0,0,0,0⟩]
abbrev ann:Option Value:=(some (.ref 6))
def Ha:List Stmt:=(bE.drop 0).take 7
def I0:List Stmt:=(bE.drop 7).take 31
def IM:List Stmt:=(bE.drop 38).take 14
def Gi:List Stmt:=(bE.drop 52).take 31
end
theorem y_:∀ w:World,(λos=>topGo treeTable pw w 11 ann 12 ⟨boot_heap w.params,⟨[]⟩,boot_drawn,boot_toks,os⟩ (topStub pw))=λos=>some (F LA 187 w os,⟨denote treeTable cE,cE,⟨0,0,0,0⟩,B⟩):=λw=>by
 rw[PySem.W.Fast.te15667345088766844465,PySem.W.Fast.te14364793385576792824,PySem.W.Fast.te11892475500146522536]
 kernel_rfl
theorem LP:∀ w:World,(λos=>segRun treeTable pw w 11 ann 1 1 (F LA 187 w os) (blockOf bE env cE ⟨0,0,0,0⟩ B))=λos=>some (Flow.next,(S LA 15 187 w os).abs,cE,⟨0,0,0,0⟩):=λw=>by
 rw[PySem.W.Fast.te14374325043358763698,PySem.W.Fast.te14364793385576792824]
 kernel_rfl
theorem M3:∀ w:World,(λos=>segRunT treeTable pw w 11 ann 1 1326 (S LA 15 187 w os) (piecesOf Ha env cE ⟨0,0,0,0⟩ B))=λos=>some (Flow.next,S L0 139 340 w os,cE,⟨30,0,33,16⟩):=λw=>by
 rw[PySem.W.Fast.te10110043849684766642,PySem.W.Fast.te14364793385576792824]
 kernel_rfl
theorem Nc:∀ w:World,(λos=>segRunT treeTable pw w 11 ann 1 1495 (S L0 139 340 w os) (piecesOf I0 env cE ⟨30,0,33,16⟩ B))=λos=>some (Flow.next,S L1 353 622 w os,cE,⟨154,0,157,39⟩):=λw=>by
 rw[PySem.W.Fast.te10110043849684766642,PySem.W.Fast.te14364793385576792824]
 kernel_rfl
theorem I_:∀ w:World,(λos=>segRunT treeTable pw w 11 ann 1 1237 (S L1 353 622 w os) (piecesOf IM env cE ⟨154,0,157,39⟩ B))=λos=>some (Flow.next,S L2 520 849 w os,cE,⟨226,0,230,16⟩):=λw=>by
 rw[PySem.W.Fast.te10110043849684766642,PySem.W.Fast.te14364793385576792824]
 kernel_rfl
theorem MZ:∀ w:World,(λos=>segRunT treeTable pw w 11 ann 1 1303 (S L2 520 849 w os) (piecesOf Gi env cE ⟨226,0,230,16⟩ B))=λos=>some (Flow.next,S L3 761 1168 w os,cE,⟨419,0,432,125⟩):=λw=>by
 rw[PySem.W.Fast.te10110043849684766642,PySem.W.Fast.te14364793385576792824]
 kernel_rfl
theorem Ii:∀ w:World,(λos=>topRun treeTable pw w 11 ann 2 (S L3 761 1168 w os).abs ⟨doneF .next,cE,⟨419,0,432,125⟩,B⟩)=λos=>some (F LF 1168 w os):=λw=>by
 rw[PySem.W.Fast.te14082659384304107361,PySem.W.Fast.te14364793385576792824]
 kernel_rfl
theorem Ng:bE=(Ha++(I0++(IM++(Gi++[])))):=by kernel_rfl
theorem qi(w:World)(os:OsState):topRun treeTable pw w 11 ann (1326+(1495+(1237+(1303+2)))) (S LA 15 187 w os).abs (restOf bE env cE ⟨0,0,0,0⟩ B)=some (F LF 1168 w os):=by
 rw[show restOf bE env cE ⟨0,0,0,0⟩ B=restOf (Ha++(I0++(IM++(Gi++[])))) env cE ⟨0,0,0,0⟩ B from congrArg (λb=>restOf b env cE ⟨0,0,0,0⟩ B) Ng]
 exact piece_app (segRun_of (congrFun (M3 w) os)) (piece_app (segRun_of (congrFun (Nc w) os)) (piece_app (segRun_of (congrFun (I_ w) os)) (piece_app (segRun_of (congrFun (MZ w) os)) (piece_nil (congrFun (Ii w) os)))))
theorem Lk(w:World)(os:OsState):topRun treeTable pw w 11 ann (12+(1+(1326+(1495+(1237+(1303+2)))))) ⟨boot_heap w.params,⟨[]⟩,boot_drawn,boot_toks,os⟩ (topStub pw)=some (F LF 1168 w os) :=
 go_top (congrFun (y_ w) os) (piece_block (congrFun (LP w) os) (qi w os))
end HD
namespace HD
open PySem PySem.W L2
noncomputable section
def vw:Program:=PySem.W.view pw [0,2,3,4,5,6,7,8,10,11,12,13,14,15,16,18,19,20,21,22,23,24,25,26,27,28,29,30,31,32,33,34,35,36,37,39,40,41,42,44,45,46,47,48,49,50,51,52,53,54,56,57,58,59,60,62,63,64,65,66,67,68,69,70,71,72,73,74,75,76,77,78,79,80,81,82]
def loose:List Str:=[]
noncomputable def as:List Addr:=[2,3,15,17,18,20,21,22,29,31,32,34,35,36,37,38,39,42,49,51,52,54,55,56,58,59,61,62,63,64,65,68,75,77,78,80,81,82,84,85,87,88,89,90,91,94,101,103,104,106,107,108,110,111,113,114,115,116,117,120,127,129,130,132,133,134,135,136,139,146,148,149,151,152,153,154,155,158,165,167,168,170,171,172,173,174,177,179,180,182,183,184,187,188,189,191,192,194,195,196,198,199,201,202,203,205,206,208,209,210,213,214,215,218,219,227,228,231,232,233,235,236,238,239,240,242,243,245,246,247,249,250,252,253,254,256,257,259,260,261,262,263,264,265,268,270,271,273,274,275,277,278,280,281,282,284,285,287,288,289,291,292,294,295,296,299,300,301,303,304,306,307,308,311,312,313,315,316,318,319,320,322,323,325,326,327,329,330,332,333,334,337,338,339,341,342,344,345,346,348,349,351,352,353,356,357,365,367,368,370,371,372,374,375,377,378,379,381,382,384,385,386,387,388,389,390,393,400,402,403,405,406,407,409,410,412,413,414,416,417,419,420,421,423,424,426,427,428,429,430,433,440,442,443,445,446,447,449,450,452,453,454,456,457,459,460,461,462,463,466,469,470,471,473,474,476,477,478,480,481,483,484,485,487,488,490,491,492,494,495,497,498,499,501,502,504,505,506,508,509,511,512,513,515,516,518,519,527,530,531,532,535,536,537,539,540,542,543,544,547,548,549,551,552,554,555,556,558,559,561,562,563,565,566,568,569,570,573,574,575,578,579,580,581,582,583,584,587,590,591,592,594,595,597,598,599,601,602,604,605,606,608,609,611,612,613,615,616,618,619,620,622,623,625,626,627,629,630,632,633,634,636,637,639,640,641,643,644,646,647,648,650,651,653,654,655,658,659,660,662,663,665,666,667,669,670,672,673,674,677,678,679,682,683,684,686,687,689,690,691,693,694,696,697,698,701,702,703,706,707,708,711,712,713,716,717,718,721,722,723,726,727,728,730,731,733,734,735,737,738,740,741,742,744,745,747,748,749,751,752,754,755,756,759,760]
def K(P:Params):Frag:=as.map λa=>(a,(LF P).getD a (su 0))
def hook:Hook:=kHook K as (λ_=>by kernel_rfl)
abbrev rr:RowW:=(PySem.Challenge.rw_dialvault_k36_whole_one_stands_for_a_cla.row).toRowW
def Xt:Shared->Bool:=λs=>xlAt vw [] s&&recOk (RowW.records rr) s
def H1(P:Params):Heap:=⟨⟨LF P⟩,{}⟩
end
theorem KH:∀ w:World,((boot_heap w.params).isNs mainGlobals&&(Array.mk []:Array GenState).size==0,(boot_heap w.params).objs.size,(boot_heap w.params).nsMap mainGlobals "__annotations__")=(true,11,ann):=λw=>by
 rw[PySem.W.Fast.te8920871248978507458]
 kernel_rfl
theorem M1(w:World):staticsOk (importedModules pw.main.body) (boot_heap w.params) (H1 w.params)=true:=by
 first | (rw[PySem.W.Fast.te4187177175401517315,PySem.W.Fast.te5923862056798008813];kernel_rfl) | (rw[PySem.W.Fast.te4187177175401517315];kernel_rfl) | (rw[PySem.W.Fast.te5923862056798008813];kernel_rfl) | (kernel_rfl)
theorem MX(w:World):namesBound pw (H1 w.params)=true:=by
 first | (rw[PySem.W.Fast.te4187177175401517315,PySem.W.Fast.te5923862056798008813];kernel_rfl) | (rw[PySem.W.Fast.te4187177175401517315];kernel_rfl) | (rw[PySem.W.Fast.te5923862056798008813];kernel_rfl) | (kernel_rfl)
theorem MY(w:World)(os:_):gensDone ⟨H1 w.params,⟨[]⟩,⟨0,0,0,0⟩,1168,os⟩=true:=by
 first | (rw[PySem.W.Fast.te4187177175401517315,PySem.W.Fast.te5923862056798008813];kernel_rfl) | (rw[PySem.W.Fast.te4187177175401517315];kernel_rfl) | (rw[PySem.W.Fast.te5923862056798008813];kernel_rfl) | (kernel_rfl)
theorem Ni(w:World):laidKept (boot_heap w.params) (H1 w.params)=true:=by
 first | (rw[PySem.W.Fast.te4187177175401517315,PySem.W.Fast.te5923862056798008813];kernel_rfl) | (rw[PySem.W.Fast.te4187177175401517315];kernel_rfl) | (rw[PySem.W.Fast.te5923862056798008813];kernel_rfl) | (kernel_rfl)
theorem M4(w:World)(os:_):openSeen vw loose (importedModules pw.main.body) Xt true ⟨H1 w.params,⟨[]⟩,⟨0,0,0,0⟩,1168,os⟩=openGood vw loose:=by
 first | (rw[PySem.W.Fast.te4187177175401517315,PySem.W.Fast.te5923862056798008813];kernel_rfl) | (rw[PySem.W.Fast.te4187177175401517315];kernel_rfl) | (rw[PySem.W.Fast.te5923862056798008813];kernel_rfl) | (kernel_rfl)
theorem Nf(w:World)(os:_):Hook.obs hook ⟨H1 w.params,⟨[]⟩,⟨0,0,0,0⟩,1168,os⟩=Hook.val hook w:=by
 first | (rw[PySem.W.Fast.te4187177175401517315,PySem.W.Fast.te5923862056798008813];kernel_rfl) | (rw[PySem.W.Fast.te4187177175401517315];kernel_rfl) | (rw[PySem.W.Fast.te5923862056798008813];kernel_rfl) | (kernel_rfl)
theorem HC:∀ w:World,(λos=>((staticsOk (importedModules pw.main.body) (boot_heap w.params) (H1 w.params)&&namesBound pw (H1 w.params)&&gensDone ⟨H1 w.params,⟨[]⟩,⟨0,0,0,0⟩,1168,os⟩&&laidKept (boot_heap w.params) (H1 w.params)),
  openSeen vw loose (importedModules pw.main.body) Xt true ⟨H1 w.params,⟨[]⟩,⟨0,0,0,0⟩,1168,os⟩,Hook.obs hook ⟨H1 w.params,⟨[]⟩,⟨0,0,0,0⟩,1168,os⟩))=λ_=>(true,openGood vw loose,Hook.val hook w):=λw=>funext λos=>by
 rw[M1,MX,MY,Ni,M4,Nf];rfl
theorem Jz:LeftO pw vw loose Xt (Hook.obs hook) (Hook.val hook) 10840 :=
 LeftO.of_pieces (H₀:=boot_heap) (H₁:=H1) (gs₀:=⟨[]⟩) (gs₁:=⟨[]⟩) (d₀:=boot_drawn) (d₁:=⟨0,0,0,0⟩) (k₀:=boot_toks) (k₁:=1168) (m₀:=11) (ann:=ann) (M:=(12+(1+(1326+(1495+(1237+(1303+2)))))))
  (boot_open (by kernel_rfl) (by kernel_rfl) (λs=>by kernel_rfl)) KH Lk (by kernel_rfl) HC
end HD
open PySem PySem.W
theorem HD.said:PySem.Challenge.rw_dialvault_k36_whole_one_stands_for_a_cla.wellSaid=true:=by
 decide +kernel
namespace wK
open PySem L2 PyProof.Rows
def de:Addr:=463
def fS:Addr:=65
def iX:Addr:=91
def gR:Addr:=117
def nF:Addr:=155
def j8:Addr:=136
def au:Addr:=582
def kS:Addr:=174
def aA:Addr:=263
def cS:Addr:=430
def tD:List Addr:=[]
def uR:List Addr:=[]
def mM:List Addr:=[de]
def mQ:List Addr:=[au,aA,cS]
def j5:List Addr:=[]
def kj:List Addr:=[]
def f7:List Addr:=[cS]
def gb:List Addr:=[de,au,aA]
abbrev cI(i:Int):af->M PV:=λ_=>M.ok (.int i)
def jw:af->M Out :=
 (aq (retS (pM (rT (λa=>lF a "int") oB oB (ae 0)) (vC (rT (λa=>lF a "bool") oB oB (ae 0)))))
 ar)
def fb:List PV->M PV:=bb 1 (ay 1 jw)
def iT:af->M Out :=
 (aq (iO (ET (jv (dm (rT (λa=>["list", "tuple"].any λt=>lF a t) oB oB (ae 0)))) (dm (ao rm (ai dj (aa (ae 0) aj)) (ae 1)))) (aq (retS (λ_=>M.ok (.bl false)))
 ar) ar)
 (aq (retS (ai vZ (aa (cD (bR (itemsOf (ae 0)) (b_ 0) none (ai fb (aa (ae 0) aj)) 1 [])) aj)))
 ar))
def fX:List PV->M PV:=bb 2 (ay 2 iT)
def kB:af->M Out :=
 (aq (aX 2 (lN (aa (ae 0) (aa (cI 1) (aa (cI 0) aj)))))
 (aq (aX 3 (lN (aa (ae 1) (aa (cI 0) (aa (cI 1) aj)))))
 (aq (lK (dm (ao rm (ao aV (ae 3) (cI 0)) (cI 0))) (aq (aX 4 (ao cQ (ao aV (ae 2) (cI 0)) (ao aV (ae 3) (cI 0))))
 (aq (aX 5 (lN (aa (ao kb (ao aV (ae 2) (cI 0)) (ao bS (ae 4) (ao aV (ae 3) (cI 0)))) (aa (ao kb (ao aV (ae 2) (cI 1)) (ao bS (ae 4) (ao aV (ae 3) (cI 1)))) (aa (ao kb (ao aV (ae 2) (cI 2)) (ao bS (ae 4) (ao aV (ae 3) (cI 2)))) aj)))))
 (aq (aX 2 (ae 3))
 (aq (aX 3 (ae 5))
 ar)))))
 (aq (iO (dm (ao Bi (ao aV (ae 2) (cI 0)) (cI 0))) (aq (retS (lN (aa (kn (ao aV (ae 2) (cI 0))) (aa (kn (ao aV (ae 2) (cI 1))) (aa (kn (ao aV (ae 2) (cI 2))) aj)))))
 ar) ar)
 (aq (retS (ae 2))
 ar)))))
def fW:List PV->M PV:=bb 2 (ay 6 kB)
def fz:af->M Out :=
 (aq (aX 1 (cI 1))
 (aq (iI (itemsOf (ae 0)) (b_ 2) (aq (aX 1 (ao bS (ao cQ (ae 1) (ao aV (ai fW (aa (ae 1) (aa (ae 2) aj))) (cI 0))) (ae 2)))
 ar))
 (aq (retS (ae 1))
 ar)))
def fE:List PV->M PV:=bb 1 (ay 3 fz)
def eO:af->M Out :=
 (aq (aX 1 (cI 1))
 (aq (iI (itemsOf (ae 0)) (b_ 2) (aq (aX 1 (ao bS (ae 1) (ae 2)))
 ar))
 (aq (retS (ae 1))
 ar)))
def eQ:List PV->M PV:=bb 1 (ay 3 eO)
def jC:af->M Out :=
 (aq (retS (ai cx (aa (cD (bR (i8 p6 (aa (ae 0) aj)) (b_ 0) none (zR (dm (ao j7 (ae 0) (ae 1))) (cI 1) (cI 0)) 1 [1])) aj)))
 ar)
def jH:List PV->M PV:=bb 2 (ay 2 jC)
def jz:af->M Out :=
 (aq (retS (ao cy (ai qN (aa (cD (bR (i8 zip2 (aa (ae 0) (aa (ae 1) aj))) (bC 0 1) none (ao bS (ae 0) (ae 1)) 2 [])) aj)) (ae 2)))
 ar)
def jo:List PV->M PV:=bb 3 (ay 3 jz)
def eI:af->M Out :=
 (aq (retS (pM (ai fb (aa (ae 0) aj)) (gZ Cq Cq (ae 1) (ae 0) (ae 2))))
 ar)
def dG:List PV->M PV:=bb 3 (ay 3 eI)
def gG:af->M Out :=
 (aq (iO (dm (ao FC (ai dj (aa (ae 0) aj)) (cI 6))) (aq (lM kS (aa (λ_=>M.ok (.str "a vault has at most six dials")) aj))
 ar) ar)
 (aq (iO (dm (ao j7 (ai dj (aa (ae 0) aj)) (cI 0))) (aq (jn fS "dial" (aa (cI 0) aj))
 ar) ar)
 (aq (iI (i8 zG (aa (ae 0) aj)) (bC 1 2) (aq (iO (jv (dm (ai dG (aa (ae 2) (aa (cI 2) (aa (cI 360) aj)))))) (aq (jn fS "dial" (aa (ae 1) aj))
 ar) ar)
 ar))
 ar)))
def gO:List PV->M PV:=bb 1 (ay 3 gG)
def fG:af->M Out :=
 (aq (iO (dm (ao FC (ai dj (aa (ae 0) aj)) (cI 8))) (aq (lM kS (aa (λ_=>M.ok (.str "a vault has at most eight levers")) aj))
 ar) ar)
 (aq (iI (i8 zG (aa (ae 0) aj)) (bC 2 3) (aq (iO (jv (dm (ai fX (aa (ae 3) (aa (ae 1) aj))))) (aq (jn iX "lever" (aa (ae 2) aj))
 ar) ar)
 ar))
 ar))
def fx:List PV->M PV:=bb 2 (ay 4 fG)
def gJ:af->M Out :=
 (aq (iO (dm (ao uE (ae 1) (λ_=>M.ok .cR))) (aq (retS (ao bS (lN (aa (cI 1) aj)) (ai dj (aa (ae 0) aj))))
 ar) ar)
 (aq (iI (i8 p6 (aa (ai (yz λi j=>if j>i then j else i) (aa (ai dj (aa (ae 0) aj)) (aa (ai dj (aa (ae 1) aj)) aj))) aj)) (b_ 2) (aq (iO (ET (dm (ao Jd (ae 2) (ai dj (aa (ae 0) aj)))) (dm (ao Jd (ae 2) (ai dj (aa (ae 1) aj))))) (aq (jn gR "lever" (aa (ae 2) aj))
 ar) ar)
 (aq (iO (jv (dm (ai dG (aa (ao aV (ae 1) (ae 2)) (aa (cI 1) (aa (cI 1000) aj)))))) (aq (jn gR "lever" (aa (ae 2) aj))
 ar) ar)
 ar)))
 (aq (retS (ai cx (aa (ae 1) aj)))
 ar)))
def gA:List PV->M PV:=bb 2 (ay 3 gJ)
def kL:af->M Out :=
 (aq (retS (ai cx (aa (cD (bR (i8 zip2 (aa (ae 0) (aa (ae 1) aj))) (bC 0 1) none (ao cy (ae 0) (ae 1)) 2 [])) aj)))
 ar)
def jt:List PV->M PV:=bb 2 (ay 2 kL)
def mq:af->M Out :=
 (aq (retS (ai cx (aa (cD (bR (i8 zip2 (aa (ae 0) (aa (ae 2) aj))) (bC 0 1) none (ao dc (ao bS (ae 2) (ae 0)) (ao bS (ae 3) (ae 1))) 2 [1,3])) aj)))
 ar)
def kJ:List PV->M PV:=bb 4 (ay 4 mq)
def eK:af->M Out :=
 (aq (aX 5 (ai kJ (aa (ao aV (ae 1) (cI 0)) (aa (ae 2) (aa (ao aV (ae 3) (cI 0)) (aa (ae 4) aj))))))
 (aq (retS (lN (aa (ai jt (aa (ae 5) (aa (ae 0) aj))) (aa (ai kJ (aa (ao aV (ae 1) (cI 1)) (aa (ae 2) (aa (ao aV (ae 3) (cI 1)) (aa (ae 4) aj))))) aj))))
 ar))
def dN:List PV->M PV:=bb 5 (ay 6 eK)
def eH:af->M Out :=
 (aq (aX 3 (ao aV (ao aV (ao aV (ae 1) (ae 2)) (cI 0)) (ae 2)))
 (aq (retS (zR (dm (ao j7 (ae 3) (cI 0))) (ao aV (ae 0) (ae 2)) (ae 3)))
 ar))
def dF:List PV->M PV:=bb 3 (ay 4 eH)
def jg:af->M Out :=
 (aq (pZ 3 (nV aj))
 (aq (iI (i8 zG (aa (ae 1) aj)) (bC 4 5) (aq (aX 6 (ai dF (aa (ae 0) (aa (ae 1) (aa (ae 4) aj)))))
 (aq (aX 7 (ao aV (ao aV (ae 2) (cI 0)) (ae 4)))
 (aq (aX 8 (ai fW (aa (ae 6) (aa (ae 7) aj))))
 (aq (qH 3 (ai dN (aa (ae 0) (aa (ae 5) (aa (ao aV (ae 8) (cI 1)) (aa (ae 2) (aa (ao aV (ae 8) (cI 2)) aj)))))))
 (aq (aX 2 (ai dN (aa (ae 0) (aa (ae 2) (aa (ao cQ (ae 6) (ao aV (ae 8) (cI 0))) (aa (ae 5) (aa (kn (ao cQ (ae 7) (ao aV (ae 8) (cI 0)))) aj)))))))
 ar))))))
 (aq (um [3] (retS (lN (aa (ae 3) (aa (ao aV (ae 2) (cI 1)) aj)))))
 ar)))
def i_:List PV->M PV:=bb 3 (ay 9 jg)
def iU:af->M Out :=
 (aq (iI (i8 zi (aa (ae 3) (aa (ai dj (aa (ae 0) aj)) aj))) (b_ 4) (aq (aX 5 (ao cQ (ao aV (ao aV (ae 2) (cI 0)) (ae 4)) (ai dF (aa (ae 0) (aa (ae 1) (aa (ae 4) aj))))))
 (aq (aX 2 (ai dN (aa (ae 0) (aa (ae 2) (aa (cI 1) (aa (ao aV (ae 1) (ae 4)) (aa (kn (ae 5)) aj)))))))
 ar)))
 (aq (retS (ae 2))
 ar))
def fk:List PV->M PV:=bb 4 (ay 6 iU)
def g_:af->M Out :=
 (aq (iI (i8 zk (aa (ao kb (ai dj (aa (ae 1) aj)) (cI 1)) (aa (kn (cI 1)) (aa (kn (cI 1)) aj)))) (b_ 2) (aq (aX 3 (ao aV (ae 1) (ae 2)))
 (aq (aX 0 (ai kJ (aa (ae 0) (aa (cI 1) (aa (ae 3) (aa (kn (ao cQ (ao aV (ae 0) (ae 2)) (ao aV (ae 3) (ae 2)))) aj))))))
 ar)))
 (aq (retS (ae 0))
 ar))
def gW:List PV->M PV:=bb 2 (ay 4 g_)
def eP:af->M Out :=
 (aq (retS (CK (cD (bR (itemsOf (ae 0)) (b_ 0) none (ao rm (ae 0) (cI 0)) 1 [])) (λ_=>M.ok (.bl true))))
 ar)
def eW:List PV->M PV:=bb 1 (ay 1 eP)
def iC:af->M Out :=
 (aq (iO (dm (ao Bi (ae 1) (ai dj (aa (ae 0) aj)))) (aq (retS (ao aV (ae 0) (ae 1)))
 ar) ar)
 (aq (retS (cI 0))
 ar))
def cX:List PV->M PV:=bb 2 (ay 2 iC)
def cj:af->M Out :=
 (aq (aX 2 (ao cy (ao dc (ao dc (ae 0) (ao bS (cI 7919) (ae 1))) (cI 12345)) (cI 2147483629)))
 (aq (aX 2 (ao cy (ao dc (ao bS (ae 2) (ae 2)) (ao bS (cI 48271) (ae 1))) (cI 2147483629)))
 (aq (retS (ao cy (ao bS (ae 2) (ae 2)) (cI 2147483587)))
 ar)))
def aL:List PV->M PV:=bb 2 (ay 3 cj)
def jF:af->M Out :=
 (aq (retS (pM (rT (λa=>lF a "int") oB oB (ae 0)) (vC (rT (λa=>lF a "bool") oB oB (ae 0)))))
 ar)
def gu:List PV->M PV:=bb 1 (ay 1 jF)
def dr:af->M Out :=
 (aq (pZ 2 (nV aj))
 (aq (iI (itemsOf (ae 1)) (b_ 3) (aq (qH 2 (ao cy (ae 0) (ae 3)))
 (aq (aX 0 (ao cQ (ae 0) (ae 3)))
 ar)))
 (aq (um [2] (retS (ae 2)))
 ar)))
def cO:List PV->M PV:=bb 2 (ay 4 dr)
def gN:af->M Out :=
 (aq (iO (dm (ao j7 (ao cy (ae 0) (cI 2)) (cI 1))) (aq (retS (ai cO (aa (ao cQ (ae 0) (cI 2)) (aa (ae 1) aj))))
 ar) ar)
 (aq (aX 2 (ao aV (λ_=>M.ok (.lst (([1,1,2,3,4,6]:List Int).map PV.int))) (ao cy (ai aL (aa (ae 0) (aa (cI 5) aj))) (cI 6))))
 (aq (aX 3 (ao aV (tP (aa (cI 0) (aa (cI 1) (aa (ao DH (cI 10) (cI 24)) aj)))) (ao cy (ai aL (aa (ae 0) (aa (cI 6) aj))) (cI 3))))
 (aq (pZ 4 (nV aj))
 (aq (iI (i8 p6 (aa (ai dj (aa (ae 1) aj)) aj)) (b_ 5) (aq (aX 6 (ai aL (aa (ae 0) (aa (ao dc (cI 40) (ae 5)) aj))))
 (aq (aX 7 (ao bS (ao kb (ao cy (ai aL (aa (ae 0) (aa (ao dc (cI 60) (ae 5)) aj))) (cI 2001)) (cI 1000)) (ae 3)))
 (aq (qH 4 (ao dc (ao bS (ao bS (ai (yz λi j=>if j<i then j else i) (aa (ao cy (ae 6) (cI 4)) (aa (cI 1) aj))) (ae 2)) (ao cy (ao cQ (ae 6) (cI 4)) (cI 360))) (ao bS (ao aV (ae 1) (ae 5)) (ae 7))))
 ar))))
 (aq (um [4] (retS (ae 4)))
 ar))))))
def dO:List PV->M PV:=bb 2 (ay 8 gN)
def iD:af->M Out :=
 (aq (retS (ai cx (aa (cD (bR (i8 zip2 (aa (ae 0) (aa (ae 1) aj))) (bC 0 1) none (ao cy (ae 0) (ae 1)) 2 [])) aj)))
 ar)
def fO:List PV->M PV:=bb 2 (ay 2 iD)
def dH:af->M Out :=
 (aq (retS (ai cx (aa (cD (bR (i8 zG (aa (ae 2) aj)) (bC 0 1) none (ao cy (ai aL (aa (ae 2) (aa (ao dc (ao dc (ao bS (cI 10) (ae 3)) (cI 200)) (ae 0)) aj))) (ae 1)) 2 [0,1])) aj)))
 ar)
def cV:List PV->M PV:=bb 3 (ay 3 dH)
def eS:af->M Out :=
 (aq (lK (dm (ao FC (ae 1) (cI 0))) (aq (G_ 0 1 (aa (ae 1) (aa (ao cy (ae 0) (ae 1)) aj)))
 ar))
 (aq (retS (ae 0))
 ar))
def dE:List PV->M PV:=bb 2 (ay 2 eS)
def gQ:af->M Out :=
 (aq (aX 1 (cI 1))
 (aq (iI (itemsOf (ae 0)) (b_ 2) (aq (aX 1 (ao bS (ao cQ (ae 1) (ai dE (aa (ae 1) (aa (ae 2) aj)))) (ae 2)))
 ar))
 (aq (retS (ae 1))
 ar)))
def gI:List PV->M PV:=bb 1 (ay 3 gQ)
def fu:af->M Out :=
 (aq (aX 3 (ai gI (aa (ae 2) aj)))
 (aq (retS (ao cy (ai qN (aa (cD (bR (i8 qO (aa (ae 0) (aa (ae 1) (aa (ae 2) aj)))) (ki 0 1 2) none (ao bS (ao bS (ae 0) (ae 1)) (ao cQ (ae 3) (ae 2))) 3 [3])) aj)) (ae 3)))
 ar))
def er:List PV->M PV:=bb 3 (ay 4 fu)
def cw:af->M Out :=
 (aq (iO (ET (jv (dm (rT (λa=>lF a "tuple") oB oB (ae 0)))) (dm (ao rm (ai dj (aa (ae 0) aj)) (ae 1)))) (aq (retS (λ_=>M.ok (.bl false)))
 ar) ar)
 (aq (retS (ao j7 (ai dj (aa (cD (bR (itemsOf (ae 0)) (b_ 0) (some (dm (ai gu (aa (ae 0) aj)))) (ae 0) 1 [])) aj)) (ae 1)))
 ar))
def bP:List PV->M PV:=bb 2 (ay 2 cw)
def gj:af->M Out :=
 (aq (iO (jv (dm (ai bP (aa (ae 1) (aa (ai dj (aa (ae 0) aj)) aj))))) (aq (retS (λ_=>M.ok (.bl false)))
 ar) ar)
 (aq (iI (i8 zG (aa (ae 2) aj)) (bC 4 5) (aq (iO (dm (ao rm (ao cy (ai qN (aa (cD (bR (i8 zip2 (aa (ae 1) (aa (ae 0) aj))) (bC 0 1) none (ao bS (ae 0) (ao aV (ae 1) (ae 2))) 2 [4])) aj)) (ae 5)) (ao aV (ae 3) (ae 4)))) (aq (retS (λ_=>M.ok (.bl false)))
 ar) ar)
 ar))
 (aq (retS (λ_=>M.ok (.bl true)))
 ar)))
def gk:List PV->M PV:=bb 4 (ay 6 gj)
def ik:af->M Out :=
 (aq (iO (jv (dm (ai bP (aa (ae 1) (aa (ai dj (aa (ae 2) aj)) aj))))) (aq (retS (λ_=>M.ok (.bl false)))
 ar) ar)
 (aq (iO (dm (ao rm (ai dj (aa (cD (bR (i8 zG (aa (ae 2) aj)) (bC 0 1) (some (dm (gZ Cq Bi (cI 0) (ao aV (ae 2) (ae 0)) (ae 1)))) (ae 0) 2 [1])) aj)) (ai dj (aa (ae 2) aj)))) (aq (retS (λ_=>M.ok (.bl false)))
 ar) ar)
 (aq (iI (itemsOf (ae 0)) (b_ 4) (aq (iO (dm (ao rm (ai er (aa (ae 1) (aa (ae 4) (aa (ae 2) aj)))) (cI 0))) (aq (retS (λ_=>M.ok (.bl false)))
 ar) ar)
 ar))
 (aq (retS (ao rm (ai er (aa (ae 1) (aa (ae 3) (aa (ae 2) aj)))) (cI 0)))
 ar))))
def ip:List PV->M PV:=bb 4 (ay 5 ik)
def jd:af->M Out :=
 (aq (retS (ai cx (aa (cD (bR (i8 qO (aa (ae 0) (aa (ae 1) (aa (ae 2) aj)))) (ki 0 1 2) none (ao cy (ao kb (ae 1) (ae 0)) (ae 2)) 3 [])) aj)))
 ar)
def jK:List PV->M PV:=bb 3 (ay 3 jd)
def gq:af->M Out :=
 (aq (iO (dm (ao j7 (ao cy (ai aL (aa (ae 0) (aa (cI 1) aj))) (cI 4)) (cI 0))) (aq (retS (ai cV (aa (ae 0) (aa (cI 2) (aa (ae 3) aj)))))
 ar) ar)
 (aq (pZ 4 (BB (ae 1)))
 (aq (iI (i8 zG (aa (ae 2) aj)) (bC 5 6) (aq (aX 7 (ao cy (ai aL (aa (ae 0) (aa (ao dc (cI 100) (ae 5)) aj))) (cI 1000)))
 (aq (pZ 4 (wb 4 (bR (i8 qO (aa (ae 4) (aa (ae 6) (aa (ae 3) aj)))) (ki 0 1 2) none (ao cy (ao dc (ae 0) (ao bS (ae 3) (ae 1))) (ae 2)) 3 [7])))
 ar)))
 (aq (iO (dm (ao j7 (ao cy (ai aL (aa (ae 0) (aa (cI 1) aj))) (cI 4)) (cI 1))) (aq (aX 8 (ao cy (ai aL (aa (ae 0) (aa (cI 2) aj))) (ai dj (aa (ae 3) aj))))
 (aq (GY 4 (ae 8) (qk 4 (ao cy (ao dc (ao aV (ae 4) (ae 8)) (cI 1)) (ao aV (ae 3) (ae 8)))))
 ar)) ar)
 (aq (um [4] (retS (ai cx (aa (ae 4) aj))))
 ar)))))
def eM:List PV->M PV:=bb 4 (ay 9 gq)
def j9:af->M Out :=
 (aq (retS (pM (rT (λa=>lF a "bool") oB oB (ae 0)) (ao j7 (ae 0) (ae 1))))
 ar)
def fY:List PV->M PV:=bb 2 (ay 2 j9)
def jA:af->M Out :=
 (aq (jN (ai gO (aa (ae 1) aj)))
 (aq (jN (ai fx (aa (ae 2) (aa (ai dj (aa (ae 1) aj)) aj))))
 (aq (jy 0 aA "dial_sizes" (ai cx (aa (ae 1) aj)))
 (aq (jy 0 aA "lever_settings" (ai cx (aa (cD (bR (itemsOf (ae 2)) (b_ 0) none (ai jt (aa (ae 0) (aa (ae 1) aj))) 1 [1])) aj)))
 (aq (jy 0 aA "lever_prices" (ai gA (aa (ae 2) (aa (ae 3) aj))))
 (aq (jy 0 aA "least_round" (ai fE (aa (ae 1) aj)))
 ar))))))
def ir:Addr->List PV->M (List (Str×PV)):=mU 4 (qY 4 jA aA)
def br:af->M Out :=
 (aq (retS (dy (λc=>c==aA) "dial_sizes" (ae 0)))
 ar)
def bg:List PV->M PV:=bb 1 (ay 1 br)
def bT:af->M Out :=
 (aq (retS (dy (λc=>c==aA) "lever_settings" (ae 0)))
 ar)
def bq:List PV->M PV:=bb 1 (ay 1 bT)
def kd:af->M Out :=
 (aq (retS (dy (λc=>c==aA) "lever_prices" (ae 0)))
 ar)
def pT:List PV->M PV:=bb 1 (ay 1 kd)
def dD:af->M Out :=
 (aq (retS (dy (λc=>c==aA) "least_round" (ae 0)))
 ar)
def cT:List PV->M PV:=bb 1 (ay 1 dD)
def lD:af->M Out :=
 (aq (jy 0 cS "pulls" (ae 1))
 ar)
def jO:Addr->List PV->M (List (Str×PV)):=mU 2 (qY 2 lD cS)
def lP:af->M Out :=
 (aq (jy 0 de "weights" (ae 1))
 ar)
def lr:Addr->List PV->M (List (Str×PV)):=mU 2 (qY 2 lP de)
def eh:af->M Out :=
 (aq (aX 1 (bD aA "sizes" bg (dy (λc=>c==au) "vault" (ae 0)) aj))
 (aq (retS (ai cx (aa (cD (bR (i8 p6 (aa (ai dj (aa (ae 1) aj)) aj)) (b_ 0) none (ai dF (aa (ae 2) (aa (dy (λc=>c==au) "made_rows" (ae 1)) (aa (ae 0) aj)))) 1 [0,1])) aj)))
 ar))
def ee:List PV->M PV:=bb 1 (ay 2 eh)
def fy:af->M Out :=
 (aq (retS (ai cx (aa (cD (bR (i8 zG (aa (dy (λc=>c==au) "idle_rows" (ae 0)) aj)) (bC 0 1) none (ao aV (ae 1) (ae 0)) 2 [])) aj)))
 ar)
def fJ:List PV->M PV:=bb 1 (ay 1 fy)
def hG:af->M Out :=
 (aq (retS (ao bS (lN (aa (cI 0) aj)) (ai dj (aa (bD aA "sizes" bg (ae 0) aj) aj))))
 ar)
def fN:List PV->M PV:=bb 1 (ay 1 hG)
def gv:af->M Out :=
 (aq (aX 2 (bD aA "sizes" bg (ae 0) aj))
 (aq (iO (ET (jv (dm (rT (λa=>lF a "tuple") oB oB (ae 1)))) (jv (dm (ai fX (aa (ae 1) (aa (ai dj (aa (ae 2) aj)) aj)))))) (aq (retS (λ_=>M.ok (.bl false)))
 ar) ar)
 (aq (retS (ai vZ (aa (cD (bR (i8 zip2 (aa (ae 1) (aa (ae 2) aj))) (bC 0 1) none (gZ Cq Bi (cI 0) (ae 0) (ae 1)) 2 [])) aj)))
 ar)))
def gP:List PV->M PV:=bb 2 (ay 3 gv)
def ja:af->M Out :=
 (aq (retS (pM (rT (λa=>lF a "tuple") oB oB (ae 1)) (ai fX (aa (ae 1) (aa (ai dj (aa (bD aA "levers" bq (ae 0) aj) aj)) aj)))))
 ar)
def je:List PV->M PV:=bb 2 (ay 2 ja)
def cz:af->M Out :=
 (aq (iO (jv (dm (ai gP (aa (ae 0) (aa (ae 1) aj))))) (aq (lM j8 (aa (λ_=>M.ok (.str "this is no setting of the vault")) aj))
 ar) ar)
 ar)
def bF:List PV->M PV:=bb 2 (ay 2 cz)
def gy:af->M Out :=
 (aq (iO (jv (dm (ai je (aa (ae 0) (aa (ae 1) aj))))) (aq (lM nF (aa (λ_=>M.ok (.str "these are no pulls of the vault")) aj))
 ar) ar)
 ar)
def gm:List PV->M PV:=bb 2 (ay 2 gy)
def lT:af->M Out :=
 (aq (aX 4 (cD (bR (i8 zip2 (aa (ae 1) (aa (ae 2) aj))) (bC 0 1) none (ao dc (ae 0) (ao bS (ae 2) (ae 1))) 2 [3])))
 (aq (retS (ai jt (aa (ae 4) (aa (bD aA "sizes" bg (ae 0) aj) aj))))
 ar))
def mw:List PV->M PV:=bb 4 (ay 5 lT)
def l_:af->M Out :=
 (aq (jN (ai bF (aa (ae 0) (aa (ae 1) aj))))
 (aq (jN (ai gm (aa (ae 0) (aa (ae 2) aj))))
 (aq (aX 3 (ae 1))
 (aq (iI (i8 zip2 (aa (bD aA "levers" bq (ae 0) aj) (aa (ae 2) aj))) (bC 4 5) (aq (aX 3 (ai mw (aa (ae 0) (aa (ae 3) (aa (ae 4) (aa (ae 5) aj))))))
 ar))
 (aq (retS (ae 3))
 ar)))))
def lX:List PV->M PV:=bb 3 (ay 6 l_)
def iV:af->M Out :=
 (aq (jN (ai bF (aa (ae 0) (aa (ae 1) aj))))
 (aq (jN (ai bF (aa (ae 0) (aa (ae 2) aj))))
 (aq (retS (ai mw (aa (ae 0) (aa (ae 2) (aa (ae 1) (aa (kn (cI 1)) aj))))))
 ar)))
def iZ:List PV->M PV:=bb 3 (ay 3 iV)
def o7:af->M Out :=
 (aq (jN (ai bF (aa (ae 0) (aa (ae 1) aj))))
 (aq (jN (ai bF (aa (ae 0) (aa (ae 2) aj))))
 (aq (aX 3 (bD aA "around" cT (ae 0) aj))
 (aq (aX 4 (cD (bR (i8 zip2 (aa (ae 1) (aa (bD aA "sizes" bg (ae 0) aj) aj))) (bC 0 1) none (ao bS (ae 0) (ao cQ (ae 2) (ae 1))) 2 [3])))
 (aq (retS (ai jo (aa (ae 4) (aa (ae 2) (aa (ae 3) aj)))))
 ar)))))
def oX:List PV->M PV:=bb 3 (ay 5 o7)
def gT:af->M Out :=
 (aq (retS (lN (aa (ae 1) (aa (ao bS (lN (aa (cI 0) aj)) (ai dj (aa (bD aA "levers" bq (ae 0) aj) aj))) aj))))
 ar)
def fe:List PV->M PV:=bb 2 (ay 2 gT)
def fI:af->M Out :=
 (aq (aX 2 (bD aA "levers" bq (ae 0) aj))
 (aq (retS (lN (aa (ao aV (ae 2) (ae 1)) (aa (ai jH (aa (ai dj (aa (ae 2) aj)) (aa (ae 1) aj))) aj))))
 ar))
def fw:List PV->M PV:=bb 2 (ay 3 fI)
def gD:af->M Out :=
 (aq (iO (dm (ao j7 (ao cy (ae 0) (cI 2)) (cI 1))) (aq (retS (cD (bR (itemsOf (ai cO (aa (ao cQ (ae 0) (cI 6)) (aa (ao bS (tP (aa (cI 359) aj)) (ao dc (cI 1) (ao cy (ao cQ (ae 0) (cI 2)) (cI 3)))) aj)))) (b_ 0) none (ao dc (cI 2) (ae 0)) 1 [])))
 ar) ar)
 (aq (aX 1 (ao aV (tP (aa (cI 12) (aa (cI 60) (aa (cI 360) aj)))) (ao cy (ai aL (aa (ae 0) (aa (cI 2) aj))) (cI 3))))
 (aq (retS (cD (bR (i8 p6 (aa (ao dc (cI 1) (ao cy (ai aL (aa (ae 0) (aa (cI 1) aj))) (cI 6))) aj)) (b_ 0) none (ao dc (cI 2) (ao cy (ai aL (aa (ae 1) (aa (ao dc (cI 30) (ae 0)) aj))) (ao kb (ae 2) (cI 1)))) 1 [0,1])))
 ar)))
def gC:List PV->M PV:=bb 1 (ay 2 gD)
def jr:af->M Out :=
 (aq (aX 2 (bD aA "sizes" bg (ae 1) aj))
 (aq (aX 3 (cD (bR (itemsOf (ae 2)) (b_ 0) none (ai fe (aa (ae 1) (aa (ai fN (aa (ae 1) aj)) aj))) 1 [1])))
 (aq (pZ 4 (nV aj))
 (aq (iI (i8 p6 (aa (ai dj (aa (bD aA "levers" bq (ae 1) aj) aj)) aj)) (b_ 5) (aq (aX 6 (ai i_ (aa (ae 2) (aa (ae 3) (aa (ai fw (aa (ae 1) (aa (ae 5) aj))) aj)))))
 (aq (aX 3 (ao aV (ae 6) (cI 0)))
 (aq (qH 4 (qk 4 (ai gW (aa (ao aV (ae 6) (cI 1)) (aa (ae 4) aj)))))
 ar))))
 (aq (jy 0 au "vault" (ae 1))
 (aq (jy 0 au "made_rows" (cD (bR (i8 zG (aa (ae 3) aj)) (bC 0 1) none (ai fk (aa (ae 2) (aa (ae 3) (aa (ae 1) (aa (ao dc (ae 0) (cI 1)) aj))))) 2 [2,3])))
 (aq (um [4] (jy 0 au "idle_rows" (ae 4)))
 ar)))))))
def cB:Addr->List PV->M (List (Str×PV)):=mU 2 (qY 7 jr au)
def bO:af->M Out :=
 (aq (jN (ai bF (aa (dy (λc=>c==au) "vault" (ae 0)) (aa (ae 1) aj))))
 (aq (retS (ai fk (aa (bD aA "sizes" bg (dy (λc=>c==au) "vault" (ae 0)) aj) (aa (dy (λc=>c==au) "made_rows" (ae 0)) (aa (ai fe (aa (dy (λc=>c==au) "vault" (ae 0)) (aa (ae 1) aj))) (aa (cI 0) aj))))))
 ar))
def bx:List PV->M PV:=bb 2 (ay 2 bO)
def dw:af->M Out :=
 (aq (retS (ao aV (bD au "brought_down" bx (ae 0) (aa (ae 1) aj)) (cI 0)))
 ar)
def dq:List PV->M PV:=bb 2 (ay 2 dw)
def cu:af->M Out :=
 (aq (aX 2 (bD au "brought_down" bx (ae 0) (aa (ae 1) aj)))
 (aq (iO (dm (ao rm (ao aV (ae 2) (cI 0)) (ai fN (aa (dy (λc=>c==au) "vault" (ae 0)) aj)))) (aq (retS (λ_=>M.ok .cR))
 ar) ar)
 (aq (retS (ai gW (aa (ai cx (aa (cD (bR (itemsOf (ao aV (ae 2) (cI 1))) (b_ 0) none (kn (ae 0)) 1 [])) aj)) (aa (dy (λc=>c==au) "idle_rows" (ae 0)) aj))))
 ar)))
def bK:List PV->M PV:=bb 2 (ay 3 cu)
def c9:af->M Out :=
 (aq (aX 2 (bD aA "sizes" bg (dy (λc=>c==au) "vault" (ae 0)) aj))
 (aq (iO (jv (dm (ai dG (aa (ae 1) (aa (cI 0) (aa (ao kb (ai dj (aa (ae 2) aj)) (cI 1)) aj)))))) (aq (jn fS "dial" (aa (ae 1) aj))
 ar) ar)
 (aq (aX 3 (cD (bR (i8 zip2 (aa (ae 2) (aa (bD au "steps" ee (ae 0) aj) aj))) (bC 0 1) none (ao cQ (ae 0) (ae 1)) 2 [])))
 (aq (pZ 4 (HZ (tP (aa (cI 0) aj)) (ai dj (aa (ae 2) aj))))
 (aq (GY 4 (ae 1) (ao cy (ao aV (ae 3) (ae 1)) (ao aV (ae 2) (ae 1))))
 (aq (iI (i8 zk (aa (ao kb (ae 1) (cI 1)) (aa (kn (cI 1)) (aa (kn (cI 1)) aj)))) (b_ 5) (aq (aX 6 (qk 4 (ai oX (aa (dy (λc=>c==au) "vault" (ae 0)) (aa (ai cx (aa (ae 4) aj)) (aa (ao aV (ao aV (dy (λc=>c==au) "made_rows" (ae 0)) (ae 5)) (cI 0)) aj))))))
 (aq (aX 7 (ao cQ (bD aA "around" cT (dy (λc=>c==au) "vault" (ae 0)) aj) (ao aV (ae 3) (ae 5))))
 (aq (GY 4 (ae 5) (ao cy (kn (ao cQ (ae 6) (ae 7))) (ao aV (ae 3) (ae 5))))
 ar))))
 (aq (um [4] (retS (ai cx (aa (ae 4) aj))))
 ar)))))))
def c_:List PV->M PV:=bb 2 (ay 8 c9)
def mv:af->M Out :=
 (aq (aX 3 (ai iZ (aa (ae 0) (aa (ae 1) (aa (ae 2) aj)))))
 (aq (aX 4 (ai (dR au cB []) (aa (ae 0) aj)))
 (aq (aX 5 (bD au "pulls_to" bK (ae 4) (aa (ae 3) aj)))
 (aq (iO (dm (ao kQ (ae 5) (λ_=>M.ok .cR))) (aq (retS (ai (dR cS jO []) (aa (ae 5) aj)))
 ar) ar)
 (aq (retS (ai (dR de lr []) (aa (bD au "weights_at" c_ (ae 4) (aa (ai eW (aa (bD au "least" dq (ae 4) (aa (ae 3) aj)) aj)) aj)) aj)))
 ar)))))
def kO:List PV->M PV:=bb 3 (ay 6 mv)
def dP:af->M Out :=
 (aq (retS (ai eQ (aa (bD au "spans" fJ (ai (dR au cB []) (aa (ae 0) aj)) aj) aj)))
 ar)
def dQ:List PV->M PV:=bb 1 (ay 1 dP)
def fL:af->M Out :=
 (aq (retS (ai eQ (aa (bD au "steps" ee (ai (dR au cB []) (aa (ae 0) aj)) aj) aj)))
 ar)
def fH:List PV->M PV:=bb 1 (ay 1 fL)
def gY:af->M Out :=
 (aq (retS (bD au "least" dq (ai (dR au cB []) (aa (ae 0) aj)) (aa (ae 1) aj)))
 ar)
def c7:List PV->M PV:=bb 2 (ay 2 gY)
def mz:af->M Out :=
 (aq (aX 3 (ai iZ (aa (ae 0) (aa (ae 1) (aa (ae 2) aj)))))
 (aq (retS (ao j7 (bD au "least" dq (ai (dR au cB []) (aa (ae 0) aj)) (aa (ae 3) aj)) (ai fN (aa (ae 0) aj))))
 ar))
def jY:List PV->M PV:=bb 3 (ay 4 mz)
def l4:af->M Out :=
 (aq (retS (bD au "pulls_to" bK (ai (dR au cB []) (aa (ae 0) aj)) (aa (ai lX (aa (ae 0) (aa (ai fN (aa (ae 0) aj)) (aa (ae 1) aj)))) aj)))
 ar)
def kc:List PV->M PV:=bb 2 (ay 2 l4)
def ff:af->M Out :=
 (aq (aX 5 (ai kO (aa (ae 0) (aa (ae 3) (aa (ae 4) aj)))))
 (aq (aX 6 (ai jK (aa (ae 3) (aa (ae 4) (aa (ae 2) aj)))))
 (aq (iO (zc (dm (rT (λ_=>false) (ma f7 gb) (ma j5 kj) (ae 5))) (dm (ai gk (aa (ae 1) (aa (dy (λc=>c==cS) "pulls" (ae 5)) (aa (ae 2) (aa (ae 6) aj))))))) (aq (retS (ae 5))
 ar) ar)
 (aq (iO (zc (dm (rT (λ_=>false) (ma mM mQ) (ma tD uR) (ae 5))) (dm (ai ip (aa (ae 1) (aa (dy (λc=>c==de) "weights" (ae 5)) (aa (ae 2) (aa (ae 6) aj))))))) (aq (retS (ae 5))
 ar) ar)
 (aq (retS (λ_=>M.ok .cR))
 ar)))))
def dM:List PV->M PV:=bb 5 (ay 7 ff)
def fF:af->M Out :=
 (aq (aX 4 (ai c7 (aa (ae 0) (aa (ae 3) aj))))
 (aq (iO (ET (jv (dm (ai bP (aa (ae 4) (aa (ai dj (aa (ae 2) aj)) aj))))) (dm (ao rm (ai c7 (aa (ae 0) (aa (ae 4) aj))) (ae 4)))) (aq (retS (λ_=>M.ok (.bl false)))
 ar) ar)
 (aq (retS (rT (λ_=>false) (ma f7 gb) (ma j5 kj) (ai dM (aa (ae 0) (aa (ae 1) (aa (ae 2) (aa (ae 3) (aa (ae 4) aj))))))))
 ar)))
def dX:List PV->M PV:=bb 4 (ay 5 fF)
def ij:af->M Out :=
 (aq (aX 4 (ai cV (aa (ae 3) (aa (cI 1) (aa (ae 2) aj)))))
 (aq (aX 5 (ai eM (aa (ae 3) (aa (ae 4) (aa (ae 1) (aa (ae 2) aj))))))
 (aq (iO (dm (ao j7 (ao cy (ae 3) (cI 2)) (cI 1))) (aq (aX 6 (ai cO (aa (ao cQ (ae 3) (cI 2)) (aa (ao dc (ae 2) (ae 2)) aj))))
 (aq (aX 4 (ai cx (aa (jc (ae 6) vT (iG (ai dj (aa (ae 2) aj)))) aj)))
 (aq (aX 5 (ai cx (aa (jc (ae 6) (iG (ai dj (aa (ae 2) aj))) vT) aj)))
 ar))) ar)
 (aq (aX 7 (ai dM (aa (ae 0) (aa (ae 1) (aa (ae 2) (aa (ae 4) (aa (ae 5) aj)))))))
 (aq (aX 8 (rT (λ_=>false) (ma f7 gb) (ma j5 kj) (ae 7)))
 (aq (aX 9 (ao cy (ai aL (aa (ae 3) (aa (cI 3) aj))) (cI 4)))
 (aq (iO (ET (dm (ao uE (ae 7) (λ_=>M.ok .cR))) (zc (dm (ao j7 (ae 9) (cI 0))) (jv (dm (ai dX (aa (ae 0) (aa (ae 1) (aa (ae 2) (aa (ae 4) aj))))))))) (aq (retS (λ_=>M.ok (.bl false)))
 ar) ar)
 (aq (iO (dm (ao j7 (ae 9) (cI 1))) (aq (retS (ai fY (aa (ai jY (aa (ae 0) (aa (ae 4) (aa (ae 5) aj)))) (aa (ae 8) aj))))
 ar) ar)
 (aq (iO (dm (ao j7 (ae 9) (cI 2))) (aq (aX 10 (ai c7 (aa (ae 0) (aa (ae 4) aj))))
 (aq (retS (pM (ao j7 (ao j7 (ae 10) (ai c7 (aa (ae 0) (aa (ae 5) aj)))) (ae 8)) (Ja (vC (ae 8)) (ao Im (ae 10) (ai CC (aa (ae 4) (aa (ae 5) aj)))))))
 ar)) ar)
 (aq (retS (Ja (vC (ae 8)) (ao j7 (ai kc (aa (ae 0) (aa (dy (λc=>c==cS) "pulls" (ae 7)) aj))) (dy (λc=>c==cS) "pulls" (ae 7)))))
 ar))))))))))
def hZ:List PV->M PV:=bb 4 (ay 11 ij)
def Bh:af->M Out :=
 (aq (aX 1 (jc (ai gC (aa (ai cX (aa (ae 0) (aa (cI 0) aj))) aj)) vT (iG (cI 3))))
 (aq (aX 2 (ao cy (ai aL (aa (ai cX (aa (ae 0) (aa (cI 1) aj))) (aa (cI 1) aj))) (cI 5)))
 (aq (aX 3 (cD (bR (i8 p6 (aa (ae 2) aj)) (b_ 0) none (ai dO (aa (ai cX (aa (ae 1) (aa (ao dc (cI 2) (ae 0)) aj))) (aa (ae 2) aj))) 1 [0,1])))
 (aq (aX 4 (ai (dR aA ir [.cR]) (aa (ai yq (aa (ae 1) aj)) (aa (ae 3) aj))))
 (aq (aX 5 (cD (bR (itemsOf (ae 3)) (b_ 0) none (ai fO (aa (ae 0) (aa (ae 1) aj))) 1 [1])))
 (aq (iI (itemsOf (jc (ae 0) (iG (cI 7)) (iG (cI 63)))) (b_ 6) (aq (iO (jv (dm (ai hZ (aa (ae 4) (aa (ae 5) (aa (ae 1) (aa (ae 6) aj))))))) (aq (retS (λ_=>M.ok (.bl false)))
 ar) ar)
 ar))
 (aq (aX 7 (cI 1))
 (aq (iI (itemsOf (ae 1)) (b_ 8) (aq (aX 7 (ao bS (ae 7) (ae 8)))
 ar))
 (aq (aX 9 (tP (aa (ai dQ (aa (ae 4) aj)) (aa (ai fH (aa (ae 4) aj)) aj))))
 (aq (retS (pM (ai bP (aa (ai cx (aa (ae 9) aj)) (aa (cI 2) aj))) (pM (ao FC (ai (CG λi j=>decide (i<j)) (aa (ae 9) aj)) (cI 0)) (ao j7 (ao bS (ao aV (ae 9) (cI 0)) (ao aV (ae 9) (cI 1))) (ae 7)))))
 ar))))))))))
def sU:List PV->M PV:=bb 1 (ay 10 Bh)
end wK
namespace wK
open PySem L2 PyProof.Rows
local macro_rules | `(tactic| walk_at "s")=>`(tactic| exact⟨rfl,rfl,rfl,by decide +kernel,rfl,by decide +kernel,by decide +kernel⟩)
local macro_rules | `(tactic| walk_at "l")=>`(tactic| first | exact .inl rfl | exact .inr rfl)
local macro_rules | `(tactic| walk_at "pp")=>`(tactic| all_goals repeat' (first | ((with_reducible show mL _ _ (tS _ (aq _ _)));refine Cu ?_ ?_) | ((with_reducible show mL _ _ (tS _ ar));exact EA) | ((with_reducible show PE _ _ (tE _ (ae _)));exact vr _) | ((with_reducible show PA _ _ (tL _ (aa _ _)));refine yK ?_ ?_ (FP rfl)) | ((with_reducible show PA _ _ (tL _ aj));exact Bb) | ((with_reducible show PE _ _ (tE _ (λ_=>M.ok (.int _))));first | exact BU | exact mF (J8 (by rfl) (by assumption)) λ_=>.int _) | ((with_reducible show PE _ _ (tE _ (λ_=>M.ok (.bl _))));exact Kg) | ((with_reducible show PE _ _ (tE _ (λ_=>M.ok .cR)));exact Gf) | ((with_reducible show PE _ _ (tE _ (λ_=>M.ok (.str _))));exact IS) | ((with_reducible show PE _ _ (tE _ (ao dc _ _)));refine nu DX Hq ?_ ?_) | ((with_reducible show PE _ _ (tE _ (ao kb _ _)));refine nu F7 Hb ?_ ?_) | ((with_reducible show PE _ _ (tE _ (ao bS _ _)));refine nu Ec Ga ?_ ?_) | ((with_reducible show PE _ _ (tE _ (ao cQ _ _)));refine nu AM Cf ?_ ?_) | ((with_reducible show PE _ _ (tE _ (ao cy _ _)));refine nu Ez DM ?_ ?_) | ((with_reducible show PE _ _ (tE _ (ao DH _ _)));refine nu Hl EC ?_ ?_) | ((with_reducible show PE _ _ (tE _ (ao aV _ _)));refine Hu ?_ ?_ ?_) | ((with_reducible show uB _);exact λ_ _=>rfl) | ((with_reducible show PT _ _ (tT _ (dm (ao j7 _ _))));refine ka (Cv (cJ.units (by assumption))) FZ ?_ ?_ (dz _)) | ((with_reducible show PE _ _ (tE _ (ao j7 _ _)));refine jJ (Cv (cJ.units (by assumption))) FZ ?_ ?_ (dz _)) | ((with_reducible show PT _ _ (tT _ (dm (ao rm _ _))));refine ka (AU (cJ.units (by assumption))) Ft ?_ ?_ (dz _)) | ((with_reducible show PE _ _ (tE _ (ao rm _ _)));refine jJ (AU (cJ.units (by assumption))) Ft ?_ ?_ (dz _)) | ((with_reducible show PT _ _ (tT _ (dm (ao Bi _ _))));refine ka yL tj ?_ ?_ (dz _)) | ((with_reducible show PE _ _ (tE _ (ao Bi _ _)));refine jJ yL tj ?_ ?_ (dz _)) | ((with_reducible show PT _ _ (tT _ (dm (ao Cq _ _))));refine ka sF m9 ?_ ?_ (dz _)) | ((with_reducible show PE _ _ (tE _ (ao Cq _ _)));refine jJ sF m9 ?_ ?_ (dz _)) | ((with_reducible show PT _ _ (tT _ (dm (ao FC _ _))));refine ka F6 Bq ?_ ?_ (dz _)) | ((with_reducible show PE _ _ (tE _ (ao FC _ _)));refine jJ F6 Bq ?_ ?_ (dz _)) | ((with_reducible show PT _ _ (tT _ (dm (ao Jd _ _))));refine ka F3 C0 ?_ ?_ (dz _)) | ((with_reducible show PE _ _ (tE _ (ao Jd _ _)));refine jJ F3 C0 ?_ ?_ (dz _)) | ((with_reducible show PT _ _ (tT _ (dm (ao uE _ _))));refine ka Az BL ?_ ?_ (dz _)) | ((with_reducible show PE _ _ (tE _ (ao uE _ _)));refine jJ Az BL ?_ ?_ (dz _)) | ((with_reducible show PT _ _ (tT _ (dm (ao kQ _ _))));refine ka yn yi ?_ ?_ (dz _)) | ((with_reducible show PE _ _ (tE _ (ao kQ _ _)));refine jJ yn yi ?_ ?_ (dz _)) | ((with_reducible show PT _ _ (tT _ (jv _)));refine Hz ?_) | ((with_reducible show PT _ _ (tT _ (dm (ai _ _))));refine tf ?_) | ((with_reducible show PT _ _ (tT _ (dm (rT _ _ _ _))));refine tf ?_) | ((with_reducible show PT _ _ (tT _ (dm (bD _ _ _ _ _))));refine tf ?_) | ((with_reducible show PT _ _ (tT _ (dm (ae _))));refine tf ?_) | ((with_reducible show PS _ _ (tS _ (retS _)));refine G7 ?_) | ((with_reducible show PS _ _ (tS _ (aX _ _)));refine HE (by assumption) rfl (by walk_at "l") ?_) | ((with_reducible show PS _ _ (tS _ (iO _ _ _)));refine Ka ?_ ?_ ?_) | ((with_reducible show PS _ _ (tS _ (qH _ _)));refine z0 rfl (by first | exact .inl rfl | exact .inr (.inl rfl)) ?_) | ((with_reducible show PS _ _ (tS _ (pZ _ _)));refine D8 (by assumption) rfl (by walk_at "l") ?_) | ((with_reducible show PE _ _ (tO _ (nV _)));refine GP ?_) | ((with_reducible show PS _ _ (tS _ (um _ _)));refine Iw _ ?_) | ((with_reducible show PS _ _ (tS _ (jN _)));refine Fi ?_) | ((with_reducible show PS _ _ (tS _ (lM _ _)));refine z_.raise (by assumption) (by assumption) rfl (by rfl) ?_) | ((with_reducible show PS _ _ (tS _ (jn _ _ _)));refine rD.raise (by assumption) (by assumption) (by omega) (by assumption) rfl (by rfl) ?_) | ((with_reducible show PE _ _ (tE _ (lN _)));refine HW ?_) | ((with_reducible show PE _ _ (tE _ (tP _)));refine A9 ?_) | ((with_reducible show PE _ _ (tE _ (kn _)));refine HJ ?_) | ((with_reducible show PE _ _ (tE _ (zR _ _ _)));refine GC ?_ ?_ ?_) | ((with_reducible show PE _ _ (tE _ (dy _ _ _)));refine IP ?_ (by assumption) rfl) | ((with_reducible show PE _ _ (tE _ (ai dj _)));refine g9 zw HS (by rfl) (by assumption) PySem.boot_len ?_) | ((with_reducible show PE _ _ (tE _ (ai cx _)));refine rY qS Bc (by rfl) (by assumption) j6 ?_) | ((with_reducible show PE _ _ (tE _ (ai yq _)));refine rY mG DT (by rfl) (by assumption) tJ ?_) | ((with_reducible show PE _ _ (tE _ (ai qN _)));refine g9 (zO rfl) IE (by rfl) (by assumption) HU ?_) | ((with_reducible show PE _ _ (tE _ (ai vZ _)));refine g9 (zp rfl) GS (by rfl) (by assumption) Ie ?_) | ((with_reducible show PE _ _ (tE _ (ai (dR _ _ _) _)));refine wJ.make (by assumption) (by assumption) (by omega) (by rfl) (by first | assumption | exact yk) ?_) | ((with_reducible show PE _ _ (tE _ (ai _ _)));refine cq.call (by assumption) (by assumption) (by omega) (by rfl) (by first | assumption | exact yk) ?_) | ((with_reducible show PE _ _ (tE _ (bD _ _ _ _ aj)));refine k_.J3 (by assumption) (by assumption) (by omega) (by first | assumption | exact yk) ?_) | ((with_reducible show PE _ _ (tE _ (bD _ _ _ _ _)));refine k_.call (by assumption) (by assumption) (by omega) (by first | assumption | exact yk) ?_ ?_)))
def top(i:Nat):Stmt:=PySem.Challenge.pw_dialvault_k36_whole_one_stands_for_a_cla.main.body.getD i (.Pass ⟨0,0,0,0⟩)
structure Txt (K:PySem.W.Frag) (mg:Str->Option Value):Prop where
 Kv:mg "all" = none
 t_:mg "bool" = none
 cp:mg "enumerate" = none
 Cb:mg "int" = none
 bj:mg "isinstance" = none
 KQ:mg "len" = none
 wR:mg "list" = none
 Fv:mg "max" = none
 yg:mg "min" = none
 eU:mg "range" = none
 J7:mg "sum" = none
 mH:mg "tuple" = none
 ia:mg "zip" = none
 rh:∃ u,mg "LEAST_PRICE" = some u/\RelV (.int 1) u
 uF:∃ u,mg "LEAST_SIZE" = some u/\RelV (.int 2) u
 uC:∃ u,mg "MOST_DIALS" = some u/\RelV (.int 6) u
 rH:∃ u,mg "MOST_LEVERS" = some u/\RelV (.int 8) u
 sZ:∃ u,mg "MOST_PRICE" = some u/\RelV (.int 1000) u
 wa:∃ u,mg "MOST_SIZE" = some u/\RelV (.int 360) u
 FR:kE K de
 o4:kE K au
 mB:kE K aA
 FU:kE K cS
 z9:z_ K mg nF "NoPulls"
 v7:z_ K mg j8 "NoSetting"
 zq:z_ K mg kS "TooMany"
 lr:Jh K mg "Bar" de tD uR mM mQ
 jO:Jh K mg "Way" cS j5 kj f7 gb
 lq:bH K de "weights"
 h_:bH K au "idle_rows"
 iE:bH K au "made_rows"
 lA:bH K au "vault"
 gU:bH K aA "dial_sizes"
 gg:bH K aA "least_round"
 fP:bH K aA "lever_prices"
 eN:bH K aA "lever_settings"
 og:bH K cS "pulls"
 tQ:∀ C,(C==aA)=true->kE K C/\bH K C "dial_sizes"
 vP:∀ C,(C==au)=true->kE K C/\bH K C "idle_rows"
 q_:∀ C,(C==aA)=true->kE K C/\bH K C "least_round"
 qm:∀ C,(C==aA)=true->kE K C/\bH K C "lever_prices"
 m_:∀ C,(C==aA)=true->kE K C/\bH K C "lever_settings"
 vd:∀ C,(C==au)=true->kE K C/\bH K C "made_rows"
 DA:∀ C,(C==cS)=true->kE K C/\bH K C "pulls"
 E4:∀ C,(C==au)=true->kE K C/\bH K C "vault"
 z6:∀ C,(C==de)=true->kE K C/\bH K C "weights"
local macro_rules | `(tactic| walk_at "t")=>`(tactic| (have z:=‹Txt _ _›;cases z))
variable{P:Program}{w:World}{K:PySem.W.Frag}{mg:Str->Option Value}{base:Heap}{f:Addr}{fd:FuncData}{dv:Value}
theorem vy(F:aZ K "is_whole" "is_whole" (top 10) dv f fd)(T:Txt K mg)  : aO P w K mg base (bG P w) 1 f fd ["thing"] (cW 1 fb) :=
 F.dU ["thing"] λnd _ _ _ _ _ _ hr O=>by
 unfold jw;walk_at "t"
 walk_at "pp"
 refine(j3 ?_ (jB ?_))
 walk_at "pp"
 refine(kf (T := "int") (by rfl) T.bj (fv (v:=.ty "int") (by rfl) T.Cb A4 rfl) (by decide) kD kD ?_)
 walk_at "pp"
 refine(tN ?_)
 walk_at "pp"
 refine(kf (T := "bool") (by rfl) T.bj (fv (v:=.ty "bool") (by rfl) T.t_ tK rfl) (by decide) kD kD ?_)
 walk_at "pp"
theorem vJ:((["number"]:List Str)++([]:List Str)).Nodup:=by decide +kernel
theorem Ae(F:aZ K "is_row" "is_row" (top 11) dv f fd)(T:Txt K mg)(N1:cq P w K mg base 1 "is_whole" 1 (ay 1 jw)):aO P w K mg base (bG P w) 2 f fd ["thing", "length"] (cW 2 fX) :=
 F.dU ["thing", "length"] λnd _ _ _ _ _ _ hr O=>by
 unfold iT;walk_at "t"
 walk_at "pp"
 refine(r9 ?_ (nr ?_)).pt
 walk_at "pp"
 refine(EY (Ts:=["list", "tuple"]) (by rfl) T.bj (A7 (eB (fv (v:=.ty "list") (by rfl) T.wR tJ rfl) (eB (fv (v:=.ty "tuple") (by rfl) T.mH j6 rfl) kz))) (fun σ H R h=>⟨by show 2<=sizeLine;decide,h⟩) (by decide) kD ?_)
 walk_at "pp"
 refine(cG (bA (g:=(aJ 0)) (ts:=["number"]) (fs:=[]) (js:=[]) (cl:=[]) rfl rfl rfl rfl rfl rfl .nil .nil (eE ?_) c8 (λ_ _ _ _ _=>(aM (i:=0) vJ)) (λ_=>bw) bV (λ_ _ _ _ _=>?_)))
 walk_at "pp"
theorem Aj(F:aZ K "common" "common" (top 12) dv f fd)(T:Txt K mg)  : aO P w K mg base (bG P w) 1 f fd ["one", "other"] (cW 2 fW) :=
 F.dU ["one", "other", "row", "behind", "times", "rest"] λnd _ _ _ _ _ _ hr O=>by
 unfold kB;walk_at "t"
 walk_at "pp"
 refine(wD O ?_ ?_)
 walk_at "pp"
theorem pk(F:aZ K "multiple_of" "multiple_of" (top 13) dv f fd)(T:Txt K mg)(OB:cq P w K mg base 1 "common" 2 (ay 6 kB)):aO P w K mg base (bG P w) 2 f fd ["numbers"] (cW 1 fE) :=
 F.dU ["numbers", "multiple", "number"] λnd _ _ _ _ _ _ hr O=>by
 unfold fz;walk_at "t"
 walk_at "pp"
 refine(ck (g:=(aJ 2)) O rfl (eE ?_) c8 (aM (i:=2) nd) bw ?_)
 walk_at "pp"
theorem qP(F:aZ K "product_of" "product_of" (top 14) dv f fd)(T:Txt K mg)  : aO P w K mg base (bG P w) 1 f fd ["numbers"] (cW 1 eQ) :=
 F.dU ["numbers", "product", "number"] λnd _ _ _ _ _ _ hr O=>by
 unfold eO;walk_at "t"
 walk_at "pp"
 refine(ck (g:=(aJ 2)) O rfl (eE ?_) c8 (aM (i:=2) nd) bw ?_)
 walk_at "pp"
theorem qU:((["other"]:List Str)++(["place"]:List Str)).Nodup:=by decide +kernel
theorem vp(F:aZ K "unit_row" "unit_row" (top 15) dv f fd)(T:Txt K mg)  : aO P w K mg base (bG P w) 1 f fd ["length", "place"] (cW 2 jH) :=
 F.dU ["length", "place"] λnd _ _ _ _ _ _ hr O=>by
 unfold jC;walk_at "t"
 walk_at "pp"
 refine(cG (bA (g:=(aJ 0)) (ts:=["other"]) (fs:=["place"]) (js:=[1]) rfl rfl rfl rfl rfl rfl (.cons rfl .nil) (.cons rfl rfl (by walk_at "l") rfl rfl .nil) (fj (by rfl) T.eU ?_) hU (λ_ _ _ _ _=>(aM (i:=0) qU)) (λ_=>bw) bV (λ_ _ _ _ _=>?_)))
 walk_at "pp"
theorem lu:((["number", "other"]:List Str)++([]:List Str)).Nodup:=by decide +kernel
theorem wB(F:aZ K "rest_sum" "rest_sum" (top 16) dv f fd)(T:Txt K mg)  : aO P w K mg base (bG P w) 1 f fd ["numbers", "others", "by"] (cW 3 jo) :=
 F.dU ["numbers", "others", "by"] λnd _ _ _ _ _ _ hr O=>by
 unfold jz;walk_at "t"
 walk_at "pp"
 refine(cG (bA (g:=(f6 K 2 (bc (aJ 0) (bc (aJ 1) f_)))) (ts:=["number", "other"]) (fs:=[]) (js:=[]) (cl:=[]) rfl rfl rfl rfl rfl rfl .nil .nil (iL (by rfl) T.ia ?_) fK (λ_ _ _ _ _=>(cF (n:=2) rfl (aC (aM (i:=0) lu) (aC (aM (i:=1) lu) bI)))) (λ_=>cn) bM (λ_ _ _ _ _=>?_)))
 walk_at "pp"
theorem ua(F:aZ K "is_within" "is_within" (top 25) dv f fd)(T:Txt K mg)(N1:cq P w K mg base 1 "is_whole" 1 (ay 1 jw)):aO P w K mg base (bG P w) 2 f fd ["thing", "least", "most"] (cW 3 dG) :=
 F.dU ["thing", "least", "most"] λnd _ _ _ _ _ _ hr O=>by
 unfold eI;walk_at "t"
 walk_at "pp"
 refine(j3 ?_ (jB ?_))
 walk_at "pp"
 refine(vK sF m9 sF m9 ?_ ?_ ?_)
 walk_at "pp"
theorem rF(F:aZ K "need_sizes" "need_sizes" (top 26) dv f fd)(T:Txt K mg)(OG:rD P w K mg base fS "NoDial" "dial")(NI:cq P w K mg base 2 "is_within" 3 (ay 3 eI)):aO P w K mg base (bG P w) 3 f fd ["sizes"] (cW 1 gO) :=
 F.dU ["sizes", "dial", "size"] λnd _ _ _ _ _ _ hr O=>by
 unfold gG;walk_at "t"
 walk_at "pp"
 refine(ck (g:=(f6 K 2 (bc (aJ 1) (bc (aJ 2) f_)))) O rfl (jl (by rfl) T.cp ?_) gE (cF (n:=2) rfl (aC (aM (i:=1) nd) (aC (aM (i:=2) nd) bI))) cn ?_)
 walk_at "pp"
theorem qA(F:aZ K "need_levers" "need_levers" (top 27) dv f fd)(T:Txt K mg)(NX:cq P w K mg base 2 "is_row" 2 (ay 2 iT))(O_:rD P w K mg base iX "NoLever" "lever"):aO P w K mg base (bG P w) 3 f fd ["levers", "dials"] (cW 2 fx) :=
 F.dU ["levers", "dials", "place", "lever"] λnd _ _ _ _ _ _ hr O=>by
 unfold fG;walk_at "t"
 walk_at "pp"
 refine(ck (g:=(f6 K 2 (bc (aJ 2) (bc (aJ 3) f_)))) O rfl (jl (by rfl) T.cp ?_) gE (cF (n:=2) rfl (aC (aM (i:=2) nd) (aC (aM (i:=3) nd) bI))) cn ?_)
 walk_at "pp"
theorem rK(F:aZ K "prices_for" "prices_for" (top 28) dv f fd)(T:Txt K mg)(Pa:rD P w K mg base gR "NoPrice" "lever")(NI:cq P w K mg base 2 "is_within" 3 (ay 3 eI)):aO P w K mg base (bG P w) 3 f fd ["levers", "prices"] (cW 2 gA) :=
 F.dU ["levers", "prices", "place"] λnd _ _ _ _ _ _ hr O=>by
 unfold gJ;walk_at "t"
 walk_at "pp"
 refine(ck (g:=(aJ 2)) O rfl (fj (by rfl) T.eU ?_) hU (aM (i:=2) nd) bw ?_)
 walk_at "pp"
 refine(g9 (yZ rfl) yO (by rfl) T.Fv G3 ?_)
 walk_at "pp"
 refine(r9 ?_ (nr ?_)).pt
 walk_at "pp"
theorem qz:((["number", "size"]:List Str)++([]:List Str)).Nodup:=by decide +kernel
theorem Cj(F:aZ K "rests" "rests" (top 29) dv f fd)(T:Txt K mg)  : aO P w K mg base (bG P w) 1 f fd ["numbers", "sizes"] (cW 2 jt) :=
 F.dU ["numbers", "sizes"] λnd _ _ _ _ _ _ hr O=>by
 unfold kL;walk_at "t"
 walk_at "pp"
 refine(cG (bA (g:=(f6 K 2 (bc (aJ 0) (bc (aJ 1) f_)))) (ts:=["number", "size"]) (fs:=[]) (js:=[]) (cl:=[]) rfl rfl rfl rfl rfl rfl .nil .nil (iL (by rfl) T.ia ?_) fK (λ_ _ _ _ _=>(cF (n:=2) rfl (aC (aM (i:=0) qz) (aC (aM (i:=1) qz) bI)))) (λ_=>cn) bM (λ_ _ _ _ _=>?_)))
 walk_at "pp"
theorem pF:((["one", "two"]:List Str)++(["times", "others"]:List Str)).Nodup:=by decide +kernel
theorem A1(F:aZ K "mixed" "mixed" (top 44) dv f fd)(T:Txt K mg)  : aO P w K mg base (bG P w) 1 f fd ["row", "times", "other", "others"] (cW 4 kJ) :=
 F.dU ["row", "times", "other", "others"] λnd _ _ _ _ _ _ hr O=>by
 unfold mq;walk_at "t"
 walk_at "pp"
 refine(cG (bA (g:=(f6 K 2 (bc (aJ 0) (bc (aJ 1) f_)))) (ts:=["one", "two"]) (fs:=["times", "others"]) (js:=[1,3]) rfl rfl rfl rfl rfl rfl (.cons rfl (.cons rfl .nil)) (.cons rfl rfl (by walk_at "l") rfl rfl (.cons rfl rfl (by walk_at "l") rfl rfl .nil)) (iL (by rfl) T.ia ?_) fK (λ_ _ _ _ _=>(cF (n:=2) rfl (aC (aM (i:=0) pF) (aC (aM (i:=1) pF) bI)))) (λ_=>cn) bM (λ_ _ _ _ _=>?_)))
 walk_at "pp"
theorem rB(F:aZ K "mixed_made" "mixed_made" (top 45) dv f fd)(T:Txt K mg)(OT:cq P w K mg base 1 "mixed" 4 (ay 4 mq))(Oc:cq P w K mg base 1 "rests" 2 (ay 2 kL)):aO P w K mg base (bG P w) 2 f fd ["sizes", "made", "times", "other", "others"] (cW 5 dN) :=
 F.dU ["sizes", "made", "times", "other", "others", "doing"] λnd _ _ _ _ _ _ hr O=>by
 unfold eK;walk_at "t"
 walk_at "pp"
theorem uq(F:aZ K "step_size" "step_size" (top 48) dv f fd)(T:Txt K mg)  : aO P w K mg base (bG P w) 1 f fd ["sizes", "made_rows", "dial"] (cW 3 dF) :=
 F.dU ["sizes", "made_rows", "dial", "notch"] λnd _ _ _ _ _ _ hr O=>by
 unfold eH;walk_at "t"
 walk_at "pp"
theorem vh(F:aZ K "taken_in" "taken_in" (top 49) dv f fd)(T:Txt K mg)(NJ:cq P w K mg base 1 "step_size" 3 (ay 4 eH))(OB:cq P w K mg base 1 "common" 2 (ay 6 kB))(NR:cq P w K mg base 2 "mixed_made" 5 (ay 6 eK)):aO P w K mg base (bG P w) 3 f fd ["sizes", "made_rows", "left"] (cW 3 i_) :=
 F.dU ["sizes", "made_rows", "left", "wider", "dial", "made", "step", "notch", "found"] λnd _ _ _ _ _ _ hr O=>by
 unfold jg;walk_at "t"
 walk_at "pp"
 refine(ck (g:=(f6 K 2 (bc (aJ 4) (bc (aJ 5) f_)))) O rfl (jl (by rfl) T.cp ?_) gE (cF (n:=2) rfl (aC (aM (i:=4) nd) (aC (aM (i:=5) nd) bI))) cn ?_)
 walk_at "pp"
theorem xU(F:aZ K "lowered" "lowered" (top 50) dv f fd)(T:Txt K mg)(NJ:cq P w K mg base 1 "step_size" 3 (ay 4 eH))(NR:cq P w K mg base 2 "mixed_made" 5 (ay 6 eK)):aO P w K mg base (bG P w) 3 f fd ["sizes", "made_rows", "made", "first"] (cW 4 fk) :=
 F.dU ["sizes", "made_rows", "made", "first", "dial", "times"] λnd _ _ _ _ _ _ hr O=>by
 unfold iU;walk_at "t"
 walk_at "pp"
 refine(ck (g:=(aJ 4)) O rfl (yX (by rfl) T.eU ?_) CA (aM (i:=4) nd) bw ?_)
 walk_at "pp"
theorem vS(F:aZ K "in_spans" "in_spans" (top 51) dv f fd)(T:Txt K mg)(OT:cq P w K mg base 1 "mixed" 4 (ay 4 mq)):aO P w K mg base (bG P w) 2 f fd ["pulls", "idle_rows"] (cW 2 gW) :=
 F.dU ["pulls", "idle_rows", "lever", "row"] λnd _ _ _ _ _ _ hr O=>by
 unfold g_;walk_at "t"
 walk_at "pp"
 refine(ck (g:=(aJ 2)) O rfl (sC (by rfl) T.eU ?_) vN (aM (i:=2) nd) bw ?_)
 walk_at "pp"
theorem mf:((["notch"]:List Str)++([]:List Str)).Nodup:=by decide +kernel
theorem oz(F:aZ K "first_turned" "first_turned" (top 53) dv f fd)(T:Txt K mg)  : aO P w K mg base (bG P w) 1 f fd ["setting"] (cW 1 eW) :=
 F.dU ["setting"] λnd _ _ _ _ _ _ hr O=>by
 unfold eP;walk_at "t"
 walk_at "pp"
 refine(BV ?_ ?_)
 walk_at "pp"
 refine(cG (bA (g:=(aJ 0)) (ts:=["notch"]) (fs:=[]) (js:=[]) (cl:=[]) rfl rfl rfl rfl rfl rfl .nil .nil (eE ?_) c8 (λ_ _ _ _ _=>(aM (i:=0) mf)) (λ_=>bw) bV (λ_ _ _ _ _=>?_)))
 walk_at "pp"
theorem uD(F:aZ K "_law_cell" "_law_cell" (top 62) dv f fd)(T:Txt K mg)  : aO P w K mg base (bG P w) 1 f fd ["_law_script", "_law_k"] (cW 2 cX) :=
 F.dU ["_law_script", "_law_k"] λnd _ _ _ _ _ _ hr O=>by
 unfold iC;walk_at "t"
 walk_at "pp"
theorem rG(F:aZ K "_law_mixed" "_law_mixed" (top 63) dv f fd)(T:Txt K mg)  : aO P w K mg base (bG P w) 1 f fd ["_law_cell_here", "_law_k"] (cW 2 aL) :=
 F.dU ["_law_cell_here", "_law_k", "_law_number"] λnd _ _ _ _ _ _ hr O=>by
 unfold cj;walk_at "t"
 walk_at "pp"
theorem rj(F:aZ K "_law_whole" "_law_whole" (top 64) dv f fd)(T:Txt K mg)  : aO P w K mg base (bG P w) 1 f fd ["_law_found"] (cW 1 gu) :=
 F.dU ["_law_found"] λnd _ _ _ _ _ _ hr O=>by
 unfold jF;walk_at "t"
 walk_at "pp"
 refine(j3 ?_ (jB ?_))
 walk_at "pp"
 refine(kf (T := "int") (by rfl) T.bj (fv (v:=.ty "int") (by rfl) T.Cb A4 rfl) (by decide) kD kD ?_)
 walk_at "pp"
 refine(tN ?_)
 walk_at "pp"
 refine(kf (T := "bool") (by rfl) T.bj (fv (v:=.ty "bool") (by rfl) T.t_ tK rfl) (by decide) kD kD ?_)
 walk_at "pp"
theorem pB(F:aZ K "_law_digits" "_law_digits" (top 66) dv f fd)(T:Txt K mg)  : aO P w K mg base (bG P w) 1 f fd ["_law_rest", "_law_sizes"] (cW 2 cO) :=
 F.dU ["_law_rest", "_law_sizes", "_law_found", "_law_size"] λnd _ _ _ _ _ _ hr O=>by
 unfold dr;walk_at "t"
 walk_at "pp"
 refine(ck (g:=(aJ 3)) O rfl (eE ?_) c8 (aM (i:=3) nd) bw ?_)
 walk_at "pp"
theorem qV(F:aZ K "_law_lever" "_law_lever" (top 67) dv f fd)(T:Txt K mg)(NF:cq P w K mg base 1 "_law_digits" 2 (ay 4 dr))(Nv:cq P w K mg base 1 "_law_mixed" 2 (ay 3 cj)):aO P w K mg base (bG P w) 2 f fd ["_law_cell_here", "_law_sizes"] (cW 2 dO) :=
 F.dU ["_law_cell_here", "_law_sizes", "_law_by", "_law_far", "_law_lever_here", "_law_k", "_law_number", "_law_turns"] λnd _ _ _ _ _ _ hr O=>by
 unfold gN;walk_at "t"
 walk_at "pp"
 exact(Ds [1,1,2,3,4,6])
 walk_at "pp"
 refine(ck (g:=(aJ 5)) O rfl (fj (by rfl) T.eU ?_) hU (aM (i:=5) nd) bw ?_)
 walk_at "pp"
 refine(g9 (zm rfl) yO (by rfl) T.yg xa ?_)
 walk_at "pp"
theorem jX:((["_law_number", "_law_size"]:List Str)++([]:List Str)).Nodup:=by decide +kernel
theorem sW(F:aZ K "_law_kept" "_law_kept" (top 68) dv f fd)(T:Txt K mg)  : aO P w K mg base (bG P w) 1 f fd ["_law_lever_here", "_law_sizes"] (cW 2 fO) :=
 F.dU ["_law_lever_here", "_law_sizes"] λnd _ _ _ _ _ _ hr O=>by
 unfold iD;walk_at "t"
 walk_at "pp"
 refine(cG (bA (g:=(f6 K 2 (bc (aJ 0) (bc (aJ 1) f_)))) (ts:=["_law_number", "_law_size"]) (fs:=[]) (js:=[]) (cl:=[]) rfl rfl rfl rfl rfl rfl .nil .nil (iL (by rfl) T.ia ?_) fK (λ_ _ _ _ _=>(cF (n:=2) rfl (aC (aM (i:=0) jX) (aC (aM (i:=1) jX) bI)))) (λ_=>cn) bM (λ_ _ _ _ _=>?_)))
 walk_at "pp"
theorem iw:((["_law_at", "_law_size"]:List Str)++(["_law_cell_here", "_law_k"]:List Str)).Nodup:=by decide +kernel
theorem oS(F:aZ K "_law_setting" "_law_setting" (top 69) dv f fd)(T:Txt K mg)(Nv:cq P w K mg base 1 "_law_mixed" 2 (ay 3 cj)):aO P w K mg base (bG P w) 2 f fd ["_law_cell_here", "_law_k", "_law_sizes"] (cW 3 cV) :=
 F.dU ["_law_cell_here", "_law_k", "_law_sizes"] λnd _ _ _ _ _ _ hr O=>by
 unfold dH;walk_at "t"
 walk_at "pp"
 refine(cG (bA (g:=(f6 K 2 (bc (aJ 0) (bc (aJ 1) f_)))) (ts:=["_law_at", "_law_size"]) (fs:=["_law_cell_here", "_law_k"]) (js:=[0,1]) rfl rfl rfl rfl rfl rfl (.cons rfl (.cons rfl .nil)) (.cons rfl rfl (by walk_at "l") rfl rfl (.cons rfl rfl (by walk_at "l") rfl rfl .nil)) (jl (by rfl) T.cp ?_) gE (λ_ _ _ _ _=>(cF (n:=2) rfl (aC (aM (i:=0) iw) (aC (aM (i:=1) iw) bI)))) (λ_=>cn) bM (λ_ _ _ _ _=>?_)))
 walk_at "pp"
theorem oA(F:aZ K "_law_divisor" "_law_divisor" (top 70) dv f fd)(T:Txt K mg)  : aO P w K mg base (bG P w) 1 f fd ["_law_one", "_law_other_here"] (cW 2 dE) :=
 F.dU ["_law_one", "_law_other_here"] λnd _ _ _ _ _ _ hr O=>by
 unfold eS;walk_at "t"
 walk_at "pp"
 refine(wD O ?_ ?_)
 walk_at "pp"
 refine(HY (i:=0) (j:=1) rfl nd rfl rfl (by decide) rfl rfl ?_ ?_)
 walk_at "pp"
 exact rfl
 walk_at "pp"
theorem rC(F:aZ K "_law_round" "_law_round" (top 71) dv f fd)(T:Txt K mg)(N9:cq P w K mg base 1 "_law_divisor" 2 (ay 2 eS)):aO P w K mg base (bG P w) 2 f fd ["_law_sizes"] (cW 1 gI) :=
 F.dU ["_law_sizes", "_law_found", "_law_size"] λnd _ _ _ _ _ _ hr O=>by
 unfold gQ;walk_at "t"
 walk_at "pp"
 refine(ck (g:=(aJ 2)) O rfl (eE ?_) c8 (aM (i:=2) nd) bw ?_)
 walk_at "pp"
theorem eZ:((["_law_here", "_law_there", "_law_size"]:List Str)++(["_law_whole_here"]:List Str)).Nodup:=by decide +kernel
theorem qh(F:aZ K "_law_weighs" "_law_weighs" (top 72) dv f fd)(T:Txt K mg)(Oz:cq P w K mg base 2 "_law_round" 1 (ay 3 gQ)):aO P w K mg base (bG P w) 3 f fd ["_law_weights", "_law_setting_here", "_law_sizes"] (cW 3 er) :=
 F.dU ["_law_weights", "_law_setting_here", "_law_sizes", "_law_whole_here"] λnd _ _ _ _ _ _ hr O=>by
 unfold fu;walk_at "t"
 walk_at "pp"
 refine(cG (bA (g:=(f6 K 3 (bc (aJ 0) (bc (aJ 1) (bc (aJ 2) f_))))) (ts:=["_law_here", "_law_there", "_law_size"]) (fs:=["_law_whole_here"]) (js:=[3]) rfl rfl rfl rfl rfl rfl (.cons rfl .nil) (.cons rfl rfl (by walk_at "l") rfl rfl .nil) (uO (by rfl) T.ia ?_) qG (λ_ _ _ _ _=>(cF (n:=3) rfl (aC (aM (i:=0) eZ) (aC (aM (i:=1) eZ) (aC (aM (i:=2) eZ) bI))))) (λ_=>uj) lH (λ_ _ _ _ _=>?_)))
 walk_at "pp"
theorem mE:((["_law_number"]:List Str)++([]:List Str)).Nodup:=by decide +kernel
theorem oO(F:aZ K "_law_numbers" "_law_numbers" (top 73) dv f fd)(T:Txt K mg)(OA:cq P w K mg base 1 "_law_whole" 1 (ay 1 jF)):aO P w K mg base (bG P w) 2 f fd ["_law_found", "_law_many"] (cW 2 bP) :=
 F.dU ["_law_found", "_law_many"] λnd _ _ _ _ _ _ hr O=>by
 unfold cw;walk_at "t"
 walk_at "pp"
 refine(r9 ?_ (nr ?_)).pt
 walk_at "pp"
 refine(kf (T := "tuple") (by rfl) T.bj (fv (v:=.ty "tuple") (by rfl) T.mH j6 rfl) (by decide) kD kD ?_)
 walk_at "pp"
 refine(cG (wG (g:=(aJ 0)) (ts:=["_law_number"]) (fs:=[]) (js:=[]) (cl:=[]) rfl rfl rfl rfl rfl rfl .nil .nil (eE ?_) c8 (λ_ _ _ _ _=>(aM (i:=0) mE)) (λ_=>bw) bV (λ_ _ _ _ _=>?_) (λ_ _ _ _ _=>?_)))
 walk_at "pp"
theorem jL:((["_law_times", "_law_row"]:List Str)++(["_law_at"]:List Str)).Nodup:=by decide +kernel
theorem rL(F:aZ K "_law_leads" "_law_leads" (top 74) dv f fd)(T:Txt K mg)(Nw:cq P w K mg base 2 "_law_numbers" 2 (ay 2 cw)):aO P w K mg base (bG P w) 3 f fd ["_law_rows", "_law_pulls", "_law_sizes", "_law_gap_here"] (cW 4 gk) :=
 F.dU ["_law_rows", "_law_pulls", "_law_sizes", "_law_gap_here", "_law_at", "_law_size"] λnd _ _ _ _ _ _ hr O=>by
 unfold gj;walk_at "t"
 walk_at "pp"
 refine(ck (g:=(f6 K 2 (bc (aJ 4) (bc (aJ 5) f_)))) O rfl (jl (by rfl) T.cp ?_) gE (cF (n:=2) rfl (aC (aM (i:=4) nd) (aC (aM (i:=5) nd) bI))) cn ?_)
 walk_at "pp"
 refine(cG (bA (g:=(f6 K 2 (bc (aJ 0) (bc (aJ 1) f_)))) (ts:=["_law_times", "_law_row"]) (fs:=["_law_at"]) (js:=[4]) rfl rfl rfl rfl rfl rfl (.cons rfl .nil) (.cons rfl rfl (by walk_at "l") rfl rfl .nil) (iL (by rfl) T.ia ?_) fK (λ_ _ _ _ _=>(cF (n:=2) rfl (aC (aM (i:=0) jL) (aC (aM (i:=1) jL) bI)))) (λ_=>cn) bM (λ_ _ _ _ _=>?_)))
 walk_at "pp"
theorem kx:((["_law_at", "_law_size"]:List Str)++(["_law_weights"]:List Str)).Nodup:=by decide +kernel
theorem uJ(F:aZ K "_law_bars" "_law_bars" (top 75) dv f fd)(T:Txt K mg)(Nw:cq P w K mg base 2 "_law_numbers" 2 (ay 2 cw))(Oh:cq P w K mg base 3 "_law_weighs" 3 (ay 4 fu)):aO P w K mg base (bG P w) 4 f fd ["_law_rows", "_law_weights", "_law_sizes", "_law_gap_here"] (cW 4 ip) :=
 F.dU ["_law_rows", "_law_weights", "_law_sizes", "_law_gap_here", "_law_row"] λnd _ _ _ _ _ _ hr O=>by
 unfold ik;walk_at "t"
 walk_at "pp"
 refine(cG (wG (g:=(f6 K 2 (bc (aJ 0) (bc (aJ 1) f_)))) (ts:=["_law_at", "_law_size"]) (fs:=["_law_weights"]) (js:=[1]) rfl rfl rfl rfl rfl rfl (.cons rfl .nil) (.cons rfl rfl (by walk_at "l") rfl rfl .nil) (jl (by rfl) T.cp ?_) gE (λ_ _ _ _ _=>(cF (n:=2) rfl (aC (aM (i:=0) kx) (aC (aM (i:=1) kx) bI)))) (λ_=>cn) bM (λ_ _ _ _ _=>?_) (λ_ _ _ _ _=>?_)))
 walk_at "pp"
 refine(B8 sF m9 yL tj ?_ ?_ ?_)
 walk_at "pp"
 refine(ck (g:=(aJ 4)) O rfl (eE ?_) c8 (aM (i:=4) nd) bw ?_)
 walk_at "pp"
theorem iF:((["_law_here", "_law_there", "_law_size"]:List Str)++([]:List Str)).Nodup:=by decide +kernel
theorem va(F:aZ K "_law_gap" "_law_gap" (top 76) dv f fd)(T:Txt K mg)  : aO P w K mg base (bG P w) 1 f fd ["_law_one", "_law_other_here", "_law_sizes"] (cW 3 jK) :=
 F.dU ["_law_one", "_law_other_here", "_law_sizes"] λnd _ _ _ _ _ _ hr O=>by
 unfold jd;walk_at "t"
 walk_at "pp"
 refine(cG (bA (g:=(f6 K 3 (bc (aJ 0) (bc (aJ 1) (bc (aJ 2) f_))))) (ts:=["_law_here", "_law_there", "_law_size"]) (fs:=[]) (js:=[]) (cl:=[]) rfl rfl rfl rfl rfl rfl .nil .nil (uO (by rfl) T.ia ?_) qG (λ_ _ _ _ _=>(cF (n:=3) rfl (aC (aM (i:=0) iF) (aC (aM (i:=1) iF) (aC (aM (i:=2) iF) bI))))) (λ_=>uj) lH (λ_ _ _ _ _=>?_)))
 walk_at "pp"
theorem f9:((["_law_here", "_law_there", "_law_size"]:List Str)++(["_law_times"]:List Str)).Nodup:=by decide +kernel
theorem rf(F:aZ K "_law_other" "_law_other" (top 77) dv f fd)(T:Txt K mg)(Nv:cq P w K mg base 1 "_law_mixed" 2 (ay 3 cj))(NL:cq P w K mg base 2 "_law_setting" 3 (ay 3 dH)):aO P w K mg base (bG P w) 3 f fd ["_law_cell_here", "_law_one", "_law_rows", "_law_sizes"] (cW 4 eM) :=
 F.dU ["_law_cell_here", "_law_one", "_law_rows", "_law_sizes", "_law_found", "_law_k", "_law_row", "_law_times", "_law_at"] λnd _ _ _ _ _ _ hr O=>by
 unfold gq;walk_at "t"
 walk_at "pp"
 refine(Dv (by rfl) T.wR ?_)
 walk_at "pp"
 refine(ck (g:=(f6 K 2 (bc (aJ 5) (bc (aJ 6) f_)))) O rfl (jl (by rfl) T.cp ?_) gE (cF (n:=2) rfl (aC (aM (i:=5) nd) (aC (aM (i:=6) nd) bI))) cn ?_)
 walk_at "pp"
 refine(zj 4 (i:=4) (g:=(f6 K 3 (bc (aJ 0) (bc (aJ 1) (bc (aJ 2) f_))))) (ts:=["_law_here", "_law_there", "_law_size"]) (fs:=["_law_times"]) (js:=[7]) rfl rfl rfl rfl rfl rfl (.cons rfl .nil) (.cons rfl rfl (by walk_at "l") rfl rfl .nil) (uO (by rfl) T.ia ?_) qG (λ_ _ _ _ _=>(cF (n:=3) rfl (aC (aM (i:=0) f9) (aC (aM (i:=1) f9) (aC (aM (i:=2) f9) bI))))) (λ_=>uj) lH (λ_ _ _ _ _=>?_) nd rfl (by walk_at "l"))
 walk_at "pp"
 refine(De (i:=4) rfl (by first | exact .inl rfl | exact .inr (.inl rfl)) ?_ ?_)
 walk_at "pp"
 refine(uf 4 ?_)
 walk_at "pp"
theorem tF(F:aZ K "_law_bool" "_law_bool" (top 78) dv f fd)(T:Txt K mg)  : aO P w K mg base (bG P w) 1 f fd ["_law_found", "_law_due"] (cW 2 fY) :=
 F.dU ["_law_found", "_law_due"] λnd _ _ _ _ _ _ hr O=>by
 unfold j9;walk_at "t"
 walk_at "pp"
 refine(j3 ?_ (jB ?_))
 walk_at "pp"
 refine(kf (T := "bool") (by rfl) T.bj (fv (v:=.ty "bool") (by rfl) T.t_ tK rfl) (by decide) kD kD ?_)
 walk_at "pp"
theorem lB:cA ["self", "sizes", "levers", "prices"] ["self", "sizes", "levers", "prices"] (a_ (inClass (top 24) 0)):=.of
theorem oM:((["lever"]:List Str)++(["sizes"]:List Str)).Nodup:=by decide +kernel
theorem rP(F:aZ K "__init__" "Vault.__init__" (inClass (top 24) 0) dv f fd)(T:Txt K mg)(OE:cq P w K mg base 3 "need_sizes" 1 (ay 3 gG))(Ol:cq P w K mg base 3 "need_levers" 2 (ay 4 fG))(Oc:cq P w K mg base 1 "rests" 2 (ay 2 kL))(OF:cq P w K mg base 3 "prices_for" 2 (ay 3 gJ))(Oj:cq P w K mg base 2 "multiple_of" 1 (ay 3 fz)):aO P w K mg base (bG P w) 4 f fd ["self", "sizes", "levers", "prices"] (Dk 4 aA ir) :=
 F.KZ lB (by decide) λ_ _ _ _ _ _ hr O=>by
 unfold jA;have:=lB.nd;have T2:=T;cases T2
 walk_at "pp"
 refine(jh (i:=0) rfl (by first | exact .inl rfl | exact .inr (.inl rfl)) T.mB T.gU ?_)
 walk_at "pp"
 refine(jh (i:=0) rfl (by first | exact .inl rfl | exact .inr (.inl rfl)) T.mB T.eN ?_)
 walk_at "pp"
 refine(cG (bA (g:=(aJ 0)) (ts:=["lever"]) (fs:=["sizes"]) (js:=[1]) rfl rfl rfl rfl rfl rfl (.cons rfl .nil) (.cons rfl rfl (by walk_at "l") rfl rfl .nil) (eE ?_) c8 (λ_ _ _ _ _=>(aM (i:=0) oM)) (λ_=>bw) bV (λ_ _ _ _ _=>?_)))
 walk_at "pp"
 refine(jh (i:=0) rfl (by first | exact .inl rfl | exact .inr (.inl rfl)) T.mB T.fP ?_)
 walk_at "pp"
 refine(jh (i:=0) rfl (by first | exact .inl rfl | exact .inr (.inl rfl)) T.mB T.gg ?_)
 walk_at "pp"
theorem qy(F:aZ K "sizes" "Vault.sizes" (inClass (top 24) 1) dv f fd)(T:Txt K mg)  : aO P w K mg base (bG P w) 1 f fd ["self"] (cW 1 bg) :=
 F.dU ["self"] λnd _ _ _ _ _ _ hr O=>by
 unfold br;walk_at "t"
 walk_at "pp"
theorem oP(F:aZ K "levers" "Vault.levers" (inClass (top 24) 2) dv f fd)(T:Txt K mg)  : aO P w K mg base (bG P w) 1 f fd ["self"] (cW 1 bq) :=
 F.dU ["self"] λnd _ _ _ _ _ _ hr O=>by
 unfold bT;walk_at "t"
 walk_at "pp"
theorem ou(F:aZ K "prices" "Vault.prices" (inClass (top 24) 3) dv f fd)(T:Txt K mg)  : aO P w K mg base (bG P w) 1 f fd ["self"] (cW 1 pT) :=
 F.dU ["self"] λnd _ _ _ _ _ _ hr O=>by
 unfold kd;walk_at "t"
 walk_at "pp"
theorem oQ(F:aZ K "around" "Vault.around" (inClass (top 24) 4) dv f fd)(T:Txt K mg)  : aO P w K mg base (bG P w) 1 f fd ["self"] (cW 1 cT) :=
 F.dU ["self"] λnd _ _ _ _ _ _ hr O=>by
 unfold dD;walk_at "t"
 walk_at "pp"
theorem n5:cA ["self", "pulls"] ["self", "pulls"] (a_ (inClass (top 41) 0)):=.of
theorem wA(F:aZ K "__init__" "Way.__init__" (inClass (top 41) 0) dv f fd)(T:Txt K mg)  : aO P w K mg base (bG P w) 1 f fd ["self", "pulls"] (Dk 2 cS jO) :=
 F.KZ n5 (by decide) λ_ _ _ _ _ _ hr O=>by
 unfold lD;have:=n5.nd;have T2:=T;cases T2
 walk_at "pp"
 refine(jh (i:=0) rfl (by first | exact .inl rfl | exact .inr (.inl rfl)) T.FU T.og ?_)
 walk_at "pp"
theorem nY:cA ["self", "weights"] ["self", "weights"] (a_ (inClass (top 42) 0)):=.of
theorem u5(F:aZ K "__init__" "Bar.__init__" (inClass (top 42) 0) dv f fd)(T:Txt K mg)  : aO P w K mg base (bG P w) 1 f fd ["self", "weights"] (Dk 2 de lr) :=
 F.KZ nY (by decide) λ_ _ _ _ _ _ hr O=>by
 unfold lP;have:=nY.nd;have T2:=T;cases T2
 walk_at "pp"
 refine(jh (i:=0) rfl (by first | exact .inl rfl | exact .inr (.inl rfl)) T.FR T.lq ?_)
 walk_at "pp"
theorem nJ:((["dial"]:List Str)++(["self", "sizes"]:List Str)).Nodup:=by decide +kernel
theorem pf(F:aZ K "steps" "Rungs.steps" (inClass (top 52) 1) dv f fd)(T:Txt K mg)(Np:k_ P w K mg base aA 1 "sizes" 1 (ay 1 br))(NJ:cq P w K mg base 1 "step_size" 3 (ay 4 eH)):aO P w K mg base (bG P w) 2 f fd ["self"] (cW 1 ee) :=
 F.dU ["self", "sizes"] λnd _ _ _ _ _ _ hr O=>by
 unfold eh;walk_at "t"
 walk_at "pp"
 refine(cG (bA (g:=(aJ 0)) (ts:=["dial"]) (fs:=["self", "sizes"]) (js:=[0,1]) rfl rfl rfl rfl rfl rfl (.cons rfl (.cons rfl .nil)) (.cons rfl rfl (by walk_at "l") rfl rfl (.cons rfl rfl (by walk_at "l") rfl rfl .nil)) (fj (by rfl) T.eU ?_) hU (λ_ _ _ _ _=>(aM (i:=0) nJ)) (λ_=>bw) bV (λ_ _ _ _ _=>?_)))
 walk_at "pp"
theorem i6:((["lever", "row"]:List Str)++([]:List Str)).Nodup:=by decide +kernel
theorem pI(F:aZ K "spans" "Rungs.spans" (inClass (top 52) 3) dv f fd)(T:Txt K mg)  : aO P w K mg base (bG P w) 1 f fd ["self"] (cW 1 fJ) :=
 F.dU ["self"] λnd _ _ _ _ _ _ hr O=>by
 unfold fy;walk_at "t"
 walk_at "pp"
 refine(cG (bA (g:=(f6 K 2 (bc (aJ 0) (bc (aJ 1) f_)))) (ts:=["lever", "row"]) (fs:=[]) (js:=[]) (cl:=[]) rfl rfl rfl rfl rfl rfl .nil .nil (jl (by rfl) T.cp ?_) gE (λ_ _ _ _ _=>(cF (n:=2) rfl (aC (aM (i:=0) i6) (aC (aM (i:=1) i6) bI)))) (λ_=>cn) bM (λ_ _ _ _ _=>?_)))
 walk_at "pp"
theorem zQ(F:aZ K "nought" "nought" (top 30) dv f fd)(T:Txt K mg)(Np:k_ P w K mg base aA 1 "sizes" 1 (ay 1 br)):aO P w K mg base (bG P w) 2 f fd ["vault"] (cW 1 fN) :=
 F.dU ["vault"] λnd _ _ _ _ _ _ hr O=>by
 unfold hG;walk_at "t"
 walk_at "pp"
theorem jQ:((["notch", "size"]:List Str)++([]:List Str)).Nodup:=by decide +kernel
theorem qT(F:aZ K "is_setting" "is_setting" (top 31) dv f fd)(T:Txt K mg)(Np:k_ P w K mg base aA 1 "sizes" 1 (ay 1 br))(NX:cq P w K mg base 2 "is_row" 2 (ay 2 iT)):aO P w K mg base (bG P w) 3 f fd ["vault", "thing"] (cW 2 gP) :=
 F.dU ["vault", "thing", "sizes"] λnd _ _ _ _ _ _ hr O=>by
 unfold gv;walk_at "t"
 walk_at "pp"
 refine(r9 ?_ (nr ?_)).pt
 walk_at "pp"
 refine(kf (T := "tuple") (by rfl) T.bj (fv (v:=.ty "tuple") (by rfl) T.mH j6 rfl) (by decide) kD kD ?_)
 walk_at "pp"
 refine(cG (bA (g:=(f6 K 2 (bc (aJ 0) (bc (aJ 1) f_)))) (ts:=["notch", "size"]) (fs:=[]) (js:=[]) (cl:=[]) rfl rfl rfl rfl rfl rfl .nil .nil (iL (by rfl) T.ia ?_) fK (λ_ _ _ _ _=>(cF (n:=2) rfl (aC (aM (i:=0) jQ) (aC (aM (i:=1) jQ) bI)))) (λ_=>cn) bM (λ_ _ _ _ _=>?_)))
 walk_at "pp"
 refine(vK sF m9 yL tj ?_ ?_ ?_)
 walk_at "pp"
theorem vY(F:aZ K "is_pulls" "is_pulls" (top 32) dv f fd)(T:Txt K mg)(Nt:k_ P w K mg base aA 1 "levers" 1 (ay 1 bT))(NX:cq P w K mg base 2 "is_row" 2 (ay 2 iT)):aO P w K mg base (bG P w) 3 f fd ["vault", "thing"] (cW 2 je) :=
 F.dU ["vault", "thing"] λnd _ _ _ _ _ _ hr O=>by
 unfold ja;walk_at "t"
 walk_at "pp"
 refine(j3 ?_ (jB ?_))
 walk_at "pp"
 refine(kf (T := "tuple") (by rfl) T.bj (fv (v:=.ty "tuple") (by rfl) T.mH j6 rfl) (by decide) kD kD ?_)
 walk_at "pp"
theorem oE(F:aZ K "need_setting" "need_setting" (top 33) dv f fd)(T:Txt K mg)(OC:cq P w K mg base 3 "is_setting" 2 (ay 3 gv)):aO P w K mg base (bG P w) 4 f fd ["vault", "thing"] (cW 2 bF) :=
 F.dU ["vault", "thing"] λnd _ _ _ _ _ _ hr O=>by
 unfold cz;walk_at "t"
 walk_at "pp"
theorem qZ(F:aZ K "need_pulls" "need_pulls" (top 34) dv f fd)(T:Txt K mg)(O1:cq P w K mg base 3 "is_pulls" 2 (ay 2 ja)):aO P w K mg base (bG P w) 4 f fd ["vault", "thing"] (cW 2 gm) :=
 F.dU ["vault", "thing"] λnd _ _ _ _ _ _ hr O=>by
 unfold gy;walk_at "t"
 walk_at "pp"
theorem pb:((["notch", "turn"]:List Str)++(["times"]:List Str)).Nodup:=by decide +kernel
theorem Bk(F:aZ K "added" "added" (top 35) dv f fd)(T:Txt K mg)(Np:k_ P w K mg base aA 1 "sizes" 1 (ay 1 br))(Oc:cq P w K mg base 1 "rests" 2 (ay 2 kL)):aO P w K mg base (bG P w) 2 f fd ["vault", "setting", "other", "times"] (cW 4 mw) :=
 F.dU ["vault", "setting", "other", "times", "numbers"] λnd _ _ _ _ _ _ hr O=>by
 unfold lT;walk_at "t"
 walk_at "pp"
 refine(mC (i:=4) (g:=(f6 K 2 (bc (aJ 0) (bc (aJ 1) f_)))) (ts:=["notch", "turn"]) (fs:=["times"]) (js:=[3]) rfl rfl rfl rfl rfl rfl (.cons rfl .nil) (.cons rfl rfl (by walk_at "l") rfl rfl .nil) (iL (by rfl) T.ia ?_) fK (λ_ _ _ _ _=>(cF (n:=2) rfl (aC (aM (i:=0) pb) (aC (aM (i:=1) pb) bI)))) (λ_=>cn) bM (λ_ _ _ _ _=>?_) nd rfl (by walk_at "l"))
 walk_at "pp"
theorem zI(F:aZ K "turned" "turned" (top 36) dv f fd)(T:Txt K mg)(Nx:cq P w K mg base 4 "need_setting" 2 (ay 2 cz))(OD:cq P w K mg base 4 "need_pulls" 2 (ay 2 gy))(Nt:k_ P w K mg base aA 1 "levers" 1 (ay 1 bT))(OS:cq P w K mg base 2 "added" 4 (ay 5 lT)):aO P w K mg base (bG P w) 5 f fd ["vault", "setting", "pulls"] (cW 3 lX) :=
 F.dU ["vault", "setting", "pulls", "reached", "lever", "times"] λnd _ _ _ _ _ _ hr O=>by
 unfold l_;walk_at "t"
 walk_at "pp"
 refine(ck (g:=(f6 K 2 (bc (aJ 4) (bc (aJ 5) f_)))) O rfl (iL (by rfl) T.ia ?_) fK (cF (n:=2) rfl (aC (aM (i:=4) nd) (aC (aM (i:=5) nd) bI))) cn ?_)
 walk_at "pp"
theorem xC(F:aZ K "between" "between" (top 37) dv f fd)(T:Txt K mg)(Nx:cq P w K mg base 4 "need_setting" 2 (ay 2 cz))(OS:cq P w K mg base 2 "added" 4 (ay 5 lT)):aO P w K mg base (bG P w) 5 f fd ["vault", "one", "other"] (cW 3 iZ) :=
 F.dU ["vault", "one", "other"] λnd _ _ _ _ _ _ hr O=>by
 unfold iV;walk_at "t"
 walk_at "pp"
theorem pL:((["weight", "size"]:List Str)++(["around"]:List Str)).Nodup:=by decide +kernel
theorem AZ(F:aZ K "weigh" "weigh" (top 39) dv f fd)(T:Txt K mg)(Nx:cq P w K mg base 4 "need_setting" 2 (ay 2 cz))(NK:k_ P w K mg base aA 1 "around" 1 (ay 1 dD))(Np:k_ P w K mg base aA 1 "sizes" 1 (ay 1 br))(O2:cq P w K mg base 1 "rest_sum" 3 (ay 3 jz)):aO P w K mg base (bG P w) 5 f fd ["vault", "weights", "setting"] (cW 3 oX) :=
 F.dU ["vault", "weights", "setting", "around", "worths"] λnd _ _ _ _ _ _ hr O=>by
 unfold o7;walk_at "t"
 walk_at "pp"
 refine(mC (i:=4) (g:=(f6 K 2 (bc (aJ 0) (bc (aJ 1) f_)))) (ts:=["weight", "size"]) (fs:=["around"]) (js:=[3]) rfl rfl rfl rfl rfl rfl (.cons rfl .nil) (.cons rfl rfl (by walk_at "l") rfl rfl .nil) (iL (by rfl) T.ia ?_) fK (λ_ _ _ _ _=>(cF (n:=2) rfl (aC (aM (i:=0) pL) (aC (aM (i:=1) pL) bI)))) (λ_=>cn) bM (λ_ _ _ _ _=>?_) nd rfl (by walk_at "l"))
 walk_at "pp"
theorem vW(F:aZ K "unpulled" "unpulled" (top 46) dv f fd)(T:Txt K mg)(Nt:k_ P w K mg base aA 1 "levers" 1 (ay 1 bT)):aO P w K mg base (bG P w) 2 f fd ["vault", "setting"] (cW 2 fe) :=
 F.dU ["vault", "setting"] λnd _ _ _ _ _ _ hr O=>by
 unfold gT;walk_at "t"
 walk_at "pp"
theorem qq(F:aZ K "pulled_once" "pulled_once" (top 47) dv f fd)(T:Txt K mg)(Nt:k_ P w K mg base aA 1 "levers" 1 (ay 1 bT))(O4:cq P w K mg base 1 "unit_row" 2 (ay 2 jC)):aO P w K mg base (bG P w) 2 f fd ["vault", "lever"] (cW 2 fw) :=
 F.dU ["vault", "lever", "levers"] λnd _ _ _ _ _ _ hr O=>by
 unfold fI;walk_at "t"
 walk_at "pp"
theorem oC:((["_law_number"]:List Str)++([]:List Str)).Nodup:=by decide +kernel
theorem oU:((["_law_k"]:List Str)++(["_law_cell_here", "_law_top"]:List Str)).Nodup:=by decide +kernel
theorem rM(F:aZ K "_law_dials" "_law_dials" (top 65) dv f fd)(T:Txt K mg)(NF:cq P w K mg base 1 "_law_digits" 2 (ay 4 dr))(Nv:cq P w K mg base 1 "_law_mixed" 2 (ay 3 cj)):aO P w K mg base (bG P w) 2 f fd ["_law_cell_here"] (cW 1 gC) :=
 F.dU ["_law_cell_here", "_law_top"] λnd _ _ _ _ _ _ hr O=>by
 unfold gD;walk_at "t"
 walk_at "pp"
 refine(cG (bA (g:=(aJ 0)) (ts:=["_law_number"]) (fs:=[]) (js:=[]) (cl:=[]) rfl rfl rfl rfl rfl rfl .nil .nil (eE ?_) c8 (λ_ _ _ _ _=>(aM (i:=0) oC)) (λ_=>bw) bV (λ_ _ _ _ _=>?_)))
 walk_at "pp"
 refine(cG (bA (g:=(aJ 0)) (ts:=["_law_k"]) (fs:=["_law_cell_here", "_law_top"]) (js:=[0,1]) rfl rfl rfl rfl rfl rfl (.cons rfl (.cons rfl .nil)) (.cons rfl rfl (by walk_at "l") rfl rfl (.cons rfl rfl (by walk_at "l") rfl rfl .nil)) (fj (by rfl) T.eU ?_) hU (λ_ _ _ _ _=>(aM (i:=0) oU)) (λ_=>bw) bV (λ_ _ _ _ _=>?_)))
 walk_at "pp"
theorem iM:cA ["self", "vault", "sizes", "made_rows", "idle_rows", "lever", "taken"] ["self", "vault"] (a_ (inClass (top 52) 0)):=.of
theorem oV:((["size"]:List Str)++(["vault"]:List Str)).Nodup:=by decide +kernel
theorem jM:((["dial", "made"]:List Str)++(["sizes", "made_rows"]:List Str)).Nodup:=by decide +kernel
theorem rn(F:aZ K "__init__" "Rungs.__init__" (inClass (top 52) 0) dv f fd)(T:Txt K mg)(Np:k_ P w K mg base aA 1 "sizes" 1 (ay 1 br))(NP:cq P w K mg base 2 "nought" 1 (ay 1 hG))(N3:cq P w K mg base 2 "unpulled" 2 (ay 2 gT))(Nt:k_ P w K mg base aA 1 "levers" 1 (ay 1 bT))(Om:cq P w K mg base 2 "pulled_once" 2 (ay 3 fI))(O3:cq P w K mg base 3 "taken_in" 3 (ay 9 jg))(N0:cq P w K mg base 2 "in_spans" 2 (ay 4 g_))(Ob:cq P w K mg base 3 "lowered" 4 (ay 6 iU)):aO P w K mg base (bG P w) 4 f fd ["self", "vault"] (Dk 2 au cB) :=
 F.KZ iM (by decide) λ_ _ _ _ _ _ hr O=>by
 unfold jr;have:=iM.nd;have T2:=T;cases T2
 walk_at "pp"
 refine(cG (bA (g:=(aJ 0)) (ts:=["size"]) (fs:=["vault"]) (js:=[1]) rfl rfl rfl rfl rfl rfl (.cons rfl .nil) (.cons rfl rfl (by walk_at "l") rfl rfl .nil) (eE ?_) c8 (λ_ _ _ _ _=>(aM (i:=0) oV)) (λ_=>bw) bV (λ_ _ _ _ _=>?_)))
 walk_at "pp"
 refine(ck (g:=(aJ 5)) O rfl (fj (by rfl) T.eU ?_) hU (aM (i:=5) iM.nd) bw ?_)
 walk_at "pp"
 refine(uf 4 ?_)
 walk_at "pp"
 refine(jh (i:=0) rfl (by first | exact .inl rfl | exact .inr (.inl rfl)) T.o4 T.lA ?_)
 walk_at "pp"
 refine(jh (i:=0) rfl (by first | exact .inl rfl | exact .inr (.inl rfl)) T.o4 T.iE ?_)
 walk_at "pp"
 refine(cG (bA (g:=(f6 K 2 (bc (aJ 0) (bc (aJ 1) f_)))) (ts:=["dial", "made"]) (fs:=["sizes", "made_rows"]) (js:=[2,3]) rfl rfl rfl rfl rfl rfl (.cons rfl (.cons rfl .nil)) (.cons rfl rfl (by walk_at "l") rfl rfl (.cons rfl rfl (by walk_at "l") rfl rfl .nil)) (jl (by rfl) T.cp ?_) gE (λ_ _ _ _ _=>(cF (n:=2) rfl (aC (aM (i:=0) jM) (aC (aM (i:=1) jM) bI)))) (λ_=>cn) bM (λ_ _ _ _ _=>?_)))
 walk_at "pp"
 refine(jh (i:=0) rfl (by first | exact .inl rfl | exact .inr (.inl rfl)) T.o4 T.h_ ?_)
 walk_at "pp"
theorem jS(F:aZ K "brought_down" "Rungs.brought_down" (inClass (top 52) 5) dv f fd)(T:Txt K mg)(Nx:cq P w K mg base 4 "need_setting" 2 (ay 2 cz))(N3:cq P w K mg base 2 "unpulled" 2 (ay 2 gT))(Np:k_ P w K mg base aA 1 "sizes" 1 (ay 1 br))(Ob:cq P w K mg base 3 "lowered" 4 (ay 6 iU)):aO P w K mg base (bG P w) 5 f fd ["self", "setting"] (cW 2 bx) :=
 F.dU ["self", "setting"] λnd _ _ _ _ _ _ hr O=>by
 unfold bO;walk_at "t"
 walk_at "pp"
theorem ql(F:aZ K "least" "Rungs.least" (inClass (top 52) 6) dv f fd)(T:Txt K mg)(Ny:k_ P w K mg base au 5 "brought_down" 2 (ay 2 bO)):aO P w K mg base (bG P w) 6 f fd ["self", "setting"] (cW 2 dq) :=
 F.dU ["self", "setting"] λnd _ _ _ _ _ _ hr O=>by
 unfold dw;walk_at "t"
 walk_at "pp"
theorem lh:((["times"]:List Str)++([]:List Str)).Nodup:=by decide +kernel
theorem lS(F:aZ K "pulls_to" "Rungs.pulls_to" (inClass (top 52) 7) dv f fd)(T:Txt K mg)(Ny:k_ P w K mg base au 5 "brought_down" 2 (ay 2 bO))(NP:cq P w K mg base 2 "nought" 1 (ay 1 hG))(N0:cq P w K mg base 2 "in_spans" 2 (ay 4 g_)):aO P w K mg base (bG P w) 6 f fd ["self", "setting"] (cW 2 bK) :=
 F.dU ["self", "setting", "made"] λnd _ _ _ _ _ _ hr O=>by
 unfold cu;walk_at "t"
 walk_at "pp"
 refine(cG (bA (g:=(aJ 0)) (ts:=["times"]) (fs:=[]) (js:=[]) (cl:=[]) rfl rfl rfl rfl rfl rfl .nil .nil (eE ?_) c8 (λ_ _ _ _ _=>(aM (i:=0) lh)) (λ_=>bw) bV (λ_ _ _ _ _=>?_)))
 walk_at "pp"
theorem eY:((["size", "step"]:List Str)++([]:List Str)).Nodup:=by decide +kernel
theorem k8(F:aZ K "weights_at" "Rungs.weights_at" (inClass (top 52) 8) dv f fd)(T:Txt K mg)(Np:k_ P w K mg base aA 1 "sizes" 1 (ay 1 br))(NI:cq P w K mg base 2 "is_within" 3 (ay 3 eI))(OG:rD P w K mg base fS "NoDial" "dial")(NN:k_ P w K mg base au 2 "steps" 1 (ay 2 eh))(PD:cq P w K mg base 5 "weigh" 3 (ay 5 o7))(NK:k_ P w K mg base aA 1 "around" 1 (ay 1 dD)):aO P w K mg base (bG P w) 6 f fd ["self", "dial"] (cW 2 c_) :=
 F.dU ["self", "dial", "sizes", "fills", "weights", "ahead", "weighed", "share"] λnd _ _ _ _ _ _ hr O=>by
 unfold c9;walk_at "t"
 walk_at "pp"
 refine(mC (i:=3) (g:=(f6 K 2 (bc (aJ 0) (bc (aJ 1) f_)))) (ts:=["size", "step"]) (fs:=[]) (js:=[]) (cl:=[]) rfl rfl rfl rfl rfl rfl .nil .nil (iL (by rfl) T.ia ?_) fK (λ_ _ _ _ _=>(cF (n:=2) rfl (aC (aM (i:=0) eY) (aC (aM (i:=1) eY) bI)))) (λ_=>cn) bM (λ_ _ _ _ _=>?_) nd rfl (by walk_at "l"))
 walk_at "pp"
 refine(F_ ?_ ?_)
 walk_at "pp"
 refine(De (i:=4) rfl (by first | exact .inl rfl | exact .inr (.inl rfl)) ?_ ?_)
 walk_at "pp"
 refine(ck (g:=(aJ 5)) O rfl (sC (by rfl) T.eU ?_) vN (aM (i:=5) nd) bw ?_)
 walk_at "pp"
 refine(uf 4 ?_)
 walk_at "pp"
 refine(De (i:=4) rfl (by first | exact .inl rfl | exact .inr (.inl rfl)) ?_ ?_)
 walk_at "pp"
theorem Bo(F:aZ K "bring" "bring" (top 54) dv f fd)(T:Txt K mg)(Oa:cq P w K mg base 5 "between" 3 (ay 3 iV))(Nu:wJ P w K mg base au 4 "Rungs" 2 [] cB)(NH:k_ P w K mg base au 6 "pulls_to" 2 (ay 3 cu))(OZ:wJ P w K mg base cS 1 "Way" 2 [] jO)(NV:k_ P w K mg base au 6 "weights_at" 2 (ay 8 c9))(ND:k_ P w K mg base au 6 "least" 2 (ay 2 dw))(N_:cq P w K mg base 1 "first_turned" 1 (ay 1 eP))(OY:wJ P w K mg base de 1 "Bar" 2 [] lr):aO P w K mg base (bG P w) 7 f fd ["vault", "one", "other"] (cW 3 kO) :=
 F.dU ["vault", "one", "other", "difference", "rungs", "pulls"] λnd _ _ _ _ _ _ hr O=>by
 unfold mv;walk_at "t"
 walk_at "pp"
theorem l7(F:aZ K "together_count" "together_count" (top 56) dv f fd)(T:Txt K mg)(Nu:wJ P w K mg base au 4 "Rungs" 2 [] cB)(Of:k_ P w K mg base au 1 "spans" 1 (ay 1 fy))(NS:cq P w K mg base 1 "product_of" 1 (ay 3 eO)):aO P w K mg base (bG P w) 6 f fd ["vault"] (cW 1 dQ) :=
 F.dU ["vault"] λnd _ _ _ _ _ _ hr O=>by
 unfold dP;walk_at "t"
 walk_at "pp"
theorem qu(F:aZ K "class_count" "class_count" (top 57) dv f fd)(T:Txt K mg)(Nu:wJ P w K mg base au 4 "Rungs" 2 [] cB)(NN:k_ P w K mg base au 2 "steps" 1 (ay 2 eh))(NS:cq P w K mg base 1 "product_of" 1 (ay 3 eO)):aO P w K mg base (bG P w) 6 f fd ["vault"] (cW 1 fH) :=
 F.dU ["vault"] λnd _ _ _ _ _ _ hr O=>by
 unfold fL;walk_at "t"
 walk_at "pp"
theorem vL(F:aZ K "least_of" "least_of" (top 58) dv f fd)(T:Txt K mg)(Nu:wJ P w K mg base au 4 "Rungs" 2 [] cB)(ND:k_ P w K mg base au 6 "least" 2 (ay 2 dw)):aO P w K mg base (bG P w) 7 f fd ["vault", "setting"] (cW 2 c7) :=
 F.dU ["vault", "setting"] λnd _ _ _ _ _ _ hr O=>by
 unfold gY;walk_at "t"
 walk_at "pp"
theorem zS(F:aZ K "belong" "belong" (top 59) dv f fd)(T:Txt K mg)(Oa:cq P w K mg base 5 "between" 3 (ay 3 iV))(Nu:wJ P w K mg base au 4 "Rungs" 2 [] cB)(ND:k_ P w K mg base au 6 "least" 2 (ay 2 dw))(NP:cq P w K mg base 2 "nought" 1 (ay 1 hG)):aO P w K mg base (bG P w) 7 f fd ["vault", "one", "other"] (cW 3 jY) :=
 F.dU ["vault", "one", "other", "difference"] λnd _ _ _ _ _ _ hr O=>by
 unfold mz;walk_at "t"
 walk_at "pp"
theorem zL(F:aZ K "normal" "normal" (top 60) dv f fd)(T:Txt K mg)(Nu:wJ P w K mg base au 4 "Rungs" 2 [] cB)(NH:k_ P w K mg base au 6 "pulls_to" 2 (ay 3 cu))(NP:cq P w K mg base 2 "nought" 1 (ay 1 hG))(Pj:cq P w K mg base 5 "turned" 3 (ay 6 l_)):aO P w K mg base (bG P w) 7 f fd ["vault", "pulls"] (cW 2 kc) :=
 F.dU ["vault", "pulls"] λnd _ _ _ _ _ _ hr O=>by
 unfold l4;walk_at "t"
 walk_at "pp"
theorem v8(F:aZ K "_law_way" "_law_way" (top 79) dv f fd)(T:Txt K mg)(PC:cq P w K mg base 7 "bring" 3 (ay 6 mv))(O0:cq P w K mg base 1 "_law_gap" 3 (ay 3 jd))(Ow:cq P w K mg base 3 "_law_leads" 4 (ay 6 gj))(OI:cq P w K mg base 4 "_law_bars" 4 (ay 5 ik)):aO P w K mg base (bG P w) 8 f fd ["_law_vault", "_law_rows", "_law_sizes", "_law_one", "_law_other_here"] (cW 5 dM) :=
 F.dU ["_law_vault", "_law_rows", "_law_sizes", "_law_one", "_law_other_here", "_law_paper", "_law_gap_here"] λnd _ _ _ _ _ _ hr O=>by
 unfold ff;walk_at "t"
 walk_at "pp"
 refine(xx ?_ (ue ?_)).pt
 walk_at "pp"
 refine(T.jO.is (by rfl) T.bj (by rfl) ?_)
 walk_at "pp"
 refine(xx ?_ (ue ?_)).pt
 walk_at "pp"
 refine(T.lr.is (by rfl) T.bj (by rfl) ?_)
 walk_at "pp"
theorem pz(F:aZ K "_law_stands" "_law_stands" (top 80) dv f fd)(T:Txt K mg)(N2:cq P w K mg base 7 "least_of" 2 (ay 2 gY))(Nw:cq P w K mg base 2 "_law_numbers" 2 (ay 2 cw))(NZ:cq P w K mg base 8 "_law_way" 5 (ay 7 ff)):aO P w K mg base (bG P w) 9 f fd ["_law_vault", "_law_rows", "_law_sizes", "_law_one"] (cW 4 dX) :=
 F.dU ["_law_vault", "_law_rows", "_law_sizes", "_law_one", "_law_least"] λnd _ _ _ _ _ _ hr O=>by
 unfold fF;walk_at "t"
 walk_at "pp"
 refine(r9 ?_ (nr ?_)).pt
 walk_at "pp"
 refine(T.jO.is (by rfl) T.bj (by rfl) ?_)
 walk_at "pp"
theorem uT(F:aZ K "_law_pair" "_law_pair" (top 81) dv f fd)(T:Txt K mg)(NL:cq P w K mg base 2 "_law_setting" 3 (ay 3 dH))(Oy:cq P w K mg base 3 "_law_other" 4 (ay 9 gq))(NF:cq P w K mg base 1 "_law_digits" 2 (ay 4 dr))(NZ:cq P w K mg base 8 "_law_way" 5 (ay 7 ff))(Nv:cq P w K mg base 1 "_law_mixed" 2 (ay 3 cj))(Og:cq P w K mg base 9 "_law_stands" 4 (ay 5 fF))(Pg:cq P w K mg base 7 "belong" 3 (ay 4 mz))(OJ:cq P w K mg base 1 "_law_bool" 2 (ay 2 j9))(N2:cq P w K mg base 7 "least_of" 2 (ay 2 gY))(Ph:cq P w K mg base 7 "normal" 2 (ay 2 l4)):aO P w K mg base (bG P w) 10 f fd ["_law_vault", "_law_rows", "_law_sizes", "_law_cell_here"] (cW 4 hZ) :=
 F.dU ["_law_vault", "_law_rows", "_law_sizes", "_law_cell_here", "_law_one", "_law_other_here", "_law_both_of", "_law_paper", "_law_due", "_law_kind", "_law_here"] λnd _ _ _ _ _ _ hr O=>by
 unfold ij;walk_at "t"
 walk_at "pp"
 refine(kY ?_ uh (ml ?_))
 walk_at "pp"
 refine(kY ?_ (ml ?_) uh)
 walk_at "pp"
 refine(T.jO.is (by rfl) T.bj (by rfl) ?_)
 walk_at "pp"
 refine(r9 ?_ (nr ?_)).pt
 walk_at "pp"
 refine(xx ?_ (ue ?_)).pt
 walk_at "pp"
 refine(j3 ?_ (jB ?_))
 walk_at "pp"
 refine(Fs ?_ (jB ?_))
 walk_at "pp"
 refine(tN ?_)
 walk_at "pp"
 refine(jJ (Hg hr.units) GF ?_ ?_ (dz _))
 walk_at "pp"
 refine(g9 (zP rfl hr.units) Ew (by rfl) T.yg xa ?_)
 walk_at "pp"
 refine(Fs ?_ (jB ?_))
 walk_at "pp"
 refine(tN ?_)
 walk_at "pp"
theorem A3:((["_law_k"]:List Str)++(["_law_script", "_law_sizes"]:List Str)).Nodup:=by decide +kernel
theorem BG:((["_law_lever_here"]:List Str)++(["_law_sizes"]:List Str)).Nodup:=by decide +kernel
theorem GA(F:aZ K "law" "law" (top 82) dv f fd)(T:Txt K mg)(OK:cq P w K mg base 1 "_law_cell" 2 (ay 2 iC))(Ov:cq P w K mg base 2 "_law_dials" 1 (ay 2 gD))(Nv:cq P w K mg base 1 "_law_mixed" 2 (ay 3 cj))(Ox:cq P w K mg base 2 "_law_lever" 2 (ay 8 gN))(Ou:wJ P w K mg base aA 4 "Vault" 4 [.cR] ir)(OL:cq P w K mg base 1 "_law_kept" 2 (ay 2 iD))(OM:cq P w K mg base 10 "_law_pair" 4 (ay 11 ij))(Oi:cq P w K mg base 6 "class_count" 1 (ay 1 fL))(NY:cq P w K mg base 6 "together_count" 1 (ay 1 dP))(Nw:cq P w K mg base 2 "_law_numbers" 2 (ay 2 cw)):aO P w K mg base (bG P w) 11 f fd ["_law_script"] (cW 1 sU) :=
 F.dU ["_law_script", "_law_sizes", "_law_many", "_law_levers", "_law_vault", "_law_rows", "_law_cell_here", "_law_product", "_law_size", "_law_counts"] λnd _ _ _ _ _ _ hr O=>by
 unfold Bh;walk_at "t"
 walk_at "pp"
 refine(kY ?_ uh (ml ?_))
 walk_at "pp"
 refine(mC (i:=3) (g:=(aJ 0)) (ts:=["_law_k"]) (fs:=["_law_script", "_law_sizes"]) (js:=[0,1]) rfl rfl rfl rfl rfl rfl (.cons rfl (.cons rfl .nil)) (.cons rfl rfl (by walk_at "l") rfl rfl (.cons rfl rfl (by walk_at "l") rfl rfl .nil)) (fj (by rfl) T.eU ?_) hU (λ_ _ _ _ _=>(aM (i:=0) A3)) (λ_=>bw) bV (λ_ _ _ _ _=>?_) nd rfl (by walk_at "l"))
 walk_at "pp"
 refine(mC (i:=5) (g:=(aJ 0)) (ts:=["_law_lever_here"]) (fs:=["_law_sizes"]) (js:=[1]) rfl rfl rfl rfl rfl rfl (.cons rfl .nil) (.cons rfl rfl (by walk_at "l") rfl rfl .nil) (eE ?_) c8 (λ_ _ _ _ _=>(aM (i:=0) BG)) (λ_=>bw) bV (λ_ _ _ _ _=>?_) nd rfl (by walk_at "l"))
 walk_at "pp"
 refine(ck (g:=(aJ 6)) O rfl (eE ?_) c8 (aM (i:=6) nd) bw ?_)
 walk_at "pp"
 refine(kY ?_ (ml ?_) (ml ?_))
 walk_at "pp"
 refine(ck (g:=(aJ 8)) O rfl (eE ?_) c8 (aM (i:=8) nd) bw ?_)
 walk_at "pp"
 refine(j3 ?_ (j3 ?_ (jB ?_)))
 walk_at "pp"
 refine(g9 (zM rfl) Eb (by rfl) T.yg xa ?_)
 walk_at "pp"
end wK
namespace wK
open PySem L2 PyProof.Rows
open PySem.W (nsIn findIn codeIn keepIn isFn mroIn specialIn takesIn hasDictIn typeIn plainGet plainOver makesIn mg_of mg_none_of fnOf excIn clsIn)
abbrev κ(w:World):PySem.W.Frag:=HD.K w.params
variable(w:World)
abbrev GV:Value:=HD.st "dialvault.wholes" 386
abbrev uW:Value:=HD.st "dialvault.vault" 443
abbrev wy:Value:=HD.st "dialvault.rungs" 765
abbrev rA:Value:=HD.st "law_dialvault_k36_whole_one_stands_for_a_cla" 992
abbrev LM:Value:=HD.st "dialvault.papers" 622
abbrev md5:Value:=HD.st "dialvault.classes" 950
abbrev Ld:Value:=HD.st "dialvault.errors" 194
def iK:FuncData:=fnOf "__init__" "Vault.__init__" (iq (inClass (top 24) 0)) (eR (inClass (top 24) 0)) (a_ (inClass (top 24) 0)) (.ref 227) .none .none uW none (.ref 231) .none
theorem mD:aZ (κ w) "__init__" "Vault.__init__" (inClass (top 24) 0) (.ref 227) 232 iK:=.of (by kernel_rfl) (by kernel_rfl) (by kernel_rfl)
def kC:FuncData:=xQ "__init__" "Way.__init__" (inClass (top 41) 0) LM 405
theorem xZ:aZ (κ w) "__init__" "Way.__init__" (inClass (top 41) 0) .none 406 kC:=.of (by kernel_rfl) (by kernel_rfl) (by kernel_rfl)
theorem xT:Binds (κ w) kC ["self", "pulls"] []:=Binds.all (Ji λ_ _=>rfl)
def ky:FuncData:=xQ "__init__" "Bar.__init__" (inClass (top 42) 0) LM 445
theorem xN:aZ (κ w) "__init__" "Bar.__init__" (inClass (top 42) 0) .none 446 ky:=.of (by kernel_rfl) (by kernel_rfl) (by kernel_rfl)
theorem xg:Binds (κ w) ky ["self", "weights"] []:=Binds.all (Ji λ_ _=>rfl)
def iN:FuncData:=xQ "__init__" "Rungs.__init__" (inClass (top 52) 0) wy 530
theorem ui:aZ (κ w) "__init__" "Rungs.__init__" (inClass (top 52) 0) .none 531 iN:=.of (by kernel_rfl) (by kernel_rfl) (by kernel_rfl)
theorem tR:Binds (κ w) iN ["self", "vault"] []:=Binds.all (Ji λ_ _=>rfl)
def wU:FuncData:=xQ "law" "law" (top 82) rA 759
theorem Js:aZ (κ w) "law" "law" (top 82) .none 760 wU:=.of (by kernel_rfl) (by kernel_rfl) (by kernel_rfl)
theorem xk:gK (κ w) nF:=⟨(by kernel_rfl),(by kernel_rfl),(by kernel_rfl),(by kernel_rfl),(by kernel_rfl),(by kernel_rfl),(by kernel_rfl),(by kernel_rfl),(by kernel_rfl)⟩
theorem tU:gK (κ w) j8:=⟨(by kernel_rfl),(by kernel_rfl),(by kernel_rfl),(by kernel_rfl),(by kernel_rfl),(by kernel_rfl),(by kernel_rfl),(by kernel_rfl),(by kernel_rfl)⟩
theorem xf:gK (κ w) kS:=⟨(by kernel_rfl),(by kernel_rfl),(by kernel_rfl),(by kernel_rfl),(by kernel_rfl),(by kernel_rfl),(by kernel_rfl),(by kernel_rfl),(by kernel_rfl)⟩
theorem sR:gK (κ w) fS:=⟨(by kernel_rfl),(by kernel_rfl),(by kernel_rfl),(by kernel_rfl),(by kernel_rfl),(by kernel_rfl),(by kernel_rfl),(by kernel_rfl),(by kernel_rfl)⟩
def ic:FuncData:=xQ "__init__" "NoDial.__init__" (inClass (top 3) 0) Ld 54
theorem Mp:(κ w).lookup 55=some ⟨.type "function", none,.func ic,⟨[]⟩⟩:=by kernel_rfl
theorem LK:codeIn (κ w) (.ref 54) "NoDial.__init__" = true:=by kernel_rfl
theorem xv:Binds (κ w) ic ["self", "dial"] []:=Binds.all (Ji λ_ _=>rfl)
theorem xM:cA ["self", "dial"] ["self", "dial"] (a_ (inClass (top 3) 0)):=.of
theorem LN:((clsIn (κ w) 65).any λcd=>gB cd.mro)=true:=by kernel_rfl
theorem Ll:findIn (κ w) (.ref 65) "dial" = some none:=by kernel_rfl
theorem xV{P:Program}{w:World}{mg:Str->Option Value}{base:Heap}:aO P w (κ w) mg base (bG P w) 1 55 ic ["self", "dial"] (zA (κ w) fS "dial") :=
 qJ (n0 := "self") (n1 := "dial") (fl := "dial") (Mp w) (LK w) xM (sR w) (LN w) (Ll w) (by first | exact .inl rfl | exact .inr (.inl rfl)) (by first | exact .inl rfl | exact .inr (.inl rfl)) (by decide) (by decide) (by decide) (by decide) (λ_=>rfl)
theorem qe:gK (κ w) iX:=⟨(by kernel_rfl),(by kernel_rfl),(by kernel_rfl),(by kernel_rfl),(by kernel_rfl),(by kernel_rfl),(by kernel_rfl),(by kernel_rfl),(by kernel_rfl)⟩
def gi:FuncData:=xQ "__init__" "NoLever.__init__" (inClass (top 4) 0) Ld 80
theorem Lu:(κ w).lookup 81=some ⟨.type "function", none,.func gi,⟨[]⟩⟩:=by kernel_rfl
theorem Mg:codeIn (κ w) (.ref 80) "NoLever.__init__" = true:=by kernel_rfl
theorem vD:Binds (κ w) gi ["self", "lever"] []:=Binds.all (Ji λ_ _=>rfl)
theorem wu:cA ["self", "lever"] ["self", "lever"] (a_ (inClass (top 4) 0)):=.of
theorem Mx:((clsIn (κ w) 91).any λcd=>gB cd.mro)=true:=by kernel_rfl
theorem Mc:findIn (κ w) (.ref 91) "lever" = some none:=by kernel_rfl
theorem vI{P:Program}{w:World}{mg:Str->Option Value}{base:Heap}:aO P w (κ w) mg base (bG P w) 1 81 gi ["self", "lever"] (zA (κ w) iX "lever") :=
 qJ (n0 := "self") (n1 := "lever") (fl := "lever") (Lu w) (Mg w) wu (qe w) (Mx w) (Mc w) (by first | exact .inl rfl | exact .inr (.inl rfl)) (by first | exact .inl rfl | exact .inr (.inl rfl)) (by decide) (by decide) (by decide) (by decide) (λ_=>rfl)
theorem pW:gK (κ w) gR:=⟨(by kernel_rfl),(by kernel_rfl),(by kernel_rfl),(by kernel_rfl),(by kernel_rfl),(by kernel_rfl),(by kernel_rfl),(by kernel_rfl),(by kernel_rfl)⟩
def gL:FuncData:=xQ "__init__" "NoPrice.__init__" (inClass (top 5) 0) Ld 106
theorem Lo:(κ w).lookup 107=some ⟨.type "function", none,.func gL,⟨[]⟩⟩:=by kernel_rfl
theorem MI:codeIn (κ w) (.ref 106) "NoPrice.__init__" = true:=by kernel_rfl
theorem vV:Binds (κ w) gL ["self", "lever"] []:=Binds.all (Ji λ_ _=>rfl)
theorem vo:cA ["self", "lever"] ["self", "lever"] (a_ (inClass (top 5) 0)):=.of
theorem Lr:((clsIn (κ w) 117).any λcd=>gB cd.mro)=true:=by kernel_rfl
theorem L7:findIn (κ w) (.ref 117) "lever" = some none:=by kernel_rfl
theorem u9{P:Program}{w:World}{mg:Str->Option Value}{base:Heap}:aO P w (κ w) mg base (bG P w) 1 107 gL ["self", "lever"] (zA (κ w) gR "lever") :=
 qJ (n0 := "self") (n1 := "lever") (fl := "lever") (Lo w) (MI w) vo (pW w) (Lr w) (L7 w) (by first | exact .inl rfl | exact .inr (.inl rfl)) (by first | exact .inl rfl | exact .inr (.inl rfl)) (by decide) (by decide) (by decide) (by decide) (λ_=>rfl)
theorem xR:kE (κ w) de:=⟨(by kernel_rfl),(by kernel_rfl),(by kernel_rfl),(by kernel_rfl)⟩
theorem dI:kE (κ w) au:=⟨(by kernel_rfl),(by kernel_rfl),(by kernel_rfl),(by kernel_rfl)⟩
theorem dY:kE (κ w) aA:=⟨(by kernel_rfl),(by kernel_rfl),(by kernel_rfl),(by kernel_rfl)⟩
theorem w_:kE (κ w) cS:=⟨(by kernel_rfl),(by kernel_rfl),(by kernel_rfl),(by kernel_rfl)⟩
theorem JC:findIn (κ w) (.ref 463) "weights" = some none:=by kernel_rfl
theorem JL:findIn (κ w) (.ref 582) "idle_rows" = some none:=by kernel_rfl
theorem Jr:findIn (κ w) (.ref 582) "made_rows" = some none:=by kernel_rfl
theorem JZ:findIn (κ w) (.ref 582) "vault" = some none:=by kernel_rfl
theorem JI:findIn (κ w) (.ref 263) "dial_sizes" = some none:=by kernel_rfl
theorem Km:findIn (κ w) (.ref 263) "least_round" = some none:=by kernel_rfl
theorem Kb:findIn (κ w) (.ref 263) "lever_prices" = some none:=by kernel_rfl
theorem Kt:findIn (κ w) (.ref 263) "lever_settings" = some none:=by kernel_rfl
theorem JM:findIn (κ w) (.ref 430) "pulls" = some none:=by kernel_rfl
theorem L6:nsIn (κ w) mainGlobals "LEAST_PRICE" = some (some (.int 1 453)):=by kernel_rfl
theorem LV:nsIn (κ w) mainGlobals "LEAST_SIZE" = some (some (.int 2 447)):=by kernel_rfl
theorem Mm:nsIn (κ w) mainGlobals "MOST_DIALS" = some (some (.int 6 445)):=by kernel_rfl
theorem MC:nsIn (κ w) mainGlobals "MOST_LEVERS" = some (some (.int 8 451)):=by kernel_rfl
theorem ME:nsIn (κ w) mainGlobals "MOST_PRICE" = some (some (.int 1000 455)):=by kernel_rfl
theorem LY:nsIn (κ w) mainGlobals "MOST_SIZE" = some (some (.int 360 449)):=by kernel_rfl
theorem BH:pK (κ w) de:=⟨xR w,(by kernel_rfl),(by kernel_rfl),(by kernel_rfl),(by kernel_rfl)⟩
theorem vF:pK (κ w) au:=⟨dI w,(by kernel_rfl),(by kernel_rfl),(by kernel_rfl),(by kernel_rfl)⟩
theorem u_:pK (κ w) aA:=⟨dY w,(by kernel_rfl),(by kernel_rfl),(by kernel_rfl),(by kernel_rfl)⟩
theorem Cy:pK (κ w) cS:=⟨w_ w,(by kernel_rfl),(by kernel_rfl),(by kernel_rfl),(by kernel_rfl)⟩
theorem Lf:nsIn (κ w) mainGlobals "Bar" = some (some (.ref 463)):=by kernel_rfl
theorem Mj:(Fb.all λa=>PySem.W.kitOne (κ w) (.type a) (.ref de)==some false)=true:=by kernel_rfl
theorem Md:FD (λC=>PySem.W.kitOne (κ w) (.ref C) (.ref de)) mM mQ=true:=by kernel_rfl
theorem Lz:FD (λC=>PySem.W.kitOne (κ w) (.ref C) (.ref de)) tD uR=true:=by kernel_rfl
theorem Mu:nsIn (κ w) mainGlobals "Way" = some (some (.ref 430)):=by kernel_rfl
theorem ML:(Fb.all λa=>PySem.W.kitOne (κ w) (.type a) (.ref cS)==some false)=true:=by kernel_rfl
theorem MD:FD (λC=>PySem.W.kitOne (κ w) (.ref C) (.ref cS)) f7 gb=true:=by kernel_rfl
theorem MG:FD (λC=>PySem.W.kitOne (κ w) (.ref C) (.ref cS)) j5 kj=true:=by kernel_rfl
theorem LQ:(κ w).lookup 227=some (HD.tu [.none]):=by kernel_rfl
theorem uH:Binds (κ w) iK ["self", "sizes", "levers", "prices"] [.none]:=(mD w).binds (LQ w) rfl λ_ _ _ _ _ _ us hl=>by obtain⟨a,b,c,rfl⟩:=M9 (show _=3 from (by simpa using hl));exact⟨_,rfl,rfl⟩
theorem txt{w:World}{h:Heap}{mg:Str->Option Value}(X:PySem.W.Frag.In (κ w) h)(G:h.Ns mainGlobals mg):Txt (κ w) mg where
 Kv:=mg_none_of X G (by kernel_rfl)
 t_:=mg_none_of X G (by kernel_rfl)
 cp:=mg_none_of X G (by kernel_rfl)
 Cb:=mg_none_of X G (by kernel_rfl)
 bj:=mg_none_of X G (by kernel_rfl)
 KQ:=mg_none_of X G (by kernel_rfl)
 wR:=mg_none_of X G (by kernel_rfl)
 Fv:=mg_none_of X G (by kernel_rfl)
 yg:=mg_none_of X G (by kernel_rfl)
 eU:=mg_none_of X G (by kernel_rfl)
 J7:=mg_none_of X G (by kernel_rfl)
 mH:=mg_none_of X G (by kernel_rfl)
 ia:=mg_none_of X G (by kernel_rfl)
 rh:=⟨_,mg_of X G (L6 w),⟨_,rfl⟩⟩
 uF:=⟨_,mg_of X G (LV w),⟨_,rfl⟩⟩
 uC:=⟨_,mg_of X G (Mm w),⟨_,rfl⟩⟩
 rH:=⟨_,mg_of X G (MC w),⟨_,rfl⟩⟩
 sZ:=⟨_,mg_of X G (ME w),⟨_,rfl⟩⟩
 wa:=⟨_,mg_of X G (LY w),⟨_,rfl⟩⟩
 FR:=xR w
 o4:=dI w
 mB:=dY w
 FU:=w_ w
 z9:=⟨(by kernel_rfl),xk w,(by kernel_rfl),(by kernel_rfl),mg_of X G (by kernel_rfl)⟩
 v7:=⟨(by kernel_rfl),tU w,(by kernel_rfl),(by kernel_rfl),mg_of X G (by kernel_rfl)⟩
 zq:=⟨(by kernel_rfl),xf w,(by kernel_rfl),(by kernel_rfl),mg_of X G (by kernel_rfl)⟩
 lr:=.of (mg_of X G (Lf w)) (Mj w) (Md w) (Lz w) (Fz (BH w) vA) (Fz (vF w) (Fz (u_ w) (Fz (Cy w) vA))) vA vA
 jO:=.of (mg_of X G (Mu w)) (ML w) (MD w) (MG w) (Fz (Cy w) vA) (Fz (BH w) (Fz (vF w) (Fz (u_ w) vA))) vA vA
 lq:=(JC w)
 h_:=(JL w)
 iE:=(Jr w)
 lA:=(JZ w)
 gU:=(JI w)
 gg:=(Km w)
 fP:=(Kb w)
 eN:=(Kt w)
 og:=(JM w)
 tQ:=λC h=>by obtain rfl:=eq_of_beq h;exact⟨dY w,(JI w)⟩
 vP:=λC h=>by obtain rfl:=eq_of_beq h;exact⟨dI w,(JL w)⟩
 q_:=λC h=>by obtain rfl:=eq_of_beq h;exact⟨dY w,(Km w)⟩
 qm:=λC h=>by obtain rfl:=eq_of_beq h;exact⟨dY w,(Kb w)⟩
 m_:=λC h=>by obtain rfl:=eq_of_beq h;exact⟨dY w,(Kt w)⟩
 vd:=λC h=>by obtain rfl:=eq_of_beq h;exact⟨dI w,(Jr w)⟩
 DA:=λC h=>by obtain rfl:=eq_of_beq h;exact⟨w_ w,(JM w)⟩
 E4:=λC h=>by obtain rfl:=eq_of_beq h;exact⟨dI w,(JZ w)⟩
 z6:=λC h=>by obtain rfl:=eq_of_beq h;exact⟨xR w,(JC w)⟩
theorem Gr{P:Program}{w:World}{h:Heap}{mg:Str->Option Value}(X:PySem.W.Frag.In (κ w) h)(G:h.Ns mainGlobals mg)(base:Heap):aO P w (κ w) mg base (bG P w) 11 760 wU ["_law_script"] (cW 1 sU):=by
 have T:=txt X G
 have OG:rD P w (κ w) mg base fS "NoDial" "dial" := ⟨⟨55,ic,["self", "dial"],(by kernel_rfl),(by kernel_rfl),xV,xv w⟩,sR w,(by kernel_rfl),(by kernel_rfl),mg_of X G (by kernel_rfl)⟩
 have O_:rD P w (κ w) mg base iX "NoLever" "lever" := ⟨⟨81,gi,["self", "lever"],(by kernel_rfl),(by kernel_rfl),vI,vD w⟩,qe w,(by kernel_rfl),(by kernel_rfl),mg_of X G (by kernel_rfl)⟩
 have Pa:rD P w (κ w) mg base gR "NoPrice" "lever" := ⟨⟨107,gL,["self", "lever"],(by kernel_rfl),(by kernel_rfl),u9,vV w⟩,pW w,(by kernel_rfl),(by kernel_rfl),mg_of X G (by kernel_rfl)⟩
 have N1:=eX P w base X G 183 182 GV λD=>vy D T
 have NX:=eX P w base X G 188 187 GV λD=>Ae D T N1
 have OB:=eX P w base X G 195 194 GV λD=>Aj D T
 have Oj:=eX P w base X G 202 201 GV λD=>pk D T OB
 have NS:=eX P w base X G 209 208 GV λD=>qP D T
 have O4:=eX P w base X G 214 213 GV λD=>vp D T
 have O2:=eX P w base X G 219 218 GV λD=>wB D T
 have NI:=eX P w base X G 274 273 uW λD=>ua D T N1
 have OE:=eX P w base X G 281 280 uW λD=>rF D T OG NI
 have Ol:=eX P w base X G 288 287 uW λD=>qA D T NX O_
 have OF:=eX P w base X G 295 294 uW λD=>rK D T Pa NI
 have Oc:=eX P w base X G 300 299 uW λD=>Cj D T
 have OT:=eX P w base X G 470 469 wy λD=>A1 D T
 have NR:=eX P w base X G 477 476 wy λD=>rB D T OT Oc
 have NJ:=eX P w base X G 498 497 wy λD=>uq D T
 have O3:=eX P w base X G 505 504 wy λD=>vh D T NJ OB NR
 have Ob:=eX P w base X G 512 511 wy λD=>xU D T NJ NR
 have N0:=eX P w base X G 519 518 wy λD=>vS D T OT
 have N_:=eX P w base X G 591 590 wy λD=>oz D T
 have OK:=eX P w base X G 640 639 rA λD=>uD D T
 have Nv:=eX P w base X G 647 646 rA λD=>rG D T
 have OA:=eX P w base X G 654 653 rA λD=>rj D T
 have NF:=eX P w base X G 666 665 rA λD=>pB D T
 have Ox:=eX P w base X G 673 672 rA λD=>qV D T NF Nv
 have OL:=eX P w base X G 678 677 rA λD=>sW D T
 have NL:=eX P w base X G 683 682 rA λD=>oS D T Nv
 have N9:=eX P w base X G 690 689 rA λD=>oA D T
 have Oz:=eX P w base X G 697 696 rA λD=>rC D T N9
 have Oh:=eX P w base X G 702 701 rA λD=>qh D T Oz
 have Nw:=eX P w base X G 707 706 rA λD=>oO D T OA
 have Ow:=eX P w base X G 712 711 rA λD=>rL D T Nw
 have OI:=eX P w base X G 717 716 rA λD=>uJ D T Nw Oh
 have O0:=eX P w base X G 722 721 rA λD=>va D T
 have Oy:=eX P w base X G 727 726 rA λD=>rf D T Nv NL
 have OJ:=eX P w base X G 734 733 rA λD=>tF D T
 have Ou:wJ P w (κ w) mg base aA 4 "Vault" 4 [.cR] ir:=⟨⟨232,iK,["self", "sizes", "levers", "prices"],[.none],[.cR],mg_of X G (by kernel_rfl),⟨(by kernel_rfl),(by kernel_rfl),(by kernel_rfl),(by kernel_rfl)⟩,uH w,(.cons rfl .nil),λ_=>(.cons .cR .nil),rP (mD w) T OE Ol Oc OF Oj⟩⟩
 have Np:=Dq P w base (dY w) 239 238 uW λD=>qy D T
 have Nt:=Dq P w base (dY w) 246 245 uW λD=>oP D T
 have Qh:=Dq P w base (dY w) 253 252 uW λD=>ou D T
 have NK:=Dq P w base (dY w) 260 259 uW λD=>oQ D T
 have OZ:wJ P w (κ w) mg base cS 1 "Way" 2 [] jO:=⟨⟨406,kC,["self", "pulls"],[],[],mg_of X G (by kernel_rfl),⟨(by kernel_rfl),(by kernel_rfl),(by kernel_rfl),(by kernel_rfl)⟩,xT w,.nil,λ_=>.nil,wA (xZ w) T ⟩⟩
 have OY:wJ P w (κ w) mg base de 1 "Bar" 2 [] lr:=⟨⟨446,ky,["self", "weights"],[],[],mg_of X G (by kernel_rfl),⟨(by kernel_rfl),(by kernel_rfl),(by kernel_rfl),(by kernel_rfl)⟩,xg w,.nil,λ_=>.nil,u5 (xN w) T ⟩⟩
 have NN:=Dq P w base (dI w) 536 535 wy λD=>pf D T Np NJ
 have Of:=Dq P w base (dI w) 548 547 wy λD=>pI D T
 have NP:=eX P w base X G 307 306 uW λD=>zQ D T Np
 have OC:=eX P w base X G 312 311 uW λD=>qT D T Np NX
 have O1:=eX P w base X G 319 318 uW λD=>vY D T Nt NX
 have Nx:=eX P w base X G 326 325 uW λD=>oE D T OC
 have OD:=eX P w base X G 333 332 uW λD=>qZ D T O1
 have OS:=eX P w base X G 338 337 uW λD=>Bk D T Np Oc
 have Pj:=eX P w base X G 345 344 uW λD=>zI D T Nx OD Nt OS
 have Oa:=eX P w base X G 352 351 uW λD=>xC D T Nx OS
 have PD:=eX P w base X G 357 356 LM λD=>AZ D T Nx NK Np O2
 have N3:=eX P w base X G 484 483 wy λD=>vW D T Nt
 have Om:=eX P w base X G 491 490 wy λD=>qq D T Nt O4
 have Ov:=eX P w base X G 659 658 rA λD=>rM D T NF Nv
 have Nu:wJ P w (κ w) mg base au 4 "Rungs" 2 [] cB:=⟨⟨531,iN,["self", "vault"],[],[],mg_of X G (by kernel_rfl),⟨(by kernel_rfl),(by kernel_rfl),(by kernel_rfl),(by kernel_rfl)⟩,tR w,.nil,λ_=>.nil,rn (ui w) T Np NP N3 Nt Om O3 N0 Ob⟩⟩
 have Ny:=Dq P w base (dI w) 562 561 wy λD=>jS D T Nx N3 Np Ob
 have ND:=Dq P w base (dI w) 569 568 wy λD=>ql D T Ny
 have NH:=Dq P w base (dI w) 574 573 wy λD=>lS D T Ny NP N0
 have NV:=Dq P w base (dI w) 579 578 wy λD=>k8 D T Np NI OG NN PD NK
 have PC:=eX P w base X G 598 597 wy λD=>Bo D T Oa Nu NH OZ NV ND N_ OY
 have NY:=eX P w base X G 605 604 md5 λD=>l7 D T Nu Of NS
 have Oi:=eX P w base X G 612 611 md5 λD=>qu D T Nu NN NS
 have N2:=eX P w base X G 619 618 md5 λD=>vL D T Nu ND
 have Pg:=eX P w base X G 626 625 md5 λD=>zS D T Oa Nu ND NP
 have Ph:=eX P w base X G 633 632 md5 λD=>zL D T Nu NH NP Pj
 have NZ:=eX P w base X G 741 740 rA λD=>v8 D T PC O0 Ow OI
 have Og:=eX P w base X G 748 747 rA λD=>pz D T N2 Nw NZ
 have OM:=eX P w base X G 755 754 rA λD=>uT D T NL Oy NF NZ Nv Og Pg OJ N2 Ph
 exact GA (Js w) T OK Ov Nv Ox Ou OL OM Oi NY Nw
theorem LB:yE (κ w)=true:=by kernel_rfl
theorem LZ:nsIn (κ w) mainGlobals "law" = some (some (.ref 760)):=by kernel_rfl
end wK
open PySem PySem.W
theorem wK.hold(said:PySem.Challenge.rw_dialvault_k36_whole_one_stands_for_a_cla.wellSaid=true)(QM:∀ ns:List Int,ns.length<=63->(∀ i∈ns,Builtin.Int.intBits i<=1048576)->wK.sU [.jW (ns.map L2.PV.int)]=L2.M.ok (.bl true)):PySem.Challenge.rw_dialvault_k36_whole_one_stands_for_a_cla.Holds:=by
 refine holds_law said λsaid=>?_
 refine holds_open (q:=HD.vw) (loose:=HD.loose) (Xt:=HD.Xt) (XP:=XL HD.vw []) (Yf:=Hook.obs HD.hook) (Ya:=Hook.val HD.hook) (YP:=Hook.says HD.hook) HD.Jz (Hook.of HD.hook) (Hook.keeps HD.hook) (λs e=>xl_of s (Bool.and_eq_true_iff.mp e).1) XL.keeps (by rfl) (by rfl) (by rfl) (λs e=>recFacts_of (Bool.and_eq_true_iff.mp e).2) (by rfl) said (by decide +kernel) ⟨rfl,rfl,rfl,rfl,rfl,by decide +kernel⟩ ?hw ?hc
 case hw=>w_witness2
 refine L2.xI (l:=PySem.Challenge.rw_dialvault_k36_whole_one_stands_for_a_cla) (n:=63) (k:=11) (x := "_law_script") (K:=HD.K) (sem:=wK.sU) rfl (by decide) rfl ⟨rfl,by decide,by decide⟩ (λw h Y=>PySem.W.kIn_of Y) (λw=>wK.LB w) (λw mg fa h X G hmg=>?_) QM
 have e:=hmg.symm.trans (PySem.W.mg_of X G (wK.LZ w))
 cases e
 exact⟨wK.wU,λs v=>.of_eq rfl,λbase X' G'=>wK.Gr X' G' base⟩
namespace Eu
theorem sP(a b:Int)(hb:b≠0):(a-a.fdiv b*b).natAbs<b.natAbs/\0<=(a-a.fdiv b*b)*b/\(0<=a*b->a.natAbs=(a.fdiv b).natAbs*b.natAbs+(a-a.fdiv b*b).natAbs):=by
 have pos:∀ (a b:Int),0<b->(a-a/b*b).natAbs<b.natAbs/\0<=(a-a/b*b)*b/\(0<=a*b->a.natAbs=(a/b).natAbs*b.natAbs+(a-a/b*b).natAbs):=by
  intro a b hb
  have e:a-a/b*b=a%b:=by
   have h:=Int.mul_ediv_add_emod a b
   rw[Int.mul_comm] at h
   omega
  have h0:=Int.emod_nonneg a (by omega:b≠0)
  have h1:=Int.emod_lt_of_pos a hb
  rw[e]
  refine⟨by omega,Int.mul_nonneg h0 (by omega),λhab=>?_⟩
  have ha:0<=a:=by
   rcases Int.lt_or_le a 0 with h | h
   ·have:=Int.mul_neg_of_neg_of_pos h hb
    omega
   ·exact h
  have hq:0<=a/b:=Int.ediv_nonneg ha (by omega)
  have h2:=Int.mul_ediv_add_emod a b
  have h3:((a/b).natAbs*b.natAbs:Nat)=(b*(a/b)).natAbs:=by
   rw[Int.natAbs_mul,Nat.mul_comm]
  rw[h3]
  have h4:0<=b*(a/b):=Int.mul_nonneg (by omega) hq
  omega
 rcases Int.lt_or_le 0 b with h | h
 ·rw[Int.fdiv_eq_ediv_of_nonneg a (by omega)]
  exact pos a b h
 ·have h':0 < -b:=by omega
  have e:a.fdiv b=(-a)/(-b):=by
   rw[← Int.fdiv_eq_ediv_of_nonneg (-a) (by omega:0<=-b),Int.neg_fdiv_neg]
  obtain⟨p1,p2,p3⟩:=pos (-a) (-b) h'
  have e2:-a-(-a)/(-b)*(-b)=-(a-a.fdiv b*b):=by
   rw[← e,Int.mul_neg]
   omega
  rw[e2] at p1 p2 p3
  rw[← e] at p3
  simp only[Int.natAbs_neg,Int.neg_mul_neg] at p1 p2 p3
  exact⟨p1,p2,p3⟩
structure St (a b:Int) (r s t r' s' t':Int):Prop where
 c0:r=s*a+t*b
 c1:r'=s'*a+t'*b
 dv:∀ d:Int,d∣r->d∣r'->d∣a/\d∣b
 bd:s'.natAbs*r.natAbs+s.natAbs*r'.natAbs<=b.natAbs
 sg:s'=0\/0<=r*r'
 b0:s.natAbs<=b.natAbs+1
 b1:s'.natAbs<=b.natAbs+1
 d0:t.natAbs<=a.natAbs+(b.natAbs+1)*a.natAbs+b.natAbs+1
 d1:t'.natAbs<=a.natAbs+(b.natAbs+1)*a.natAbs+b.natAbs+1
 m0:r.natAbs<=a.natAbs+b.natAbs
 m1:r'.natAbs<=b.natAbs
theorem start(a b:Int):St a b a 1 0 b 0 1 where
 c0:=by omega
 c1:=by omega
 dv:=λd h1 h2=>⟨h1,h2⟩
 bd:=by simp
 sg:=.inl rfl
 b0:=by omega
 b1:=by omega
 d0:=by simp
 d1:=by omega
 m0:=by omega
 m1:=by omega
theorem turn{a b r s t r' s' t':Int}(h:St a b r s t r' s' t')(h0:r'≠0) :
  St a b r' s' t' (r-r.fdiv r'*r') (s-r.fdiv r'*s') (t-r.fdiv r'*t')/\(r-r.fdiv r'*r').natAbs<r'.natAbs:=by
 obtain⟨f1,f2,f3⟩:=sP r r' h0
 generalize hq:r.fdiv r'=q at *
 have hb:b≠0:=by
  intro z
  have:=h.m1
  omega
 have hr':1<=r'.natAbs:=by omega
 have QY:r-q*r'=(s-q*s')*a+(t-q*t')*b:=by
  rw[h.c0,h.c1,Int.sub_mul,Int.sub_mul,Int.mul_add,Int.mul_assoc,Int.mul_assoc]
  omega
 have bd':(s-q*s').natAbs*r'.natAbs+s'.natAbs*(r-q*r').natAbs<=b.natAbs:=by
  have wM:(s-q*s').natAbs<=s.natAbs+q.natAbs*s'.natAbs:=by
   rw[← Int.natAbs_mul]
   omega
  have hbd:=h.bd
  rcases h.sg with z | z
  ·subst z
   simp only[Int.mul_zero,Int.sub_zero,Int.natAbs_zero,Nat.zero_mul,Nat.zero_add,Nat.add_zero] at hbd ⊢
   exact hbd
  ·have e:=f3 z
   have k1:(s-q*s').natAbs*r'.natAbs<=(s.natAbs+q.natAbs*s'.natAbs)*r'.natAbs:=Nat.mul_le_mul_right _ wM
   have k2:(s.natAbs+q.natAbs*s'.natAbs)*r'.natAbs+s'.natAbs*(r-q*r').natAbs=s'.natAbs*r.natAbs+s.natAbs*r'.natAbs:=by
    rw[e,Nat.add_mul,Nat.mul_add,Nat.mul_comm q.natAbs s'.natAbs,Nat.mul_assoc]
    omega
   omega
 have b1':(s-q*s').natAbs<=b.natAbs:=by
  have:(s-q*s').natAbs*1<=(s-q*s').natAbs*r'.natAbs:=Nat.mul_le_mul_left _ hr'
  omega
 have mm:(r-q*r').natAbs<=b.natAbs:=by
  have:=h.m1
  omega
 have d1':(t-q*t').natAbs<=a.natAbs+(b.natAbs+1)*a.natAbs+b.natAbs+1:=by
  have e:(t-q*t')*b=(r-q*r')-(s-q*s')*a:=by omega
  have e1:((t-q*t')*b).natAbs<=(r-q*r').natAbs+((s-q*s')*a).natAbs:=by omega
  rw[Int.natAbs_mul,Int.natAbs_mul] at e1
  have k1:(t-q*t').natAbs*1<=(t-q*t').natAbs*b.natAbs:=Nat.mul_le_mul_left _ (by omega)
  have k2:(s-q*s').natAbs*a.natAbs<=(b.natAbs+1)*a.natAbs:=Nat.mul_le_mul_right _ (by omega)
  omega
 refine⟨⟨h.c1,QY,λd e1 e2=>?_,bd',?_,h.b1,by omega,h.d1,d1',?_,mm⟩,f1⟩
 ·refine h.dv d ?_ e1
  have e3:d∣q*r':=Int.dvd_trans e1 (Int.dvd_mul_left _ _)
  have e4:=Int.dvd_add e2 e3
  rwa [Int.sub_add_cancel] at e4
 ·exact .inr (by rw[Int.mul_comm];exact f2)
 ·have:=h.m1
  omega
theorem done{a b r s t s' t':Int}(h:St a b r s t 0 s' t'):r∣a/\r∣b:=h.dv r (Int.dvd_refl r) (Int.dvd_zero r)
end Eu
namespace Lc
def C7(ns:List Nat):Nat:=ns.foldl Nat.lcm 1
theorem yw:∀ (ns:List Nat) (m:Nat),m∣ns.foldl Nat.lcm m/\(∀ n∈ns,n∣ns.foldl Nat.lcm m)/\(∀ k,m∣k->(∀ n∈ns,n∣k)->ns.foldl Nat.lcm m∣k)
 | [],m=>⟨Nat.dvd_refl m,(λ_ h=>nomatch h),λk h _=>h⟩
 | n::ns,m=>by
  obtain⟨h1,h2,h3⟩:=yw ns (Nat.lcm m n)
  refine⟨Nat.dvd_trans (Nat.dvd_lcm_left m n) h1,λx hx=>?_,λk hm hk=>?_⟩
  ·rcases List.mem_cons.mp hx with e | hx
   ·rw[e];exact Nat.dvd_trans (Nat.dvd_lcm_right m n) h1
   ·exact h2 x hx
  ·exact h3 k (Nat.lcm_dvd hm (hk n List.mem_cons_self)) λx hx=>hk x (List.mem_cons_of_mem _ hx)
theorem lcm_dvd{ns:List Nat}{n:Nat}(h:n∈ns):n∣C7 ns:=(yw ns 1).2.1 n h
theorem oh:∀ (ns:List Nat) (m:Nat),0<m->(∀ n∈ns,0<n)->0<ns.foldl Nat.lcm m
 | [],m,h,_=>h
 | n::ns,m,h,hp=>oh ns (Nat.lcm m n) (Nat.lcm_pos h (hp n List.mem_cons_self)) λx hx=>hp x (List.mem_cons_of_mem _ hx)
theorem lcm_pos{ns:List Nat}(h:∀ n∈ns,0<n):0<C7 ns:=oh ns 1 (by decide) h
theorem p_(B:Nat):∀ (ns:List Nat) (m k:Nat),0<m->m<=2^k->(∀ n∈ns,0<n/\n<=2^B)->ns.foldl Nat.lcm m<=2^(k+B*ns.length)
 | [],m,k,_,h,_=>by simpa using h
 | n::ns,m,k,h0,h,hp=>by
  have hn:=hp n List.mem_cons_self
  have h1:Nat.lcm m n<=2^(k+B):=by
   have:Nat.lcm m n<=m*n:=Nat.le_of_dvd (Nat.mul_pos h0 hn.1) (Nat.lcm_dvd (Nat.dvd_mul_right m n) (Nat.dvd_mul_left n m))
   rw[Nat.pow_add]
   exact Nat.le_trans this (Nat.mul_le_mul h hn.2)
  have h2:=p_ B ns (Nat.lcm m n) (k+B) (Nat.lcm_pos h0 hn.1) h1 λx hx=>hp x (List.mem_cons_of_mem _ hx)
  have e:k+B*(n::ns).length=k+B+B*ns.length:=by
   rw[List.length_cons,Nat.mul_succ];omega
  rw[e]
  exact h2
theorem BK(m n:Nat):m/Nat.gcd m n*n=Nat.lcm m n:=by
 unfold Nat.lcm
 rw[Nat.div_mul_right_comm (Nat.gcd_dvd_left m n)]
end Lc
namespace Rg
abbrev cv:=Nat->Int
def a0(s:cv)(D:Nat->cv)(d:Nat):Int:=if D d d=0 then s d else D d d
def G(n:Nat)(s:cv)(D:Nat->cv):Nat->Nat->cv->Prop
 | 0,_,v=>∀ i,i<n->s i∣v i
 | k+1,d,v=>a0 s D d∣v d/\G n s D k (d+1) λi=>v i-v d/a0 s D d*D d i
def U(i:Nat)(c:Int):cv:=λj=>if j=i then c else 0
section
variable{n:Nat}{s:cv}{D:Nat->cv}
theorem G.ext:∀ {k d:Nat} {v w:cv},d+k=n->(∀ i,i<n->v i=w i)->G n s D k d v->G n s D k d w
 | 0,d,v,w,_,e,h=>λi hi=>by rw[← e i hi];exact h i hi
 | k+1,d,v,w,hn,e,h=>by
  have ed:=e d (by omega)
  refine⟨by rw[← ed];exact h.1,G.ext (by omega) (λi hi=>?_) h.2⟩
  rw[e i hi,ed]
theorem G.add:∀ {k d:Nat} {v w:cv},d+k=n->G n s D k d v->G n s D k d w->G n s D k d λi=>v i+w i
 | 0,d,v,w,_,h,h'=>λi hi=>Int.dvd_add (h i hi) (h' i hi)
 | k+1,d,v,w,hn,h,h'=>by
  refine⟨Int.dvd_add h.1 h'.1,G.ext (by omega) (λi hi=>?_) (G.add (by omega) h.2 h'.2)⟩
  show _=v i+w i-(v d+w d)/a0 s D d*D d i
  rw[Int.add_ediv_of_dvd_left h.1,Int.add_mul]
  omega
theorem G.mul(c:Int):∀ {k d:Nat} {v:cv},d+k=n->G n s D k d v->G n s D k d λi=>c*v i
 | 0,d,v,_,h=>λi hi=>Int.dvd_trans (h i hi) (Int.dvd_mul_left _ _)
 | k+1,d,v,hn,h=>by
  refine⟨Int.dvd_trans h.1 (Int.dvd_mul_left _ _),G.ext (by omega) (λi hi=>?_) (G.mul c (by omega) h.2)⟩
  show _=c*v i-c*v d/a0 s D d*D d i
  rw[Int.mul_ediv_assoc c h.1,Int.mul_sub,Int.mul_assoc]
theorem G.zero:∀ {k d:Nat},d+k=n->G n s D k d λ_=>0
 | 0,d,_=>λi _=>Int.dvd_zero _
 | k+1,d,hn=>⟨Int.dvd_zero _,G.ext (by omega) (λi hi=>by simp) (G.zero (k:=k) (d:=d+1) (by omega))⟩
theorem G.skip{v:cv}:∀ {j k d:Nat},d+(j+k)=n->(∀ i,d<=i->i<d+j->v i=0)->G n s D k (d+j) v->G n s D (j+k) d v
 | 0,k,d,_,_,h=>by rw[Nat.zero_add];exact h
 | j+1,k,d,hn,hz,h=>by
  rw[show j+1+k=(j+k)+1 by omega]
  have z:=hz d (Nat.le_refl _) (by omega)
  refine⟨by rw[z];exact Int.dvd_zero _,G.ext (v:=v) (by omega) (λi hi=>by rw[z];simp) (G.skip (by omega) (λi h1 h2=>hz i (by omega) (by omega)) (by rw[show d+1+j=d+(j+1) by omega];exact h))⟩
end
structure Good (n:Nat) (s:cv) (D:Nat->cv):Prop where
 sp:∀ i,i<n->0<s i
 i9:∀ d,d<n->∀ i,i<n->0<=D d i/\D d i<s i
 wM:∀ d,d<n->∀ i,i<d->D d i=0
 dv:∀ d,d<n->a0 s D d∣s d
 Kr:∀ d k,d+(k+1)=n->G n s D k (d+1) λi=>s d/a0 s D d*D d i
section
variable{n:Nat}{s:cv}{D:Nat->cv}
theorem Good.pos(g:Good n s D){d:Nat}(h:d<n):0<a0 s D d/\a0 s D d<=s d:=by
 have h1:=g.i9 d h d h
 have h2:=g.sp d h
 unfold a0
 split <;> omega
theorem Good.diag(g:Good n s D){d:Nat}(h:d<n):s d∣D d d-a0 s D d:=by
 unfold a0
 split
 ·rename_i z;rw[z];exact⟨-1,by omega⟩
 ·rw[Int.sub_self];exact Int.dvd_zero _
theorem Good.turn(g:Good n s D):∀ {k d i:Nat} (c:Int),d+k=n->i<n->G n s D k d (U i (c*s i))
 | 0,d,i,c,_,hi=>λj hj=>by
  unfold U
  split
  ·rename_i z;rw[z];exact Int.dvd_mul_left _ _
  ·exact Int.dvd_zero _
 | k+1,d,i,c,hn,hi=>by
  have hd:d<n:=by omega
  by_cases z:i=d
  ·subst z
   have dv:=g.dv i hi
   refine⟨by show _∣U i _ i;rw[U,if_pos rfl];exact Int.dvd_trans dv (Int.dvd_mul_left _ _),?_⟩
   refine G.ext (by omega) (λj hj=>?_) (G.add (by omega) (g.turn (k:=k) (d:=i+1) (i:=i) c (by omega) hi) (G.mul (-c) (by omega) (g.Kr i k hn)))
   show U i (c*s i) j+-c*(s i/a0 s D i*D i j)=U i (c*s i) j-U i (c*s i) i/a0 s D i*D i j
   rw[show U i (c*s i) i=c*s i by rw[U,if_pos rfl],Int.mul_ediv_assoc c dv,Int.neg_mul,Int.mul_assoc]
   omega
  ·have u0:U i (c*s i) d=0:=by rw[U,if_neg (Ne.symm z)]
   refine⟨by rw[u0];exact Int.dvd_zero _,G.ext (by omega) (λj hj=>?_) (g.turn (k:=k) (d:=d+1) (i:=i) c (by omega) hi)⟩
   rw[u0];simp
theorem G.qK{k d:Nat}{v w:cv}(ht:∀ i c,i<n->G n s D k d (U i (c*s i)))(hn:d+k=n)(h:∀ i,i<n->s i∣w i-v i)(hv:G n s D k d v):G n s D k d w:=by
 have key:∀ m,m<=n->G n s D k d λi=>if i<m then w i else v i:=by
  intro m
  induction m with
  | zero=>intro _;exact G.ext hn (λi _=>by simp) hv
  | succ m ih =>
   intro hm
   obtain⟨c,hc⟩:=h m (by omega)
   refine G.ext hn (λi hi=>?_) (G.add hn (ih (by omega)) (ht m c (by omega)))
   show (if i<m then w i else v i)+U m (c*s m) i=if i<m+1 then w i else v i
   unfold U
   by_cases z:i=m
   ·subst z
    rw[if_neg (by omega),if_pos rfl,if_pos (by omega),Int.mul_comm c]
    omega
   ·rw[if_neg z]
    by_cases q:i<m
    ·rw[if_pos q,if_pos (by omega)];omega
    ·rw[if_neg q,if_neg (by omega)];omega
 exact G.ext hn (λi hi=>by simp[hi]) (key n (Nat.le_refl _))
theorem Good.qK(g:Good n s D){k d:Nat}{v w:cv}(hn:d+k=n)(h:∀ i,i<n->s i∣w i-v i)(hv:G n s D k d v):G n s D k d w :=
 G.qK (λi c hi=>g.turn c hn hi) hn h hv
theorem Good.sub(g:Good n s D){k d:Nat}{v w:cv}(hn:d+k=n)(hv:G n s D k d v)(hw:G n s D k d w):G n s D k d λi=>v i-w i :=
 G.ext hn (λi _=>by omega) (G.add hn hv (G.mul (-1) hn hw))
theorem Good.own(g:Good n s D){d k:Nat}(hn:d+(k+1)=n):G n s D (k+1) d (D d):=by
 have hd:d<n:=by omega
 by_cases z:D d d=0
 ·have e:a0 s D d=s d:=by unfold a0;rw[if_pos z]
  have c:=g.Kr d k hn
  rw[e] at c
  refine⟨by rw[z];exact Int.dvd_zero _,G.ext (by omega) (λi hi=>?_) c⟩
  rw[z,Int.ediv_self (by have:=g.sp d hd;omega)]
  simp
 ·have e:a0 s D d=D d d:=by unfold a0;rw[if_neg z]
  refine⟨by rw[e];exact Int.dvd_refl _,G.ext (by omega) (λi hi=>?_) (G.zero (k:=k) (d:=d+1) (by omega))⟩
  rw[e,Int.ediv_self z];omega
theorem Good.row(g:Good n s D){d:Nat}(hd:d<n):∀ {k e:Nat},e+k=n->e<=d->G n s D k e (D d):=by
 intro k e hn he
 have h:=g.own (d:=d) (k:=n-d-1) (by omega)
 have:=G.skip (n:=n) (s:=s) (D:=D) (v:=D d) (j:=d-e) (k:=n-d-1+1) (d:=e) (by omega) (λi h1 h2=>g.wM d hd i (by omega)) (by rw[show e+(d-e)=d by omega];exact h)
 rw[show d-e+(n-d-1+1)=k by omega] at this
 exact this
end
structure Tk (n:Nat) (s:cv) (D D' L:Nat->cv) (u v g:Nat->Int):Prop where
 gp:∀ d,d<n->0<g d
 bz:∀ d,d<n->u d*a0 s D d+v d*L d d=g d
 g1:∀ d,d<n->g d∣a0 s D d
 g2:∀ d,d<n->g d∣L d d
 JK:∀ d,d<n->∀ i,i<n->D' d i=(u d*D d i+v d*L d i)%s i
 Jt:∀ d,d<n->∀ i,i<n->L (d+1) i=(a0 s D d/g d*L d i+-(L d d/g d)*D d i)%s i
 l0:∀ i,i<n->0<=L 0 i/\L 0 i<s i
section
variable{n:Nat}{s:cv}{D D' L:Nat->cv}{u v g:Nat->Int}
theorem eo(a b:Int):b∣a%b-a:=⟨-(a/b),by have:=Int.emod_def a b;rw[Int.mul_neg];omega⟩
theorem zD(a b:Int):b∣a-a%b:=⟨a/b,by have:=Int.emod_def a b;omega⟩
theorem Tk.kept(t:Tk n s D D' L u v g)(G:Good n s D):∀ d,d<=n->∀ i,i<n->0<=L d i/\L d i<s i:=by
 intro d hd i hi
 cases d with
 | zero=>exact t.l0 i hi
 | succ d =>
  rw[t.Jt d (by omega) i hi]
  have:=G.sp i hi
  exact⟨Int.emod_nonneg _ (by omega),Int.emod_lt_of_pos _ this⟩
theorem iP{a b:Int}(h0:0<=a)(h1:a<b)(h:b∣a):a=0:=by
 obtain⟨c,rfl⟩:=h
 rcases Int.lt_or_le 0 c with hc | hc
 ·have:b*1<=b*c:=Int.mul_le_mul_of_nonneg_left hc (by omega)
  omega
 ·have:b*c<=0:=Int.mul_nonpos_of_nonneg_of_nonpos (by omega) hc
  omega
theorem Tk.zero(t:Tk n s D D' L u v g)(G:Good n s D):∀ d,d<=n->∀ i,i<d->L d i=0:=by
 intro d
 induction d with
 | zero=>intro _ i hi;omega
 | succ d ih =>
  intro hd i hi
  have Qy:d<n:=by omega
  have k:=t.kept G (d+1) hd i (by omega)
  refine iP k.1 k.2 ?_
  rw[t.Jt d Qy i (by omega)]
  rcases Nat.lt_or_ge i d with h | h
  ·rw[ih (by omega) i h,G.wM d Qy i h]
   simp
  ·obtain rfl:i=d:=by omega
   refine Int.dvd_trans ?_ (Int.dvd_refl _)
   obtain⟨c,hc⟩:=G.diag Qy
   obtain⟨a,ha⟩:=t.g1 i Qy
   obtain⟨b,hb⟩:=t.g2 i Qy
   have gp:=t.gp i Qy
   have e1:a0 s D i/g i=a:=by rw[ha];exact Int.mul_ediv_cancel_left a (by omega)
   have e2:L i i/g i=b:=by rw[hb];exact Int.mul_ediv_cancel_left b (by omega)
   rw[e1,e2]
   have e3:a*L i i+-b*D i i=s i*(-b*c):=by
    have:D i i=a0 s D i+s i*c:=by omega
    rw[this,ha,hb];grind
   rw[e3,Int.mul_emod_right]
   exact Int.dvd_zero _
theorem Tk.step(t:Tk n s D D' L u v g)(G:Good n s D){d:Nat}(hd:d<n):a0 s D' d=g d:=by
 obtain⟨c,hc⟩:=G.diag hd
 have gp:=t.gp d hd
 have sp:=G.sp d hd
 have st:=G.pos hd
 have le:g d<=a0 s D d:=Int.le_of_dvd st.1 (t.g1 d hd)
 have e:D' d d=g d%s d:=by
  rw[t.JK d hd d hd,← t.bz d hd]
  have:D d d=a0 s D d+s d*c:=by omega
  rw[this,show u d*(a0 s D d+s d*c)+v d*L d d=(u d*a0 s D d+v d*L d d)+s d*(u d*c) by grind,Int.add_mul_emod_self_left]
 unfold a0
 rw[e]
 by_cases z:g d=s d
 ·rw[z,Int.emod_self,if_pos rfl]
 ·rw[Int.emod_eq_of_lt (by omega) (by omega),if_neg (by omega)]
theorem Tk.main(t:Tk n s D D' L u v g)(Gd:Good n s D):∀ k d,d+k=n->(∀ w,G n s D k d w->G n s D' k d w)/\G n s D' k d (L d)
 | 0,d,hn=>by
  refine⟨λw h=>h,λi hi=>?_⟩
  rw[t.zero Gd d (by omega) i (by omega)];exact Int.dvd_zero _
 | k+1,d,hn=>by
  obtain⟨i1,i2⟩:=t.main Gd k (d+1) (by omega)
  have hd:d<n:=by omega
  have turn:∀ i c,i<n->G n s D' k (d+1) (U i (c*s i)):=λi c hi=>i1 _ (Gd.turn c (by omega) hi)
  have st:=t.step Gd hd
  have gp:=t.gp d hd
  obtain⟨a,ha⟩:=t.g1 d hd
  obtain⟨b,hb⟩:=t.g2 d hd
  have e1:a0 s D d/g d=a:=by rw[ha];exact Int.mul_ediv_cancel_left a (by omega)
  have e2:L d d/g d=b:=by rw[hb];exact Int.mul_ediv_cancel_left b (by omega)
  have bz:u d*a+v d*b=1:=by
   have:=t.bz d hd
   rw[ha,hb,show u d*(g d*a)+v d*(g d*b)=g d*(u d*a+v d*b) by grind] at this
   have h2:g d*(u d*a+v d*b)=g d*1:=by omega
   exact Int.eq_of_mul_eq_mul_left (by omega) h2
  have w1:∀ i,i<n->∃ c,D' d i=u d*D d i+v d*L d i+s i*c:=λi hi=>by
   obtain⟨c,hc⟩:=eo (u d*D d i+v d*L d i) (s i)
   exact⟨c,by rw[t.JK d hd i hi];omega⟩
  have w2:∀ i,i<n->∃ c,L (d+1) i=a*L d i+-b*D d i+s i*c:=λi hi=>by
   obtain⟨c,hc⟩:=eo (a*L d i+-b*D d i) (s i)
   exact⟨c,by rw[t.Jt d hd i hi,e1,e2];omega⟩
  constructor
  ·intro w h
   obtain⟨h1,h2⟩:=h
   refine⟨by rw[st];exact Int.dvd_trans (t.g1 d hd) h1,?_⟩
   obtain⟨q,hq⟩:=h1
   have sp:=(Gd.pos hd).1
   have q1:w d/a0 s D d=q:=by rw[hq];exact Int.mul_ediv_cancel_left q (by omega)
   have q2:w d/a0 s D' d=q*a:=by
    rw[st,hq,ha,show g d*a*q=g d*(q*a) by grind];exact Int.mul_ediv_cancel_left _ (by omega)
   rw[q2]
   rw[q1] at h2
   refine G.qK turn (by omega) (λi hi=>?_) (G.add (by omega) (i1 _ h2) (G.mul (q*-(v d)) (by omega) i2))
   obtain⟨c1,hc1⟩:=w1 i hi
   obtain⟨c2,Pn⟩:=w2 i hi
   refine⟨q*(v d*c2-a*c1),?_⟩
   rw[hc1,Pn];grind
  ·refine⟨by rw[st];exact t.g2 d hd,?_⟩
   rw[st,e2]
   refine G.qK turn (by omega) (λi hi=>?_) (G.mul (u d) (by omega) i2)
   obtain⟨c1,hc1⟩:=w1 i hi
   obtain⟨c2,Pn⟩:=w2 i hi
   refine⟨-(b*c1)-u d*c2,?_⟩
   rw[hc1,Pn];grind
theorem Tk.good(t:Tk n s D D' L u v g)(Gd:Good n s D):Good n s D' where
 sp:=Gd.sp
 i9:=λd hd i hi=>by
  rw[t.JK d hd i hi]
  have:=Gd.sp i hi
  exact⟨Int.emod_nonneg _ (by omega),Int.emod_lt_of_pos _ this⟩
 wM:=λd hd i hi=>by
  rw[t.JK d hd i (by omega),Gd.wM d hd i hi,t.zero Gd d (by omega) i hi];simp
 dv:=λd hd=>by
  rw[t.step Gd hd];exact Int.dvd_trans (t.g1 d hd) (Gd.dv d hd)
 Kr:=λd k hn=>by
  have hd:d<n:=by omega
  have h1:=(t.main Gd (k+1) d hn).1 _ (Gd.turn (i:=d) 1 hn hd)
  have h2:=(t.main Gd k (d+1) (by omega)).1 _ (Gd.turn (i:=d) 1 (by omega) hd)
  have h3:=h1.2
  have ud:U d (1*s d) d=s d:=by rw[U,if_pos rfl,Int.one_mul]
  rw[ud] at h3
  refine G.ext (by omega) (λi hi=>?_) (G.add (by omega) h2 (G.mul (-1) (by omega) h3))
  show U d (1*s d) i+-1*(U d (1*s d) i-s d/a0 s D' d*D' d i)=_
  omega
end
end Rg
namespace Rg
section
variable{n:Nat}{s:cv}{D D':Nat->cv}
theorem Good.D6(Gd:Good n s D)(i9:∀ d,d<n->∀ i,i<n->0<=D' d i/\D' d i<s i)(wM:∀ d,d<n->∀ i,i<d->D' d i=0)(dv:∀ d,d<n->a0 s D' d∣s d)
  (h:∀ k d,d+k=n->∀ w,G n s D k d w->G n s D' k d w):Good n s D' where
 sp:=Gd.sp
 i9:=i9
 wM:=wM
 dv:=dv
 Kr:=λd k hn=>by
  have hd:d<n:=by omega
  have h1:=h (k+1) d hn _ (Gd.turn (i:=d) 1 hn hd)
  have h2:=h k (d+1) (by omega) _ (Gd.turn (i:=d) 1 (by omega) hd)
  have h3:=h1.2
  have ud:U d (1*s d) d=s d:=by rw[U,if_pos rfl,Int.one_mul]
  rw[ud] at h3
  refine G.ext (by omega) (λi hi=>?_) (G.add (by omega) h2 (G.mul (-1) (by omega) h3))
  show U d (1*s d) i+-1*(U d (1*s d) i-s d/a0 s D' d*D' d i)=_
  omega
structure Dn (n:Nat) (s:cv) (D:Nat->cv) (f:Nat) (W:Nat->cv):Prop where
 w0:∀ i,i<n->0<=W f i/\W f i<s i
 ws:∀ d,f<=d->d<n->∀ i,i<n->W (d+1) i=(1*W d i+-(W d d/a0 s D d)*D d i)%s i
variable{f:Nat}{W:Nat->cv}
theorem Dn.kept(h:Dn n s D f W)(Gd:Good n s D):∀ d,f<=d->d<=n->∀ i,i<n->0<=W d i/\W d i<s i:=by
 intro d hf hd i hi
 rcases Nat.lt_or_ge f d with q | q
 ·obtain⟨e,rfl⟩:∃ e,d=e+1:=⟨d-1,by omega⟩
  rw[h.ws e (by omega) (by omega) i hi]
  have:=Gd.sp i hi
  exact⟨Int.emod_nonneg _ (by omega),Int.emod_lt_of_pos _ this⟩
 ·obtain rfl:d=f:=by omega
  exact h.w0 i hi
theorem Dn.ahead(h:Dn n s D f W)(Gd:Good n s D){d i:Nat}(hf:f<=d)(hd:d<n)(hi:i<d):W (d+1) i=W d i:=by
 have k:=h.kept Gd d hf (by omega) i (by omega)
 rw[h.ws d hf hd i (by omega),Gd.wM d hd i hi,Int.mul_zero,Int.add_zero,Int.one_mul,Int.emod_eq_of_lt k.1 k.2]
theorem Dn.at_(h:Dn n s D f W)(Gd:Good n s D){d:Nat}(hf:f<=d)(hd:d<n):W (d+1) d=W d d%a0 s D d:=by
 have k:=h.kept Gd d hf (by omega) d hd
 have p:=Gd.pos hd
 rw[h.ws d hf hd d hd]
 have e:=Int.emod_def (W d d) (a0 s D d)
 have q0:=Int.emod_nonneg (W d d) (show a0 s D d≠0 by omega)
 have q1:=Int.emod_lt_of_pos (W d d) p.1
 by_cases z:D d d=0
 ·have st:a0 s D d=s d:=by unfold a0;rw[if_pos z]
  rw[z,st,Int.emod_eq_of_lt k.1 k.2,Int.mul_zero,Int.add_zero,Int.one_mul,Int.emod_eq_of_lt k.1 k.2]
 ·have st:a0 s D d=D d d:=by unfold a0;rw[if_neg z]
  rw[← st,show 1*W d d+-(W d d/a0 s D d)*a0 s D d=W d d%a0 s D d by rw[e];grind]
  exact Int.emod_eq_of_lt q0 (by omega)
theorem Dn.low(h:Dn n s D f W)(Gd:Good n s D):∀ d,f<=d->d<=n->∀ e,f<=e->e<d->0<=W d e/\W d e<a0 s D e:=by
 intro d
 induction d with
 | zero=>intro _ _ e _ he;omega
 | succ d ih =>
  intro hf hd e he hed
  rcases Nat.lt_or_ge e d with q | q
  ·rw[h.ahead Gd (by omega) (by omega) q];exact ih (by omega) (by omega) e he q
  ·obtain rfl:e=d:=by omega
   have p:=Gd.pos (show e<n by omega)
   rw[h.at_ Gd he (by omega)]
   exact⟨Int.emod_nonneg _ (by omega),Int.emod_lt_of_pos _ p.1⟩
theorem Dn.front(h:Dn n s D f W)(Gd:Good n s D):∀ d,f<=d->d<=n->∀ i,i<f->W d i=W f i:=by
 intro d
 induction d with
 | zero=>intro h1 _ i hi;omega
 | succ d ih =>
  intro hf hd i hi
  rcases Nat.lt_or_ge d f with q | q
  ·rw[show d+1=f by omega]
  ·rw[h.ahead Gd q (by omega) (by omega)];exact ih q (by omega) i hi
theorem Dn.run(h:Dn n s D f W)(Gd:Good n s D):∀ k d,f<=d->d+k=n->G n s D k d (W d)->∀ i,i<n->W n i=0
 | 0,d,hf,hn,g,i,hi=>by
  rw[Nat.add_zero] at hn
  subst hn
  have k:=h.kept Gd d hf (Nat.le_refl _) i hi
  exact iP k.1 k.2 (g i hi)
 | k+1,d,hf,hn,g,i,hi=>by
  refine h.run Gd k (d+1) (by omega) (by omega) (Gd.qK (by omega) (λj hj=>?_) g.2) i hi
  rw[h.ws d hf (by omega) j hj]
  have:=eo (1*W d j+-(W d d/a0 s D d)*D d j) (s j)
  rw[show 1*W d j+-(W d d/a0 s D d)*D d j=W d j-W d d/a0 s D d*D d j by grind] at this
  rw[show 1*W d j+-(W d d/a0 s D d)*D d j=W d j-W d d/a0 s D d*D d j by grind]
  exact this
theorem Dn.away(h:Dn n s D f W)(Gd:Good n s D):∀ d,f<=d->d<=n->∀ k,f+k=n->G n s D k f λi=>W f i-W d i:=by
 intro d
 induction d with
 | zero =>
  intro hf _ k hn
  obtain rfl:f=0:=by omega
  exact G.ext hn (λi _=>by omega) (G.zero hn)
 | succ d ih =>
  intro hf hd k hn
  rcases Nat.lt_or_ge d f with q | q
  ·rw[show d+1=f by omega]
   exact G.ext hn (λi _=>by omega) (G.zero hn)
  ·refine Gd.qK hn (λi hi=>?_) (G.add hn (ih q (by omega) k hn) (G.mul (W d d/a0 s D d) hn (Gd.row (show d<n by omega) hn q)))
   rw[h.ws d q (by omega) i hi]
   have:=zD (1*W d i+-(W d d/a0 s D d)*D d i) (s i)
   obtain⟨c,hc⟩:=this
   exact⟨c,by rw[← hc];grind⟩
theorem G.small(Gd:Good n s D):∀ k d (v:cv),d+k=n->(∀ i,i<n->0<=v i/\v i<s i)->(∀ i,d<=i->i<n->v i<a0 s D i)->G n s D k d v->∀ i,i<n->v i=0
 | 0,d,v,hn,h0,_,g,i,hi=>iP (h0 i hi).1 (h0 i hi).2 (g i hi)
 | k+1,d,v,hn,h0,h1,g,i,hi=>by
  have z:v d=0:=iP (h0 d (by omega)).1 (h1 d (Nat.le_refl _) (by omega)) g.1
  refine G.small Gd k (d+1) v (by omega) h0 (λj hj=>h1 j (by omega)) (G.ext (by omega) (λj hj=>?_) g.2) i hi
  rw[z];simp
theorem v_(Gd:Good n s D)(W:Nat->Nat->cv)(hW:∀ d,d<n->Dn n s D (d+1) (W d))(h0:∀ d,d<n->∀ i,i<n->W d (d+1) i=D d i)(hD:∀ d,d<n->∀ i,i<n->D' d i=W d n i) :
  Good n s D'/\(∀ d,d<n->a0 s D' d=a0 s D d)/\(∀ d,d<n->∀ e,d<e->e<n->D' d e<a0 s D e)/\(∀ d,d<n->D' d d=0->∀ i,i<n->D' d i=0)/\(∀ k d,d+k=n->∀ w,G n s D k d w->G n s D' k d w):=by
 have dg:∀ d,d<n->∀ i,i<=d->D' d i=D d i:=λd hd i hi=>by
  rw[hD d hd i (by omega),(hW d hd).front Gd n (by omega) (Nat.le_refl _) i (by omega),h0 d hd i (by omega)]
 have st:∀ d,d<n->a0 s D' d=a0 s D d:=λd hd=>by
  unfold a0;rw[dg d hd d (Nat.le_refl _)]
 have Rn:∀ k d,d+k=n->∀ w,G n s D k d w->G n s D' k d w:=by
  intro k
  induction k with
  | zero=>intro d _ w h;exact h
  | succ k ih =>
   intro d hn w h
   have hd:d<n:=by omega
   refine⟨by rw[st d hd];exact h.1,ih (d+1) (by omega) _ ?_⟩
   rw[st d hd]
   refine G.ext (by omega) (λi hi=>?_) (G.add (by omega) h.2 (G.mul (w d/a0 s D d) (by omega) ((hW d hd).away Gd n (by omega) (Nat.le_refl _) k (by omega))))
   show w i-w d/a0 s D d*D d i+w d/a0 s D d*(W d (d+1) i-W d n i)=_
   rw[h0 d hd i hi,hD d hd i hi];grind
 have good:Good n s D':=Gd.D6 (λd hd i hi=>by rw[hD d hd i hi];exact(hW d hd).kept Gd n (by omega) (Nat.le_refl _) i hi) (λd hd i hi=>by rw[dg d hd i (by omega)];exact Gd.wM d hd i hi) (λd hd=>by rw[st d hd];exact Gd.dv d hd) Rn
 have lt:∀ d,d<n->∀ e,d<e->e<n->D' d e<a0 s D e:=λd hd e he hen=>by
  rw[hD d hd e hen];exact((hW d hd).low Gd n (by omega) (Nat.le_refl _) e (by omega) hen).2
 refine⟨good,st,lt,λd hd z=>?_,Rn⟩
 have h1:=good.own (d:=d) (k:=n-d-1) (by omega)
 have h2:=h1.2
 refine G.small good (n-d-1) (d+1) (D' d) (by omega) (good.i9 d hd) (λi h1 h2=>by rw[st i h2];exact lt d hd i (by omega) h2) (G.ext (by omega) (λi hi=>?_) h2)
 rw[z];simp
end
def c6:Nat->(Nat->Int)->Int
 | 0,_=>0
 | m+1,f=>c6 m f+f m
theorem j_(a b:Int)(f g h:Nat->Int):∀ m,(∀ l,l<m->h l=a*f l+b*g l)->c6 m h=a*c6 m f+b*c6 m g
 | 0,_=>by simp[c6]
 | m+1,e=>by
  rw[c6,c6,c6,j_ a b f g h m λl hl=>e l (by omega),e m (by omega)];grind
theorem eT{f g:Nat->Int}:∀ {m:Nat},(∀ l,l<m->f l=g l)->c6 m f=c6 m g
 | 0,_=>rfl
 | m+1,e=>by rw[c6,c6,eT λl hl=>e l (by omega),e m (by omega)]
theorem iS:∀ m,c6 m (λ_=>0)=0
 | 0=>rfl
 | m+1=>by rw[c6,iS m];rfl
theorem iR(k:Nat)(a:Int):∀ m,k<m->∀ f:Nat->Int,(∀ l,l<m->f l=if l=k then a else 0)->c6 m f=a
 | 0,h,_,_=>by omega
 | m+1,h,f,e=>by
  rw[c6]
  by_cases z:k=m
  ·subst z
   rw[eT (g:=λ_=>0) λl hl=>by rw[e l (by omega),if_neg (by omega)],iS,e k (by omega),if_pos rfl];omega
  ·rw[iR k a m (by omega) f λl hl=>e l (by omega),e m (by omega),if_neg (by omega)];omega
def Led(n:Nat)(s:cv)(m:Nat)(A:Nat->cv)(v P:cv):Prop:=∀ i,i<n->s i∣v i-c6 m λl=>P l*A l i
theorem Led.mix{n m:Nat}{s:cv}{A:Nat->cv}{v w x P Q R:cv}{a b:Int}(h1:Led n s m A v P)(h2:Led n s m A w Q)(hx:∀ i,i<n->s i∣x i-(a*v i+b*w i))(hR:∀ l,l<m->R l=a*P l+b*Q l):Led n s m A x R:=λi hi=>by
 obtain⟨c1,e1⟩:=h1 i hi
 obtain⟨c2,e2⟩:=h2 i hi
 obtain⟨c3,e3⟩:=hx i hi
 rw[j_ a b (λl=>P l*A l i) (λl=>Q l*A l i) (λl=>R l*A l i) m λl hl=>by rw[hR l hl];grind]
 exact⟨a*c1+b*c2+c3,by grind⟩
def aT:Nat->(Nat->Int)->Int
 | 0,_=>1
 | m+1,f=>aT m f*f m
theorem sO{f g h:Nat->Int}:∀ {m:Nat},(∀ l,l<m->f l=g l*h l)->aT m f=aT m g*aT m h
 | 0,_=>rfl
 | m+1,e=>by rw[aT,aT,aT,sO λl hl=>e l (by omega),e m (by omega)];grind
theorem fc{f g:Nat->Int}:∀ {m:Nat},(∀ l,l<m->f l=g l)->aT m f=aT m g
 | 0,_=>rfl
 | m+1,e=>by rw[aT,aT,fc λl hl=>e l (by omega),e m (by omega)]
theorem kX{f:Nat->Int}:∀ {m:Nat},(∀ l,l<m->0<f l)->0<aT m f
 | 0,_=>(by decide:(0:Int)<1)
 | m+1,e=>Int.mul_pos (kX λl hl=>e l (by omega)) (e m (by omega))
end Rg
namespace Rg
def vf(xs:List Int):cv:=λi=>xs.getD i 0
theorem aH{xs:List Int}{i:Nat}(h:i<xs.length):vf xs i=xs[i]:=by
 unfold vf;rw[List.getD_eq_getElem?_getD,List.getElem?_eq_getElem h];rfl
theorem pd{xs:List Int}{i:Nat}(h:xs.length<=i):vf xs i=0:=by
 unfold vf;rw[List.getD_eq_getElem?_getD,List.getElem?_eq_none h];rfl
def oG(xs:List Int)(a:Int)(ys:List Int)(b:Int):List Int:=(xs.zip ys).map λz=>a*z.1+b*z.2
def zZ(xs sizes:List Int):List Int:=(xs.zip sizes).map λz=>z.1%z.2
theorem bY{xs ys:List Int}{a b:Int}:(oG xs a ys b).length=min xs.length ys.length:=by simp[oG]
theorem iW{xs ys:List Int}:(zZ xs ys).length=min xs.length ys.length:=by simp[zZ]
theorem e_{xs ys:List Int}{a b:Int}{i:Nat}(h1:i<xs.length)(h2:i<ys.length):vf (oG xs a ys b) i=a*vf xs i+b*vf ys i:=by
 rw[aH (by rw[bY];omega),aH h1,aH h2]
 simp[oG]
theorem jI{xs ys:List Int}{i:Nat}(h1:i<xs.length)(h2:i<ys.length):vf (zZ xs ys) i=vf xs i%vf ys i:=by
 rw[aH (by rw[iW];omega),aH h1,aH h2]
 simp[zZ]
theorem lC{xs ys:List Int}(hl:xs.length=ys.length)(h:∀ i,i<xs.length->vf xs i=vf ys i):xs=ys:=by
 refine List.ext_getElem hl λi h1 h2=>?_
 have:=h i h1
 rwa [aH h1,aH h2] at this
theorem e8(n:Nat)(i:Nat):vf (List.replicate n 0) i=0:=by
 rcases Nat.lt_or_ge i n with h | h
 ·rw[aH (by simpa using h)];simp
 ·rw[pd (by simpa using h)]
def Bd(B:Nat)(xs:List Int):Prop:=∀ x∈xs,x.natAbs<2^B
theorem Bd.mono{B C:Nat}{xs:List Int}(h:Bd B xs)(hc:B<=C):Bd C xs:=λx hx=>Nat.lt_of_lt_of_le (h x hx) (Nat.pow_le_pow_right (by decide) hc)
theorem Bd.vf{B:Nat}{xs:List Int}(h:Bd B xs)(i:Nat):(vf xs i).natAbs<2^B:=by
 rcases Nat.lt_or_ge i xs.length with q | q
 ·rw[aH q];exact h _ (List.getElem_mem q)
 ·rw[pd q];exact Nat.two_pow_pos B
theorem xp{a b:Int}{A B:Nat}(ha:a.natAbs<2^A)(hb:b.natAbs<2^B):(a*b).natAbs<2^(A+B):=by
 rw[Int.natAbs_mul,Nat.pow_add]
 have h0:0<2^A:=Nat.two_pow_pos A
 have h1:0<2^B:=Nat.two_pow_pos B
 exact Nat.mul_lt_mul_of_lt_of_le ha (Nat.le_of_lt hb) h1
theorem Gq{a b:Int}{A:Nat}(ha:a.natAbs<2^A)(hb:b.natAbs<2^A):(a+b).natAbs<2^(A+1):=by
 rw[Nat.pow_succ];omega
theorem Bd.mix{A B:Nat}{xs ys:List Int}{a b:Int}(hx:Bd B xs)(hy:Bd B ys)(ha:a.natAbs<2^A)(hb:b.natAbs<2^A):Bd (A+B+1) (oG xs a ys b):=by
 intro z hz
 obtain⟨w,hw,rfl⟩:=List.mem_map.mp hz
 have:=List.of_mem_zip (a:=w.1) (b:=w.2) hw
 exact Gq (xp ha (hx _ this.1)) (xp hb (hy _ this.2))
abbrev Row:=List Int×List Int
def row(rows:List Row)(d:Nat):Row:=rows.getD d ([],[])
def DD(rows:List Row):Nat->cv:=λd=>vf (row rows d).1
def PP(rows:List Row):Nat->cv:=λd=>vf (row rows d).2
structure Wf (n m:Nat) (rows:List Row):Prop where
 len:rows.length=n
 l1:∀ r∈rows,r.1.length=n
 l2:∀ r∈rows,r.2.length=m
theorem jj{rows:List Row}{d:Nat}(h:d<rows.length):row rows d=rows[d]:=by
 unfold row;rw[List.getD_eq_getElem?_getD,List.getElem?_eq_getElem h];rfl
theorem Wf.qM{n m:Nat}{rows:List Row}(w:Wf n m rows){d:Nat}(h:d<n):(row rows d).1.length=n:=by
 rw[jj (by rw[w.len];exact h)];exact w.l1 _ (List.getElem_mem _)
theorem Wf.at2{n m:Nat}{rows:List Row}(w:Wf n m rows){d:Nat}(h:d<n):(row rows d).2.length=m:=by
 rw[jj (by rw[w.len];exact h)];exact w.l2 _ (List.getElem_mem _)
def qL(sizes:List Int)(r:Row)(a:Int)(q:Row)(b:Int):Row:=(zZ (oG r.1 a q.1 b) sizes,oG r.2 a q.2 b)
def aB(c:Int->Int->Int×Int)(sizes:List Int)(rows:List Row)(left:Row):Nat->Row
 | 0=>left
 | d+1 =>
  let l:=aB c sizes rows left d
  let st:=a0 (vf sizes) (DD rows) d
  let nt:=vf l.1 d
  qL sizes l (st/(Int.gcd st nt:Nat)) (row rows d) (-(nt/(Int.gcd st nt:Nat)))
def eC(c:Int->Int->Int×Int)(sizes:List Int)(rows:List Row)(left:Row)(d:Nat):Row :=
 let l:=aB c sizes rows left d
 let st:=a0 (vf sizes) (DD rows) d
 let nt:=vf l.1 d
 qL sizes (row rows d) (c st nt).1 l (c st nt).2
def cM(c:Int->Int->Int×Int)(sizes:List Int)(rows:List Row)(left:Row)(n:Nat):List Row:=(List.range n).map (eC c sizes rows left)
section
variable{c:Int->Int->Int×Int}{sizes:List Int}{rows:List Row}{left:Row}{n m:Nat}
theorem dh(w:Wf n m rows)(hs:sizes.length=n)(h1:left.1.length=n)(h2:left.2.length=m):∀ d,d<=n->(aB c sizes rows left d).1.length=n/\(aB c sizes rows left d).2.length=m
 | 0,_=>⟨h1,h2⟩
 | d+1,hd=>by
  obtain⟨i1,i2⟩:=dh w hs h1 h2 d (by omega)
  have e1:=w.qM (d:=d) (by omega);have e2:=w.at2 (d:=d) (by omega)
  simp only[aB,qL]
  rw[iW,bY,bY]
  exact⟨by omega,by omega⟩
theorem kN{d:Nat}(h:d<n):row (cM c sizes rows left n) d=eC c sizes rows left d:=by
 rw[jj (by simp[cM,h])];simp[cM]
theorem Cr(w:Wf n m rows)(hs:sizes.length=n)(h1:left.1.length=n)(h2:left.2.length=m):Wf n m (cM c sizes rows left n):=by
 have key:∀ d,d<n->(eC c sizes rows left d).1.length=n/\(eC c sizes rows left d).2.length=m:=λd hd=>by
  obtain⟨i1,i2⟩:=dh (c:=c) w hs h1 h2 d (by omega)
  have e1:=w.qM (d:=d) hd;have e2:=w.at2 (d:=d) hd
  simp only[eC,qL]
  rw[iW,bY,bY]
  exact⟨by omega,by omega⟩
 refine⟨by simp[cM],λr hr=>?_,λr hr=>?_⟩
 ·obtain⟨d,hd,rfl⟩:=List.mem_map.mp hr
  exact(key d (List.mem_range.mp hd)).1
 ·obtain⟨d,hd,rfl⟩:=List.mem_map.mp hr
  exact(key d (List.mem_range.mp hd)).2
theorem gH{a b:Int}(h:0<a):0<(Int.gcd a b:Int):=by
 have:=Int.gcd_pos_of_ne_zero_left b (show a≠0 by omega);omega
theorem Jq(w:Wf n m rows)(hs:sizes.length=n)(h1:left.1.length=n)(h2:left.2.length=m)(Gd:Good n (vf sizes) (DD rows))(h0:∀ i,i<n->0<=vf left.1 i/\vf left.1 i<vf sizes i)
  (hc:∀ d,d<n->(c (a0 (vf sizes) (DD rows) d) (vf (aB c sizes rows left d).1 d)).1*a0 (vf sizes) (DD rows) d+(c (a0 (vf sizes) (DD rows) d) (vf (aB c sizes rows left d).1 d)).2*vf (aB c sizes rows left d).1 d=(Int.gcd (a0 (vf sizes) (DD rows) d) (vf (aB c sizes rows left d).1 d):Nat)) :
  Tk n (vf sizes) (DD rows) (DD (cM c sizes rows left n)) (λd=>vf (aB c sizes rows left d).1) (λd=>(c (a0 (vf sizes) (DD rows) d) (vf (aB c sizes rows left d).1 d)).1) (λd=>(c (a0 (vf sizes) (DD rows) d) (vf (aB c sizes rows left d).1 d)).2) (λd=>(Int.gcd (a0 (vf sizes) (DD rows) d) (vf (aB c sizes rows left d).1 d):Nat)) where
 gp:=λd hd=>gH (Gd.pos hd).1
 bz:=hc
 g1:=λd hd=>Int.gcd_dvd_left ..
 g2:=λd hd=>Int.gcd_dvd_right ..
 JK:=λd hd i hi=>by
  obtain⟨i1,i2⟩:=dh (c:=c) w hs h1 h2 d (by omega)
  have e1:=w.qM (d:=d) hd
  show vf (row (cM c sizes rows left n) d).1 i=_
  rw[kN hd]
  simp only[eC,qL]
  rw[jI (by rw[bY];omega) (by omega),e_ (by omega) (by omega)]
  rfl
 Jt:=λd hd i hi=>by
  obtain⟨i1,i2⟩:=dh (c:=c) w hs h1 h2 d (by omega)
  have e1:=w.qM (d:=d) hd
  simp only[aB,qL]
  rw[jI (by rw[bY];omega) (by omega),e_ (by omega) (by omega)]
  rfl
 l0:=h0
end
end Rg
namespace Rg
section
variable{c:Int->Int->Int×Int}{sizes:List Int}{rows:List Row}{left:Row}{n m k:Nat}{A:Nat->cv}
def CB(c:Int->Int->Int×Int):Prop:=∀ a b:Int,0<a->a<=360->0<=b->b<=360->(c a b).1*a+(c a b).2*b=(Int.gcd a b:Nat)/\(c a b).1.natAbs<2^20/\(c a b).2.natAbs<2^20
theorem ko{a b:Int}(h:0<a)(h2:a<=360):0<a/(Int.gcd a b:Nat)/\a/(Int.gcd a b:Nat)<=360:=by
 have g:=gH (b:=b) h
 obtain⟨q,hq⟩:((Int.gcd a b:Nat):Int)∣a:=Int.gcd_dvd_left ..
 have e:a/(Int.gcd a b:Nat)=q:=by
  have:((Int.gcd a b:Nat):Int)≠0:=by omega
  exact Int.ediv_eq_of_eq_mul_right this hq
 rw[e]
 have q0:0<q:=by
  rcases Int.lt_or_le 0 q with z | z
  ·exact z
  ·have:=Int.mul_nonpos_of_nonneg_of_nonpos (Int.le_of_lt g) z;omega
 refine⟨q0,?_⟩
 have:1*q<=(Int.gcd a b:Nat)*q:=Int.mul_le_mul_of_nonneg_right (by omega) (by omega)
 omega
theorem mK{a b:Int}(h:0<a)(h1:0<=b)(h2:b<=360):0<=b/(Int.gcd a b:Nat)/\b/(Int.gcd a b:Nat)<=360:=by
 have g:=gH (b:=b) h
 exact⟨Int.ediv_nonneg h1 (by omega),Int.le_trans (Int.ediv_le_self _ h1) h2⟩
def Zf(k m:Nat)(P:cv):Prop:=∀ l,k<=l->l<m->P l=0
structure St (n m:Nat) (sizes:List Int) (A:Nat->cv) (k:Nat) (rows:List Row):Prop where
 wf:Wf n m rows
 hs:sizes.length=n
 sm:∀ i,i<n->vf sizes i<=360
 gd:Good n (vf sizes) (DD rows)
 led:∀ d,d<n->Led n (vf sizes) m A (DD rows d) (PP rows d)
 zf:∀ d,d<n->Zf k m (PP rows d)
 bd:∀ d,d<n->Bd (150*k+1) (row rows d).2
 cl:∀ l,l<k->G n (vf sizes) (DD rows) n 0 (A l)
structure Lv (n m:Nat) (sizes:List Int) (A:Nat->cv) (k:Nat) (left:Row):Prop where
 l1:left.1.length=n
 l2:left.2.length=m
 km:k<m
 at_:∀ i,i<n->vf left.1 i=A k i
 i9:∀ i,i<n->0<=A k i/\A k i<vf sizes i
 un:∀ l,l<m->vf left.2 l=if l=k then 1 else 0
theorem k4(h:St n m sizes A k rows)(L:Lv n m sizes A k left):∀ d,d<=n->∀ i,i<n->0<=vf (aB c sizes rows left d).1 i/\vf (aB c sizes rows left d).1 i<vf sizes i
 | 0,_,i,hi=>by show 0<=vf left.1 i/\vf left.1 i<vf sizes i;rw[L.at_ i hi];exact L.i9 i hi
 | d+1,hd,i,hi=>by
  obtain⟨i1,i2⟩:=dh (c:=c) h.wf h.hs L.l1 L.l2 d (by omega)
  have e1:=h.wf.qM (d:=d) (by omega)
  have hs:=h.hs
  simp only[aB,qL]
  rw[jI (by rw[bY];omega) (by omega)]
  have:=h.gd.sp i hi
  exact⟨Int.emod_nonneg _ (by omega),Int.emod_lt_of_pos _ this⟩
theorem St.tk(h:St n m sizes A k rows)(L:Lv n m sizes A k left)(cb:CB c):Tk n (vf sizes) (DD rows) (DD (cM c sizes rows left n)) (λd=>vf (aB c sizes rows left d).1) (λd=>(c (a0 (vf sizes) (DD rows) d) (vf (aB c sizes rows left d).1 d)).1) (λd=>(c (a0 (vf sizes) (DD rows) d) (vf (aB c sizes rows left d).1 d)).2) (λd=>(Int.gcd (a0 (vf sizes) (DD rows) d) (vf (aB c sizes rows left d).1 d):Nat)) :=
 Jq h.wf h.hs L.l1 L.l2 h.gd (λi hi=>by rw[L.at_ i hi];exact L.i9 i hi) λd hd=>by
  have p:=h.gd.pos hd
  have q:=k4 (c:=c) h L d (by omega) d hd
  have s:=h.sm d hd
  exact(cb _ _ p.1 (by omega) q.1 (by omega)).1
theorem pV(h:St n m sizes A k rows)(L:Lv n m sizes A k left):∀ d,d<=n->Led n (vf sizes) m A (vf (aB c sizes rows left d).1) (vf (aB c sizes rows left d).2)
 | 0,_=>λi hi=>by
  show vf sizes i∣vf left.1 i-c6 m λl=>vf left.2 l*A l i
  rw[L.at_ i hi,iR k (A k i) m L.km (λl=>vf left.2 l*A l i) λl hl=>by
   rw[L.un l hl]
   by_cases z:l=k
   ·subst z;rw[if_pos rfl,if_pos rfl,Int.one_mul]
   ·rw[if_neg z,if_neg z,Int.zero_mul]]
  rw[Int.sub_self];exact Int.dvd_zero _
 | d+1,hd=>by
  obtain⟨i1,i2⟩:=dh (c:=c) h.wf h.hs L.l1 L.l2 d (by omega)
  have e1:=h.wf.qM (d:=d) (by omega);have e2:=h.wf.at2 (d:=d) (by omega)
  have hs:=h.hs
  refine Led.mix (a:=a0 (vf sizes) (DD rows) d/(Int.gcd (a0 (vf sizes) (DD rows) d) (vf (aB c sizes rows left d).1 d):Nat)) (b:=-(vf (aB c sizes rows left d).1 d/(Int.gcd (a0 (vf sizes) (DD rows) d) (vf (aB c sizes rows left d).1 d):Nat))) (pV h L d (by omega)) (h.led d (by omega)) (λi hi=>?_) λl hl=>?_
  ·simp only[aB,qL]
   rw[jI (by rw[bY];omega) (by omega),e_ (by omega) (by omega)]
   exact eo _ _
  ·simp only[aB,qL]
   rw[e_ (by omega) (by omega)];rfl
theorem uc(h:St n m sizes A k rows)(L:Lv n m sizes A k left):∀ d,d<=n->Zf (k+1) m (vf (aB c sizes rows left d).2)/\vf (aB c sizes rows left d).2 k=aT d λe=>a0 (vf sizes) (DD rows) e/(Int.gcd (a0 (vf sizes) (DD rows) e) (vf (aB c sizes rows left e).1 e):Nat)
 | 0,_=>⟨λl h1 h2=>by show vf left.2 l=0;rw[L.un l h2,if_neg (by omega)],by show vf left.2 k=1;rw[L.un k L.km,if_pos rfl]⟩
 | d+1,hd=>by
  obtain⟨i1,i2⟩:=dh (c:=c) h.wf h.hs L.l1 L.l2 d (by omega)
  have e2:=h.wf.at2 (d:=d) (by omega)
  obtain⟨j1,j2⟩:=uc h L d (by omega)
  have z:=h.zf d (by omega)
  have km:=L.km
  constructor
  ·intro l h1 h2
   simp only[aB,qL]
   rw[e_ (by omega) (by omega),j1 l h1 h2,show vf (row rows d).2 l=0 from z l (by omega) h2];simp
  ·rw[aT,← j2]
   simp only[aB,qL]
   rw[e_ (by omega) (by omega),show vf (row rows d).2 k=0 from z k (Nat.le_refl _) km]
   grind
theorem o8(h:St n m sizes A k rows)(L:Lv n m sizes A k left)(hn:n<=6):∀ d,d<=n->Bd (150*k+1+11*d) (aB c sizes rows left d).2
 | 0,_=>λx hx=>by
  have hx:x∈left.2:=hx
  obtain⟨i,hi,rfl⟩:=List.mem_iff_getElem.mp hx
  have hm:i<m:=by rw[← L.l2];exact hi
  have e:=L.un i hm
  rw[aH hi] at e
  show (left.2[i]).natAbs<_
  rw[e]
  have:2^1<=2^(150*k+1+11*0):=Nat.pow_le_pow_right (by decide) (by omega)
  refine Nat.lt_of_lt_of_le ?_ this
  split
  ·decide
  ·decide
 | d+1,hd=>by
  have p:=h.gd.pos (show d<n by omega)
  have s:=h.sm d (by omega)
  have q:=k4 (c:=c) h L d (by omega) d (by omega)
  have a1:=ko (b:=vf (aB c sizes rows left d).1 d) p.1 (by omega)
  have a2:=mK (b:=vf (aB c sizes rows left d).1 d) p.1 q.1 (by omega)
  have:=Bd.mix (A:=9+1) (o8 h L hn d (by omega)) ((h.bd d (by omega)).mono (show 150*k+1<=150*k+1+11*d by omega)) (a:=a0 (vf sizes) (DD rows) d/(Int.gcd (a0 (vf sizes) (DD rows) d) (vf (aB c sizes rows left d).1 d):Nat)) (b:=-(vf (aB c sizes rows left d).1 d/(Int.gcd (a0 (vf sizes) (DD rows) d) (vf (aB c sizes rows left d).1 d):Nat))) (by omega) (by omega)
  exact this.mono (by omega)
theorem St.next(h:St n m sizes A k rows)(L:Lv n m sizes A k left)(cb:CB c)(hn:n<=6):St n m sizes A (k+1) (cM c sizes rows left n):=by
 have T:=h.tk L cb
 have hs:=h.hs
 refine⟨Cr h.wf h.hs L.l1 L.l2,h.hs,h.sm,T.good h.gd,λd hd=>?_,λd hd=>?_,λd hd=>?_,λl hl=>?_⟩
 ·obtain⟨i1,i2⟩:=dh (c:=c) h.wf h.hs L.l1 L.l2 d (by omega)
  have e1:=h.wf.qM (d:=d) hd;have e2:=h.wf.at2 (d:=d) hd
  unfold DD PP
  rw[kN hd]
  refine Led.mix (a:=(c (a0 (vf sizes) (DD rows) d) (vf (aB c sizes rows left d).1 d)).1) (b:=(c (a0 (vf sizes) (DD rows) d) (vf (aB c sizes rows left d).1 d)).2) (h.led d hd) (pV (c:=c) h L d (by omega)) (λi hi=>?_) λl hl=>?_
  ·simp only[eC,qL]
   rw[jI (by rw[bY];omega) (by omega),e_ (by omega) (by omega)]
   exact eo _ _
  ·simp only[eC,qL]
   rw[e_ (by omega) (by omega)];rfl
 ·obtain⟨i1,i2⟩:=dh (c:=c) h.wf h.hs L.l1 L.l2 d (by omega)
  have e2:=h.wf.at2 (d:=d) hd
  intro l h1 h2
  unfold PP
  rw[kN hd]
  simp only[eC,qL]
  rw[e_ (by omega) (by omega),(uc (c:=c) h L d (by omega)).1 l h1 h2,show vf (row rows d).2 l=0 from h.zf d hd l (by omega) h2];simp
 ·rw[kN hd]
  have p:=h.gd.pos hd
  have s:=h.sm d hd
  have q:=k4 (c:=c) h L d (by omega) d hd
  have b:=cb (a0 (vf sizes) (DD rows) d) (vf (aB c sizes rows left d).1 d) p.1 (by omega) q.1 (by omega)
  have:=Bd.mix (A:=20) ((h.bd d hd).mono (show 150*k+1<=150*k+1+11*d by omega)) (o8 (c:=c) h L hn d (by omega)) b.2.1 b.2.2
  exact this.mono (by omega)
 ·rcases Nat.lt_or_ge l k with q | q
  ·exact(T.main h.gd n 0 (by omega)).1 _ (h.cl l q)
  ·obtain rfl:l=k:=by omega
   exact G.ext (by omega) (λi hi=>L.at_ i hi) (T.main h.gd n 0 (by omega)).2
end
end Rg
namespace Rg
def aY(idle:List (List Int))(k:Nat)(P:List Int):Nat->List Int
 | 0=>P
 | c+1 =>
  let z:=aY idle k P c
  let r:=idle.getD (k-1-c) []
  oG z 1 r (-(vf z (k-1-c)/vf r (k-1-c)))
def II(idle:List (List Int)):Nat->cv:=λj=>vf (idle.getD j [])
structure yy (n m:Nat) (s:cv) (A:Nat->cv) (k:Nat) (idle:List (List Int)):Prop where
 len:idle.length=k
 l2:∀ j,j<k->(idle.getD j []).length=m
 pos:∀ j,j<k->0<II idle j j
 le:∀ j,j<k->II idle j j<2^60
 zero:∀ j,j<k->∀ l,j<l->l<m->II idle j l=0
 nf:∀ j,j<k->∀ l,l<j->0<=II idle j l/\II idle j l<II idle l l
 uX:∀ j,j<k->Led n s m A (λ_=>0) (II idle j)
section
variable{n m k:Nat}{s:cv}{A:Nat->cv}{idle:List (List Int)}{P:List Int}
theorem yy.bd(h:yy n m s A k idle){j:Nat}(hj:j<k)(hm:k<=m):Bd 60 (idle.getD j []):=λx hx=>by
 obtain⟨l,hl,rfl⟩:=List.mem_iff_getElem.mp hx
 rw[h.l2 j hj] at hl
 have e:II idle j l=(idle.getD j [])[l]'(by rw[h.l2 j hj];exact hl):=aH _
 rw[← e]
 rcases Nat.lt_or_ge l j with q | q
 ·have h1:=h.nf j hj l q
  have h2:=h.le l (by omega)
  omega
 ·rcases Nat.lt_or_ge j l with q2 | q2
  ·rw[h.zero j hj l q2 hl];exact Nat.two_pow_pos _
  ·obtain rfl:l=j:=by omega
   have h1:=h.pos l hj;have h2:=h.le l hj
   omega
theorem span_len(h:yy n m s A k idle)(hP:P.length=m):∀ c,c<=k->(aY idle k P c).length=m
 | 0,_=>hP
 | c+1,hc=>by
  simp only[aY]
  rw[bY,span_len h hP c (by omega),h.l2 _ (by omega)];omega
theorem o6(h:yy n m s A k idle)(hP:P.length=m){c l:Nat}(hc:c<k)(hl:l<m):vf (aY idle k P (c+1)) l=vf (aY idle k P c) l-vf (aY idle k P c) (k-1-c)/II idle (k-1-c) (k-1-c)*II idle (k-1-c) l:=by
 simp only[aY]
 rw[e_ (by rw[span_len h hP c (by omega)];exact hl) (by rw[h.l2 _ (by omega)];exact hl)]
 unfold II
 grind
theorem vj(h:yy n m s A k idle)(hP:P.length=m):∀ c,c<=k->∀ l,k<=l->l<m->vf (aY idle k P c) l=vf P l
 | 0,_,_,_,_=>rfl
 | c+1,hc,l,h1,h2=>by
  rw[o6 h hP (by omega) h2,h.zero _ (by omega) l (by omega) h2,vj h hP c (by omega) l h1 h2];simp
theorem uG(h:yy n m s A k idle)(hP:P.length=m)(hm:k<=m):∀ c,c<=k->∀ l,k-c<=l->l<k->0<=vf (aY idle k P c) l/\vf (aY idle k P c) l<II idle l l
 | 0,_,l,h1,h2=>by omega
 | c+1,hc,l,h1,h2=>by
  rw[o6 h hP (by omega) (by omega)]
  rcases Nat.lt_or_ge (k-1-c) l with q | q
  ·rw[h.zero _ (by omega) l q (by omega),Int.mul_zero,Int.sub_zero]
   exact uG h hP hm c (by omega) l (by omega) h2
  ·obtain rfl:l=k-1-c:=by omega
   have p:=h.pos (k-1-c) (by omega)
   have e:=Int.emod_def (vf (aY idle k P c) (k-1-c)) (II idle (k-1-c) (k-1-c))
   rw[Int.mul_comm (vf (aY idle k P c) (k-1-c)/_),← e]
   exact⟨Int.emod_nonneg _ (by omega),Int.emod_lt_of_pos _ p⟩
theorem qp(h:yy n m s A k idle)(hP:P.length=m){v:cv}(hv:Led n s m A v (vf P)):∀ c,c<=k->Led n s m A v (vf (aY idle k P c))
 | 0,_=>hv
 | c+1,hc=>by
  refine Led.mix (a:=1) (b:=-(vf (aY idle k P c) (k-1-c)/II idle (k-1-c) (k-1-c))) (qp h hP hv c (by omega)) (h.uX (k-1-c) (by omega)) (λi hi=>?_) λl hl=>?_
  ·rw[Int.mul_zero,Int.add_zero,Int.one_mul,Int.sub_self];exact Int.dvd_zero _
  ·rw[o6 h hP (by omega) hl];grind
theorem yv(h:yy n m s A k idle)(hP:P.length=m)(hm:k<=m){B:Nat}(hB:60<=B)(hb:Bd B P):∀ c,c<=k->Bd (B+62*c) (aY idle k P c)
 | 0,_=>hb
 | c+1,hc=>by
  have ih:=yv h hP hm hB hb c (by omega)
  intro x hx
  obtain⟨l,hl,rfl⟩:=List.mem_iff_getElem.mp hx
  rw[span_len h hP (c+1) hc] at hl
  rw[← aH,o6 h hP (by omega) hl]
  have p:=h.pos (k-1-c) (by omega)
  have q1:(vf (aY idle k P c) (k-1-c)/II idle (k-1-c) (k-1-c)).natAbs<2^(B+62*c+1):=by
   have h1:=ih.vf (k-1-c)
   have h2:=Int.natAbs_ediv_le_natAbs (vf (aY idle k P c) (k-1-c)) (II idle (k-1-c) (k-1-c))
   rw[Nat.pow_succ];omega
  have q2:(II idle (k-1-c) l).natAbs<2^60:=(h.bd (j:=k-1-c) (by omega) hm).vf l
  have q3:=xp q1 q2
  have q4:=ih.vf l
  have q5:2^(B+62*c)<=2^(B+62*c+1+60):=Nat.pow_le_pow_right (by decide) (by omega)
  have q6:(2:Nat)^(B+62*(c+1))=2^(B+62*c+1+60)*2:=by rw[← Nat.pow_succ];congr 1
  rw[q6];omega
end
section
variable{c:Int->Int->Int×Int}{sizes:List Int}{rows:List Row}{left:Row}{n m k:Nat}{A:Nat->cv}
theorem Tk.order{s:cv}{D D' L:Nat->cv}{u v g:Nat->Int}(t:Tk n s D D' L u v g)(Gd:Good n s D):∀ (k d:Nat) (x:Int),d+k=n->G n s D k d (λi=>x*L d i)->aT n (λe=>a0 s D e/g e)∣x*aT d (λe=>a0 s D e/g e)
 | 0,d,x,hn,h=>by
  obtain rfl:d=n:=by omega
  exact Int.dvd_mul_left _ _
 | k+1,d,x,hn,h=>by
  have hd:d<n:=by omega
  obtain⟨a,ha⟩:=t.g1 d hd
  obtain⟨b,hb⟩:=t.g2 d hd
  have gp:=t.gp d hd
  have sp:=(Gd.pos hd).1
  have e1:a0 s D d/g d=a:=by rw[ha];exact Int.mul_ediv_cancel_left a (by omega)
  have e2:L d d/g d=b:=by rw[hb];exact Int.mul_ediv_cancel_left b (by omega)
  have bz:u d*a+v d*b=1:=by
   have:=t.bz d hd
   rw[ha,hb,show u d*(g d*a)+v d*(g d*b)=g d*(u d*a+v d*b) by grind] at this
   have h2:g d*(u d*a+v d*b)=g d*1:=by omega
   exact Int.eq_of_mul_eq_mul_left (by omega) h2
  obtain⟨q,hq⟩:=h.1
  have hax:a∣x:=by
   have h3:g d*(x*b)=g d*(a*q):=by
    have:x*L d d=a0 s D d*q:=hq
    rw[hb,ha] at this;grind
   have h4:x*b=a*q:=Int.eq_of_mul_eq_mul_left (by omega) h3
   exact⟨u d*x+v d*q,by
    have:x=x*(u d*a+v d*b):=by rw[bz,Int.mul_one]
    rw[this]
    have:x*(u d*a+v d*b)=a*(u d*x)+v d*(x*b):=by grind
    rw[this,h4];grind⟩
  obtain⟨y,hy⟩:=hax
  have NW:q=b*y:=by
   have h3:g d*(a*q)=g d*(a*(b*y)):=by
    have:x*L d d=a0 s D d*q:=hq
    rw[hb,ha,hy] at this;grind
   have ap:a≠0:=by intro z;rw[z,Int.mul_zero] at ha;omega
   exact Int.eq_of_mul_eq_mul_left ap (Int.eq_of_mul_eq_mul_left (by omega) h3)
  have h2:=h.2
  have q1:x*L d d/a0 s D d=q:=by
   show x*L d d/a0 s D d=q
   rw[show x*L d d=a0 s D d*q from hq];exact Int.mul_ediv_cancel_left q (by omega)
  have:=t.order Gd k (d+1) y (by omega) (Gd.qK (by omega) (λi hi=>?_) h2)
  ·rw[aT,e1] at this
   rw[hy,show a*y*aT d (λe=>a0 s D e/g e)=y*(aT d (λe=>a0 s D e/g e)*a) by grind]
   exact this
  ·show s i∣y*L (d+1) i-(x*L d i-x*L d d/a0 s D d*D d i)
   rw[q1,t.Jt d hd i hi,e1,e2]
   obtain⟨z,hz⟩:=eo (a*L d i+-b*D d i) (s i)
   refine⟨y*z,?_⟩
   have:(a*L d i+-b*D d i)%s i=a*L d i+-b*D d i+s i*z:=by omega
   rw[this,hy,NW];grind
theorem G.sum(Gd:Good n (vf sizes) (DD rows)){P:cv}:∀ k',(∀ l,l<k'->G n (vf sizes) (DD rows) n 0 (A l))->G n (vf sizes) (DD rows) n 0 (λi=>c6 k' λl=>P l*A l i)
 | 0,_=>G.zero (by omega)
 | k'+1,h=>G.ext (by omega) (λi _=>rfl) (G.add (by omega) (G.sum Gd k' λl hl=>h l (by omega)) (G.mul (P k') (by omega) (h k' (by omega))))
end
end Rg
namespace Rg
def om(m k:Nat):List Int:=(List.range m).map λl=>if l=k then 1 else 0
theorem vv{m k l:Nat}(h:l<m):vf (om m k) l=if l=k then 1 else 0:=by
 rw[aH (by simp[om,h])];simp[om]
def AA(Ls:List (List Int)):Nat->cv:=λl=>vf (Ls.getD l [])
def bU(Ls:List (List Int))(m k:Nat):Row:=(Ls.getD k [],om m k)
def RK(c:Int->Int->Int×Int)(sizes:List Int)(Ls:List (List Int))(n m:Nat):Nat->List Row×List (List Int)
 | 0=>(List.replicate n (List.replicate n 0,List.replicate m 0),[])
 | k+1 =>
  (cM c sizes (RK c sizes Ls n m k).1 (bU Ls m k) n,(RK c sizes Ls n m k).2++[aY (RK c sizes Ls n m k).2 k (aB c sizes (RK c sizes Ls n m k).1 (bU Ls m k) n).2 k])
structure KA (n m:Nat) (sizes:List Int) (Ls:List (List Int)):Prop where
 len:Ls.length=m
 at_:∀ l,l<m->(Ls.getD l []).length=n
 i9:∀ l,l<m->∀ i,i<n->0<=AA Ls l i/\AA Ls l i<vf sizes i
structure BD (n m:Nat) (sizes:List Int) (Ls:List (List Int)) (k:Nat) (r:List Row×List (List Int)):Prop where
 st:St n m sizes (AA Ls) k r.1
 uX:yy n m (vf sizes) (AA Ls) k r.2
 pr:aT k (λj=>II r.2 j j)*aT n (a0 (vf sizes) (DD r.1))=aT n (vf sizes)
 ord:∀ j,j<k->∀ P:cv,Zf (j+1) m P->Led n (vf sizes) m (AA Ls) (λ_=>0) P->II r.2 j j∣P j
section
variable{c:Int->Int->Int×Int}{sizes:List Int}{Ls:List (List Int)}{n m k:Nat}
theorem iJ{idle:List (List Int)}{x:List Int}{j:Nat}(h:j<idle.length):II (idle++[x]) j=II idle j:=by
 unfold II
 rw[List.getD_eq_getElem?_getD,List.getElem?_append_left h,← List.getD_eq_getElem?_getD]
theorem kq{idle:List (List Int)}{x:List Int}:II (idle++[x]) idle.length=vf x:=by
 unfold II
 rw[List.getD_eq_getElem?_getD,List.getElem?_append_right (Nat.le_refl _)];simp
theorem B6{idle:List (List Int)}{x:List Int}{j:Nat}(h:j<idle.length):(idle++[x]).getD j []=idle.getD j []:=by
 rw[List.getD_eq_getElem?_getD,List.getElem?_append_left h,← List.getD_eq_getElem?_getD]
theorem AN{idle:List (List Int)}{x:List Int}:(idle++[x]).getD idle.length []=x:=by
 rw[List.getD_eq_getElem?_getD,List.getElem?_append_right (Nat.le_refl _)];simp
theorem qB{f:Nat->Int}{k:Nat}:∀ {m:Nat},k<m->(∀ l,k<l->l<m->f l=0)->c6 m f=c6 k f+f k
 | 0,h,_=>by omega
 | m+1,h,e=>by
  rw[c6]
  by_cases z:k=m
  ·subst z;rfl
  ·rw[qB (m:=m) (by omega) λl h1 h2=>e l h1 (by omega),e m (by omega) (by omega)];omega
theorem vO:∀ {n:Nat} {f:Nat->Int},(∀ i,i<n->0<f i/\f i<=360)->aT n f<=360^n
 | 0,f,_=>by simp[aT]
 | n+1,f,h=>by
  rw[aT,Int.pow_succ]
  exact Int.mul_le_mul (vO λi hi=>h i (by omega)) (h n (by omega)).2 (by have:=(h n (by omega)).1;omega) (Int.pow_nonneg (by decide))
theorem Ma{n:Nat}(h:n<=6):(360:Int)^n<=360^6:=by
 have:n=0\/n=1\/n=2\/n=3\/n=4\/n=5\/n=6:=by omega
 rcases this with rfl | rfl | rfl | rfl | rfl | rfl | rfl <;> decide
theorem BD.next{r:List Row×List (List Int)}(h:BD n m sizes Ls k r)(LL:KA n m sizes Ls)(cb:CB c)(hn:n<=6)(hk:k<m) :
  BD n m sizes Ls (k+1) (cM c sizes r.1 (bU Ls m k) n,r.2++[aY r.2 k (aB c sizes r.1 (bU Ls m k) n).2 k]):=by
 have L:Lv n m sizes (AA Ls) k (bU Ls m k):=⟨LL.at_ k hk,by simp[bU,om],hk,λi hi=>rfl,LL.i9 k hk,λl hl=>vv hl⟩
 have T:=h.st.tk L cb
 have ll:=dh (c:=c) h.st.wf h.st.hs L.l1 L.l2 n (Nat.le_refl _)
 have zf:=uc (c:=c) h.st L n (Nat.le_refl _)
 have led:=pV (c:=c) h.st L n (Nat.le_refl _)
 have l0:=T.zero h.st.gd n (Nat.le_refl _)
 have il:r.2.length=k:=h.uX.len
 have out:=vj h.uX ll.2 k (Nat.le_refl _)
 have jk:vf (aY r.2 k (aB c sizes r.1 (bU Ls m k) n).2 k) k=aT n λe=>a0 (vf sizes) (DD r.1) e/(Int.gcd (a0 (vf sizes) (DD r.1) e) (vf (aB c sizes r.1 (bU Ls m k) e).1 e):Nat):=by
  rw[out k (Nat.le_refl _) hk];exact zf.2
 have pos:∀ e,e<n->0<a0 (vf sizes) (DD r.1) e/(Int.gcd (a0 (vf sizes) (DD r.1) e) (vf (aB c sizes r.1 (bU Ls m k) e).1 e):Nat):=λe he=>by
  have p:=h.st.gd.pos he
  have s:=h.st.sm e he
  exact(ko p.1 (by omega)).1
 have pr:aT (k+1) (λj=>II (r.2++[aY r.2 k (aB c sizes r.1 (bU Ls m k) n).2 k]) j j)*aT n (a0 (vf sizes) (DD (cM c sizes r.1 (bU Ls m k) n)))=aT n (vf sizes):=by
  rw[aT,show II (r.2++[aY r.2 k (aB c sizes r.1 (bU Ls m k) n).2 k]) k=vf (aY r.2 k (aB c sizes r.1 (bU Ls m k) n).2 k) by rw[← il];exact kq]
  rw[fc (g:=λj=>II r.2 j j) λj hj=>by rw[iJ (by omega)],← h.pr,jk]
  rw[fc (g:=λd=>((Int.gcd (a0 (vf sizes) (DD r.1) d) (vf (aB c sizes r.1 (bU Ls m k) d).1 d):Nat):Int)) λd hd=>T.step h.st.gd hd]
  rw[sO (f:=a0 (vf sizes) (DD r.1)) (g:=λd=>((Int.gcd (a0 (vf sizes) (DD r.1) d) (vf (aB c sizes r.1 (bU Ls m k) d).1 d):Nat):Int)) (h:=λe=>a0 (vf sizes) (DD r.1) e/(Int.gcd (a0 (vf sizes) (DD r.1) e) (vf (aB c sizes r.1 (bU Ls m k) e).1 e):Nat)) λd hd=>(Int.mul_ediv_cancel' (Int.gcd_dvd_left ..)).symm]
  grind
 have jpos:0<vf (aY r.2 k (aB c sizes r.1 (bU Ls m k) n).2 k) k:=by rw[jk];exact kX pos
 have St':=h.st.next L cb hn
 have jle:vf (aY r.2 k (aB c sizes r.1 (bU Ls m k) n).2 k) k<2^60:=by
  have b:aT n (vf sizes)<=360^n:=vO λi hi=>⟨h.st.gd.sp i hi,h.st.sm i hi⟩
  have b2:(360:Int)^n<=360^6:=Ma hn
  have b3:(360:Int)^6<2^60:=by decide
  rw[aT,show II (r.2++[aY r.2 k (aB c sizes r.1 (bU Ls m k) n).2 k]) k=vf (aY r.2 k (aB c sizes r.1 (bU Ls m k) n).2 k) by rw[← il];exact kq] at pr
  have p1:0<aT k (λj=>II (r.2++[aY r.2 k (aB c sizes r.1 (bU Ls m k) n).2 k]) j j):=kX λj hj=>by rw[iJ (by omega)];exact h.uX.pos j hj
  have p2:0<aT n (a0 (vf sizes) (DD (cM c sizes r.1 (bU Ls m k) n))):=kX λd hd=>(St'.gd.pos hd).1
  generalize aT k (λj=>II (r.2++[aY r.2 k (aB c sizes r.1 (bU Ls m k) n).2 k]) j j)=a at *
  generalize aT n (a0 (vf sizes) (DD (cM c sizes r.1 (bU Ls m k) n)))=b' at *
  generalize vf (aY r.2 k (aB c sizes r.1 (bU Ls m k) n).2 k) k=x at *
  have e1:1*x<=a*x:=Int.mul_le_mul_of_nonneg_right (by omega) (by omega)
  have e2:a*x*1<=a*x*b':=Int.mul_le_mul_of_nonneg_left (by omega) (by omega)
  omega
 refine⟨St',⟨by simp[il],λj hj=>?_,λj hj=>?_,λj hj=>?_,λj hj l h1 h2=>?_,λj hj l hl=>?_,λj hj=>?_⟩,pr,λj hj P hz hP=>?_⟩
 all_goals
  rcases Nat.lt_or_ge j k with q | q
 ·rw[B6 (by omega)];exact h.uX.l2 j q
 ·obtain rfl:j=r.2.length:=by omega
  rw[AN];exact span_len h.uX ll.2 k (Nat.le_refl _)
 ·rw[iJ (by omega)];exact h.uX.pos j q
 ·obtain rfl:j=r.2.length:=by omega
  rw[kq,il];exact jpos
 ·rw[iJ (by omega)];exact h.uX.le j q
 ·obtain rfl:j=r.2.length:=by omega
  rw[kq,il];exact jle
 ·rw[iJ (by omega)];exact h.uX.zero j q l h1 h2
 ·obtain rfl:j=r.2.length:=by omega
  rw[kq,out l (by omega) h2];exact zf.1 l (by omega) h2
 ·rw[iJ (by omega),iJ (by omega)];exact h.uX.nf j q l hl
 ·obtain rfl:j=r.2.length:=by omega
  rw[kq,iJ (by omega)];exact uG h.uX ll.2 (by omega) k (Nat.le_refl _) l (by omega) (by omega)
 ·rw[iJ (by omega)];exact h.uX.uX j q
 ·obtain rfl:j=r.2.length:=by omega
  rw[kq]
  refine qp h.uX ll.2 (λi hi=>?_) k (Nat.le_refl _)
  have:=led i hi
  rw[show vf (aB c sizes r.1 (bU Ls m k) n).1 i=0 from l0 i hi] at this
  exact this
 ·rw[iJ (by omega)];exact h.ord j q P hz hP
 ·obtain rfl:j=k:=by omega
  rw[show II (r.2++[aY r.2 j (aB c sizes r.1 (bU Ls m j) n).2 j]) j=vf (aY r.2 j (aB c sizes r.1 (bU Ls m j) n).2 j) by rw[← il];exact kq,jk]
  have:=T.order h.st.gd n 0 (P j) (by omega) ?_
  ·rwa [aT,Int.mul_one] at this
  ·refine h.st.gd.qK (by omega) (λi hi=>?_) (G.mul (-1) (by omega) (G.sum (A:=AA Ls) (P:=P) h.st.gd j h.st.cl))
   have e:=hP i hi
   rw[qB hk λl h1 h2=>by rw[hz l (by omega) h2,Int.zero_mul]] at e
   obtain⟨x,hx⟩:=e
   have hx:(0:Int)-(c6 j (λl=>P l*AA Ls l i)+P j*AA Ls j i)=vf sizes i*x:=hx
   show vf sizes i∣P j*AA Ls j i - -1*c6 j λl=>P l*AA Ls l i
   exact⟨-x,by rw[Int.mul_neg];omega⟩
theorem BD.start(hs:sizes.length=n)(hp:∀ i,i<n->0<vf sizes i/\vf sizes i<=360):BD n m sizes Ls 0 (List.replicate n (List.replicate n 0,List.replicate m 0),[]):=by
 have rw0:∀ d,d<n->row (List.replicate n (List.replicate n 0,List.replicate m 0)) d=(List.replicate n 0,List.replicate m 0):=λd hd=>by
  rw[jj (by simpa using hd)];simp
 have D0:∀ d,d<n->∀ i,DD (List.replicate n (List.replicate n 0,List.replicate m 0)) d i=0:=λd hd i=>by
  unfold DD;rw[rw0 d hd];exact e8 n i
 have P0:∀ d,d<n->∀ i,PP (List.replicate n (List.replicate n 0,List.replicate m 0)) d i=0:=λd hd i=>by
  unfold PP;rw[rw0 d hd];exact e8 m i
 have st:∀ d,d<n->a0 (vf sizes) (DD (List.replicate n (List.replicate n 0,List.replicate m 0))) d=vf sizes d:=λd hd=>by
  unfold a0;rw[if_pos (D0 d hd d)]
 refine⟨⟨⟨by simp,λr hr=>by rw[List.eq_of_mem_replicate hr];simp,λr hr=>by rw[List.eq_of_mem_replicate hr];simp⟩,hs,λi hi=>(hp i hi).2,⟨λi hi=>(hp i hi).1,λd hd i hi=>?_,λd hd i hi=>D0 d hd i,λd hd=>by rw[st d hd];exact Int.dvd_refl _,λd k hn=>?_⟩,λd hd i hi=>?_,λd hd l _ _=>P0 d hd l,λd hd=>?_,λl hl=>by omega⟩,⟨rfl,λj hj=>by omega,λj hj=>by omega,λj hj=>by omega,λj hj=>by omega,λj hj=>by omega,λj hj=>by omega⟩,?_,λj hj=>by omega⟩
 ·rw[D0 d hd i];have:=(hp i hi).1;omega
 ·exact G.ext (by omega) (λi hi=>by rw[D0 d (by omega) i,Int.mul_zero]) (G.zero (by omega))
 ·rw[D0 d hd i,eT (g:=λ_=>0) λl hl=>by rw[P0 d hd l,Int.zero_mul],iS];exact Int.dvd_zero _
 ·rw[rw0 d hd]
  intro x hx
  rw[List.eq_of_mem_replicate hx];exact Nat.two_pow_pos _
 ·rw[aT,Int.one_mul];exact fc λd hd=>st d hd
theorem BD.all(hs:sizes.length=n)(hp:∀ i,i<n->0<vf sizes i/\vf sizes i<=360)(LL:KA n m sizes Ls)(cb:CB c)(hn:n<=6):∀ k,k<=m->BD n m sizes Ls k (RK c sizes Ls n m k)
 | 0,_=>BD.start hs hp
 | k+1,hk=>(BD.all hs hp LL cb hn k (by omega)).next LL cb hn (by omega)
end
end Rg
namespace Rg
section
variable{n:Nat}{s:cv}{D:Nat->cv}
theorem mT{a b:Int}(h:b∣a)(h1:-b<a)(h2:a<b):a=0:=by
 obtain⟨c,rfl⟩:=h
 rcases Int.lt_trichotomy c 0 with q | q | q
 ·have:b*c<=b*(-1):=Int.mul_le_mul_of_nonneg_left (by omega) (by omega)
  omega
 ·rw[q,Int.mul_zero]
 ·have:b*1<=b*c:=Int.mul_le_mul_of_nonneg_left (by omega) (by omega)
  omega
theorem G.diff(Gd:Good n s D):∀ k d (v:cv),d+k=n->(∀ i,i<n->-(s i)<v i/\v i<s i)->(∀ i,d<=i->i<n->-(a0 s D i)<v i/\v i<a0 s D i)->G n s D k d v->∀ i,i<n->v i=0
 | 0,d,v,hn,h0,_,g,i,hi=>mT (g i hi) (h0 i hi).1 (h0 i hi).2
 | k+1,d,v,hn,h0,h1,g,i,hi=>by
  have z:=mT g.1 (h1 d (Nat.le_refl _) (by omega)).1 (h1 d (Nat.le_refl _) (by omega)).2
  refine G.diff Gd k (d+1) v (by omega) h0 (λi hi=>h1 i (by omega)) (G.ext (by omega) (λi _=>?_) g.2) i hi
  show v i-v d/a0 s D d*D d i=v i
  rw[z];simp
end
end Rg
namespace Rg
def i5(n:Nat)(s:cv)(Q:Int)(w v:cv):Int:=c6 n λi=>w i*v i*(Q/s i)
section
variable{n:Nat}{s:cv}{D:Nat->cv}{Q:Int}{w v u:cv}
theorem sV(a b:Int){x:cv}(h:∀ i,i<n->x i=a*v i+b*u i):i5 n s Q w x=a*i5 n s Q w v+b*i5 n s Q w u :=
 j_ a b _ _ _ n λi hi=>by rw[h i hi];grind
theorem vM{f:Nat->Int}{q:Int}:∀ {m:Nat},(∀ l,l<m->q∣f l)->q∣c6 m f
 | 0,_=>Int.dvd_zero _
 | m+1,h=>Int.dvd_add (vM λl hl=>h l (by omega)) (h m (by omega))
theorem E3(hq:∀ i,i<n->s i∣Q)(h:∀ i,i<n->s i∣v i):Q∣i5 n s Q w v:=vM λi hi=>by
 obtain⟨c,hc⟩:=h i hi
 obtain⟨e,he⟩:=hq i hi
 by_cases z:s i=0
 ·rw[hc,z];simp
 ·rw[hc,he,Int.mul_ediv_cancel_left _ z]
  exact⟨w i*c,by grind⟩
theorem CU(hq:∀ i,i<n->s i∣Q):∀ (k d:Nat) (v:cv),d+k=n->(∀ b,d<=b->b<n->Q∣i5 n s Q w (D b))->G n s D k d v->Q∣i5 n s Q w v
 | 0,d,v,_,_,g=>E3 hq g
 | k+1,d,v,hn,hD,g=>by
  have h1:=CU hq k (d+1) _ (by omega) (λb h1 h2=>hD b (by omega) h2) g.2
  have h2:=hD d (Nat.le_refl _) (by omega)
  have e:=sV (s:=s) (Q:=Q) (w:=w) (n:=n) 1 (v d/a0 s D d) (v:=λi=>v i-v d/a0 s D d*D d i) (u:=D d) (x:=v) λi _=>by omega
  rw[e]
  exact Int.dvd_add (Int.dvd_trans h1 (Int.dvd_mul_left _ _)) (Int.dvd_trans h2 (Int.dvd_mul_left _ _))
theorem D9{c:Nat}(hc:c<n){x:Int}{w':cv}(h0:w c=0)(h1:w' c=x)(h2:∀ i,i<n->i≠c->w' i=w i):i5 n s Q w' v=i5 n s Q w v+x*v c*(Q/s c):=by
 have e1:i5 n s Q w' v=1*i5 n s Q w v+1*c6 n λi=>if i=c then x*v c*(Q/s c) else 0:=j_ 1 1 _ _ _ n λi hi=>by
  by_cases z:i=c
  ·rw[z,h1,h0];simp
  ·rw[h2 i hi z];simp[z]
 have e2:=iR c (x*v c*(Q/s c)) n hc (λi=>if i=c then x*v c*(Q/s c) else 0) λ_ _=>rfl
 rw[e1,e2];omega
theorem CQ(h:∀ i,i<n->w i*v i=0):i5 n s Q w v=0:=by
 unfold i5
 rw[eT (g:=λ_=>0) λi hi=>by rw[h i hi];simp,iS]
def hV(s:cv)(D:Nat->cv)(d:Nat):Int:=s d/a0 s D d
theorem kP(g:Good n s D){d:Nat}(h:d<n):hV s D d*a0 s D d=s d/\0<hV s D d/\hV s D d<=s d:=by
 have p:=g.pos h
 obtain⟨c,hc⟩:=g.dv d h
 have e:hV s D d=c:=by unfold hV;rw[hc,Int.mul_ediv_cancel_left _ (by omega)]
 have sp:=g.sp d h
 have c0:0<c:=by
  rcases Int.lt_trichotomy c 0 with q | q | q
  ·have:=Int.mul_neg_of_pos_of_neg p.1 q;omega
  ·rw[q] at hc;omega
  ·exact q
 refine⟨by rw[e,hc,Int.mul_comm],by omega,?_⟩
 rw[e]
 have:1*c<=a0 s D d*c:=Int.mul_le_mul_of_nonneg_right (by omega) (by omega)
 omega
structure Wk (n:Nat) (s:cv) (D:Nat->cv) (Q:Int) (dial a:Nat) (w:cv):Prop where
 beh:∀ i,dial<i->i<n->w i=0
 at_:w dial=hV s D dial%s dial
 ah:∀ i,a<=i->i<dial->0<=w i/\w i<hV s D i
 no:∀ i,i<a->w i=0
 kill:∀ b,a<=b->b<n->Q∣i5 n s Q w (D b)
theorem Wk.start(g:Good n s D)(hq:∀ i,i<n->s i∣Q){dial:Nat}(hd:dial<n){w:cv}(h:∀ i,i<n->w i=if i=dial then hV s D dial%s dial else 0):Wk n s D Q dial dial w where
 beh:=λi h1 h2=>by rw[h i h2,if_neg (by omega)]
 at_:=by rw[h dial hd,if_pos rfl]
 ah:=λi h1 h2=>by omega
 no:=λi hi=>by rw[h i (by omega),if_neg (by omega)]
 kill:=λb h1 h2=>by
  by_cases z:b=dial
  ·subst z
   obtain⟨f1,f2,f3⟩:=kP g h2
   obtain⟨e,he⟩:=hq b h2
   obtain⟨x,hx⟩:=g.diag h2
   obtain⟨y,hy⟩:=eo (hV s D b) (s b)
   have sp:=g.sp b h2
   have e1:i5 n s Q w (D b)=1*c6 n (λi=>if i=b then (hV s D b%s b)*D b b*(Q/s b) else 0)+0*0:=by
    have:=j_ 1 0 (λi=>if i=b then (hV s D b%s b)*D b b*(Q/s b) else 0) (λ_=>0) (λi=>w i*D b i*(Q/s i)) n λi hi=>by
     rw[h i hi]
     by_cases z:i=b
     ·subst z;simp
     ·simp[z]
    rw[show i5 n s Q w (D b)=c6 n λi=>w i*D b i*(Q/s i) from rfl,this];omega
   rw[e1,iR b _ n h2 _ λ_ _=>rfl,he,Int.mul_ediv_cancel_left _ (by omega)]
   have hy':hV s D b%s b=hV s D b+s b*y:=by omega
   have Ri:D b b=a0 s D b+s b*x:=by omega
   refine⟨1+hV s D b*x+y*D b b,?_⟩
   rw[hy',Ri]
   generalize hV s D b=F at *
   generalize a0 s D b=T at *
   generalize s b=S at *
   subst f1
   grind
  ·rw[CQ λi hi=>?_]
   ·exact Int.dvd_zero _
   ·rcases Nat.lt_or_ge i b with q | q
    ·rw[g.wM b h2 i q];simp
    ·rw[h i hi,if_neg (by omega)];simp
theorem Wk.next(g:Good n s D)(hQ:0<Q)(hq:∀ i,i<n->s i∣Q){dial c:Nat}(hd:dial<n){w w':cv}(W:Wk n s D Q dial (c+1) w)(hc:c<dial)(h1:w' c=-(i5 n s Q w (D c)%Q/(Q/hV s D c))%hV s D c)(h2:∀ i,i<n->i≠c->w' i=w i):Wk n s D Q dial c w':=by
 obtain⟨f1,f2,f3⟩:=kP g (show c<n by omega)
 obtain⟨e,he⟩:=hq c (by omega)
 have sp:=g.sp c (by omega)
 have sh:Q/hV s D c=a0 s D c*e:=by
  rw[he,← f1,Int.mul_assoc,Int.mul_ediv_cancel_left _ (by omega)]
 have hs:Q/s c=e:=by rw[he,Int.mul_ediv_cancel_left _ (by omega)]
 have fQ:hV s D c*(a0 s D c*e)=Q:=by rw[← Int.mul_assoc,f1,he]
 have sh0:0<a0 s D c*e:=by
  rcases Int.lt_trichotomy (a0 s D c*e) 0 with q | q | q
  ·have:=Int.mul_neg_of_pos_of_neg f2 q;omega
  ·rw[q] at fQ;omega
  ·exact q
 have cl:=g.Kr c (n-(c+1)) (by omega)
 have k1:=CU (w:=w) hq (n-(c+1)) (c+1) _ (by omega) (λb h1 h2=>W.kill b h1 h2) cl
 rw[sV (s:=s) (Q:=Q) (w:=w) (n:=n) (hV s D c) 0 (v:=D c) (u:=D c) (x:=λi=>s c/a0 s D c*D c i) λi _=>by unfold hV;omega] at k1
 obtain⟨x,hx⟩:=k1
 have dv:(a0 s D c*e)∣i5 n s Q w (D c):=⟨x,by
  have:hV s D c*i5 n s Q w (D c)=hV s D c*(a0 s D c*e*x):=by
   rw[← Int.mul_assoc,fQ];omega
  exact Int.eq_of_mul_eq_mul_left (by omega) this⟩
 have ed:=Int.emod_def (i5 n s Q w (D c)) Q
 have dv2:(a0 s D c*e)∣i5 n s Q w (D c)%Q:=by
  rw[ed]
  exact Int.dvd_sub dv (Int.dvd_trans ⟨hV s D c,by rw[Int.mul_comm];exact fQ.symm⟩ (Int.dvd_mul_right _ _))
 obtain⟨q,PM⟩:=dv2
 rw[sh] at h1
 have eq1:i5 n s Q w (D c)%Q/(a0 s D c*e)=q:=by rw[PM,Int.mul_ediv_cancel_left _ (by omega)]
 rw[eq1] at h1
 obtain⟨y,hy⟩:=eo (-q) (hV s D c)
 obtain⟨z,hz⟩:=g.diag (show c<n by omega)
 refine⟨λi a b=>?_,?_,λi a b=>?_,λi a=>?_,λb a1 a2=>?_⟩
 ·rw[h2 i b (by omega)];exact W.beh i a b
 ·rw[h2 dial hd (by omega)];exact W.at_
 ·by_cases q2:i=c
  ·rw[q2,h1]
   exact⟨Int.emod_nonneg _ (by omega),Int.emod_lt_of_pos _ f2⟩
  ·rw[h2 i (by omega) q2];exact W.ah i (by omega) b
 ·rw[h2 i (by omega) (by omega)];exact W.no i (by omega)
 ·rw[D9 (w:=w) (show c<n by omega) (W.no c (by omega)) rfl h2]
  by_cases q2:b=c
  ·subst q2
   rw[hs]
   have e1:w' b=-q+hV s D b*y:=by omega
   have e2:D b b=a0 s D b+s b*z:=by omega
   have e3:i5 n s Q w (D b)=Q*(i5 n s Q w (D b)/Q)+a0 s D b*e*q:=by omega
   refine⟨i5 n s Q w (D b)/Q+y+w' b*z,?_⟩
   rw[e2]
   generalize i5 n s Q w (D b)/Q=p at *
   rw[e3,e1]
   generalize hV s D b=F at *
   generalize a0 s D b=T at *
   generalize s b=S at *
   subst f1
   rw[he]
   grind
  ·rw[g.wM b a2 c (by omega)]
   simp only[Int.mul_zero,Int.zero_mul,Int.add_zero]
   exact W.kill b (by omega) a2
theorem Wk.first(g:Good n s D)(hQ:0<Q)(hq:∀ i,i<n->s i∣Q){dial:Nat}(hd:dial<n){w l:cv}(W:Wk n s D Q dial 0 w)(l0:∀ i,i<dial->l i=0)(l1:0<l dial)(l2:l dial<a0 s D dial):¬ Q∣i5 n s Q w l:=by
 obtain⟨f1,f2,f3⟩:=kP g hd
 obtain⟨e,he⟩:=hq dial hd
 have sp:=g.sp dial hd
 have lt:hV s D dial<s dial:=by
  rcases Int.lt_or_eq_of_le f3 with q | q
  ·exact q
  ·rw[q] at f1
   have:a0 s D dial=1:=by
    have:s dial*a0 s D dial=s dial*1:=by rw[Int.mul_one];exact f1
    exact Int.eq_of_mul_eq_mul_left (by omega) this
   omega
 have wd:w dial=hV s D dial:=by rw[W.at_,Int.emod_eq_of_lt (by omega) lt]
 have e1:i5 n s Q w l=c6 n (λi=>if i=dial then hV s D dial*l dial*e else 0):=eT λi hi=>by
  by_cases z:i=dial
  ·rw[z,wd,he,Int.mul_ediv_cancel_left _ (by omega)];simp
  ·rcases Nat.lt_or_ge i dial with q | q
   ·rw[l0 i q];simp[z]
   ·rw[W.beh i (by omega) hi];simp[z]
 rw[e1,iR dial _ n hd _ λ_ _=>rfl]
 rintro⟨c,hc⟩
 have e0:0<e:=by
  rcases Int.lt_trichotomy e 0 with q | q | q
  ·have:=Int.mul_neg_of_pos_of_neg sp q;omega
  ·rw[q] at he;omega
  ·exact q
 have e2:hV s D dial*e*l dial=hV s D dial*e*(a0 s D dial*c):=by
  rw[he,← f1] at hc
  grind
 have e3:l dial=a0 s D dial*c:=Int.eq_of_mul_eq_mul_left (by
  have:=Int.mul_pos f2 e0;omega) e2
 have:=iP (a:=l dial) (b:=a0 s D dial) (by omega) l2 ⟨c,e3⟩
 omega
end
end Rg
namespace Rg
section
variable{n:Nat}{s:cv}{D:Nat->cv}{Q:Int}
variable{W:Nat->cv}
end
end Rg
namespace wK
open PySem L2 PyProof.Rows Rg
local macro_rules | `(tactic| dsimp? [$ts,*])=>`(tactic| simp only[cI,bb,ay,lJ,aq,vg,vR,retS,aX,pZ,jN,iO,ar,M.aP,M.bind_some,M.bind_none,M.Bv,M.bind_assoc,ae,ao,ai,aa,aj,EK,DC,G8,Ip,G1,Hv,GB,Hy,Hr,Ia,HN,GZ,HM,Gn,GL,GG,dm,jv,zc,ET,vC,pM,Ja,zR,kn,Ks,gZ,El,itemsOf,i8,Ep,DB,yV,DG,DW,Bf,CS,BJ,D4,DK,Ce,p9,Cp,dj,cx,yq,Hd,List.length_cons,List.length_nil,List.map_cons,List.map_nil,List.cons_append,List.nil_append,List.replicate,List.getElem?_cons_zero,List.getElem?_cons_succ,List.getElem?_nil,List.set_cons_zero,List.set_cons_succ,List.set_nil,Nat.reduceAdd,Nat.reduceSub,if_true,if_false,Bool.not_true,Bool.not_false,Bool.false_eq_true,ite_true,ite_false,reduceIte,reduceCtorEq,Nat.sub_self,lO,cD,bR,Option.map_some,Option.map_none,rT,GU,Gs,Ff,Ex,ED,Gy,Ek,Fh,Fc,lF,List.any_cons,List.any_nil,String.reduceBEq,Bool.or_false,Bool.or_true,Bool.true_or,Bool.false_or,Bool.and_true,Bool.and_false,Bool.true_and,Bool.false_and,Fe,Du,IT,xH,DF,Dy,EN,DL,Dc,Cs,iI,um,List.foldl_cons,List.foldl_nil,ni,av trivial,$(⟨ts.elemsAndSeps⟩),*])
theorem ny(i:Int):fb [.int i]=M.ok (.bl true):=by rfl
theorem yJ{α:Type}{inj:α->PV}{h:α->Bool}{p:PV}(xs:List α)(n:Int)(hp:p=.tup (xs.map inj)\/p=.lst (xs.map inj))(H:∀ a∈xs,fb [inj a]=M.ok (.bl (h a)))(hz:xs.length<=sizeLine):fX [p,.int n]=M.ok (.bl (decide ((xs.length:Int)=n)&&xs.all h)):=by
 have key:bp (b_ 0) none (ai fb (aa (ae 0) aj)) (xs.map inj) [none]=M.ok (xs.map λa=>.bl (h a)):=g8 xs λa ha=>by dsimp? [H a ha]
 have key2:vZ [.lst (xs.map λa=>.bl (h a))]=M.ok (.bl (xs.all h)):=by
  have:=wc (xs.map h)
  rw[List.map_map] at this
  rw[show (λa=>PV.bl (h a))=PV.bl∘h from rfl,this]
  simp[List.all_map]
 unfold fX iT
 rcases hp with rfl | rfl
 all_goals
  dsimp? [List.length_map]
  by_cases e:(xs.length:Int)=n
  ·simp only[e,decide_true,Bool.not_true,M.aP,Bool.false_eq_true,if_false,vg,Bool.true_and]
   dsimp? [List.length_map,av hz,key,key2]
  ·simp only[e,decide_false,Bool.not_false,M.aP,if_true,vR,Bool.false_and]
   dsimp? []
theorem CV(xs:List Int)(n:Int)(hz:xs.length<=sizeLine):fX [tI xs,.int n]=M.ok (.bl (decide ((xs.length:Int)=n))):=by
 exact(yJ (p:=tI xs) (h:=λ_=>true) xs n (.inl rfl) (λa _=>ny a) hz).trans (by rw[List.all_eq_true.mpr λ_ _=>rfl,Bool.and_true])
theorem Iy(xs:List Int)(n:Int)(hz:xs.length<=sizeLine):fX [lI xs,.int n]=M.ok (.bl (decide ((xs.length:Int)=n))):=by
 exact(yJ (p:=lI xs) (h:=λ_=>true) xs n (.inr rfl) (λa _=>ny a) hz).trans (by rw[List.all_eq_true.mpr λ_ _=>rfl,Bool.and_true])
theorem within_int(x a b:Int):dG [.int x,.int a,.int b]=M.ok (.bl (decide (a<=x/\x<=b))):=by
 unfold dG eI
 dsimp? [ny]
 by_cases h:a<=x
 ·simp only[h,decide_true,if_true,true_and];dsimp? []
 ·simp only[h,decide_false,false_and];dsimp? []
theorem qX(xs:List Int)(h1:1<=xs.length)(h6:xs.length<=6)(hx:∀ x∈xs,2<=x/\x<=360):gO [lI xs]=M.ok .cR:=by
 unfold gO gG
 have a1:¬ (6:Int)<xs.length:=by omega
 have a2:¬ (xs.length:Int)=0:=by omega
 dsimp? [a1,a2,decide_false,uN]
 refine e7 xs.zipIdx (λzs env=>(∃ b c,env=[some (.sh (lI xs)),b,c])/\∀ z∈zs,2<=z.1/\z.1<=360) ⟨⟨_,_,rfl⟩,λz hz=>hx z.1 (List.fst_mem_of_mem_zipIdx hz)⟩ ?_ ?_
 ·rintro⟨a,i⟩ r env ⟨⟨b,c,rfl⟩,hz⟩
  have ha:=hz (a,i) List.mem_cons_self
  refine⟨_,[some (.sh (lI xs)),some (.sh (.int i)),some (.sh (.int a))],rfl,?_,⟨_,_,rfl⟩,λz QD=>hz z (List.mem_cons_of_mem _ QD)⟩
  dsimp? [within_int,ha,and_self,decide_true]
 ·rintro Nq ⟨⟨b,c,rfl⟩,_⟩;rfl
theorem qv(n:Nat)(xs:List (List Int))(h8:xs.length<=8)(hx:∀ x∈xs,x.length=n)(hn:n<=100):fx [.lst (xs.map lI),.int n]=M.ok .cR:=by
 unfold fx fG
 have a1:¬ (8:Int)<xs.length:=by omega
 dsimp? [a1,decide_false,List.length_map,lR]
 refine e7 xs.zipIdx (λzs env=>(∃ b c,env=[some (.sh (.lst (xs.map lI))),some (.sh (.int n)),b,c])/\∀ z∈zs,z.1.length=n) ⟨⟨_,_,rfl⟩,λz hz=>hx z.1 (List.fst_mem_of_mem_zipIdx hz)⟩ ?_ ?_
 ·rintro⟨a,i⟩ r env ⟨⟨b,c,rfl⟩,hz⟩
  have ha:a.length=n:=hz (a,i) List.mem_cons_self
  refine⟨_,[some (.sh (.lst (xs.map lI))),some (.sh (.int n)),some (.sh (.int i)),some (.sh (lI a))],rfl,?_,⟨_,_,rfl⟩,λz QD=>hz z (List.mem_cons_of_mem _ QD)⟩
  dsimp? [Iy a n (aQ (by omega)),ha,decide_true]
 ·rintro Nq ⟨⟨b,c,rfl⟩,_⟩;rfl
theorem qc(n:Nat)(p:PV):(List.replicate n [p]).flatten=List.replicate n p:=by
 induction n with
 | zero=>rfl
 | succ n ih=>rw[List.replicate_succ,List.flatten_cons,ih];rfl
theorem mul_one(p:PV)(n:Nat)(h8:n<=1000):bS (.tup [p]) (.int (n:Int))=M.ok (.tup (List.replicate n p)):=by
 have h2:[p].length*(n:Int).toNat<=sizeLine:=by
  rw[Int.toNat_natCast]
  exact aQ (by show 1*n<=1000;omega)
 have h3:(n:Int)<2^63:=Int.lt_of_le_of_lt (Int.ofNat_le.mpr h8) (by decide)
 have h4:-(2^63)<=(n:Int):=Int.le_trans (by decide) (Int.natCast_nonneg n)
 rw[bS,av ⟨rfl,h4,h3,h2⟩,Int.toNat_natCast,qc]
theorem kH(xs:List PV)(h8:xs.length<=8):gA [.lst xs,.cR]=M.ok (tI (List.replicate xs.length 1)):=by
 unfold gA gJ
 dsimp? [uE,sH,mul_one (.int 1) xs.length (by omega)]
 rw[tI,List.map_replicate]
def wq(xs sizes:List Int):List Int:=(xs.zip sizes).map λz=>z.1%z.2
theorem qg(p q:PV)(xs sizes:List Int)(hp:cH p=some (xs.map PV.int))(hq:cH q=some (sizes.map PV.int))(hs:∀ s∈sizes,0<s)(hz:xs.length<=1000):jt [p,q]=M.ok (tI (wq xs sizes)):=by
 have key:bp (bC 0 1) none (ao cy (ae 0) (ae 1)) ((xs.zip sizes).map λz=>.tup [.int z.1,.int z.2]) [none,none]=M.ok ((xs.zip sizes).map λz=>.int (z.1%z.2)):=by
  refine fZ (p:=λz:Int×Int=>PV.int z.1) (q:=λz:Int×Int=>PV.int z.2) (xs.zip sizes) λz hz=>?_
  have:=hs z.2 (List.of_mem_zip (a:=z.1) (b:=z.2) hz).2
  dsimp? [aS this]
 unfold jt kL
 have hl:(xs.zip sizes).length<=sizeLine:=by rw[List.length_zip];exact aQ (Nat.le_trans (Nat.min_le_left _ _) hz)
 dsimp? [dW xs sizes hp hq,List.length_map,av hl,key]
 rw[tI,wq,List.map_map];rfl
theorem xq(a b c:PV):aV (.tup [a,b,c]) (.int 0)=M.ok a:=bZ (j:=0) rfl rfl
theorem G9(a b c:PV):aV (.tup [a,b,c]) (.int 1)=M.ok b:=bZ (j:=1) rfl rfl
theorem GW(a b c:PV):aV (.tup [a,b,c]) (.int 2)=M.ok c:=bZ (j:=2) rfl rfl
theorem sQ(a b:Int)(ha:a.natAbs<2^60)(hb:b.natAbs<2^60):∃ s t,fW [.int a,.int b]=M.ok (.tup [.int (Int.gcd a b),.int s,.int t])/\s*a+t*b=Int.gcd a b/\s.natAbs<=b.natAbs+1/\t.natAbs<=a.natAbs+(b.natAbs+1)*a.natAbs+b.natAbs+1:=by
 let J:af->Prop:=λenv=>∃ r s t r' s' t' x y,env=[some (.sh (.int a)),some (.sh (.int b)),some (.sh ((PV.tup [PV.int r,PV.int s,PV.int t]))),some (.sh ((PV.tup [PV.int r',PV.int s',PV.int t']))),x,y]/\Eu.St a b r s t r' s' t'
 let m:af->Nat:=λenv=>match env with
  | [_,_,_,some (.sh (.tup [.int r,_,_])),_,_]=>r.natAbs
  | _=>0
 have hk:(b.natAbs+1)*a.natAbs<=2^60*2^60:=Nat.mul_le_mul (by omega) (by omega)
 have hk2:(2:Nat)^60*2^60=2^120:=by decide
 have start:J [some (.sh (.int a)),some (.sh (.int b)),some (.sh ((PV.tup [PV.int a,PV.int 1,PV.int 0]))),some (.sh ((PV.tup [PV.int b,PV.int 0,PV.int 1]))),none,none]:=⟨_,_,_,_,_,_,_,_,rfl,Eu.start a b⟩
 have loop:=rQ (u:=dm (ao rm (ao aV (ae 3) (λ_=>M.ok (.int 0))) (λ_=>M.ok (.int 0)))) (b:=(aq (aX 4 (ao cQ (ao aV (ae 2) (λ_=>M.ok (.int 0))) (ao aV (ae 3) (λ_=>M.ok (.int 0)))))
  (aq (aX 5 (lN (aa (ao kb (ao aV (ae 2) (λ_=>M.ok (.int 0))) (ao bS (ae 4) (ao aV (ae 3) (λ_=>M.ok (.int 0))))) (aa (ao kb (ao aV (ae 2) (λ_=>M.ok (.int 1))) (ao bS (ae 4) (ao aV (ae 3) (λ_=>M.ok (.int 1))))) (aa (ao kb (ao aV (ae 2) (λ_=>M.ok (.int 2))) (ao bS (ae 4) (ao aV (ae 3) (λ_=>M.ok (.int 2))))) aj)))))
  (aq (aX 2 (ae 3))
  (aq (aX 3 (ae 5))
  ar))))) J m ?_ _ start
 ·obtain⟨Nq,e1,⟨r,s,t,r',s',t',x,y,rfl,st⟩,e2⟩:=loop
  have hr':r'=0:=by
   revert e2
   dsimp? [xq]
   intro e2
   have:(!decide (r'=0))=false:=by injection e2 with e2;injection e2
   simpa using this
  subst hr'
  obtain⟨d1,d2⟩:=Eu.done st
  have hg:(r.natAbs:Int)=Int.gcd a b:=by
   have h1:r.natAbs∣Int.gcd a b:=Int.dvd_gcd (Int.natAbs_dvd.mpr d1) (Int.natAbs_dvd.mpr d2)
   have h2:((Int.gcd a b:Nat):Int)∣r:=by
    rw[st.c0]
    exact Int.dvd_add (Int.dvd_trans (Int.gcd_dvd_left ..) (Int.dvd_mul_left _ _)) (Int.dvd_trans (Int.gcd_dvd_right ..) (Int.dvd_mul_left _ _))
   have h3:Int.gcd a b∣r.natAbs:=Int.ofNat_dvd_left.mp h2
   rw[Nat.dvd_antisymm h1 h3]
  unfold fW kB
  dsimp? []
  rw[e1]
  dsimp? [xq,G9,GW]
  by_cases hneg:r<0
  ·refine⟨-s,-t,?_,?_,by rw[Int.natAbs_neg];exact st.b0,by rw[Int.natAbs_neg];exact st.d0⟩
   ·simp only[hneg,decide_true,if_true];dsimp? []
    rw[show -r=(Int.gcd a b:Int) by omega]
   ·have:=st.c0
    rw[Int.neg_mul,Int.neg_mul];omega
  ·refine⟨s,t,?_,?_,st.b0,st.d0⟩
   ·simp only[hneg,decide_false,Bool.false_eq_true,if_false];dsimp? []
    rw[show r=(Int.gcd a b:Int) by omega]
   ·have:=st.c0;omega
 ·rintro env ⟨r,s,t,r',s',t',x,y,rfl,st⟩
  by_cases h0:r'=0
  ·refine .inl ?_
   dsimp? [xq]
   simp[h0]
  ·refine .inr ⟨?_,?_⟩
   ·dsimp? [xq]
    simp[h0]
   ·obtain⟨QE,lt⟩:=Eu.turn st h0
    have b1:=st.m1;have b0:=st.m0;have c1:=st.b1;have c2:=st.d1;have c3:=QE.m1
    have q1:(r.fdiv r').natAbs<=r.natAbs+1:=by
     obtain⟨f1,f2,f3⟩:=Eu.sP r r' h0
     generalize r.fdiv r'=q at *
     have e:q*r'=r-(r-q*r'):=by omega
     have e2:(q*r').natAbs<=r.natAbs+(r-q*r').natAbs:=by omega
     rw[Int.natAbs_mul] at e2
     have:q.natAbs*1<=q.natAbs*r'.natAbs:=Nat.mul_le_mul_left _ (by omega)
     rcases Nat.lt_or_ge (r.natAbs+1) q.natAbs with h | h
     ·have h5:(r.natAbs+2)*r'.natAbs<=q.natAbs*r'.natAbs:=Nat.mul_le_mul_right _ (by omega)
      have h6:r.natAbs*1<=r.natAbs*r'.natAbs:=Nat.mul_le_mul_left _ (by omega)
      rw[Nat.add_mul] at h5
      omega
     ·exact h
    have q2:(r.fdiv r').natAbs<2^200:=by omega
    refine⟨[some (.sh (.int a)),some (.sh (.int b)),some (.sh ((PV.tup [PV.int r',PV.int s',PV.int t']))),some (.sh ((PV.tup [PV.int (r-r.fdiv r'*r'),PV.int (s-r.fdiv r'*s'),PV.int (t-r.fdiv r'*t')]))),some (.sh (.int (r.fdiv r'))),some (.sh ((PV.tup [PV.int (r-r.fdiv r'*r'),PV.int (s-r.fdiv r'*s'),PV.int (t-r.fdiv r'*t')])))],?_,⟨_,_,_,_,_,_,_,_,rfl,QE⟩,lt⟩
    dsimp? [xq,G9,GW,si h0 (Nat.lt_of_lt_of_le (show r'.natAbs<2^200 by omega) (Nat.pow_le_pow_right (by decide) (by decide))),bf (k:=200) (l:=200) q2 (show r'.natAbs<2^200 by omega),bf (k:=200) (l:=200) q2 (show s'.natAbs<2^200 by omega),bf (k:=200) (l:=200) q2 (show t'.natAbs<2^200 by omega)]
def R(sizes:List Int):Int:=(Lc.C7 (sizes.map Int.toNat):Nat)
structure Sz (sizes:List Int):Prop where
 h1:1<=sizes.length
 h6:sizes.length<=6
 hx:∀ x∈sizes,2<=x/\x<=360
theorem v5{sizes:List Int}(h:Sz sizes):0<R sizes:=by
 refine Int.ofNat_lt.mpr (Lc.lcm_pos λn hn=>?_)
 obtain⟨x,hx,rfl⟩:=List.mem_map.mp hn
 have:=h.hx x hx;omega
theorem JA{sizes:List Int}(h:Sz sizes):R sizes<2^60:=by
 have h1:=Lc.p_ 9 (sizes.map Int.toNat) 1 0 (by decide) (by decide) λn hn=>by
  obtain⟨x,hx,rfl⟩:=List.mem_map.mp hn
  have:=h.hx x hx;omega
 have h2:(2:Nat)^(0+9*(sizes.map Int.toNat).length)<=2^54:=Nat.pow_le_pow_right (by decide) (by rw[List.length_map];have:=h.h6;omega)
 have h3:Lc.C7 (sizes.map Int.toNat)<=2^54:=Nat.le_trans h1 h2
 unfold R;omega
theorem Jy{sizes:List Int}(h:Sz sizes){x:Int}(hx:x∈sizes):x∣R sizes:=by
 have h1:=Lc.lcm_dvd (ns:=sizes.map Int.toNat) (List.mem_map.mpr ⟨x,hx,rfl⟩)
 have h2:=Int.ofNat_dvd.mpr h1
 rw[Int.toNat_of_nonneg (by have:=h.hx x hx;omega)] at h2
 exact h2
structure Acc (sizes r:List Int) (acc:Nat):Prop where
 pos:0<acc
 le:acc<=2^(9*(6-r.length))
 len:r.length<=6
 val:(r.map Int.toNat).foldl Nat.lcm acc=Lc.C7 (sizes.map Int.toNat)
 i9:∀ x∈r,2<=x/\x<=360
theorem Acc.start{sizes:List Int}(h:Sz sizes):Acc sizes sizes 1:=⟨by decide,Nat.one_le_two_pow,h.h6,rfl,h.hx⟩
theorem Acc.lt{sizes r:List Int}{acc:Nat}(h:Acc sizes r acc):acc<2^60:=by
 have h2:(2:Nat)^(9*(6-r.length))<=2^54:=Nat.pow_le_pow_right (by decide) (by omega)
 have:=h.le;omega
theorem Acc.turn{sizes r:List Int}{x:Int}{acc:Nat}(h:Acc sizes (x::r) acc):Acc sizes r (Nat.lcm acc x.toNat)/\(acc:Int)/(Int.gcd acc x:Nat)*x=(Nat.lcm acc x.toNat:Nat)/\(acc:Int)/(Int.gcd acc x:Nat)<=acc/\0<Int.gcd acc x:=by
 have hx:=h.i9 x List.mem_cons_self
 have hp:=h.pos
 obtain⟨n,rfl⟩:=Int.eq_ofNat_of_zero_le (show 0<=x by omega)
 have hg:Int.gcd (acc:Int) (n:Int)=Nat.gcd acc n:=rfl
 refine⟨⟨Nat.lcm_pos hp (by omega),?_,?_,h.val,λy hy=>h.i9 y (List.mem_cons_of_mem _ hy)⟩,?_,?_,?_⟩
 ·have h1:Nat.lcm acc n<=acc*n:=Nat.le_of_dvd (Nat.mul_pos hp (by omega)) (Nat.lcm_dvd (Nat.dvd_mul_right ..) (Nat.dvd_mul_left ..))
  have h2:acc*n<=2^(9*(6-(r.length+1)))*2^9:=Nat.mul_le_mul h.le (by omega)
  have hl:r.length+1<=6:=h.len
  rw[← Nat.pow_add,show 9*(6-(r.length+1))+9=9*(6-r.length) by omega] at h2
  exact Nat.le_trans h1 h2
 ·have hl:r.length+1<=6:=h.len
  omega
 ·rw[hg,Int.toNat_natCast,← Lc.BK];norm_cast
 ·rw[hg]
  exact Int.ofNat_le.mpr (Nat.div_le_self acc (Nat.gcd acc n))
 ·rw[hg];exact Nat.gcd_pos_of_pos_left _ hp
theorem iB(sizes:List Int)(h:Sz sizes):fE [lI sizes]=M.ok (.int (R sizes)):=by
 unfold fE fz
 dsimp? []
 refine e7 sizes (λr env=>∃ acc x,env=[some (.sh (lI sizes)),some (.sh (.int (acc:Nat))),x]/\Acc sizes r acc) ⟨1,_,rfl,.start h⟩ ?_ ?_
 ·rintro a r env ⟨acc,x,rfl,A⟩
  obtain⟨A2,e1,e2,e3⟩:=A.turn
  have l1:=A.lt
  have ha:=A.i9 a List.mem_cons_self
  obtain⟨s,t,ec,_,_,_⟩:=sQ (acc:Int) a (by omega) (by omega)
  have g1:Int.gcd acc a<=acc:=Nat.le_of_dvd A.pos (Int.ofNat_dvd.mp (Int.gcd_dvd_left ..))
  have d0:0<=(acc:Int)/(Int.gcd acc a:Nat):=Int.ediv_nonneg (by omega) (by omega)
  refine⟨_,[some (.sh (lI sizes)),some (.sh (.int (Nat.lcm acc a.toNat:Nat))),some (.sh (.int a))],rfl,?_,_,_,rfl,A2⟩
  dsimp? [ec,xq,bB (i:=(acc:Int)) (show (0:Int)<(Int.gcd acc a:Nat) by omega) (show ((Int.gcd acc a:Nat):Int)<2^64 by omega),bf (k:=64) (l:=64) (show ((acc:Int)/(Int.gcd acc a:Nat)).natAbs<2^64 by omega) (show a.natAbs<2^64 by omega),e1]
 ·rintro Nq ⟨acc,x,rfl,A⟩
  dsimp? []
  have:=A.val
  rw[R,← this];rfl
def pj(sizes:List Int)(levers:List (List Int)):List (Str×PV):=[("dial_sizes", tI sizes),("lever_settings", .tup (levers.map tI)),("lever_prices", tI (List.replicate levers.length 1)),("least_round", .int (R sizes))]
def eG(sizes:List Int)(levers:List (List Int)):PV:=.obj aA (pj sizes levers)
structure Fg (sizes xs:List Int):Prop where
 len:xs.length=sizes.length
 i9:∀ z∈xs.zip sizes,0<=z.1/\z.1<z.2
theorem wm(f:Str)(p:PV):∀ fs:List (Str×PV),(uz f p fs).length<=fs.length+1
 | []=>by simp[uz]
 | (g,q)::r=>by
  have:=wm f p r
  unfold uz
  split
  ·simp
  ·simp;omega
theorem jD{f:Str}{p:PV}{fs:List (Str×PV)}{n:Nat}(h:fs.length<=n):(uz f p fs).length<=n+1:=Nat.le_trans (wm f p fs) (by omega)
theorem gz(a C:Addr)(f:Str)(p:PV)(fs:List (Str×PV))(r:af)(h:fs.length<1000):BE 0 C f p (some (.bd a C fs)::r)=M.ok (.nx (some (.bd a C (uz f p fs))::r)):=by
 show cP _ _=_
 rw[av ⟨rfl,h⟩];rfl
theorem Eg(sizes:List Int)(levers:List (List Int))(h:Sz sizes)(h8:levers.length<=8)(hl:∀ l∈levers,l.length=sizes.length):dR aA ir [.cR] [lI sizes,.lst (levers.map lI)]=M.ok (eG sizes (levers.map λl=>wq l sizes)):=by
 have key:∀ a,ir a ([lI sizes,.lst (levers.map lI)]++[.cR])=M.ok (pj sizes (levers.map λl=>wq l sizes)):=by
  intro a
  have e1:bp (b_ 0) none (ai jt (aa (ae 0) (aa (ae 1) aj))) (levers.map lI) [none,some (.sh (lI sizes))]=M.ok (levers.map λl=>tI (wq l sizes)):=by
   refine g8 levers λl hm=>?_
   have hs:=hl l hm
   have:=qg (lI l) (lI sizes) l sizes rfl rfl (λs hs=>by have:=h.hx s hs;omega) (by rw[hs];have:=h.h6;omega)
   dsimp? [this]
  unfold ir jA
  simp only[mU]
  rw[av (show ([lI sizes,PV.lst (levers.map lI)]++[PV.cR]).length+1=4 from rfl)]
  simp only[qY,vm]
  dsimp? [qX sizes h.h1 h.h6 h.hx,qv sizes.length levers h8 hl (by have:=h.h6;omega),jy,List.length_map,av (aQ (show levers.length<=1000 by omega)),e1,kH _ (show (levers.map lI).length<=8 by rw[List.length_map];exact h8),iB sizes h]
  rw[gz _ _ _ _ _ _ (by simp)]
  dsimp? [jy,List.length_map,av (aQ (show levers.length<=1000 by omega)),e1,kH _ (show (levers.map lI).length<=8 by rw[List.length_map];exact h8),iB sizes h]
  rw[gz _ _ _ _ _ _ (Nat.lt_of_le_of_lt (jD (Nat.zero_le 0)) (by decide))]
  dsimp? [jy,List.length_map,av (aQ (show levers.length<=1000 by omega)),e1,kH _ (show (levers.map lI).length<=8 by rw[List.length_map];exact h8),iB sizes h]
  rw[gz _ _ _ _ _ _ (Nat.lt_of_le_of_lt (jD (jD (Nat.zero_le 0))) (by decide))]
  dsimp? [jy,List.length_map,av (aQ (show levers.length<=1000 by omega)),e1,kH _ (show (levers.map lI).length<=8 by rw[List.length_map];exact h8),iB sizes h]
  rw[gz _ _ _ _ _ _ (Nat.lt_of_le_of_lt (jD (jD (jD (Nat.zero_le 0)))) (by decide))]
  dsimp? []
  show cP _ _=_
  rw[av ⟨rfl,rfl⟩]
  rw[pj,List.map_map,List.length_map]
  rfl
 unfold dR
 rw[tW key];rfl
theorem Cm(sizes:List Int)(levers:List (List Int)):(pj sizes levers).lookup (Str.ofString "dial_sizes")=some (tI sizes):=rfl
theorem Af(sizes:List Int)(levers:List (List Int)):(pj sizes levers).lookup (Str.ofString "lever_settings")=some (.tup (levers.map tI)):=rfl
theorem CD(sizes:List Int)(levers:List (List Int)):(pj sizes levers).lookup (Str.ofString "least_round")=some (.int (R sizes)):=rfl
theorem JX(sizes:List Int)(levers:List (List Int)):(pj sizes levers).lookup (Str.ofString "sizes")=none:=rfl
theorem Jo(sizes:List Int)(levers:List (List Int)):(pj sizes levers).lookup (Str.ofString "levers")=none:=rfl
theorem vx(sizes:List Int)(levers:List (List Int)):bg [eG sizes levers]=M.ok (tI sizes):=by
 unfold bg br
 dsimp? [dy,eG,beq_self_eq_true,Cm]
theorem rR(sizes:List Int)(levers:List (List Int)):bq [eG sizes levers]=M.ok (.tup (levers.map tI)):=by
 unfold bq bT
 dsimp? [dy,eG,beq_self_eq_true,Af]
theorem o5{g:af->M PV}{env:af}{sizes:List Int}{levers:List (List Int)}(h:g env=M.ok (eG sizes levers)):bD aA "sizes" bg g aj env=M.ok (tI sizes):=by
 have:=vx sizes levers
 rw[bD,h,M.aP]
 show cP _ (M.bind (aj env) _)=_
 rw[av ⟨rfl,JX sizes levers⟩]
 exact this
theorem qI{g:af->M PV}{env:af}{sizes:List Int}{levers:List (List Int)}(h:g env=M.ok (eG sizes levers)):bD aA "levers" bq g aj env=M.ok (.tup (levers.map tI)):=by
 have:=rR sizes levers
 rw[bD,h,M.aP]
 show cP _ (M.bind (aj env) _)=_
 rw[av ⟨rfl,Jo sizes levers⟩]
 exact this
def Ey(sizes xs:List Int):Bool:=decide ((xs.length:Int)=sizes.length)&&(xs.zip sizes).all λz=>decide (0<=z.1/\z.1<z.2)
theorem DS{sizes xs:List Int}:Ey sizes xs=true ↔ Fg sizes xs:=by
 unfold Ey
 constructor
 ·intro h
  simp only[Bool.and_eq_true,decide_eq_true_eq,List.all_eq_true] at h
  exact⟨by omega,h.2⟩
 ·intro h
  simp only[Bool.and_eq_true,decide_eq_true_eq,List.all_eq_true]
  exact⟨by rw[h.len],h.i9⟩
theorem Br(x s:Int):∀ env:af,env=[some (.sh (.int x)),some (.sh (.int s))]->gZ Cq Bi (λ_=>M.ok (.int 0)) (ae 0) (ae 1) env=M.ok (.bl (decide (0<=x/\x<s))):=by
 rintro env rfl
 dsimp? []
 by_cases h:0<=x
 ·simp only[h,decide_true,if_true,true_and]
  try dsimp? []
 ·simp only[h,decide_false,false_and]
  try dsimp? []
theorem G6{α:Type}(h:α->Bool)(xs:List α):vZ [.lst (xs.map λa=>.bl (h a))]=M.ok (.bl (xs.all h)):=by
 have:=wc (xs.map h)
 rw[List.map_map] at this
 rw[show (λa=>PV.bl (h a))=PV.bl∘h from rfl,this]
 simp[List.all_map]
section
variable{sizes:List Int}{levers:List (List Int)}
theorem xA(h:Sz sizes)(xs:List Int)(hz:xs.length<=1000):gP [eG sizes levers,tI xs]=M.ok (.bl (Ey sizes xs)):=by
 have key:bp (bC 0 1) none (gZ Cq Bi (λ_=>M.ok (.int 0)) (ae 0) (ae 1)) ((xs.zip sizes).map λz=>.tup [.int z.1,.int z.2]) [none,none]=M.ok ((xs.zip sizes).map λz=>.bl (decide (0<=z.1/\z.1<z.2))) :=
  fZ (p:=λz:Int×Int=>PV.int z.1) (q:=λz:Int×Int=>PV.int z.2) (xs.zip sizes) λz hz=>Br z.1 z.2 _ rfl
 have hl:(xs.zip sizes).length<=sizeLine:=by rw[List.length_zip];exact aQ (Nat.le_trans (Nat.min_le_left _ _) hz)
 unfold gP gv
 dsimp? [o5 (sizes:=sizes) (levers:=levers) (g:=ae 0) (env:=[some (.sh (eG sizes levers)),some (.sh (tI xs)),none]) rfl,CV xs sizes.length (aQ hz)]
 unfold Ey
 by_cases e:(xs.length:Int)=sizes.length
 ·simp only[e,decide_true,Bool.not_true,Bool.false_eq_true,if_false,Bool.true_and]
  dsimp? [dW (p:=tI xs) (q:=tI sizes) xs sizes rfl rfl,List.length_map,av hl,key,G6]
 ·simp only[e,decide_false,Bool.not_false,if_true,Bool.false_and]
  dsimp? []
theorem kT(h:Sz sizes){xs:List Int}(hs:Fg sizes xs):bF [eG sizes levers,tI xs]=M.ok .cR:=by
 unfold bF cz
 dsimp? [xA (levers:=levers) h xs (by rw[hs.len];have:=h.h6;omega),DS.mpr hs]
end
theorem kI{xs ys:List Int}{z:Int×Int}(h:z∈xs.zip ys):z.1∈xs/\z.2∈ys:=List.of_mem_zip (a:=z.1) (b:=z.2) h
theorem ub{sizes xs:List Int}(h:Sz sizes)(hs:Fg sizes xs){x:Int}(hx:x∈xs):0<=x/\x<360:=by
 obtain⟨i,hi,rfl⟩:=List.mem_iff_getElem.mp hx
 have hj:i<sizes.length:=by rw[← hs.len];exact hi
 have:=hs.i9 (xs[i],sizes[i]) (by
  rw[List.mem_iff_getElem]
  exact⟨i,by rw[List.length_zip];omega,by rw[List.getElem_zip]⟩)
 have h2:=h.hx sizes[i] (List.getElem_mem hj)
 exact⟨this.1,by have:=this.2;simp only at this;omega⟩
theorem uK(xs sizes:List Int):wq xs sizes=zZ xs sizes:=rfl
def cf(a b:Int):Int×Int:=open Classical in if h:∃ p:Int×Int,fW [.int a,.int b]=M.ok (.tup [.int (Int.gcd a b),.int p.1,.int p.2])/\p.1*a+p.2*b=Int.gcd a b/\p.1.natAbs<=b.natAbs+1/\p.2.natAbs<=a.natAbs+(b.natAbs+1)*a.natAbs+b.natAbs+1 then h.choose else (0,0)
theorem F0(a b:Int)(ha:a.natAbs<2^60)(hb:b.natAbs<2^60):fW [.int a,.int b]=M.ok (.tup [.int (Int.gcd a b),.int (cf a b).1,.int (cf a b).2])/\(cf a b).1*a+(cf a b).2*b=Int.gcd a b/\(cf a b).1.natAbs<=b.natAbs+1/\(cf a b).2.natAbs<=a.natAbs+(b.natAbs+1)*a.natAbs+b.natAbs+1:=by
 have h:∃ p:Int×Int,fW [.int a,.int b]=M.ok (.tup [.int (Int.gcd a b),.int p.1,.int p.2])/\p.1*a+p.2*b=Int.gcd a b/\p.1.natAbs<=b.natAbs+1/\p.2.natAbs<=a.natAbs+(b.natAbs+1)*a.natAbs+b.natAbs+1:=by
  obtain⟨s,t,h⟩:=sQ a b ha hb
  exact⟨(s,t),h⟩
 unfold cf
 rw[dif_pos h]
 exact h.choose_spec
theorem Di:CB cf:=λa b h1 h2 h3 h4=>by
 obtain⟨_,e,b1,b2⟩:=F0 a b (by omega) (by omega)
 refine⟨e,by omega,?_⟩
 have:(b.natAbs+1)*a.natAbs<=361*360:=Nat.mul_le_mul (by omega) (by omega)
 omega
def mk(r:Row):PV:=.tup [tI r.1,tI r.2]
theorem n8(r:Row):aV (mk r) (.int 0)=M.ok (tI r.1):=bZ (p:=mk r) (j:=0) rfl rfl
theorem BS(r:Row):aV (mk r) (.int 1)=M.ok (tI r.2):=bZ (p:=mk r) (j:=1) rfl rfl
theorem gS{xs:List Int}{i:Nat}(h:i<xs.length):aV (tI xs) (.int (i:Int))=M.ok (.int (vf xs i)) :=
 bZ (p:=tI xs) rfl (by rw[List.getElem?_map,List.getElem?_eq_getElem h,aH h];rfl)
theorem pv{rows:List Row}{d:Nat}(h:d<rows.length):aV (.lst (rows.map mk)) (.int (d:Int))=M.ok (mk (row rows d)) :=
 bZ (p:=.lst (rows.map mk)) rfl (by rw[List.getElem?_map,List.getElem?_eq_getElem h,jj h];rfl)
theorem pX{A B:Nat}(p q:PV)(xs ys:List Int)(a b:Int)(hp:cH p=some (xs.map PV.int))(hq:cH q=some (ys.map PV.int))(hx:Bd B xs)(hy:Bd B ys)(ha:a.natAbs<2^A)(hb:b.natAbs<2^A)(hB:B<=9000)(hA:A<=9000)(hz:xs.length<=1000):kJ [p,.int a,q,.int b]=M.ok (tI (oG xs a ys b)):=by
 have key:bp (bC 0 1) none (ao dc (ao bS (ae 2) (ae 0)) (ao bS (ae 3) (ae 1))) ((xs.zip ys).map λz=>.tup [.int z.1,.int z.2]) [none,none,some (.sh (.int a)),some (.sh (.int b))]=M.ok ((xs.zip ys).map λz=>.int (a*z.1+b*z.2)):=by
  refine fZ (p:=λz:Int×Int=>PV.int z.1) (q:=λz:Int×Int=>PV.int z.2) (xs.zip ys) λz hz=>?_
  have m:=List.of_mem_zip (a:=z.1) (b:=z.2) hz
  dsimp? [bf (k:=A) (l:=B) ha (hx _ m.1) hA hB,bf (k:=A) (l:=B) hb (hy _ m.2) hA hB]
 have hl:(xs.zip ys).length<=sizeLine:=by rw[List.length_zip];exact aQ (Nat.le_trans (Nat.min_le_left _ _) hz)
 unfold kJ mq
 dsimp? [dW xs ys hp hq,List.length_map,av hl,key]
 rw[tI,oG,List.map_map];rfl
theorem ya{A B:Nat}{sizes:List Int}{r q:Row}{a b:Int}(hs:∀ s∈sizes,0<s)(h1:Bd B r.1)(h2:Bd B r.2)(h3:Bd B q.1)(h4:Bd B q.2)(ha:a.natAbs<2^A)(hb:b.natAbs<2^A)(hB:B<=9000)(hA:A<=9000)(z1:r.1.length<=100)(z2:r.2.length<=100):dN [tI sizes,mk r,.int a,mk q,.int b]=M.ok (mk (qL sizes r a q b)):=by
 unfold dN eK
 dsimp? [n8,BS,pX (tI r.1) (tI q.1) r.1 q.1 a b rfl rfl h1 h3 ha hb hB hA (by omega),pX (tI r.2) (tI q.2) r.2 q.2 a b rfl rfl h2 h4 ha hb hB hA (by omega),qg (tI (oG r.1 a q.1 b)) (tI sizes) (oG r.1 a q.1 b) sizes rfl rfl hs (by rw[bY];omega)]
 rfl
theorem uA{sizes:List Int}{rows:List Row}{n m d:Nat}(w:Wf n m rows)(hs:sizes.length=n)(hd:d<n):dF [tI sizes,.lst (rows.map mk),.int (d:Int)]=M.ok (.int (a0 (vf sizes) (DD rows) d)):=by
 unfold dF eH
 have e1:=w.qM hd
 dsimp? [pv (rows:=rows) (d:=d) (by rw[w.len];exact hd),n8,gS (xs:=(row rows d).1) (i:=d) (by omega)]
 unfold a0
 by_cases z:DD rows d d=0
 ·have z':vf (row rows d).1 d=0:=z
  simp only[z',z,decide_true,if_true]
  dsimp? [gS (xs:=sizes) (i:=d) (by omega)]
 ·have z':¬ vf (row rows d).1 d=0:=z
  simp only[z',z,decide_false,Bool.false_eq_true,if_false]
  dsimp? []
  rfl
theorem drop_cons{α:Type}{xs:List α}{d:Nat}{a:α}{r:List α}(h:xs.drop d=a::r):d<xs.length/\xs[d]?=some a/\xs.drop (d+1)=r:=by
 have hd:d<xs.length:=by
  rcases Nat.lt_or_ge d xs.length with q | q
  ·exact q
  ·rw[List.drop_eq_nil_of_le q] at h;cases h
 rw[List.drop_eq_getElem_cons hd] at h
 injection h with h1 h2
 exact⟨hd,by rw[List.getElem?_eq_getElem hd,h1],h2⟩
theorem kF(env:af):nV aj env=M.ok []:=by
 simp only[nV,aj,M.aP]
 exact if_pos (Nat.zero_le _)
theorem yM{i:Nat}{f:af->M PV}{env:af}{xs:List PV}{p:PV}(h:env[i]?=some (some (.ow xs)))(hf:f env=M.ok p)(hz:xs.length<1000):qH i f env=M.ok (.nx (env.set i (some (.ow (xs++[p]))))):=by
 unfold qH
 rw[h]
 show M.bind (f env) _=_
 rw[hf,M.aP,if_pos (nK (Nat.le_of_lt hz))]
theorem tM{n:Nat}{sizes xs:List Int}(hl:xs.length=n)(h:∀ i,i<n->0<=vf xs i/\vf xs i<vf sizes i)(hs:∀ i,i<n->vf sizes i<=360):Bd 9 xs:=λx hx=>by
 obtain⟨i,hi,rfl⟩:=List.mem_iff_getElem.mp hx
 have h1:=h i (by omega);have h2:=hs i (by omega)
 rw[aH hi] at h1
 omega
theorem BI{a b:Int}(h1:-1000<=a)(h2:a<=1000)(h3:-1000<=b)(h4:b<=1000):zi [.int a,.int b]=M.ok ((List.range (b-a).toNat).map λ(i:Nat)=>.int (a+(i:Int))):=by
 have h:-(2^62)<=a/\a<2^62/\-(2^62)<=b/\b<2^62:=by omega
 show cP (-(2^62)<=a/\a<2^62/\-(2^62)<=b/\b<2^62) _=_
 rw[av h]
section
variable{n m k:Nat}{sizes:List Int}{A:Nat->cv}{rows:List Row}{left:Row}
theorem St.Au(h:St n m sizes A k rows){d:Nat}(hd:d<n):Bd 9 (row rows d).1:=tM (h.wf.qM hd) (λi hi=>h.gd.i9 d hd i hi) h.sm
theorem Cn(h:St n m sizes A k rows):∀ s∈sizes,0<s:=λs hs=>by
 obtain⟨i,hi,rfl⟩:=List.mem_iff_getElem.mp hs
 have:=h.gd.sp i (by rw[← h.hs];exact hi)
 rwa [aH hi] at this
theorem AY(h:St n m sizes A k rows)(L:Lv n m sizes A k left)(hn:n<=6)(hm:m<=8):i_ [tI sizes,.lst (rows.map mk),mk left]=M.ok (.tup [.lst ((cM cf sizes rows left n).map mk),tI (aB cf sizes rows left n).2]):=by
 have rl:=h.wf.len
 have hkm:=L.km
 unfold i_ jg
 dsimp? [kF,lR]
 refine e7 rows.zipIdx (λzs env=>∃ d x4 x5 x6 x7 x8,d<=n/\rows.zipIdx.drop d=zs/\env=[some (.sh (tI sizes)),some (.sh (.lst (rows.map mk))),some (.sh (mk (aB cf sizes rows left d))),some (.ow ((cM cf sizes rows left d).map mk)),x4,x5,x6,x7,x8]) ⟨0,none,none,none,none,none,Nat.zero_le _,rfl,rfl⟩ ?_ ?_
 ·rintro⟨a,i⟩ zs env ⟨d,x4,x5,x6,x7,x8,hd,Pp,rfl⟩
  obtain⟨h1,h2,h3⟩:=drop_cons Pp
  rw[List.length_zipIdx,rl] at h1
  have h4:a=row rows d/\i=d:=by
   rw[List.getElem?_zipIdx] at h2
   rw[jj (by rw[rl];exact h1)]
   rw[List.getElem?_eq_getElem (by rw[rl];exact h1)] at h2
   simp at h2
   exact⟨h2.1.symm,h2.2.symm⟩
  obtain⟨rfl,rfl⟩:=h4
  have ll:=dh (c:=cf) h.wf h.hs L.l1 L.l2 i (by omega)
  have lk:=k4 (c:=cf) h L i (by omega)
  have lb:=o8 (c:=cf) h L hn i (by omega)
  have st:=h.gd.pos h1
  have sm:=h.sm i h1
  have nt:=lk i h1
  have e1:=h.wf.qM h1;have e2:=h.wf.at2 h1
  generalize NU:a0 (vf sizes) (DD rows) i=Oq at *
  generalize hnt:vf (aB cf sizes rows left i).1 i=nt' at *
  obtain⟨c1,c2,c3,c4⟩:=F0 Oq nt' (by omega) (by omega)
  have cb:=Di Oq nt' st.1 (by omega) nt.1 (by omega)
  have gp:=gH (b:=nt') st.1
  have gl:(Int.gcd Oq nt':Int)<=Oq:=Int.le_of_dvd st.1 (Int.gcd_dvd_left ..)
  have a1:=ko (b:=nt') st.1 (by omega)
  have a2:=mK (b:=nt') st.1 nt.1 (by omega)
  have B1:Bd 1300 (row rows i).1:=(St.Au h h1).mono (by omega)
  have B2:Bd 1300 (row rows i).2:=(h.bd i h1).mono (by omega)
  have B3:Bd 1300 (aB cf sizes rows left i).1:=(tM ll.1 lk h.sm).mono (by omega)
  have B4:Bd 1300 (aB cf sizes rows left i).2:=lb.mono (by omega)
  have w1:=ya (A:=20) (sizes:=sizes) (Cn h) B1 B2 B3 B4 cb.2.1 cb.2.2 (by decide) (by decide) (by omega) (by omega)
  have w2:=ya (A:=20) (sizes:=sizes) (a:=Oq/(Int.gcd Oq nt':Nat)) (b:=-(nt'/(Int.gcd Oq nt':Nat))) (Cn h) B3 B4 B1 B2 (by omega) (by omega) (by decide) (by decide) (by omega) (by omega)
  have ew:eC cf sizes rows left i=qL sizes (row rows i) (cf Oq nt').1 (aB cf sizes rows left i) (cf Oq nt').2:=by
   simp only[eC,NU,hnt]
  have el:aB cf sizes rows left (i+1)=qL sizes (aB cf sizes rows left i) (Oq/(Int.gcd Oq nt':Nat)) (row rows i) (-(nt'/(Int.gcd Oq nt':Nat))):=by
   simp only[aB,NU,hnt]
  refine⟨_,[some (.sh (tI sizes)),some (.sh (.lst (rows.map mk))),some (.sh (mk (aB cf sizes rows left (i+1)))),some (.ow ((cM cf sizes rows left (i+1)).map mk)),some (.sh (.int i)),some (.sh (mk (row rows i))),some (.sh (.int Oq)),some (.sh (.int nt')),some (.sh (.tup [.int (Int.gcd Oq nt'),.int (cf Oq nt').1,.int (cf Oq nt').2]))],rfl,?_,i+1,_,_,_,_,_,by omega,h3,rfl⟩
  have sok:=uA h.wf h.hs h1
  rw[NU] at sok
  have nok:=gS (xs:=(aB cf sizes rows left i).1) (i:=i) (by omega)
  rw[hnt] at nok
  dsimp? [sok,n8,nok,c1]
  rw[yM (i:=3) rfl (p:=mk (eC cf sizes rows left i)) (by dsimp? [G9,GW,w1,ew]) (by simp[cM];omega)]
  dsimp? [xq,bB (i:=Oq) gp (by omega),bB (i:=nt') gp (by omega),w2,el]
  rw[cM,cM,List.range_succ,List.map_append,List.map_append]
  rfl
 ·rintro env ⟨d,x4,x5,x6,x7,x8,hd,Pp,rfl⟩
  have Qy:d=n:=by
   have:=congrArg List.length Pp
   rw[List.length_drop,List.length_zipIdx,rl] at this
   simp at this
   omega
  subst Qy
  dsimp? [BS]
def bh(sizes:List Int)(rows:List Row)(r:Row)(f:Nat):Nat->Row
 | 0=>r
 | c+1 =>
  let l:=bh sizes rows r f c
  qL sizes l 1 (row rows (f+c)) (-(vf l.1 (f+c)/a0 (vf sizes) (DD rows) (f+c)))
theorem ig(h:St n m sizes A k rows){r:Row}{f:Nat}(h1:r.1.length=n)(h2:r.2.length=m):∀ c,f+c<=n->(bh sizes rows r f c).1.length=n/\(bh sizes rows r f c).2.length=m
 | 0,_=>⟨h1,h2⟩
 | c+1,hc=>by
  obtain⟨i1,i2⟩:=ig h (f:=f) h1 h2 c (by omega)
  have e1:=h.wf.qM (d:=f+c) (by omega);have e2:=h.wf.at2 (d:=f+c) (by omega)
  have hs:=h.hs
  simp only[bh,qL]
  rw[iW,bY,bY]
  exact⟨by omega,by omega⟩
theorem mO(h:St n m sizes A k rows){r:Row}{f:Nat}(h1:r.1.length=n)(h2:r.2.length=m)(h0:∀ i,i<n->0<=vf r.1 i/\vf r.1 i<vf sizes i):Dn n (vf sizes) (DD rows) f (λd=>vf (bh sizes rows r f (d-f)).1) where
 w0:=λi hi=>by rw[Nat.sub_self];exact h0 i hi
 ws:=λd hf hd i hi=>by
  obtain⟨c,rfl⟩:∃ c,d=f+c:=⟨d-f,by omega⟩
  obtain⟨i1,i2⟩:=ig h (f:=f) h1 h2 c (by omega)
  have e1:=h.wf.qM (d:=f+c) (by omega)
  have hs:=h.hs
  show vf (bh sizes rows r f (f+c+1-f)).1 i=_
  rw[show f+c+1-f=c+1 by omega,show f+c-f=c by omega]
  simp only[bh,qL]
  rw[jI (by rw[bY];omega) (by omega),e_ (by omega) (by omega)]
  rfl
theorem uU(h:St n m sizes A k rows){r:Row}{f:Nat}(h1:r.1.length=n)(h2:r.2.length=m){P₀:cv}{B:cv}(hl:Led n (vf sizes) m A (λi=>vf r.1 i-B i) (λl=>vf r.2 l-P₀ l)):∀ c,f+c<=n->Led n (vf sizes) m A (λi=>vf (bh sizes rows r f c).1 i-B i) (λl=>vf (bh sizes rows r f c).2 l-P₀ l)
 | 0,_=>hl
 | c+1,hc=>by
  obtain⟨i1,i2⟩:=ig h (f:=f) h1 h2 c (by omega)
  have e1:=h.wf.qM (d:=f+c) (by omega);have e2:=h.wf.at2 (d:=f+c) (by omega)
  have hs:=h.hs
  refine Led.mix (a:=1) (b:=-(vf (bh sizes rows r f c).1 (f+c)/a0 (vf sizes) (DD rows) (f+c))) (uU h (f:=f) h1 h2 hl c (by omega)) (h.led (f+c) (by omega)) (λi hi=>?_) λl hl=>?_
  ·simp only[bh,qL]
   rw[jI (by rw[bY];omega) (by omega),e_ (by omega) (by omega)]
   obtain⟨z,hz⟩:=eo (1*vf (bh sizes rows r f c).1 i+-(vf (bh sizes rows r f c).1 (f+c)/a0 (vf sizes) (DD rows) (f+c))*vf (row rows (f+c)).1 i) (vf sizes i)
   refine⟨z,?_⟩
   rw[← hz]
   unfold DD
   grind
  ·simp only[bh,qL]
   rw[e_ (by omega) (by omega)]
   unfold PP
   grind
theorem uS(h:St n m sizes A k rows){r:Row}{f B:Nat}(h1:r.1.length=n)(h2:r.2.length=m)(h0:∀ i,i<n->0<=vf r.1 i/\vf r.1 i<vf sizes i)(hB:150*k+1<=B)(hb:Bd B r.2):∀ c,f+c<=n->Bd (B+11*c) (bh sizes rows r f c).2
 | 0,_=>hb
 | c+1,hc=>by
  have k0:=(mO h (f:=f) h1 h2 h0).kept h.gd (f+c) (by omega) (by omega) (f+c) (by omega)
  rw[show f+c-f=c by omega] at k0
  have sm:=h.sm (f+c) (by omega)
  have p:=h.gd.pos (d:=f+c) (by omega)
  have q:=Int.ediv_le_self (a0 (vf sizes) (DD rows) (f+c)) k0.1
  have q0:=Int.ediv_nonneg k0.1 (Int.le_of_lt p.1)
  have:=Bd.mix (A:=10) (uS h (f:=f) h1 h2 h0 hB hb c (by omega)) ((h.bd (f+c) (by omega)).mono (show 150*k+1<=B+11*c by omega)) (a:=1) (b:=-(vf (bh sizes rows r f c).1 (f+c)/a0 (vf sizes) (DD rows) (f+c))) (by decide) (by omega)
  exact this.mono (by omega)
theorem qj(h:St n m sizes A k rows){r:Row}{f B:Nat}(hn:n<=6)(hm:m<=8)(h1:r.1.length=n)(h2:r.2.length=m)(h0:∀ i,i<n->0<=vf r.1 i/\vf r.1 i<vf sizes i)(hB:150*k+1<=B)(hB2:B<=8000)(hb:Bd B r.2)(hf:f<=n):fk [tI sizes,.lst (rows.map mk),mk r,.int (f:Int)]=M.ok (mk (bh sizes rows r f (n-f))):=by
 have hs:=h.hs
 have rl:=h.wf.len
 unfold fk iU
 have i9:zi [.int (f:Int),.int (sizes.length:Int)]=M.ok ((List.range (n-f)).map λ(i:Nat)=>.int ((f+i:Nat):Int)):=by
  rw[BI (by omega) (by omega) (by omega) (by omega),hs,show ((n:Int)-(f:Int)).toNat=n-f by omega]
  simp
 dsimp? [i9]
 refine e7 (List.range (n-f)) (λzs env=>∃ c x4 x5,c<=n-f/\(List.range (n-f)).drop c=zs/\env=[some (.sh (tI sizes)),some (.sh (.lst (rows.map mk))),some (.sh (mk (bh sizes rows r f c))),some (.sh (.int (f:Int))),x4,x5]) ⟨0,none,none,Nat.zero_le _,rfl,rfl⟩ ?_ ?_
 ·rintro i zs env ⟨c,x4,x5,hc,Pp,rfl⟩
  obtain⟨c1,c2,c3⟩:=drop_cons Pp
  rw[List.length_range] at c1
  obtain rfl:i=c:=by
   rw[List.getElem?_range c1] at c2;exact(Option.some.inj c2).symm
  have Qz:f+i<n:=by omega
  have ll:=ig h (f:=f) h1 h2 i (by omega)
  have lk:=(mO h (f:=f) h1 h2 h0).kept h.gd (f+i) (by omega) (by omega)
  rw[show f+i-f=i by omega] at lk
  have k0:=lk (f+i) Qz
  have sm:=h.sm (f+i) Qz
  have p:=h.gd.pos Qz
  have e1:=h.wf.qM Qz;have e2:=h.wf.at2 Qz
  have B1:Bd 8200 (row rows (f+i)).1:=(St.Au h Qz).mono (by omega)
  have B2:Bd 8200 (row rows (f+i)).2:=(h.bd _ Qz).mono (by omega)
  have B3:Bd 8200 (bh sizes rows r f i).1:=(tM ll.1 lk h.sm).mono (by omega)
  have B4:Bd 8200 (bh sizes rows r f i).2:=(uS h (f:=f) h1 h2 h0 hB hb i (by omega)).mono (by omega)
  have q:=Int.ediv_le_self (a0 (vf sizes) (DD rows) (f+i)) k0.1
  have q0:=Int.ediv_nonneg k0.1 (Int.le_of_lt p.1)
  have w:=ya (A:=20) (sizes:=sizes) (a:=1) (b:=-(vf (bh sizes rows r f i).1 (f+i)/a0 (vf sizes) (DD rows) (f+i))) (Cn h) B3 B4 B1 B2 (by decide) (by omega) (by decide) (by decide) (by omega) (by omega)
  refine⟨_,[some (.sh (tI sizes)),some (.sh (.lst (rows.map mk))),some (.sh (mk (bh sizes rows r f (i+1)))),some (.sh (.int (f:Int))),some (.sh (.int ((f+i:Nat):Int))),some (.sh (.int (vf (bh sizes rows r f i).1 (f+i)/a0 (vf sizes) (DD rows) (f+i))))],rfl,?_,i+1,_,_,by omega,c3,rfl⟩
  dsimp? [n8,gS (xs:=(bh sizes rows r f i).1) (i:=f+i) (by omega),uA h.wf h.hs Qz,bB (i:=vf (bh sizes rows r f i).1 (f+i)) p.1 (by omega),pv (rows:=rows) (d:=f+i) (by omega),w]
  rfl
 ·rintro env ⟨c,x4,x5,hc,Pp,rfl⟩
  have:c=n-f:=by
   have:=congrArg List.length Pp
   rw[List.length_drop,List.length_range] at this
   simp at this
   omega
  subst this
  dsimp? []
end
theorem Fm(m k:Nat)(hm:m<=1000):jH [.int (m:Int),.int (k:Int)]=M.ok (tI (om m k)):=by
 have key:bp (b_ 0) none (zR (dm (ao j7 (ae 0) (ae 1))) (λ_=>M.ok (.int 1)) (λ_=>M.ok (.int 0))) ((List.range m).map λ(i:Nat)=>.int (i:Int)) [none,some (.sh (.int (k:Int)))]=M.ok ((List.range m).map λ(i:Nat)=>.int (if i=k then 1 else 0)):=by
  refine g8 (inj:=λ(i:Nat)=>PV.int (i:Int)) (List.range m) λi hi=>?_
  dsimp? []
  by_cases z:i=k
  ·subst z;simp only[decide_true,if_true]
  ·have z':¬ (i:Int)=(k:Int):=by omega
   simp only[z,z',decide_false,Bool.false_eq_true,if_false]
 unfold jH jC
 dsimp? [i4 (n:=(m:Int)) (by omega) (by omega),Int.toNat_natCast,List.length_map,List.length_range,av (aQ hm),key]
 rw[tI,om,List.map_map];rfl
theorem sL{n:Int}(h:0<=n):Builtin.Range.rangeSize (n-1) (-1) (-1)=n:=by
 unfold Builtin.Range.rangeSize
 rw[if_neg (by decide)]
 split
 ·rw[show -(-1:Int)=1 from rfl,Int.ediv_one];omega
 ·omega
theorem DI{n:Int}(h:0<=n)(h2:n<=1000):C3 (n-1) (-1) (-1)=true:=by
 unfold C3 Builtin.Range.small
 have f:∀ x:Int,-(2^40)<x->x<2^40->Builtin.Range.rangeFitsLong x=true:=λx h1 h2=>by
  unfold Builtin.Range.rangeFitsLong
  simp only[Bool.and_eq_true,decide_eq_true_eq]
  omega
 simp only[sL h,f (n-1) (by omega) (by omega),f (-1) (by decide) (by decide),f n (by omega) (by omega),f (n-1+n*-1) (by omega) (by omega),Bool.and_true,Bool.true_and,Bool.and_self,Bool.and_eq_true,decide_eq_true_eq]
 refine⟨by decide,?_⟩
 rw[if_neg (by decide),f (-1+(-1+1)) (by decide) (by decide),Bool.or_true]
theorem vX(k:Nat)(hk:k<=1000):zk [.int ((k:Int)-1),.int (-1),.int (-1)]=M.ok ((List.range k).map λ(i:Nat)=>.int ((k:Int)-1+(i:Int)*-1)):=by
 show cP (C3 ((k:Int)-1) (-1) (-1)=true) _=_
 rw[av (DI (by omega) (by omega)),sL (by omega),Int.toNat_natCast]
theorem Et{idle:List (List Int)}{j:Nat}(h:j<idle.length):aV (.lst (idle.map tI)) (.int (j:Int))=M.ok (tI (idle.getD j [])) :=
 bZ (p:=.lst (idle.map tI)) rfl (by rw[List.getElem?_map,List.getElem?_eq_getElem h,List.getD_eq_getElem?_getD,List.getElem?_eq_getElem h];rfl)
theorem vt{n m k B:Nat}{s:cv}{A:Nat->cv}{idle:List (List Int)}{P:List Int}(h:yy n m s A k idle)(hP:P.length=m)(hm:m<=8)(hk:k<=m)(hB:60<=B)(hB2:B<=8000)(hb:Bd B P):gW [tI P,.lst (idle.map tI)]=M.ok (tI (aY idle k P k)):=by
 have il:=h.len
 unfold gW g_
 dsimp? [List.length_map,il,vX k (by omega)]
 refine e7 (List.range k) (λzs env=>∃ c x2 x3,c<=k/\(List.range k).drop c=zs/\env=[some (.sh (tI (aY idle k P c))),some (.sh (.lst (idle.map tI))),x2,x3]) ⟨0,none,none,Nat.zero_le _,rfl,rfl⟩ ?_ ?_
 ·rintro i zs env ⟨c,x2,x3,hc,Pp,rfl⟩
  obtain⟨c1,c2,c3⟩:=drop_cons Pp
  rw[List.length_range] at c1
  obtain rfl:i=c:=by
   rw[List.getElem?_range c1] at c2;exact(Option.some.inj c2).symm
  have hj:k-1-i<k:=by omega
  have ej:(k:Int)-1+(i:Int)*-1=((k-1-i:Nat):Int):=by omega
  have sl:=span_len h hP i (by omega)
  have rl:=h.l2 (k-1-i) hj
  have p:=h.pos (k-1-i) hj
  have pl60:=h.le (k-1-i) hj
  have zb:=yv h hP hk hB hb i (by omega)
  have B1:Bd 8600 (aY idle k P i):=zb.mono (by omega)
  have B2:Bd 8600 (idle.getD (k-1-i) []):=(h.bd hj hk).mono (by omega)
  have q:(-(vf (aY idle k P i) (k-1-i)/vf (idle.getD (k-1-i) []) (k-1-i))).natAbs<2^8600:=by
   rw[Int.natAbs_neg]
   exact Nat.lt_of_le_of_lt (Int.natAbs_ediv_le_natAbs ..) (B1.vf _)
  have w:=pX (A:=8600) (tI (aY idle k P i)) (tI (idle.getD (k-1-i) [])) (aY idle k P i) (idle.getD (k-1-i) []) 1 (-(vf (aY idle k P i) (k-1-i)/vf (idle.getD (k-1-i) []) (k-1-i))) rfl rfl B1 B2 (Nat.one_lt_two_pow (by decide)) q (by decide) (by decide) (by omega)
  refine⟨_,[some (.sh (tI (aY idle k P (i+1)))),some (.sh (.lst (idle.map tI))),some (.sh (.int ((k-1-i:Nat):Int))),some (.sh (tI (idle.getD (k-1-i) [])))],rfl,?_,i+1,_,_,by omega,c3,rfl⟩
  rw[ej]
  dsimp? [Et (idle:=idle) (j:=k-1-i) (by omega),gS (xs:=aY idle k P i) (i:=k-1-i) (by omega),gS (xs:=idle.getD (k-1-i) []) (i:=k-1-i) (by omega),bB (i:=vf (aY idle k P i) (k-1-i)) (j:=vf (idle.getD (k-1-i) []) (k-1-i)) p (by show II idle (k-1-i) (k-1-i)<2^64;omega),w]
  rfl
 ·rintro env ⟨c,x2,x3,hc,Pp,rfl⟩
  have:c=k:=by
   have:=congrArg List.length Pp
   rw[List.length_drop,List.length_range] at this
   simp at this
   omega
  subst this
  dsimp? []
section
variable{sizes:List Int}{Ls:List (List Int)}
theorem iY(h:sizes.length<=6):fN [eG sizes Ls]=M.ok (tI (List.replicate sizes.length 0)):=by
 unfold fN hG
 dsimp? [o5 (sizes:=sizes) (levers:=Ls) (g:=ae 0) (env:=[some (.sh (eG sizes Ls))]) rfl,mul_one (.int 0) sizes.length (by omega)]
 rw[tI,List.map_replicate]
theorem oq(hm:Ls.length<=8)(xs:List Int):fe [eG sizes Ls,tI xs]=M.ok (mk (xs,List.replicate Ls.length 0)):=by
 unfold fe gT
 dsimp? [qI (sizes:=sizes) (levers:=Ls) (g:=ae 0) (env:=[some (.sh (eG sizes Ls)),some (.sh (tI xs))]) rfl,List.length_map,mul_one (.int 0) Ls.length (by omega)]
 rw[mk,tI,tI,List.map_replicate]
theorem EU(hm:Ls.length<=8){k:Nat}(hk:k<Ls.length):fw [eG sizes Ls,.int (k:Int)]=M.ok (mk (bU Ls Ls.length k)):=by
 have e:aV (.tup (Ls.map tI)) (.int (k:Int))=M.ok (tI (Ls.getD k [])):=bZ (p:=.tup (Ls.map tI)) rfl (by rw[List.getElem?_map,List.getElem?_eq_getElem hk,List.getD_eq_getElem?_getD,List.getElem?_eq_getElem hk];rfl)
 unfold fw fI
 dsimp? [qI (sizes:=sizes) (levers:=Ls) (g:=ae 0) (env:=[some (.sh (eG sizes Ls)),some (.sh (.int (k:Int))),none]) rfl,List.length_map,e,Fm Ls.length k (by omega)]
 rfl
end
theorem BZ:∀ xs:List Int,p7 (tI xs)=true:=by
 intro xs
 have:∀ ys:List Int,jb (ys.map PV.int)=true:=by
  intro ys
  induction ys with
  | nil=>rfl
  | cons a r ih=>simp[jb,p7,ih]
 exact this xs
theorem Kx(x y:PV):aV (.tup [x,y]) (.int 0)=M.ok x:=bZ (j:=0) rfl rfl
theorem J6(x y:PV):aV (.tup [x,y]) (.int 1)=M.ok y:=bZ (j:=1) rfl rfl
def nM(sizes:List Int)(rows:List Row)(n:Nat):List Row:=(List.range n).map λd=>bh sizes rows (row rows d) (d+1) (n-(d+1))
def vG(V:PV)(rows:List Row)(idle:List (List Int)):List (Str×PV):=[("vault", V),("made_rows", .lst (rows.map mk)),("idle_rows", .lst (idle.map tI))]
section
variable{sizes:List Int}{Ls:List (List Int)}
theorem BN(hn1:1<=sizes.length)(hn:sizes.length<=6)(hm:Ls.length<=8)(hp:∀ i,i<sizes.length->0<vf sizes i/\vf sizes i<=360)(LL:KA sizes.length Ls.length sizes Ls) :
  dR au cB [] [eG sizes Ls]=M.ok (.obj au (vG (eG sizes Ls) (nM sizes (RK cf sizes Ls sizes.length Ls.length Ls.length).1 sizes.length) (RK cf sizes Ls sizes.length Ls.length Ls.length).2)):=by
 have all:=λk hk=>BD.all (c:=cf) rfl hp LL Di hn k hk
 have key:∀ a,cB a ([eG sizes Ls]++[])=M.ok (vG (eG sizes Ls) (nM sizes (RK cf sizes Ls sizes.length Ls.length Ls.length).1 sizes.length) (RK cf sizes Ls sizes.length Ls.length Ls.length).2):=by
  intro a
  have e1:bp (b_ 0) none (ai fe (aa (ae 1) (aa (ai fN (aa (ae 1) aj)) aj))) (sizes.map PV.int) [none,some (.sh (eG sizes Ls))]=M.ok ((List.replicate sizes.length ((List.replicate sizes.length (0:Int)),(List.replicate Ls.length (0:Int)))).map mk):=by
   rw[g8 (h:=λ_=>mk (List.replicate sizes.length 0,List.replicate Ls.length 0)) sizes λx _=>by dsimp? [iY (Ls:=Ls) hn,oq (sizes:=sizes) hm (List.replicate sizes.length 0)]]
   congr 1
   rw[List.map_const',List.map_replicate]
  have e2:bp (bC 0 1) none (ai fk (aa (ae 2) (aa (ae 3) (aa (ae 1) (aa (ao dc (ae 0) (λ_=>M.ok (.int 1))) aj))))) ((RK cf sizes Ls sizes.length Ls.length Ls.length).1.zipIdx.map λz=>.tup [.int (z.2:Int),mk z.1]) [none,none,some (.sh (tI sizes)),some (.sh (.lst ((RK cf sizes Ls sizes.length Ls.length Ls.length).1.map mk)))]=M.ok ((nM sizes (RK cf sizes Ls sizes.length Ls.length Ls.length).1 sizes.length).map mk):=by
   have I:=all Ls.length (Nat.le_refl _)
   generalize RK cf sizes Ls sizes.length Ls.length Ls.length=rk at *
   have rl:=I.st.wf.len
   rw[fZ (p:=λz:Row×Nat=>PV.int (z.2:Int)) (q:=λz:Row×Nat=>mk z.1) (h:=λz:Row×Nat=>mk (bh sizes rk.1 z.1 (z.2+1) (sizes.length-(z.2+1)))) rk.1.zipIdx λz hz=>?_]
   ·congr 1
    rw[nM,List.map_map]
    refine List.ext_getElem (by simp[rl]) λi h1 h2=>?_
    have hi:i<rk.1.length:=by simpa using h1
    simp[jj hi]
   ·obtain⟨i,hi,e⟩:=List.mem_iff_getElem.mp hz
    rw[List.length_zipIdx] at hi
    rw[List.getElem_zipIdx] at e
    have ez:z=(row rk.1 i,i):=by rw[← e,jj hi];simp
    subst ez
    have hin:i<sizes.length:=by omega
    have:=qj (f:=i+1) (B:=150*Ls.length+1) I.st hn hm (I.st.wf.qM hin) (I.st.wf.at2 hin) (λj hj=>I.st.gd.i9 i hin j hj) (Nat.le_refl _) (by omega) (I.st.bd i hin) (by omega)
    rw[show ((i+1:Nat):Int)=(i:Int)+1 by omega] at this
    dsimp? [this]
  have zl:sizes.length<=sizeLine:=aQ (by omega)
  have I:=all Ls.length (Nat.le_refl _)
  have rl:=I.st.wf.len
  unfold cB jr
  simp only[mU]
  rw[av (show ([eG sizes Ls]++([]:List PV)).length+1=2 from rfl)]
  simp only[qY,vm]
  dsimp? [o5 (sizes:=sizes) (levers:=Ls) (g:=ae 1) (env:=[some (.bd a au []),some (.sh (eG sizes Ls)),none,none,none,none,none]) rfl,List.length_map,av zl,e1,kF,qI (sizes:=sizes) (levers:=Ls) (g:=ae 1) (env:=[some (.bd a au []),some (.sh (eG sizes Ls)),some (.sh (tI sizes)),some (.sh (.lst ((List.replicate sizes.length ((List.replicate sizes.length (0:Int)),(List.replicate Ls.length (0:Int)))).map mk))),some (.ow []),none,none]) rfl,i4 (n:=(Ls.length:Int)) (by omega) (by omega),Int.toNat_natCast]
  refine e7 (List.range Ls.length) (λzs env=>∃ k x5 x6,k<=Ls.length/\(List.range Ls.length).drop k=zs/\env=[some (.bd a au []),some (.sh (eG sizes Ls)),some (.sh (tI sizes)),some (.sh (.lst ((RK cf sizes Ls sizes.length Ls.length k).1.map mk))),some (.ow ((RK cf sizes Ls sizes.length Ls.length k).2.map tI)),x5,x6]) ⟨0,none,none,Nat.zero_le _,rfl,rfl⟩ ?_ ?_
  ·rintro i zs env ⟨k,x5,x6,hk,Pp,rfl⟩
   obtain⟨c1,c2,c3⟩:=drop_cons Pp
   rw[List.length_range] at c1
   obtain rfl:i=k:=by
    rw[List.getElem?_range c1] at c2;exact(Option.some.inj c2).symm
   have J:=all i hk
   have L:Lv sizes.length Ls.length sizes (AA Ls) i (bU Ls Ls.length i):=⟨LL.at_ i c1,by simp[bU,om],c1,λj hj=>rfl,LL.i9 i c1,λl hl=>vv hl⟩
   have tk:=AY J.st L hn hm
   have ll:=dh (c:=cf) J.st.wf J.st.hs L.l1 L.l2 sizes.length (Nat.le_refl _)
   have lb:=o8 (c:=cf) J.st L hn sizes.length (Nat.le_refl _)
   have sp:=vt (B:=1400) J.uX ll.2 hm (by omega) (by decide) (by decide) (lb.mono (by omega))
   have il:=J.uX.len
   refine⟨_,[some (.bd a au []),some (.sh (eG sizes Ls)),some (.sh (tI sizes)),some (.sh (.lst ((RK cf sizes Ls sizes.length Ls.length (i+1)).1.map mk))),some (.ow ((RK cf sizes Ls sizes.length Ls.length (i+1)).2.map tI)),some (.sh (.int (i:Int))),some (.sh (.tup [.lst ((cM cf sizes (RK cf sizes Ls sizes.length Ls.length i).1 (bU Ls Ls.length i) sizes.length).map mk),tI (aB cf sizes (RK cf sizes Ls sizes.length Ls.length i).1 (bU Ls Ls.length i) sizes.length).2]))],rfl,?_,i+1,_,_,by omega,c3,rfl⟩
   dsimp? [EU (sizes:=sizes) hm c1,tk,Kx]
   rw[yM (i:=4) rfl (p:=tI (aY (RK cf sizes Ls sizes.length Ls.length i).2 i (aB cf sizes (RK cf sizes Ls sizes.length Ls.length i).1 (bU Ls Ls.length i) sizes.length).2 i)) (by
    dsimp? [qk,ownAt,J6,sp]
    exact av (BZ _)) (by simp[il];omega)]
   dsimp? [RK,List.map_append]
  ·rintro env ⟨k,x5,x6,hk,Pp,rfl⟩
   have:k=Ls.length:=by
    have:=congrArg List.length Pp
    rw[List.length_drop,List.length_range] at this
    simp at this
    omega
   subst this
   dsimp? [jy]
   rw[gz _ _ _ _ _ _ (by simp)]
   dsimp? [jy,lR,List.length_map,List.length_zipIdx,rl,av zl,e2]
   rw[gz _ _ _ _ _ _ (Nat.lt_of_le_of_lt (jD (Nat.zero_le 0)) (by decide))]
   dsimp? [jy]
   rw[gz _ _ _ _ _ _ (Nat.lt_of_le_of_lt (jD (jD (Nat.zero_le 0))) (by decide))]
   dsimp? []
   show cP _ _=_
   rw[av ⟨rfl,rfl⟩]
   rfl
 unfold dR
 rw[tW key];rfl
end
section
variable{n m:Nat}{sizes:List Int}{A:Nat->cv}{rows:List Row}
theorem lZ{d:Nat}(h:d<n):row (nM sizes rows n) d=bh sizes rows (row rows d) (d+1) (n-(d+1)):=by
 rw[jj (by simp[nM,h])];simp[nM]
theorem IG(h:St n m sizes A m rows)(hn:n<=6)(hA:∀ i,A m i=0):St n m sizes A (m+1) (nM sizes rows n):=by
 have hl:∀ d,d<n->(bh sizes rows (row rows d) (d+1) (n-(d+1))).1.length=n/\(bh sizes rows (row rows d) (d+1) (n-(d+1))).2.length=m:=λd hd=>ig h (h.wf.qM hd) (h.wf.at2 hd) _ (by omega)
 have lg:=v_ (D':=DD (nM sizes rows n)) h.gd (λd e=>vf (bh sizes rows (row rows d) (d+1) (e-(d+1))).1) (λd hd=>mO h (h.wf.qM hd) (h.wf.at2 hd) λi hi=>h.gd.i9 d hd i hi) (λd hd i hi=>by
  show vf (bh sizes rows (row rows d) (d+1) (d+1-(d+1))).1 i=_
  rw[Nat.sub_self];rfl) λd hd i hi=>by
  unfold DD;rw[lZ hd]
 refine⟨⟨by simp[nM],λr hr=>?_,λr hr=>?_⟩,h.hs,h.sm,lg.1,λd hd=>?_,λd hd l h1 h2=>by omega,λd hd=>?_,λl hl=>?_⟩
 ·obtain⟨d,hd,rfl⟩:=List.mem_map.mp hr
  exact(hl d (List.mem_range.mp hd)).1
 ·obtain⟨d,hd,rfl⟩:=List.mem_map.mp hr
  exact(hl d (List.mem_range.mp hd)).2
 ·unfold DD PP
  rw[lZ hd]
  have:=uU h (f:=d+1) (h.wf.qM hd) (h.wf.at2 hd) (P₀:=λ_=>0) (B:=λ_=>0) (by
   have q:=h.led d hd
   intro i hi
   have:=q i hi
   simp only[Int.sub_zero];exact this) (n-(d+1)) (by omega)
  intro i hi
  have:=this i hi
  simp only[Int.sub_zero] at this
  exact this
 ·rw[lZ hd]
  exact(uS h (f:=d+1) (h.wf.qM hd) (h.wf.at2 hd) (λi hi=>h.gd.i9 d hd i hi) (Nat.le_refl _) (h.bd d hd) (n-(d+1)) (by omega)).mono (by omega)
 ·rcases Nat.lt_or_ge l m with q | q
  ·exact lg.2.2.2.2 n 0 (by omega) _ (h.cl l q)
  ·obtain rfl:l=m:=by omega
   exact G.ext (by omega) (λi _=>(hA i).symm) (G.zero (by omega))
end
def oR(sizes:List Int)(Ls:List (List Int))(R:List Row)(idle:List (List Int)):PV:=.obj au (vG (eG sizes Ls) R idle)
section
variable{sizes:List Int}{Ls:List (List Int)}{R:List Row}{idle:List (List Int)}
theorem J0:(vG (eG sizes Ls) R idle).lookup (Str.ofString "vault")=some (eG sizes Ls):=rfl
theorem JQ:(vG (eG sizes Ls) R idle).lookup (Str.ofString "made_rows")=some (.lst (R.map mk)):=rfl
theorem JS:(vG (eG sizes Ls) R idle).lookup (Str.ofString "idle_rows")=some (.lst (idle.map tI)):=rfl
theorem Mt:(vG (eG sizes Ls) R idle).lookup (Str.ofString "brought_down")=none:=rfl
theorem Lj{g:af->M PV}{env:af}(h:g env=M.ok (oR sizes Ls R idle)):dy (λc=>c==au) "vault" g env=M.ok (eG sizes Ls):=by
 rw[dy,h,M.aP]
 show cP _ (dZ (List.lookup _ _))=_
 rw[av (beq_self_eq_true _),J0];rfl
theorem M0{g:af->M PV}{env:af}(h:g env=M.ok (oR sizes Ls R idle)):dy (λc=>c==au) "made_rows" g env=M.ok (.lst (R.map mk)):=by
 rw[dy,h,M.aP]
 show cP _ (dZ (List.lookup _ _))=_
 rw[av (beq_self_eq_true _),JQ];rfl
theorem Nl{g:af->M PV}{env:af}(h:g env=M.ok (oR sizes Ls R idle)):dy (λc=>c==au) "idle_rows" g env=M.ok (.lst (idle.map tI)):=by
 rw[dy,h,M.aP]
 show cP _ (dZ (List.lookup _ _))=_
 rw[av (beq_self_eq_true _),JS];rfl
theorem ug{A:Nat->cv}{k:Nat}(S:Sz sizes)(hm:Ls.length<=8)(h:St sizes.length Ls.length sizes A k R)(hk:k<=9){xs:List Int}(hx:Fg sizes xs)(h0:∀ i,i<sizes.length->0<=vf xs i/\vf xs i<vf sizes i) :
  bx [oR sizes Ls R idle,tI xs]=M.ok (mk (bh sizes R (xs,List.replicate Ls.length 0) 0 sizes.length)):=by
 have lo:=qj (f:=0) (B:=150*k+1) (r:=(xs,List.replicate Ls.length 0)) h S.h6 hm hx.len (by simp) h0 (Nat.le_refl _) (by omega) (λx hx=>by rw[List.eq_of_mem_replicate hx];exact Nat.two_pow_pos _) (Nat.zero_le _)
 rw[Nat.sub_zero] at lo
 unfold bx bO
 dsimp? [Lj (sizes:=sizes) (Ls:=Ls) (R:=R) (idle:=idle) (g:=ae 0) (env:=[some (.sh (oR sizes Ls R idle)),some (.sh (tI xs))]) rfl,M0 (sizes:=sizes) (Ls:=Ls) (R:=R) (idle:=idle) (g:=ae 0) (env:=[some (.sh (oR sizes Ls R idle)),some (.sh (tI xs))]) rfl,kT (levers:=Ls) S hx,oq (sizes:=sizes) hm xs,o5 (sizes:=sizes) (levers:=Ls) (g:=dy (λc=>c==au) "vault" (ae 0)) (env:=[some (.sh (oR sizes Ls R idle)),some (.sh (tI xs))]) (Lj (R:=R) (idle:=idle) rfl),show fk [tI sizes,.lst (R.map mk),mk (xs,List.replicate Ls.length 0),.int 0]=_ from lo]
end
def qa(xs:List Int):List Int:=xs.map λx=>-x
theorem HA(xs:List Int)(i:Nat):vf (qa xs) i=-vf xs i:=by
 rcases Nat.lt_or_ge i xs.length with h | h
 ·rw[aH (by simpa [qa] using h),aH h];simp[qa]
 ·rw[pd (by simpa [qa] using h),pd h];rfl
theorem Ib{B:Nat}{xs:List Int}(h:Bd B xs):Bd B (qa xs):=λx hx=>by
 obtain⟨y,hy,rfl⟩:=List.mem_map.mp hx
 rw[Int.natAbs_neg];exact h y hy
section
variable{sizes:List Int}{Ls:List (List Int)}{R:List Row}{idle:List (List Int)}
def told(sizes:List Int)(Ls:List (List Int))(R:List Row)(idle:List (List Int))(xs:List Int):List Int:=aY idle Ls.length (qa (bh sizes R (xs,List.replicate Ls.length 0) 0 sizes.length).2) Ls.length
theorem mr{A:Nat->cv}{k:Nat}(S:Sz sizes)(hm:Ls.length<=8)(h:St sizes.length Ls.length sizes A k R)(hk:k<=9)(I:yy sizes.length Ls.length (vf sizes) A Ls.length idle){xs:List Int}(hx:Fg sizes xs)(h0:∀ i,i<sizes.length->0<=vf xs i/\vf xs i<vf sizes i)(hg:G sizes.length (vf sizes) (DD R) sizes.length 0 (vf xs)) :
  bK [oR sizes Ls R idle,tI xs]=M.ok (tI (told sizes Ls R idle xs))/\(told sizes Ls R idle xs).length=Ls.length/\Led sizes.length (vf sizes) Ls.length A (vf xs) (vf (told sizes Ls R idle xs))/\∀ l,l<Ls.length->0<=vf (told sizes Ls R idle xs) l/\vf (told sizes Ls R idle xs) l<II idle l l:=by
 have l6:=S.h6
 have r2:(List.replicate Ls.length (0:Int)).length=Ls.length:=by simp
 have ll:=ig h (f:=0) (r:=(xs,List.replicate Ls.length 0)) hx.len r2 sizes.length (by omega)
 have dn:=mO h (f:=0) (r:=(xs,List.replicate Ls.length 0)) hx.len r2 h0
 have z:=dn.run h.gd sizes.length 0 (Nat.le_refl _) (by omega) (by rw[Nat.sub_self];exact hg)
 rw[Nat.sub_zero] at z
 have nz:(bh sizes R (xs,List.replicate Ls.length 0) 0 sizes.length).1=List.replicate sizes.length 0:=lC (by rw[ll.1];simp) λi hi=>by rw[z i (by omega),e8]
 have b:=uS h (f:=0) (B:=150*k+1) (r:=(xs,List.replicate Ls.length 0)) hx.len r2 h0 (Nat.le_refl _) (λx hx=>by rw[List.eq_of_mem_replicate hx];exact Nat.two_pow_pos _) sizes.length (by omega)
 have nl:(qa (bh sizes R (xs,List.replicate Ls.length 0) 0 sizes.length).2).length=Ls.length:=by rw[qa,List.length_map];exact ll.2
 have sp:=vt (B:=1500) I nl hm (Nat.le_refl _) (by decide) (by decide) (Ib (b.mono (by omega)))
 have led:=uU h (f:=0) (r:=(xs,List.replicate Ls.length 0)) hx.len r2 (P₀:=λ_=>0) (B:=vf xs) (by
  intro i hi
  rw[eT (g:=λ_=>0) λl hl=>by
   show (vf (List.replicate Ls.length 0) l-0)*A l i=0
   rw[e8];simp,iS]
  show vf sizes i∣vf xs i-vf xs i-0
  rw[Int.sub_self];exact Int.dvd_zero _) sizes.length (by omega)
 have led2:Led sizes.length (vf sizes) Ls.length A (vf xs) (vf (qa (bh sizes R (xs,List.replicate Ls.length 0) 0 sizes.length).2)):=by
  refine Led.mix (a:=-1) (b:=0) led led (λi hi=>?_) λl hl=>?_
  ·rw[z i hi]
   exact⟨0,by omega⟩
  ·rw[HA];omega
 refine⟨?_,span_len I nl _ (Nat.le_refl _),qp I nl led2 _ (Nat.le_refl _),λl hl=>uG I nl (Nat.le_refl _) _ (Nat.le_refl _) l (by omega) hl⟩
 have dk:=ug (idle:=idle) S hm h hk hx h0
 have md:∀ y,bD au "brought_down" bx (ae 0) (aa (ae 1) aj) [some (.sh (oR sizes Ls R idle)),some (.sh (tI xs)),y]=M.ok (mk (bh sizes R (xs,List.replicate Ls.length 0) 0 sizes.length)):=λy=>by
  show M.bind (M.ok (oR sizes Ls R idle)) _=_
  rw[M.aP]
  show cP _ (M.bind (M.ok [tI xs]) _)=_
  rw[av ⟨rfl,Mt⟩,M.aP]
  exact dk
 have cm:bp (b_ 0) none (kn (ae 0)) ((bh sizes R (xs,List.replicate Ls.length 0) 0 sizes.length).2.map PV.int) [none]=M.ok ((bh sizes R (xs,List.replicate Ls.length 0) 0 sizes.length).2.map λx=>.int (-x)):=g8 _ λx _=>by dsimp? []
 have lz:(bh sizes R (xs,List.replicate Ls.length 0) 0 sizes.length).2.length<=sizeLine:=by rw[ll.2];exact aQ (by omega)
 have en:PV.tup ((bh sizes R (xs,List.replicate Ls.length 0) 0 sizes.length).2.map λx=>PV.int (-x))=tI (qa (bh sizes R (xs,List.replicate Ls.length 0) 0 sizes.length).2):=by rw[tI,qa,List.map_map];rfl
 unfold bK cu
 dsimp? [md,n8,BS,Lj (sizes:=sizes) (Ls:=Ls) (R:=R) (idle:=idle) (g:=ae 0) (env:=[some (.sh (oR sizes Ls R idle)),some (.sh (tI xs)),some (.sh (mk (bh sizes R (xs,List.replicate Ls.length 0) 0 sizes.length)))]) rfl,iY (Ls:=Ls) l6,nz,xO,decide_true,Nl (sizes:=sizes) (Ls:=Ls) (R:=R) (idle:=idle) (g:=ae 0) (env:=[some (.sh (oR sizes Ls R idle)),some (.sh (tI xs)),some (.sh (mk (bh sizes R (xs,List.replicate Ls.length 0) 0 sizes.length)))]) rfl,List.length_map,av lz,cm,en,sp]
 rfl
end
theorem sX(ns:List Int)(k:Nat):∃ c,cX [.jW (ns.map PV.int),.int (k:Int)]=M.ok (.int c):=by
 unfold cX iC
 by_cases h:k<ns.length
 ·refine⟨ns[k],?_⟩
  have h':(k:Int)<((ns.length:Nat):Int):=by omega
  have e:=bZ (p:=.jW (ns.map PV.int)) (xs:=ns.map PV.int) (j:=k) (x:=.int ns[k]) rfl (by rw[List.getElem?_map,List.getElem?_eq_getElem h];rfl)
  dsimp? [List.length_map,h',decide_true,e]
 ·refine⟨0,?_⟩
  have h':¬ (k:Int)<((ns.length:Nat):Int):=by omega
  dsimp? [List.length_map,h',decide_false]
def oy(sizes xs ys:List Int)(t:Int):List Int:=(xs.zip (ys.zip sizes)).map λz=>(z.1+t*z.2.1)%z.2.2
theorem vE{sizes xs ys:List Int}{t:Int}(h1:xs.length=sizes.length)(h2:ys.length=sizes.length):(oy sizes xs ys t).length=sizes.length:=by
 simp[oy];omega
theorem Av{sizes xs ys:List Int}{t:Int}{i:Nat}(h1:xs.length=sizes.length)(h2:ys.length=sizes.length)(hi:i<sizes.length):vf (oy sizes xs ys t) i=(vf xs i+t*vf ys i)%vf sizes i:=by
 rw[aH (by rw[vE h1 h2];exact hi),aH (by omega),aH (by omega),aH hi]
 simp[oy]
theorem Cw(p:PV)(n:Nat)(h8:n<=1000):bS (.lst [p]) (.int (n:Int))=M.ok (.lst (List.replicate n p)):=by
 have h2:[p].length*(n:Int).toNat<=sizeLine:=by
  rw[Int.toNat_natCast]
  exact aQ (by show 1*n<=1000;omega)
 have h3:(n:Int)<2^63:=Int.lt_of_le_of_lt (Int.ofNat_le.mpr h8) (by decide)
 have h4:-(2^63)<=(n:Int):=Int.le_trans (by decide) (Int.natCast_nonneg n)
 rw[bS,av ⟨h4,h3,h2⟩,Int.toNat_natCast,qc]
theorem pick(l:List Int)(c:Int)(n:Nat)(hn:l.length=n)(h0:0<n):∃ x,x∈l/\aV (.lst (l.map PV.int)) (.int (c%(n:Int)))=M.ok (.int x):=by
 have h1:0<=c%(n:Int):=Int.emod_nonneg _ (by omega)
 have h2:c%(n:Int)<n:=Int.emod_lt_of_pos _ (by omega)
 obtain⟨j,hj⟩:=Int.eq_ofNat_of_zero_le h1
 have hj':j<l.length:=by omega
 refine⟨l[j],List.getElem_mem _,?_⟩
 rw[hj]
 exact bZ (p:=.lst (l.map PV.int)) (j:=j) rfl (by rw[List.getElem?_map,List.getElem?_eq_getElem hj'];rfl)
theorem pC{xs:List Int}{i:Nat}(h:i<xs.length):aV (lI xs) (.int (i:Int))=M.ok (.int (vf xs i)) :=
 bZ (p:=lI xs) rfl (by rw[List.getElem?_map,List.getElem?_eq_getElem h,aH h];rfl)
theorem getD_at{α β:Type}(f:α->β){xs:List α}{a:α}{b:β}{l:Nat}(h:l<xs.length):(xs.map f).getD l b=f (xs.getD l a):=by
 rw[List.getD_eq_getElem?_getD,List.getD_eq_getElem?_getD,List.getElem?_map,List.getElem?_eq_getElem h];rfl
theorem getD_mem{α:Type}{xs:List α}{a:α}{l:Nat}(h:l<xs.length):xs.getD l a∈xs:=by
 rw[List.getD_eq_getElem?_getD,List.getElem?_eq_getElem h];exact List.getElem_mem h
theorem AX{sizes:List Int}{raw:List (List Int)}(S:Sz sizes)(hr:∀ l∈raw,l.length=sizes.length/\Bd 200 l):KA sizes.length raw.length sizes (raw.map λl=>wq l sizes)/\∀ l,l<raw.length->∀ i,i<sizes.length->AA (raw.map λl=>wq l sizes) l i=vf (raw.getD l []) i%vf sizes i:=by
 have e:∀ l,l<raw.length->∀ i,i<sizes.length->AA (raw.map λl=>wq l sizes) l i=vf (raw.getD l []) i%vf sizes i:=λl hl i hi=>by
  unfold AA
  rw[getD_at (a:=[]) _ hl,uK,jI (by rw[(hr _ (getD_mem hl)).1];exact hi) hi]
 refine⟨⟨by simp,λl hl=>?_,λl hl i hi=>?_⟩,e⟩
 ·rw[getD_at (a:=[]) _ hl,uK,iW,(hr _ (getD_mem hl)).1];omega
 ·rw[e l hl i hi]
  have:=S.hx _ (List.getElem_mem hi)
  rw[← aH hi] at this
  exact⟨Int.emod_nonneg _ (by omega),Int.emod_lt_of_pos _ (by omega)⟩
theorem jP{sizes:List Int}(S:Sz sizes):∀ i,i<sizes.length->0<vf sizes i/\vf sizes i<=360:=λi hi=>by
 have:=S.hx _ (List.getElem_mem hi)
 rw[← aH hi] at this
 omega
theorem nN{sizes xs:List Int}(h:xs.length=sizes.length)(h0:∀ i,i<sizes.length->0<=vf xs i/\vf xs i<vf sizes i):Fg sizes xs:=⟨h,λz hz=>by
 obtain⟨i,hi,rfl⟩:=List.mem_iff_getElem.mp hz
 rw[List.length_zip] at hi
 have:=h0 i (by omega)
 rw[aH (by omega),aH (by omega)] at this
 simpa using this⟩
def yu(ns:List Int)(a b:Nat):List Int:=(ns.drop (HT.da ns.length 0 (some (a:Int)))).take (HT.da ns.length ns.length (some (b:Int))-HT.da ns.length 0 (some (a:Int)))
theorem E8(ns:List Int)(a b:Nat):IF (.jW (ns.map PV.int)) (some (a:Int)) (some (b:Int))=M.ok (.lst ((yu ns a b).map PV.int)):=by
 show M.ok (PV.lst (la (ns.map PV.int) _ _))=_
 rw[la,yu,List.map_take,List.map_drop,List.length_map]
theorem lL{xs:List Int}{z:Int×Nat}(h:z∈xs.zipIdx):z.2<xs.length:=by
 obtain⟨i,hi,rfl⟩:=List.mem_iff_getElem.mp h
 simp at hi ⊢;exact hi
theorem IJ(Ls:List (List Int))(i:Nat):AA Ls Ls.length i=0:=by
 unfold AA
 rw[List.getD_eq_getElem?_getD,List.getElem?_eq_none (Nat.le_refl _)]
 exact pd (Nat.zero_le _)
section
variable{sizes:List Int}{Ls:List (List Int)}{R:List Row}{idle:List (List Int)}{A:Nat->cv}{k:Nat}
theorem oF{m:Str}{sem:List PV->M PV}{x:M (List PV)}(h:(vG (eG sizes Ls) R idle).lookup m=none):rS au m sem (oR sizes Ls R idle) x=x.bind λps=>sem (oR sizes Ls R idle::ps):=kM h
theorem K6:xP (λc=>c==au) "vault" (oR sizes Ls R idle)=M.ok (eG sizes Ls):=ke (beq_self_eq_true _) J0
theorem MO:xP (λc=>c==au) "made_rows" (oR sizes Ls R idle)=M.ok (.lst (R.map mk)):=ke (beq_self_eq_true _) JQ
theorem M7:xP (λc=>c==au) "idle_rows" (oR sizes Ls R idle)=M.ok (.lst (idle.map tI)):=ke (beq_self_eq_true _) JS
theorem K0:rS aA "sizes" bg (eG sizes Ls) (M.ok [])=M.ok (tI sizes):=(kM (fl:=pj sizes Ls) rfl).trans (vx sizes Ls)
def lst(sizes:List Int)(Ls:List (List Int))(R:List Row)(xs:List Int):List Int:=(bh sizes R (xs,List.replicate Ls.length 0) 0 sizes.length).1
theorem du(h:St sizes.length Ls.length sizes A k R){xs:List Int}(hl:xs.length=sizes.length)(h0:∀ i,i<sizes.length->0<=vf xs i/\vf xs i<vf sizes i) :
  (lst sizes Ls R xs).length=sizes.length/\(∀ i,i<sizes.length->0<=vf (lst sizes Ls R xs) i/\vf (lst sizes Ls R xs) i<a0 (vf sizes) (DD R) i)/\(∀ i,i<sizes.length->0<=vf (lst sizes Ls R xs) i/\vf (lst sizes Ls R xs) i<vf sizes i)/\G sizes.length (vf sizes) (DD R) sizes.length 0 (λi=>vf xs i-vf (lst sizes Ls R xs) i):=by
 have r2:(List.replicate Ls.length (0:Int)).length=Ls.length:=by simp
 have ll:=ig h (f:=0) (r:=(xs,List.replicate Ls.length 0)) hl r2 sizes.length (by omega)
 have dn:=mO h (f:=0) (r:=(xs,List.replicate Ls.length 0)) hl r2 h0
 exact⟨ll.1,λi hi=>dn.low h.gd sizes.length (Nat.zero_le _) (Nat.le_refl _) i (Nat.zero_le _) hi,λi hi=>dn.kept h.gd sizes.length (Nat.zero_le _) (Nat.le_refl _) i hi,dn.away h.gd sizes.length (Nat.zero_le _) (Nat.le_refl _) sizes.length (by omega)⟩
theorem HR(h:St sizes.length Ls.length sizes A k R){xs ys:List Int}(hl:xs.length=sizes.length)(h0:∀ i,i<sizes.length->0<=vf xs i/\vf xs i<vf sizes i)(QA:ys.length=sizes.length)(h0':∀ i,i<sizes.length->0<=vf ys i/\vf ys i<vf sizes i)
  (hg:G sizes.length (vf sizes) (DD R) sizes.length 0 (λi=>vf xs i-vf ys i)):lst sizes Ls R xs=lst sizes Ls R ys:=by
 obtain⟨a1,a2,a3,a4⟩:=du h hl h0
 obtain⟨b1,b2,b3,b4⟩:=du h QA h0'
 refine lC (a1.trans b1.symm) λi hi=>?_
 have g:=G.add (by omega) (h.gd.sub (by omega) hg a4) b4
 have:=G.diff h.gd sizes.length 0 (λi=>vf (lst sizes Ls R xs) i-vf (lst sizes Ls R ys) i) (by omega) (λi hi=>by have:=a3 i hi;have:=b3 i hi;omega) (λi _ hi=>by have:=a2 i hi;have:=b2 i hi;omega) (G.ext (by omega) (λi _=>by omega) g) i (by omega)
 omega
theorem qt(S:Sz sizes)(hm:Ls.length<=8)(h:St sizes.length Ls.length sizes A k R)(hk:k<=9){xs:List Int}(hl:xs.length=sizes.length)(h0:∀ i,i<sizes.length->0<=vf xs i/\vf xs i<vf sizes i) :
  dq [oR sizes Ls R idle,tI xs]=M.ok (tI (lst sizes Ls R xs)):=by
 have dk:=ug (idle:=idle) S hm h hk (nN hl h0) h0
 unfold dq dw
 dsimp? [bX,oF (m := "brought_down") rfl,dk,n8]
 rfl
def kA(sizes:List Int)(R:List Row):List Int:=(List.range sizes.length).map λd=>a0 (vf sizes) (DD R) d
theorem d_:(kA sizes R).length=sizes.length:=by simp[kA]
theorem o3{i:Nat}(h:i<sizes.length):vf (kA sizes R) i=a0 (vf sizes) (DD R) i:=by
 rw[aH (by rw[d_];exact h)];simp[kA]
def Dr(idle:List (List Int)):List Int:=idle.zipIdx.map λz=>vf z.1 z.2
theorem oY:(Dr idle).length=idle.length:=by simp[Dr]
theorem C9{i:Nat}(h:i<idle.length):vf (Dr idle) i=II idle i i:=by
 rw[aH (by rw[oY];exact h)]
 simp only[Dr,List.getElem_map,List.getElem_zipIdx,Nat.zero_add]
 unfold II
 rw[List.getD_eq_getElem?_getD,List.getElem?_eq_getElem h];rfl
theorem u7(S:Sz sizes)(h:St sizes.length Ls.length sizes A k R):ee [oR sizes Ls R idle]=M.ok (tI (kA sizes R)):=by
 have l6:=S.h6
 have key:bp (b_ 0) none (ai dF (aa (ae 2) (aa (dy (λc=>c==au) "made_rows" (ae 1)) (aa (ae 0) aj)))) ((List.range sizes.length).map λ(i:Nat)=>.int (i:Int)) [none,some (.sh (oR sizes Ls R idle)),some (.sh (tI sizes))]=M.ok ((List.range sizes.length).map λd=>.int (a0 (vf sizes) (DD R) d)):=by
  refine g8 (inj:=λ(i:Nat)=>PV.int (i:Int)) (List.range sizes.length) λi hi=>?_
  dsimp? [fD,MO,uA h.wf h.hs (List.mem_range.mp hi)]
 unfold ee eh
 dsimp? [fD,K6,bX,K0,i4 (n:=(sizes.length:Int)) (by omega) (by omega),Int.toNat_natCast,List.length_map,List.length_range,av (aQ (show sizes.length<=1000 by omega)),key]
 rw[tI,kA,List.map_map];rfl
theorem Ak(hm:Ls.length<=8)(I:yy sizes.length Ls.length (vf sizes) A Ls.length idle):fJ [oR sizes Ls R idle]=M.ok (tI (Dr idle)):=by
 have il:=I.len
 have key:bp (bC 0 1) none (ao aV (ae 1) (ae 0)) (idle.zipIdx.map λz=>.tup [.int (z.2:Int),tI z.1]) [none,none]=M.ok (idle.zipIdx.map λz=>.int (vf z.1 z.2)):=by
  refine fZ (p:=λz:List Int×Nat=>PV.int (z.2:Int)) (q:=λz:List Int×Nat=>tI z.1) idle.zipIdx λz hz=>?_
  obtain⟨i,hi,rfl⟩:=List.mem_iff_getElem.mp hz
  rw[List.length_zipIdx] at hi
  have:=I.l2 i (by omega)
  rw[List.getD_eq_getElem?_getD,List.getElem?_eq_getElem hi] at this
  simp only[List.getElem_zipIdx,Nat.zero_add]
  dsimp? [gS (xs:=idle[i]) (i:=i) (by rw[show idle[i].length=Ls.length from this];omega)]
 unfold fJ fy
 dsimp? [fD,M7,lR,List.length_map,List.length_zipIdx,av (aQ (show idle.length<=1000 by omega)),key]
 rw[tI,Dr,List.map_map];rfl
theorem BY(S:Sz sizes)(hm:Ls.length<=8)(h:St sizes.length Ls.length sizes A k R)(hk:k<=9){xs:List Int}(hl:xs.length=sizes.length)(h0:∀ i,i<sizes.length->0<=vf xs i/\vf xs i<vf sizes i)(hn:lst sizes Ls R xs≠List.replicate sizes.length 0) :
  bK [oR sizes Ls R idle,tI xs]=M.ok .cR:=by
 have dk:=ug (idle:=idle) S hm h hk (nN hl h0) h0
 unfold bK cu
 dsimp? [bX,oF (m := "brought_down") rfl,dk,n8,fD,K6,iY (Ls:=Ls) S.h6,xO]
 simp only[show ¬ (bh sizes R (xs,List.replicate Ls.length 0) 0 sizes.length).1=List.replicate sizes.length 0 from hn,decide_false]
 dsimp? []
end
section
variable{sizes:List Int}{raw Ls:List (List Int)}{R:List Row}{k:Nat}
theorem Gp(S:Sz sizes):∀ s∈sizes,0<s:=λs hs=>by have:=S.hx s hs;omega
theorem C4(S:Sz sizes):∀ i,i<sizes.length->0<=vf (List.replicate sizes.length 0) i/\vf (List.replicate sizes.length 0) i<vf sizes i:=λi hi=>by rw[e8];have:=jP S i hi;omega
theorem Kw{P v:cv}(h:St sizes.length Ls.length sizes (AA Ls) k R)(hk:Ls.length<=k)(led:Led sizes.length (vf sizes) Ls.length (AA Ls) v P):G sizes.length (vf sizes) (DD R) sizes.length 0 v:=by
 have g:=G.sum (A:=AA Ls) (P:=P) h.gd Ls.length λl hl=>h.cl l (by omega)
 exact h.gd.qK (by omega) (λi hi=>led i hi) g
theorem JR{v:cv}(h:St sizes.length Ls.length sizes (AA Ls) k R)(g:G sizes.length (vf sizes) (DD R) sizes.length 0 v):G sizes.length (vf sizes) (DD R) sizes.length 0 (λi=>-v i) :=
 G.ext (by omega) (λi _=>by omega) (h.gd.sub (by omega) (G.zero (by omega)) g)
theorem Fq{idle:List (List Int)}{A:Nat->cv}(I:yy sizes.length Ls.length (vf sizes) A Ls.length idle){T:List Int}(hT:T.length=Ls.length)(nf:∀ l,l<Ls.length->0<=vf T l/\vf T l<II idle l l):Bd 200 T:=λx hx=>by
 obtain⟨i,hi,rfl⟩:=List.mem_iff_getElem.mp hx
 have h2:=nf i (by omega)
 rw[aH hi] at h2
 have h3:=I.le i (by omega)
 omega
theorem jq(S:Sz sizes){F:List Int}(h:F.length=sizes.length)(k:∀ i,i<sizes.length->0<=vf F i/\vf F i<vf sizes i):Bd 200 F:=λx hx=>by
 obtain⟨i,hi,rfl⟩:=List.mem_iff_getElem.mp hx
 have h2:=k i (by omega)
 rw[aH hi] at h2
 have:=jP S i (by omega)
 omega
theorem xW(S:Sz sizes){xs ys:List Int}{t:Int}(h1:xs.length=sizes.length)(h2:ys.length=sizes.length):(oy sizes xs ys t).length=sizes.length/\(∀ i,i<sizes.length->0<=vf (oy sizes xs ys t) i/\vf (oy sizes xs ys t) i<vf sizes i)/\∀ i,i<sizes.length->vf sizes i∣vf (oy sizes xs ys t) i-(vf xs i+t*vf ys i) :=
 ⟨vE h1 h2,λi hi=>by
  rw[Av h1 h2 hi]
  have:=jP S i hi
  exact⟨Int.emod_nonneg _ (by omega),Int.emod_lt_of_pos _ (by omega)⟩,λi hi=>by rw[Av h1 h2 hi];exact eo _ _⟩
structure mV (ns:List Int) (sizes:List Int) (raw Ls:List (List Int)) (R:List Row) (idle:List (List Int)):Prop where
 S:Sz sizes
 hr:∀ l∈raw,l.length=sizes.length/\Bd 200 l
 eL:Ls=raw.map λl=>wq l sizes
 hm:raw.length=Ls.length
 m8:Ls.length<=8
 eA:∀ l,l<raw.length->∀ i,i<sizes.length->AA Ls l i=vf (raw.getD l []) i%vf sizes i
 LL:KA sizes.length Ls.length sizes Ls
 st:St sizes.length Ls.length sizes (AA Ls) (Ls.length+1) R
 I:yy sizes.length Ls.length (vf sizes) (AA Ls) Ls.length idle
 pr:aT Ls.length (λj=>II idle j j)*aT sizes.length (a0 (vf sizes) (DD R))=aT sizes.length (vf sizes)
 ord:∀ j,j<Ls.length->∀ P:cv,Zf (j+1) Ls.length P->Led sizes.length (vf sizes) Ls.length (AA Ls) (λ_=>0) P->II idle j j∣P j
 low:∀ d,d<sizes.length->∀ e,d<e->e<sizes.length->DD R d e<a0 (vf sizes) (DD R) e
 nul:∀ d,d<sizes.length->DD R d d=0->∀ i,i<sizes.length->DD R d i=0
 L_:dR aA ir [.cR] [lI sizes,.lst (raw.map lI)]=M.ok (eG sizes Ls)
 E7:dR au cB [] [eG sizes Ls]=M.ok (oR sizes Ls R idle)
theorem mV.get(ns:List Int){sizes:List Int}(S:Sz sizes){raw:List (List Int)}(r8:raw.length<=8)(hr:∀ l∈raw,l.length=sizes.length/\Bd 200 l):∃ Ls R idle,mV ns sizes raw Ls R idle:=by
 have l6:=S.h6
 have sp:=jP S
 obtain⟨LL,eA⟩:=AX S hr
 have L_:=Eg sizes raw S r8 λl h=>(hr l h).1
 have hm:raw.length=(raw.map λl=>wq l sizes).length:=by simp
 generalize hLs:(raw.map λl=>wq l sizes)=Ls at *
 rw[hm] at LL r8
 have K:=BD.all (c:=cf) rfl sp LL Di l6 Ls.length (Nat.le_refl _)
 have E7:=BN S.h1 l6 r8 sp LL
 generalize RK cf sizes Ls sizes.length Ls.length Ls.length=rk at *
 have h:=K.st
 have hl:∀ d,d<sizes.length->(bh sizes rk.1 (row rk.1 d) (d+1) (sizes.length-(d+1))).1.length=sizes.length:=λd hd=>(ig h (h.wf.qM hd) (h.wf.at2 hd) _ (by omega)).1
 have lg:=v_ (D':=DD (nM sizes rk.1 sizes.length)) h.gd (λd e=>vf (bh sizes rk.1 (row rk.1 d) (d+1) (e-(d+1))).1) (λd hd=>mO h (h.wf.qM hd) (h.wf.at2 hd) λi hi=>h.gd.i9 d hd i hi) (λd hd i hi=>by
  show vf (bh sizes rk.1 (row rk.1 d) (d+1) (d+1-(d+1))).1 i=_
  rw[Nat.sub_self];rfl) (λd hd i hi=>by unfold DD;rw[lZ hd])
 refine⟨Ls,nM sizes rk.1 sizes.length,rk.2,S,hr,hLs.symm,hm,r8,eA,LL,IG K.st l6 (IJ Ls),K.uX,?_,K.ord,?_,?_,L_,E7⟩
 ·rw[fc (f:=a0 (vf sizes) (DD (nM sizes rk.1 sizes.length))) (g:=a0 (vf sizes) (DD rk.1)) lg.2.1]
  exact K.pr
 ·intro d hd e h1 h2
  rw[lg.2.1 e h2]
  exact lg.2.2.1 d hd e h1 h2
 ·exact lg.2.2.2.1
end
theorem zN(sizes:List Int)(levers:List (List Int)):cT [eG sizes levers]=M.ok (.int (R sizes)):=by
 unfold cT dD
 dsimp? [dy,eG,beq_self_eq_true,CD]
theorem MP{sizes:List Int}{Ls:List (List Int)}:rS aA "around" cT (eG sizes Ls) (M.ok [])=M.ok (.int (R sizes)):=(kM (fl:=pj sizes Ls) rfl).trans (zN sizes Ls)
def K9(sizes ws xs:List Int):Int:=((((ws.zip sizes).map λz=>z.1*(R sizes/z.2)).zip xs).map λz=>z.1*z.2).sum%R sizes
theorem qo{sizes:List Int}(h:Sz sizes){s:Int}(hs:s∈sizes):0<=R sizes/s/\R sizes/s<2^60:=by
 have h1:=v5 h;have h2:=JA h;have h3:=h.hx s hs
 refine⟨Int.ediv_nonneg (by omega) (by omega),Int.lt_of_le_of_lt (Int.ediv_le_self s (by omega)) h2⟩
theorem B7{sizes:List Int}(h:Sz sizes){w s:Int}(hw:0<=w/\w<360)(hs:s∈sizes):(w*(R sizes/s)).natAbs<2^80:=by
 have h1:=qo h hs
 rw[Int.natAbs_mul]
 have:w.natAbs*(R sizes/s).natAbs<=2^9*2^60:=Nat.mul_le_mul (by omega) (by omega)
 exact Nat.lt_of_le_of_lt this (by decide)
theorem CZ{sizes:List Int}{levers:List (List Int)}(h:Sz sizes){ws xs:List Int}(hw:Fg sizes ws)(hs:Fg sizes xs):oX [eG sizes levers,tI ws,tI xs]=M.ok (.int (K9 sizes ws xs)):=by
 have l6:=h.h6
 have k1:bp (bC 0 1) none (ao bS (ae 0) (ao cQ (ae 2) (ae 1))) ((ws.zip sizes).map λz=>.tup [.int z.1,.int z.2]) [none,none,some (.sh (.int (R sizes)))]=M.ok ((ws.zip sizes).map λz=>.int (z.1*(R sizes/z.2))):=by
  refine fZ (p:=λz:Int×Int=>PV.int z.1) (q:=λz:Int×Int=>PV.int z.2) (ws.zip sizes) λz hz=>?_
  obtain⟨m1,m2⟩:=kI hz
  have a1:=h.hx z.2 m2;have a2:=ub h hw m1;have a3:=qo h m2
  dsimp? [bB (i:=R sizes) (show 0<z.2 by omega) (show z.2<2^64 by omega),bf (k:=64) (l:=64) (show z.1.natAbs<2^64 by omega) (show (R sizes/z.2).natAbs<2^64 by omega)]
 have z1:(ws.zip sizes).length<=sizeLine:=by rw[List.length_zip];exact aQ (Nat.le_trans (Nat.min_le_right _ _) (by omega))
 let us:=(ws.zip sizes).map λz=>z.1*(R sizes/z.2)
 have k2:bp (bC 0 1) none (ao bS (ae 0) (ae 1)) ((us.zip xs).map λz=>.tup [.int z.1,.int z.2]) [none,none]=M.ok ((us.zip xs).map λz=>.int (z.1*z.2)):=by
  refine fZ (p:=λz:Int×Int=>PV.int z.1) (q:=λz:Int×Int=>PV.int z.2) (us.zip xs) λz hz=>?_
  obtain⟨m1,m2⟩:=kI hz
  obtain⟨y,hy,e⟩:=List.mem_map.mp m1
  obtain⟨n1,n2⟩:=kI hy
  have a1:=B7 h (ub h hw n1) n2
  rw[e] at a1
  have a2:=ub h hs m2
  dsimp? [bf (k:=80) (l:=64) a1 (show z.2.natAbs<2^64 by omega)]
 have z2:(us.zip xs).length<=sizeLine:=by rw[List.length_zip];exact aQ (Nat.le_trans (Nat.min_le_right _ _) (by rw[hs.len];omega))
 have k3:jo [.lst ((ws.zip sizes).map λz=>.int (z.1*(R sizes/z.2))),tI xs,.int (R sizes)]=M.ok (.int (K9 sizes ws xs)):=by
  have e0:cH (.lst ((ws.zip sizes).map λz=>PV.int (z.1*(R sizes/z.2))))=some (us.map PV.int):=by
   rw[p9,List.map_map];rfl
  have e1:qN [.lst ((us.zip xs).map λz=>PV.int (z.1*z.2))]=M.ok (.int ((us.zip xs).map λz=>z.1*z.2).sum):=by
   have:=pH ((us.zip xs).map λz=>z.1*z.2)
   rw[List.map_map] at this
   exact this
  unfold jo jz
  dsimp? [dW (q:=tI xs) us xs e0 rfl,List.length_map,av z2,k2,e1,aS (v5 h)]
  rfl
 unfold oX o7
 dsimp? [kT (levers:=levers) h hw,kT (levers:=levers) h hs,bX,MP,K0,dW (p:=tI ws) (q:=tI sizes) ws sizes rfl rfl,List.length_map,av z1,k1,k3]
theorem wF(xs:List Int):∀ m,m<=xs.length->(xs.take m).sum=c6 m (vf xs)
 | 0,_=>by simp[c6]
 | m+1,h=>by
  rw[c6,← wF xs m (by omega),List.take_succ_eq_append_getElem (by omega),List.sum_append,aH (by omega)];simp
theorem pA(xs:List Int):xs.sum=c6 xs.length (vf xs):=by
 rw[← wF xs _ (Nat.le_refl _),List.take_length]
theorem EG{sizes ws xs:List Int}(h1:ws.length=sizes.length)(h2:xs.length=sizes.length):K9 sizes ws xs=i5 sizes.length (vf sizes) (R sizes) (vf ws) (vf xs)%R sizes:=by
 unfold K9 i5
 rw[pA]
 have hl:((((ws.zip sizes).map λz=>z.1*(R sizes/z.2)).zip xs).map λz=>z.1*z.2).length=sizes.length:=by simp;omega
 rw[hl]
 congr 1
 refine eT λi hi=>?_
 rw[aH (by rw[hl];exact hi),aH (by omega),aH (by omega),aH (by omega)]
 simp only[List.getElem_map,List.getElem_zip]
 rw[Int.mul_assoc,Int.mul_comm (R sizes/_),← Int.mul_assoc]
section
variable{ns:List Int}{sizes:List Int}{raw Ls:List (List Int)}{T:List Row}{idle:List (List Int)}
theorem HL(S:Sz sizes):∀ i,i<sizes.length->vf sizes i∣R sizes:=λi hi=>by rw[aH hi];exact Jy S (List.getElem_mem hi)
def t9(sizes:List Int)(T:List Row):List Int:=(sizes.zip (kA sizes T)).map λz=>z.1/z.2
theorem qf:(t9 sizes T).length=sizes.length:=by simp[t9,d_]
theorem yf{i:Nat}(h:i<sizes.length):vf (t9 sizes T) i=hV (vf sizes) (DD T) i:=by
 have e:=o3 (R:=T) h
 rw[aH (by rw[d_];exact h)] at e
 rw[aH (by rw[qf];exact h)]
 simp only[t9,List.getElem_map,List.getElem_zip]
 rw[e,← aH h];rfl
theorem Iv{n j:Nat}(h:j<n):As n (j:Int)=some j:=by
 unfold As;rw[if_pos (by omega),if_pos (by omega)];simp
theorem qx{i j:Nat}{xs:List Int}{v:Int}{env:af}(h:j<xs.length):FJ i (xs.map PV.int) (.int v) env (.int (j:Int))=M.ok (.nx (env.set i (some (.ow ((xs.set j v).map PV.int))))):=by
 show (match As (xs.map PV.int).length (j:Int) with | some j=>_ | none=>_)=_
 rw[List.length_map,Iv h,List.map_set]
theorem nv{xs:List Int}{j i:Nat}{v:Int}(h:i<xs.length):vf (xs.set j v) i=if i=j then v else vf xs i:=by
 rw[aH (by rw[List.length_set];exact h),List.getElem_set,aH h]
 by_cases z:i=j
 ·rw[if_pos z,if_pos z.symm]
 ·rw[if_neg z,if_neg (Ne.symm z)]
theorem u4(x:Int):AR (M.ok (.int x))=M.ok (.int x):=Eq.trans rfl rfl
theorem wO(Q:mV ns sizes raw Ls T idle){d:Nat}(hd:d<sizes.length):jZ (c_ [oR sizes Ls T idle,.int (d:Int)]) λp=>∃ W:List Int,p=tI W/\W.length=sizes.length/\(∀ i,i<sizes.length->0<=vf W i/\vf W i<vf sizes i)/\Wk sizes.length (vf sizes) (DD T) (R sizes) d 0 (vf W):=by
 have l6:=Q.S.h6
 have l1:=Q.S.h1
 have g:=Q.st.gd
 have rl:=Q.st.wf.len
 have qd:=HL Q.S
 have q0:=v5 Q.S
 have q1:=JA Q.S
 have so:=u7 (idle:=idle) Q.S Q.st
 have fl:∀ i,i<sizes.length->0<hV (vf sizes) (DD T) i/\hV (vf sizes) (DD T) i<=vf sizes i/\vf sizes i<=360:=λi hi=>⟨(kP g hi).2.1,(kP g hi).2.2,(jP Q.S i hi).2⟩
 have key:bp (bC 0 1) none (ao cQ (ae 0) (ae 1)) ((sizes.zip (kA sizes T)).map λz=>.tup [.int z.1,.int z.2]) [none,none]=M.ok ((sizes.zip (kA sizes T)).map λz=>.int (z.1/z.2)):=by
  refine fZ (p:=λz:Int×Int=>PV.int z.1) (q:=λz:Int×Int=>PV.int z.2) (sizes.zip (kA sizes T)) λz hz=>?_
  obtain⟨i,hi,e⟩:=List.mem_iff_getElem.mp (kI hz).2
  rw[d_] at hi
  have e2:=o3 (R:=T) hi
  rw[aH (by rw[d_];exact hi),e] at e2
  have p:=g.pos hi
  have:=jP Q.S i hi
  dsimp? [bB (i:=z.1) (j:=z.2) (by omega) (by omega)]
 have zl:(sizes.zip (kA sizes T)).length<=sizeLine:=by rw[List.length_zip];exact aQ (Nat.le_trans (Nat.min_le_left _ _) (by omega))
 have ef:PV.lst ((sizes.zip (kA sizes T)).map λz=>PV.int (z.1/z.2))=lI (t9 sizes T):=by rw[lI,t9,List.map_map];rfl
 have wi:dG [.int (d:Int),.int 0,.int ((sizes.length:Int)-1)]=M.ok (.bl true):=by
  rw[within_int,decide_eq_true (by omega)]
 have e0:AQ (.lst [.int 0]) (.int (sizes.length:Int))=M.ok ((List.replicate sizes.length 0).map PV.int):=by
  rw[AQ,av ⟨by omega,by omega,by rw[Int.toNat_natCast];exact aQ (by show 1*sizes.length<=1000;omega)⟩,Int.toNat_natCast,qc,List.map_replicate]
 unfold c_ c9
 dsimp? [fD,K6,bX,K0,wi,oF (m := "steps") rfl,so,dW (p:=tI sizes) (q:=tI (kA sizes T)) sizes (kA sizes T) rfl rfl,List.length_map,av zl,key,ef,HZ,e0,GY,ownAt,pC (xs:=t9 sizes T) (i:=d) (by rw[qf];exact hd),yf hd,gS (xs:=sizes) (i:=d) hd,aS (i:=hV (vf sizes) (DD T) d) (j:=vf sizes d) (by have:=fl d hd;omega),qx (i:=4) (xs:=List.replicate sizes.length 0) (j:=d) (by simp;exact hd),vX d (by omega)]
 refine jZ.loop (xs:=List.range d) (inj:=λ(i:Nat)=>.int ((d:Int)-1+(i:Int)*-1)) (λzs env=>∃ (c:Nat) (W:List Int) (y5 y6 y7:Option SV),env=[some (.sh (oR sizes Ls T idle)),some (.sh (.int (d:Int))),some (.sh (tI sizes)),some (.sh (lI (t9 sizes T))),some (.ow (W.map PV.int)),y5,y6,y7]/\c<=d/\zs=(List.range d).drop c/\W.length=sizes.length/\(∀ i,i<sizes.length->0<=vf W i/\vf W i<vf sizes i)/\Wk sizes.length (vf sizes) (DD T) (R sizes) d (d-c) (vf W)) ⟨0,_,_,_,_,rfl,by omega,rfl,by simp,λi hi=>?_,Wk.start g qd hd λi hi=>?_⟩ ?_ ?_
 ·rw[nv (by simp;exact hi),e8]
  have:=fl i hi
  split
  ·rename_i z;subst z;exact⟨Int.emod_nonneg _ (by omega),Int.emod_lt_of_pos _ (by omega)⟩
  ·omega
 ·rw[nv (by simp;exact hi),e8]
 ·rintro k r env ⟨c,W,y5,y6,y7,rfl,hc,hz,Wl,W0,Wt⟩
  obtain⟨c1,c2,c3⟩:=drop_cons hz.symm
  rw[List.length_range] at c1
  have ek:k=c:=by rw[List.getElem?_range c1] at c2;exact(Option.some.inj c2).symm
  subst ek
  obtain⟨a,ha⟩:∃ a,a=d-1-k:=⟨_,rfl⟩
  have ea:((d:Int)-1+(k:Int)*-1)=(a:Int):=by omega
  have an:a<sizes.length:=by omega
  have fa:=fl a an
  have r1:=Q.st.wf.qM an
  have rk:∀ i,i<sizes.length->0<=vf (row T a).1 i/\vf (row T a).1 i<vf sizes i:=λi hi=>g.i9 a an i hi
  have we:=CZ (levers:=Ls) Q.S (nN Wl W0) (nN r1 rk)
  rw[EG Wl r1] at we
  have eq:vf (row T a).1=DD T a:=rfl
  rw[eq] at we
  have p0:0<=i5 sizes.length (vf sizes) (R sizes) (vf W) (DD T a)%R sizes:=Int.emod_nonneg _ (by omega)
  have p1:i5 sizes.length (vf sizes) (R sizes) (vf W) (DD T a)%R sizes<R sizes:=Int.emod_lt_of_pos _ q0
  have fR:hV (vf sizes) (DD T) a∣R sizes:=Int.dvd_trans ⟨_,(kP g an).1.symm⟩ (qd a an)
  have s0:0<R sizes/hV (vf sizes) (DD T) a:=by
   obtain⟨x,hx⟩:=fR
   rw[hx,Int.mul_ediv_cancel_left _ (by omega)]
   rcases Int.lt_trichotomy x 0 with q | q | q
   ·have:=Int.mul_neg_of_pos_of_neg fa.1 q;omega
   ·rw[q] at hx;omega
   ·exact q
  have s1:R sizes/hV (vf sizes) (DD T) a<=R sizes:=Int.ediv_le_self _ (by omega)
  have tw:PV.tup (W.map PV.int)=tI W:=rfl
  dsimp? [b_,ea,qk,ownAt,ni,fD,K6,tw,MO,pv (rows:=T) (d:=a) (by omega),n8,we,u4,bX,MP,pC (xs:=t9 sizes T) (i:=a) (by rw[qf];exact an),yf an,bB (i:=R sizes) (j:=hV (vf sizes) (DD T) a) (by omega) (by omega),bB (i:=i5 sizes.length (vf sizes) (R sizes) (vf W) (DD T a)%R sizes) (j:=R sizes/hV (vf sizes) (DD T) a) (by omega) (by omega),aS (i:=-(i5 sizes.length (vf sizes) (R sizes) (vf W) (DD T a)%R sizes/(R sizes/hV (vf sizes) (DD T) a))) (j:=hV (vf sizes) (DD T) a) (by omega),GY,qx (i:=4) (xs:=W) (j:=a) (by omega)]
  refine⟨_,rfl,k+1,_,_,_,_,rfl,by omega,c3.symm,by simpa using Wl,λi hi=>?_,?_⟩
  ·rw[nv (by omega)]
   split
   ·rename_i z;subst z
    have h1:=Int.emod_nonneg (-(i5 sizes.length (vf sizes) (R sizes) (vf W) (DD T i)%R sizes/(R sizes/hV (vf sizes) (DD T) i))) (show hV (vf sizes) (DD T) i≠0 by omega)
    have h2:=Int.emod_lt_of_pos (-(i5 sizes.length (vf sizes) (R sizes) (vf W) (DD T i)%R sizes/(R sizes/hV (vf sizes) (DD T) i))) fa.1
    omega
   ·exact W0 i hi
  ·rw[show d-(k+1)=a by omega]
   refine Wk.next g q0 qd hd (w:=vf W) (by rw[show a+1=d-k by omega];exact Wt) (by omega) ?_ λi hi Pm=>?_
   ·rw[nv (by omega),if_pos rfl]
   ·rw[nv (by omega),if_neg Pm]
 ·rintro env ⟨c,W,y5,y6,y7,rfl,hc,hz,Wl,W0,Wt⟩
  have:c=d:=by
   have:=congrArg List.length hz
   rw[List.length_drop,List.length_range] at this
   simp at this;omega
  subst this
  rw[Nat.sub_self] at Wt
  exact⟨_,rfl,W,rfl,Wl,W0,Wt⟩
end
theorem E2(i j:Nat)(env:af)(p q:PV):KR i j env [p,q]=M.ok (.nx ((env.set i (some (.sh p))).set j (some (.sh q)))):=rfl
section
variable{ns:List Int}{sizes:List Int}{raw Ls:List (List Int)}{T:List Row}{idle:List (List Int)}
theorem MU:rS aA "levers" bq (eG sizes Ls) (M.ok [])=M.ok (.tup (Ls.map tI)):=(kM (fl:=pj sizes Ls) rfl).trans (rR sizes Ls)
def ad(sizes xs ys:List Int)(t:Int):List Int:=wq ((xs.zip ys).map λz=>z.1+t*z.2) sizes
theorem vQ{xs ys:List Int}{t:Int}(S:Sz sizes)(h1:xs.length=sizes.length)(h2:ys.length=sizes.length):(ad sizes xs ys t).length=sizes.length/\∀ i,i<sizes.length->vf (ad sizes xs ys t) i=(vf xs i+t*vf ys i)%vf sizes i:=by
 have hl:((xs.zip ys).map λz=>z.1+t*z.2).length=sizes.length:=by simp;omega
 refine⟨by rw[ad,uK,iW,hl];simp,λi hi=>?_⟩
 rw[ad,uK,jI (by rw[hl];exact hi) hi,aH (by rw[hl];exact hi),aH (xs:=xs) (by omega),aH (xs:=ys) (by omega)]
 simp
theorem sD{xs ys:List Int}{t:Int}(S:Sz sizes)(h1:xs.length=sizes.length)(hy:Bd 200 ys)(ht:t.natAbs<2^200):mw [eG sizes Ls,tI xs,tI ys,.int t]=M.ok (tI (ad sizes xs ys t)):=by
 have l6:=S.h6
 have k1:bp (bC 0 1) none (ao dc (ae 0) (ao bS (ae 2) (ae 1))) ((xs.zip ys).map λz=>.tup [.int z.1,.int z.2]) [none,none,some (.sh (.int t))]=M.ok ((xs.zip ys).map λz=>.int (z.1+t*z.2)):=by
  refine fZ (p:=λz:Int×Int=>PV.int z.1) (q:=λz:Int×Int=>PV.int z.2) (xs.zip ys) λz hz=>?_
  dsimp? [bf (k:=200) (l:=200) ht (hy _ (kI hz).2)]
 have z1:(xs.zip ys).length<=sizeLine:=by rw[List.length_zip];exact aQ (Nat.le_trans (Nat.min_le_left _ _) (by omega))
 have e0:cH (.lst ((xs.zip ys).map λz=>PV.int (z.1+t*z.2)))=some (((xs.zip ys).map λz=>z.1+t*z.2).map PV.int):=by
  rw[p9,List.map_map];rfl
 have r:=qg (.lst ((xs.zip ys).map λz=>PV.int (z.1+t*z.2))) (tI sizes) _ sizes e0 rfl (Gp S) (by rw[List.length_map,List.length_zip];omega)
 unfold mw lT
 dsimp? [dW (p:=tI xs) (q:=tI ys) xs ys rfl rfl,List.length_map,av z1,k1,bX,K0,r]
 rfl
structure Ws (sizes:List Int) (T:List Row) (d:Nat) (W:List Int):Prop where
 len:W.length=sizes.length
 i9:∀ i,i<sizes.length->0<=vf W i/\vf W i<vf sizes i
 wk:Wk sizes.length (vf sizes) (DD T) (R sizes) d 0 (vf W)
theorem Ws.sm{d:Nat}{W:List Int}(S:Sz sizes)(h:Ws sizes T d W):∀ x∈W,0<=x/\x<360:=λx hx=>by
 obtain⟨i,hi,rfl⟩:=List.mem_iff_getElem.mp hx
 have PR:i<sizes.length:=by have:=h.len;omega
 have a:=h.i9 i PR
 have b:=jP S i PR
 rw[aH hi] at a
 omega
theorem Ws.kill(Q:mV ns sizes raw Ls T idle){d:Nat}{W:List Int}(h:Ws sizes T d W){v:cv}(g:G sizes.length (vf sizes) (DD T) sizes.length 0 v):R sizes∣i5 sizes.length (vf sizes) (R sizes) (vf W) v :=
 CU (HL Q.S) sizes.length 0 v (by omega) (λb _ hb=>h.wk.kill b (Nat.zero_le _) hb) g
end
section
variable{ns:List Int}{sizes:List Int}{raw Ls:List (List Int)}{T:List Row}{idle:List (List Int)}
def Kp(sizes xs:List Int):Prop:=xs.length=sizes.length/\∀ i,i<sizes.length->0<=vf xs i/\vf xs i<vf sizes i
theorem Kp.Jb{xs:List Int}(h:Kp sizes xs):Fg sizes xs:=nN h.1 h.2
theorem Kp.bd(S:Sz sizes){xs:List Int}(h:Kp sizes xs):Bd 200 xs:=jq S h.1 h.2
theorem r0(S:Sz sizes){xs ys:List Int}{t:Int}(h1:xs.length=sizes.length)(h2:ys.length=sizes.length):Kp sizes (ad sizes xs ys t)/\∀ i,i<sizes.length->vf sizes i∣vf (ad sizes xs ys t) i-(vf xs i+t*vf ys i):=by
 obtain⟨a,b⟩:=vQ (t:=t) S h1 h2
 refine⟨⟨a,λi hi=>?_⟩,λi hi=>?_⟩
 ·have:=jP S i hi
  rw[b i hi]
  exact⟨Int.emod_nonneg _ (by omega),Int.emod_lt_of_pos _ this.1⟩
 ·rw[b i hi]
  have:=Int.emod_def (vf xs i+t*vf ys i) (vf sizes i)
  exact⟨-((vf xs i+t*vf ys i)/vf sizes i),by rw[this];grind⟩
theorem pO(S:Sz sizes){one other:List Int}(h1:Kp sizes one)(h2:Kp sizes other):iZ [eG sizes Ls,tI one,tI other]=M.ok (tI (ad sizes other one (-1))):=by
 unfold iZ iV
 dsimp? [kT (levers:=Ls) S h1.Jb,kT (levers:=Ls) S h2.Jb,sD (Ls:=Ls) S h2.1 (h1.bd S) (show (-1:Int).natAbs<2^200 by decide)]
theorem wQ{P:List Int}(hP:P.length=Ls.length)(m8:Ls.length<=8):je [eG sizes Ls,tI P]=M.ok (.bl true):=by
 unfold je ja
 dsimp? [bX,MU,List.length_map,CV P Ls.length (aQ (by omega)),hP,decide_true]
theorem uZ(Q:mV ns sizes raw Ls T idle){xs P:List Int}(hx:Kp sizes xs)(hP:P.length=Ls.length)(hb:Bd 200 P):jZ (lX [eG sizes Ls,tI xs,tI P]) λp=>∃ F:List Int,p=tI F/\Kp sizes F/\Led sizes.length (vf sizes) Ls.length (AA Ls) (λi=>vf F i-vf xs i) (vf P):=by
 have S:=Q.S
 have m8:=Q.m8
 have np:gm [eG sizes Ls,tI P]=M.ok .cR:=by
  unfold gm gy
  dsimp? [wQ hP m8]
 unfold lX l_
 dsimp? [kT (levers:=Ls) S hx.Jb,np,bX,MU,dW (p:=.tup (Ls.map tI)) (q:=tI P) (f:=tI) (g:=PV.int) Ls P rfl rfl]
 refine jZ.loop (xs:=Ls.zip P) (inj:=λz=>.tup [tI z.1,.int z.2]) (λzs env=>∃ (c:Nat) (F:List Int) (y4 y5:Option SV),env=[some (.sh (eG sizes Ls)),some (.sh (tI xs)),some (.sh (tI P)),some (.sh (tI F)),y4,y5]/\zs=(Ls.zip P).drop c/\c<=Ls.length/\Kp sizes F/\∀ i,i<sizes.length->vf sizes i∣(vf F i-vf xs i)-c6 c λl=>vf P l*AA Ls l i) ⟨0,xs,_,_,rfl,rfl,by omega,hx,λi hi=>⟨0,by simp[c6]⟩⟩ ?_ ?_
 ·rintro z r env ⟨c,F,y4,y5,rfl,hz,hc,hF,Fd⟩
  obtain⟨c1,c2,c3⟩:=drop_cons hz.symm
  have QY:c<Ls.length:=by rw[List.length_zip] at c1;omega
  rw[List.getElem?_eq_getElem c1] at c2
  have c2:=Option.some.inj c2
  rw[List.getElem_zip] at c2
  have eA:Ls.getD c []=z.1:=by rw[List.getD_eq_getElem?_getD,List.getElem?_eq_getElem QY,Option.getD_some,← c2]
  have et:vf P c=z.2:=by rw[aH (by omega),← c2]
  have a1:=Q.LL.at_ c QY
  have a2:=Q.LL.i9 c QY
  have eV:AA Ls c=vf z.1:=by unfold AA;rw[eA]
  rw[eV] at a2
  rw[eA] at a1
  have zb:z.2.natAbs<2^200:=hb z.2 (by rw[← c2];exact List.getElem_mem _)
  obtain⟨k1,k2⟩:=r0 (t:=z.2) S hF.1 a1
  dsimp? [bC,sD (Ls:=Ls) (xs:=F) (ys:=z.1) (t:=z.2) S hF.1 (jq S a1 a2) zb]
  refine⟨_,rfl,c+1,_,_,_,rfl,c3.symm,by omega,k1,λi hi=>?_⟩
  obtain⟨x,hx⟩:=Fd i hi
  obtain⟨y,hy⟩:=k2 i hi
  exact⟨x+y,by rw[c6,et,eV,Int.mul_add,← hx,← hy];omega⟩
 ·rintro env ⟨c,F,y4,y5,rfl,hz,hc,hF,Fd⟩
  have ec:c=Ls.length:=by
   have:=congrArg List.length hz
   rw[List.length_drop,List.length_zip] at this
   simp at this;omega
  subst ec
  dsimp? []
  exact⟨_,rfl,F,rfl,hF,Fd⟩
def JO(P:List Int):List (Str×PV):=[("pulls", tI P)]
def Kn(W:List Int):List (Str×PV):=[("weights", tI W)]
def way(P:List Int):PV:=.obj cS (JO P)
def bar(W:List Int):PV:=.obj de (Kn W)
theorem Hk(P:List Int):dR cS jO [] [tI P]=M.ok (way P):=by
 have key:∀ a,jO a ([tI P]++[])=M.ok (JO P):=by
  intro a
  unfold jO lD
  simp only[mU]
  rw[av (show ([tI P]++([]:List PV)).length+1=2 from rfl)]
  simp only[qY,vm]
  dsimp? [jy]
  rw[gz _ _ _ _ _ _ (by simp)]
  dsimp? []
  show cP _ _=_
  rw[av ⟨rfl,rfl⟩]
  rfl
 unfold dR
 rw[tW key];rfl
theorem Hf(W:List Int):dR de lr [] [tI W]=M.ok (bar W):=by
 have key:∀ a,lr a ([tI W]++[])=M.ok (Kn W):=by
  intro a
  unfold lr lP
  simp only[mU]
  rw[av (show ([tI W]++([]:List PV)).length+1=2 from rfl)]
  simp only[qY,vm]
  dsimp? [jy]
  rw[gz _ _ _ _ _ _ (by simp)]
  dsimp? []
  show cP _ _=_
  rw[av ⟨rfl,rfl⟩]
  rfl
 unfold dR
 rw[tW key];rfl
theorem Dg{L:List Int}(hl:L.length<=1000){c:Nat}(hc:c<L.length)(h0:∀ i,i<c->vf L i=0)(h1:vf L c≠0):eW [tI L]=M.ok (.int (c:Int)):=by
 have key:bp (b_ 0) none (ao rm (ae 0) (λ_=>M.ok (.int 0))) (L.map PV.int) [none]=M.ok ((L.map λx=>!decide (x=0)).map PV.bl):=by
  rw[List.map_map]
  refine g8 (inj:=PV.int) L λx _=>?_
  dsimp? []
  rfl
 have ef:(L.map λx=>!decide (x=0)).findIdx? (·==true)=some c:=by
  rw[List.findIdx?_eq_some_iff_getElem]
  refine⟨by simpa using hc,?_,λj hj=>?_⟩
  ·rw[aH hc] at h1
   simpa using h1
  ·have:=h0 j hj
   rw[aH (by omega)] at this
   simpa using this
 have e1:FA (.lst ((L.map λx=>!decide (x=0)).map PV.bl)) (.bl true)=M.ok (.int (c:Int)):=by
  show dZ ((xw ((L.map λx=>!decide (x=0)).map PV.bl)).bind λbs=>(bs.findIdx? (·==true)).map λ(j:Nat)=>PV.int (j:Int))=_
  rw[pG,Option.bind_some,ef];rfl
 unfold eW eP
 dsimp? [CK,List.length_map,av (aQ hl),key,KD,e1]
theorem C6(Q:mV ns sizes raw Ls T idle){one other:List Int}(h1:Kp sizes one)(h2:Kp sizes other) :
  (G sizes.length (vf sizes) (DD T) sizes.length 0 (vf (ad sizes other one (-1)))/\kO [eG sizes Ls,tI one,tI other]=M.ok (way (told sizes Ls T idle (ad sizes other one (-1)))))
  \/ (¬ G sizes.length (vf sizes) (DD T) sizes.length 0 (vf (ad sizes other one (-1)))/\∃ (c:Nat) (W:List Int),c<sizes.length/\Ws sizes T c W/\kO [eG sizes Ls,tI one,tI other]=M.ok (bar W)/\¬ R sizes∣i5 sizes.length (vf sizes) (R sizes) (vf W) (vf (ad sizes other one (-1)))):=by
 have S:=Q.S
 have m8:=Q.m8
 have l6:=S.h6
 have bt:=pO (Ls:=Ls) S h1 h2
 obtain⟨⟨dl,d0⟩,_⟩:=r0 (t:=-1) S h2.1 h1.1
 generalize ad sizes other one (-1)=d at *
 obtain⟨b1,b2,b3,b4⟩:=du Q.st dl d0
 by_cases z:lst sizes Ls T d=List.replicate sizes.length 0
 ·have gx:G sizes.length (vf sizes) (DD T) sizes.length 0 (vf d):=G.ext (by omega) (λi hi=>by rw[z,e8];omega) b4
  obtain⟨et,_⟩:=mr (k:=Ls.length+1) S m8 Q.st (by omega) Q.I (nN dl d0) d0 gx
  refine .inl ⟨gx,?_⟩
  unfold kO mv
  dsimp? [bt,Q.E7,bX,oF (m := "pulls_to") rfl,et,show ∀ xs:List Int,kQ (tI xs) .cR=M.ok (.bl true) from λ_=>rfl,Hk]
 ·have ng:¬ G sizes.length (vf sizes) (DD T) sizes.length 0 (vf d):=λgx=>z (by
   refine lC (by simpa using b1) λi hi=>?_
   have g:=Q.st.gd.sub (by omega) gx b4
   have:=G.diff Q.st.gd sizes.length 0 (λi=>vf (lst sizes Ls T d) i) (by omega) (λi hi=>by have:=b3 i hi;omega) (λi _ hi=>by have:=b2 i hi;omega) (G.ext (by omega) (λi _=>by omega) g) i (by omega)
   rw[e8];exact this)
  have ex:∃ c,c<sizes.length/\(∀ i,i<c->vf (lst sizes Ls T d) i=0)/\vf (lst sizes Ls T d) c≠0:=by
   have:¬ ∀ c,c<=sizes.length->∀ i,i<c->vf (lst sizes Ls T d) i=0:=λh=>z (lC (by simpa using b1) λi hi=>by rw[e8];exact h sizes.length (Nat.le_refl _) i (by omega))
   apply Classical.byContradiction
   intro no
   refine this λc=>?_
   induction c with
   | zero=>intro _ i hi;omega
   | succ c ih =>
    intro hc i hi
    have ih:=ih (by omega)
    rcases Nat.lt_succ_iff_lt_or_eq.mp hi with q | q
    ·exact ih i q
    ·subst q
     apply Classical.byContradiction
     intro Pm
     exact no ⟨i,by omega,ih,Pm⟩
  obtain⟨c,hc,c0,c1⟩:=ex
  obtain⟨_,e,W,rfl,w1,w2,w3⟩:=wO Q hc
  have w:Ws sizes T c W:=⟨w1,w2,w3⟩
  refine .inr ⟨ng,c,W,hc,w,?_,λhd=>?_⟩
  ·unfold kO mv
   dsimp? [bt,Q.E7,bX,oF (m := "pulls_to") rfl,BY S m8 Q.st (show Ls.length+1<=9 by omega) dl d0 z,show kQ .cR .cR=M.ok (.bl false) from rfl,oF (m := "least") rfl,qt (idle:=idle) S m8 Q.st (show Ls.length+1<=9 by omega) dl d0,Dg (L:=lst sizes Ls T d) (by omega) (c:=c) (by omega) c0 c1,oF (m := "weights_at") rfl,e,Hf]
  ·have a:=b2 c hc
   have sp:=sV (n:=sizes.length) (s:=vf sizes) (Q:=R sizes) (w:=vf W) 1 1 (x:=vf d) (v:=λi=>vf d i-vf (lst sizes Ls T d) i) (u:=vf (lst sizes Ls T d)) λi _=>by omega
   rw[sp,Int.one_mul,Int.one_mul] at hd
   exact Wk.first Q.st.gd (v5 S) (HL S) hc w3 c0 (by omega) a.2 ((Int.dvd_add_right (w.kill Q b4)).mp hd)
end
theorem Mb(c k:Int)(hk:k.natAbs<2^31):∃ m:Int,aL [.int c,.int k]=M.ok (.int m)/\0<=m/\m<2^31:=by
 unfold aL cj
 have a1:=Int.emod_nonneg (c+7919*k+12345) (show (2147483629:Int)≠0 by decide)
 have a2:=Int.emod_lt_of_pos (c+7919*k+12345) (show (0:Int)<2147483629 by decide)
 generalize hn:(c+7919*k+12345)%2147483629=n at *
 have b1:=Int.emod_nonneg (n*n+48271*k) (show (2147483629:Int)≠0 by decide)
 have b2:=Int.emod_lt_of_pos (n*n+48271*k) (show (0:Int)<2147483629 by decide)
 generalize hm:(n*n+48271*k)%2147483629=m at *
 have c1:=Int.emod_nonneg (m*m) (show (2147483587:Int)≠0 by decide)
 have c2:=Int.emod_lt_of_pos (m*m) (show (0:Int)<2147483587 by decide)
 exact⟨m*m%2147483587,by dsimp? [bf (i:=7919) (j:=k) (k:=31) (l:=31) (by decide) hk,aS (i:=c+7919*k+12345) (j:=2147483629) (by decide),hn,bf (i:=n) (j:=n) (k:=31) (l:=31) (by omega) (by omega),bf (i:=48271) (j:=k) (k:=31) (l:=31) (by decide) hk,aS (i:=n*n+48271*k) (j:=2147483629) (by decide),hm,bf (i:=m) (j:=m) (k:=31) (l:=31) (by omega) (by omega),aS (i:=m*m) (j:=2147483587) (by decide)],c1,by omega⟩
def mx(c k:Int):Int:=open Classical in if h:∃ m:Int,aL [.int c,.int k]=M.ok (.int m)/\0<=m/\m<2^31 then h.choose else 0
theorem Ab(c k:Int)(hk:k.natAbs<2^31):aL [.int c,.int k]=M.ok (.int (mx c k))/\0<=mx c k/\mx c k<2^31:=by
 have h:=Mb c k hk
 have e:mx c k=h.choose:=dif_pos h
 rw[e]
 exact h.choose_spec
theorem mZ(c:Int)(p:PV)(bases:List Int)(hp:cH p=some (bases.map PV.int))(hb:∀ b∈bases,0<b/\b<2^60)(hl:bases.length<=100):jZ (cO [.int c,p]) λq=>∃ xs:List Int,q=lI xs/\xs.length=bases.length/\∀ i,i<bases.length->0<=vf xs i/\vf xs i<vf bases i:=by
 unfold cO dr
 dsimp? [kF,hp]
 refine jZ.loop (xs:=bases) (inj:=PV.int) (λzs env=>∃ (c:Int) (ss:List Int) (y:Option SV),env=[some (.sh (.int c)),some (.sh p),some (.ow (ss.map PV.int)),y]/\zs=bases.drop ss.length/\ss.length<=bases.length/\∀ i,i<ss.length->0<=vf ss i/\vf ss i<vf bases i) ⟨c,[],none,rfl,rfl,by simp,λi hi=>by simp at hi⟩ ?_ ?_
 ·rintro s r env ⟨c,ss,y,rfl,hd,QA,hs⟩
  obtain⟨c1,c2,c3⟩:=drop_cons hd.symm
  rw[List.getElem?_eq_getElem c1] at c2
  have e2:bases[ss.length]=s:=Option.some.inj c2
  have hz:=hb s (by rw[← e2];exact List.getElem_mem _)
  have hk:(ss.map PV.int).length<1000:=by simp;omega
  have m0:=Int.emod_nonneg c (show s≠0 by omega)
  have m1:=Int.emod_lt_of_pos c hz.1
  dsimp? [b_,aS (i:=c) (j:=s) hz.1,yj,ownAt,yN hk,sk,bB (i:=c) (j:=s) hz.1 (by omega)]
  refine⟨_,rfl,_,ss++[c%s],_,rfl,by rw[List.length_append];exact c3.symm,by simp;omega,λi hi=>?_⟩
  have PR:i<=ss.length:=by simp at hi;omega
  rw[aH hi]
  rcases Nat.lt_or_eq_of_le PR with q | q
  ·rw[List.getElem_append_left q,← aH q];exact hs i q
  ·subst q
   rw[List.getElem_append_right (Nat.le_refl _),aH c1,e2]
   simp;omega
 ·rintro env ⟨c,ss,y,rfl,hd,QA,hs⟩
  have:=congrArg List.length hd
  rw[List.length_drop] at this
  simp at this
  exact⟨_,rfl,ss,rfl,by omega,λi hi=>hs i (by omega)⟩
theorem Fu{xs:List Int}(h1:1<=xs.length)(h6:xs.length<=6)(hx:∀ x∈xs,2<=x/\x<=360):Sz xs:=⟨h1,h6,hx⟩
theorem AJ(c:Int):jZ (gC [.int c]) λp=>∃ xs:List Int,p=lI xs/\Sz xs:=by
 unfold gC gD
 have m2:=aS (i:=c) (j:=2) (by decide)
 by_cases h:c%2=1
 ·obtain⟨n,hn⟩:=Int.eq_ofNat_of_zero_le (show 0<=1+c/2%3 by omega)
  have n1:1<=n/\n<=3:=by omega
  have em:bS (.lst [.int 359]) (.int (n:Int))=M.ok (lI (List.replicate n 359)):=by
   rw[Cw (.int 359) n (by omega),lI,List.map_replicate]
  obtain⟨_,ed,xs,rfl,xl,xb⟩:=mZ (c/6) (lI (List.replicate n 359)) (List.replicate n 359) rfl (λb hb=>by rw[List.eq_of_mem_replicate hb];decide) (by simp;omega)
  have key:bp (b_ 0) none (ao dc (λ_=>M.ok (.int 2)) (ae 0)) (xs.map PV.int) [none]=M.ok (xs.map λx=>.int (2+x)):=g8 (inj:=PV.int) xs λx hx=>by dsimp? []
  have e0:PV.lst (xs.map λx=>PV.int (2+x))=lI (xs.map (2+·)):=by rw[lI,List.map_map];rfl
  have xl':xs.length=n:=by simpa using xl
  dsimp? [m2,h,decide_true,bB (i:=c) (j:=6) (by decide) (by decide),bB (i:=c) (j:=2) (by decide) (by decide),aS (i:=c/2) (j:=3) (by decide),hn,em,ed,List.length_map,av (aQ (show xs.length<=1000 by omega)),key,e0]
  refine⟨_,rfl,_,rfl,Fu (by simp;omega) (by simp;omega) λx hx=>?_⟩
  obtain⟨y,hy,rfl⟩:=List.mem_map.mp hx
  obtain⟨i,hi,rfl⟩:=List.mem_iff_getElem.mp hy
  have:=xb i (by simp;omega)
  rw[aH hi,aH (by simp;omega),List.getElem_replicate] at this
  omega
 ·obtain⟨e1,p1,p2⟩:=Ab c 1 (by decide)
  obtain⟨e2,q1,q2⟩:=Ab c 2 (by decide)
  obtain⟨t,ht,et⟩:=pick [12,60,360] (mx c 2) 3 rfl (by decide)
  rw[show ((3:Nat):Int)=3 from rfl] at et
  simp only[List.map_cons,List.map_nil] at et
  have ht':12<=t/\t<=360:=by simp at ht;omega
  obtain⟨n,hn⟩:=Int.eq_ofNat_of_zero_le (show 0<=1+mx c 1%6 by omega)
  have n1:1<=n/\n<=6:=by omega
  have key:bp (b_ 0) none (ao dc (λ_=>M.ok (.int 2)) (ao cy (ai aL (aa (ae 1) (aa (ao dc (λ_=>M.ok (.int 30)) (ae 0)) aj))) (ao kb (ae 2) (λ_=>M.ok (.int 1))))) ((List.range n).map λ(i:Nat)=>.int (i:Int)) [none,some (.sh (.int c)),some (.sh (.int t))]=M.ok ((List.range n).map λ(i:Nat)=>.int (2+mx c (30+(i:Int))%(t-1))):=by
   refine g8 (inj:=λ(i:Nat)=>PV.int (i:Int)) (List.range n) λi hi=>?_
   have PR:i<n:=List.mem_range.mp hi
   dsimp? [(Ab c (30+(i:Int)) (by omega)).1,aS (i:=mx c (30+(i:Int))) (j:=t-1) (by omega)]
  have e0:PV.lst ((List.range n).map λ(i:Nat)=>PV.int (2+mx c (30+(i:Int))%(t-1)))=lI ((List.range n).map λ(i:Nat)=>2+mx c (30+(i:Int))%(t-1)):=by rw[lI,List.map_map];rfl
  have zr:(List.range n).length<=sizeLine:=by rw[List.length_range];exact aQ (by omega)
  dsimp? [m2,h,decide_false,e2,aS (i:=mx c 2) (j:=3) (by decide)]
  rw[et]
  dsimp? [e1,aS (i:=mx c 1) (j:=6) (by decide),hn,i4 (n:=(n:Int)) (by omega) (by omega),Int.toNat_natCast,List.length_map,av zr,key,e0]
  refine⟨_,rfl,_,rfl,Fu (by simp;omega) (by simp;omega) λx hx=>?_⟩
  obtain⟨i,hi,rfl⟩:=List.mem_map.mp hx
  have a:=Int.emod_nonneg (mx c (30+(i:Int))) (show t-1≠0 by omega)
  have b:=Int.emod_lt_of_pos (mx c (30+(i:Int))) (show 0<t-1 by omega)
  omega
theorem Kk:DH (.int 10) (.int 24)=M.ok (.int (10^24)):=by
 rfl
theorem Ay{sizes:List Int}(S:Sz sizes)(c:Int):jZ (dO [.int c,lI sizes]) λp=>∃ xs:List Int,p=lI xs/\xs.length=sizes.length/\Bd 200 xs:=by
 have l6:=S.h6
 unfold dO gN
 have m2:=aS (i:=c) (j:=2) (by decide)
 by_cases h:c%2=1
 ·obtain⟨_,ed,xs,rfl,xl,xb⟩:=mZ (c/2) (lI sizes) sizes rfl (λb hb=>by have:=S.hx b hb;omega) (by omega)
  dsimp? [m2,h,decide_true,bB (i:=c) (j:=2) (by decide) (by decide),ed]
  refine⟨_,rfl,xs,rfl,xl,λx hx=>?_⟩
  obtain⟨i,hi,rfl⟩:=List.mem_iff_getElem.mp hx
  have a:=xb i (by omega)
  have b:=jP S i (by omega)
  rw[aH hi] at a
  omega
 ·obtain⟨e5,p1,p2⟩:=Ab c 5 (by decide)
  obtain⟨e6,q1,q2⟩:=Ab c 6 (by decide)
  obtain⟨y,hy,ey⟩:=pick [1,1,2,3,4,6] (mx c 5) 6 rfl (by decide)
  rw[show ((6:Nat):Int)=6 from rfl] at ey
  simp only[List.map_cons,List.map_nil] at ey
  have hy':1<=y/\y<=6:=by simp at hy;omega
  obtain⟨t,ht,et⟩:=pick [0,1,10^24] (mx c 6) 3 rfl (by decide)
  rw[show ((3:Nat):Int)=3 from rfl] at et
  simp only[List.map_cons,List.map_nil] at et
  have ht':0<=t/\t<=10^24:=by
   rcases List.mem_cons.mp ht with rfl | ht
   ·decide
   rcases List.mem_cons.mp ht with rfl | ht
   ·decide
   rw[List.mem_singleton.mp ht];decide
  dsimp? [m2,h,decide_false,e5,aS (i:=mx c 5) (j:=6) (by decide)]
  rw[ey]
  dsimp? [Kk,e6,aS (i:=mx c 6) (j:=3) (by decide)]
  rw[et]
  dsimp? [kF,i4 (n:=(sizes.length:Int)) (by omega) (by omega),Int.toNat_natCast]
  refine jZ.loop (xs:=List.range sizes.length) (inj:=λ(i:Nat)=>.int (i:Int)) (λzs env=>∃ (ss:List Int) (y5 y6 y7:Option SV),env=[some (.sh (.int c)),some (.sh (lI sizes)),some (.sh (.int y)),some (.sh (.int t)),some (.ow (ss.map PV.int)),y5,y6,y7]/\ss.length+zs.length=sizes.length/\Bd 200 ss/\∀ z∈zs,z<sizes.length) ⟨[],none,none,none,rfl,by simp,(λ_ h=>nomatch h),λz hz=>List.mem_range.mp hz⟩ ?_ ?_
  ·rintro i r env ⟨ss,y5,y6,y7,rfl,hl,hs,hm⟩
   have hi:=hm i List.mem_cons_self
   have QL:=S.hx sizes[i] (List.getElem_mem hi)
   obtain⟨ea,a1,a2⟩:=Ab c (40+(i:Int)) (by omega)
   obtain⟨eb,b1,b2⟩:=Ab c (60+(i:Int)) (by omega)
   generalize mx c (40+(i:Int))=a at *
   generalize mx c (60+(i:Int))=b at *
   have QA:(ss.map PV.int).length<1000:=by simp at hl ⊢;omega
   obtain⟨k,ek,hk⟩:∃ k:Int,yz (λi j=>if j<i then j else i) [.int (a%4),.int 1]=M.ok (.int k)/\0<=k/\k<=1:=⟨if 1<a%4 then 1 else a%4,rfl,by split <;> omega,by split <;> omega⟩
   have t1:(b%2001-1000).natAbs<2^31:=by omega
   have t2:t.natAbs<2^100:=by omega
   have t3:((b%2001-1000)*t).natAbs<2^120:=by
    rw[Int.natAbs_mul]
    have:(b%2001-1000).natAbs*t.natAbs<=2^11*2^100:=Nat.mul_le_mul (by omega) (by omega)
    exact Nat.lt_of_le_of_lt this (by decide)
   have t4:(k*y).natAbs<2^31:=by
    rcases(show k=0\/k=1 by omega) with rfl | rfl
    ·simp
    ·simp;omega
   have t5:(sizes[i]*((b%2001-1000)*t)).natAbs<2^150:=by
    rw[Int.natAbs_mul]
    have:sizes[i].natAbs*((b%2001-1000)*t).natAbs<=2^11*2^120:=Nat.mul_le_mul (by omega) (by omega)
    exact Nat.lt_of_le_of_lt this (by decide)
   have t6:(k*y*(a/4%360)).natAbs<2^62:=by
    rw[Int.natAbs_mul]
    have:(k*y).natAbs*(a/4%360).natAbs<=2^31*2^10:=Nat.mul_le_mul (by omega) (by omega)
    exact Nat.lt_of_le_of_lt this (by decide)
   have ix:aV (lI sizes) (.int (i:Int))=M.ok (.int sizes[i]):=by rw[pC hi,aH hi]
   dsimp? [b_,ea,eb,aS (i:=b) (j:=2001) (by decide),bf (i:=b%2001-1000) (j:=t) (k:=31) (l:=100) t1 t2,aS (i:=a) (j:=4) (by decide),ek,bf (i:=k) (j:=y) (k:=31) (l:=31) (by omega) (by omega),bB (i:=a) (j:=4) (by decide) (by decide),aS (i:=a/4) (j:=360) (by decide),bf (i:=k*y) (j:=a/4%360) (k:=31) (l:=31) t4 (by omega),ix,bf (i:=sizes[i]) (j:=(b%2001-1000)*t) (k:=31) (l:=120) (by omega) t3,yj,ownAt,yN QA,sk]
   refine⟨_,rfl,ss++[k*y*(a/4%360)+sizes[i]*((b%2001-1000)*t)],_,_,_,rfl,by simp at hl ⊢;omega,λs h'=>?_,λz hz=>hm z (List.mem_cons_of_mem _ hz)⟩
   rcases List.mem_append.mp h' with q | q
   ·exact hs s q
   ·rw[List.mem_singleton.mp q]
    have:=Int.natAbs_add_le (k*y*(a/4%360)) (sizes[i]*((b%2001-1000)*t))
    omega
  ·rintro env ⟨ss,y5,y6,y7,rfl,hl,hs,_⟩
   exact⟨_,rfl,ss,rfl,by simpa using hl,hs⟩
theorem EO{sizes l:List Int}(S:Sz sizes)(hl:l.length=sizes.length):fO [lI l,lI sizes]=M.ok (tI (wq l sizes)):=by
 have l6:=S.h6
 have k1:bp (bC 0 1) none (ao cy (ae 0) (ae 1)) ((l.zip sizes).map λz=>.tup [.int z.1,.int z.2]) [none,none]=M.ok ((l.zip sizes).map λz=>.int (z.1%z.2)):=by
  refine fZ (p:=λz:Int×Int=>PV.int z.1) (q:=λz:Int×Int=>PV.int z.2) (l.zip sizes) λz hz=>?_
  have:=S.hx _ (kI hz).2
  dsimp? [aS (i:=z.1) (j:=z.2) (by omega)]
 have z1:(l.zip sizes).length<=sizeLine:=by rw[List.length_zip];exact aQ (by omega)
 unfold fO iD
 dsimp? [dW (p:=lI l) (q:=lI sizes) l sizes rfl rfl,List.length_map,av z1,k1]
 rw[tI,wq,List.map_map];rfl
theorem pN{sizes:List Int}(S:Sz sizes)(c k:Int)(hk:0<=k/\k<=9):jZ (cV [.int c,.int k,lI sizes]) λp=>∃ xs:List Int,p=tI xs/\Kp sizes xs:=by
 have l6:=S.h6
 have k1:bp (bC 0 1) none (ao cy (ai aL (aa (ae 2) (aa (ao dc (ao dc (ao bS (λ_=>M.ok (.int 10)) (ae 3)) (λ_=>M.ok (.int 200))) (ae 0)) aj))) (ae 1)) (sizes.zipIdx.map λz=>.tup [.int (z.2:Int),.int z.1]) [none,none,some (.sh (.int c)),some (.sh (.int k))]=M.ok (sizes.zipIdx.map λz=>.int (mx c (10*k+200+(z.2:Int))%z.1)):=by
  refine fZ (p:=λz:Int×Nat=>PV.int (z.2:Int)) (q:=λz:Int×Nat=>PV.int z.1) sizes.zipIdx λz hz=>?_
  have h1:=S.hx z.1 (List.fst_mem_of_mem_zipIdx hz)
  have h2:=lL hz
  dsimp? [bf (i:=10) (j:=k) (k:=31) (l:=31) (by decide) (by omega),(Ab c (10*k+200+(z.2:Int)) (by omega)).1,aS (i:=mx c (10*k+200+(z.2:Int))) (j:=z.1) (by omega)]
 have z1:sizes.zipIdx.length<=sizeLine:=by rw[List.length_zipIdx];exact aQ (by omega)
 unfold cV dH
 dsimp? [uN,List.length_map,av z1,k1]
 refine⟨_,rfl,sizes.zipIdx.map λz=>mx c (10*k+200+(z.2:Int))%z.1,by rw[tI,List.map_map];rfl,by simp,λi hi=>?_⟩
 have h1:=S.hx sizes[i] (List.getElem_mem hi)
 rw[aH (by simpa using hi),aH hi]
 simp
 exact⟨Int.emod_nonneg _ (by omega),Int.emod_lt_of_pos _ (by omega)⟩
theorem w6(a b:Nat):dE [.int (a:Int),.int (b:Int)]=M.ok (.int (Nat.gcd a b:Nat)):=by
 unfold dE eS
 dsimp? []
 refine xy (λenv=>∃ p q:Nat,env=[some (.sh (.int p)),some (.sh (.int q))]/\Nat.gcd p q=Nat.gcd a b) (λenv=>match env with
  | [_,some (.sh (.int q))]=>q.toNat
  | _=>0) ⟨a,b,rfl,rfl⟩ ?_ ?_
 ·rintro env ⟨p,q,rfl,hg⟩
  by_cases h0:(0:Int)<q
  ·refine .inr ⟨by dsimp? [h0,decide_true],[some (.sh (.int q)),some (.sh (.int ((p%q:Nat):Int)))],?_,⟨q,p%q,rfl,?_⟩,?_⟩
   ·dsimp? [G_,E2,aS (i:=(p:Int)) h0]
    rfl
   ·rw[← hg,Nat.gcd_comm p q,Nat.gcd_rec q p,Nat.gcd_comm]
   ·show ((p%q:Nat):Int).toNat<(q:Int).toNat
    have:=Nat.mod_lt p (show 0<q by omega)
    omega
  ·exact .inl (by dsimp? [h0,decide_false])
 ·rintro Nq ⟨p,q,rfl,hg⟩ hu
  have hq:q=0:=by
   revert hu
   dsimp? []
   intro hu
   have:(decide ((0:Int)<q))=false:=by injection hu with hu;injection hu
   simp at this
   omega
  subst hq
  rw[Nat.gcd_zero_right] at hg
  subst hg
  dsimp? []
theorem B_(sizes:List Int)(h:Sz sizes):gI [lI sizes]=M.ok (.int (R sizes)):=by
 refine jZ.eq ?_
 unfold gI gQ
 dsimp? []
 refine jZ.loop (xs:=sizes) (inj:=PV.int) (λzs env=>∃ (acc:Nat) (y:Option SV),env=[some (.sh (lI sizes)),some (.sh (.int (acc:Nat))),y]/\Acc sizes zs acc) ⟨1,_,rfl,Acc.start h⟩ ?_ ?_
 ·rintro a r env ⟨acc,y,rfl,A⟩
  obtain⟨A2,e1,e2,e3⟩:=A.turn
  have hl:=A.lt
  have ha:=A.i9 a List.mem_cons_self
  have d0:0<=(acc:Int)/(Int.gcd acc a:Nat):=Int.ediv_nonneg (by omega) (by omega)
  have g1:Int.gcd acc a<=acc:=Nat.le_of_dvd A.pos (Int.ofNat_dvd.mp (Int.gcd_dvd_left ..))
  have ed:dE [.int (acc:Int),.int a]=M.ok (.int (Int.gcd acc a:Nat)):=by
   obtain⟨n,rfl⟩:=Int.eq_ofNat_of_zero_le (show 0<=a by omega)
   exact w6 acc n
  dsimp? [b_,ed,bB (i:=(acc:Int)) (show (0:Int)<(Int.gcd acc a:Nat) by omega) (show ((Int.gcd acc a:Nat):Int)<2^64 by omega),bf (k:=64) (l:=64) (show ((acc:Int)/(Int.gcd acc a:Nat)).natAbs<2^64 by omega) (show a.natAbs<2^64 by omega),e1]
  exact⟨_,rfl,_,_,rfl,A2⟩
 ·rintro env ⟨acc,y,rfl,A⟩
  dsimp? []
  have:=A.val
  exact⟨_,rfl,by rw[R,← this];rfl⟩
theorem sv{sizes W ys:List Int}(S:Sz sizes)(Wl:W.length=sizes.length)(W0:∀ x∈W,0<=x/\x<360)(yl:ys.length=sizes.length)(yb:Bd 200 ys):er [tI W,tI ys,lI sizes]=M.ok (.int (i5 sizes.length (vf sizes) (R sizes) (vf W) (vf ys)%R sizes)):=by
 have l6:=S.h6
 let tm:Int×Int×Int->Int:=λz=>z.1*z.2.1*(R sizes/z.2.2)
 have et:((W.zip (ys.zip sizes)).map tm).sum=i5 sizes.length (vf sizes) (R sizes) (vf W) (vf ys):=by
  have hl:((W.zip (ys.zip sizes)).map tm).length=sizes.length:=by simp;omega
  rw[pA,hl]
  refine eT λi hi=>?_
  rw[aH (by rw[hl];exact hi),aH (by omega),aH (by omega),aH (by omega)]
  simp[tm]
 have k1:bp (ki 0 1 2) none (ao bS (ao bS (ae 0) (ae 1)) (ao cQ (ae 3) (ae 2))) ((W.zip (ys.zip sizes)).map λz=>.tup [.int z.1,.int z.2.1,.int z.2.2]) [none,none,none,some (.sh (.int (R sizes)))]=M.ok ((W.zip (ys.zip sizes)).map λz=>.int (tm z)):=by
  refine wY (p:=λz:Int×Int×Int=>PV.int z.1) (q:=λz=>PV.int z.2.1) (s:=λz=>PV.int z.2.2) (W.zip (ys.zip sizes)) λz hz=>?_
  obtain⟨m1,m2⟩:=List.of_mem_zip (a:=z.1) (b:=z.2) hz
  obtain⟨m3,m4⟩:=List.of_mem_zip (a:=z.2.1) (b:=z.2.2) m2
  have a1:=W0 _ m1;have a2:=yb _ m3;have a3:=qo S m4;have a4:=S.hx _ m4
  have a5:(z.1*z.2.1).natAbs<2^210:=by
   rw[Int.natAbs_mul]
   have:z.1.natAbs*z.2.1.natAbs<=2^9*2^200:=Nat.mul_le_mul (by omega) (by omega)
   exact Nat.lt_of_le_of_lt this (by decide)
  dsimp? [bB (i:=R sizes) (j:=z.2.2) (by omega) (by omega),bf (k:=64) (l:=200) (show z.1.natAbs<2^64 by omega) a2,bf (k:=210) (l:=64) a5 (show (R sizes/z.2.2).natAbs<2^64 by omega)]
  rfl
 have es:qN [.lst ((W.zip (ys.zip sizes)).map λz=>.int (tm z))]=M.ok (.int ((W.zip (ys.zip sizes)).map tm).sum):=by
  have:=pH ((W.zip (ys.zip sizes)).map tm)
  rw[List.map_map] at this
  exact this
 have z1:(W.zip (ys.zip sizes)).length<=sizeLine:=by simp only[List.length_zip];exact aQ (by omega)
 rw[← et]
 unfold er fu
 dsimp? [B_ sizes S,pY (p:=tI W) (q:=tI ys) (r:=lI sizes) W ys sizes rfl rfl rfl,List.length_map,av z1,k1,es,aS (i:=((W.zip (ys.zip sizes)).map tm).sum) (j:=R sizes) (v5 S)]
theorem IH{sizes one other:List Int}(S:Sz sizes)(h1:one.length=sizes.length)(h2:other.length=sizes.length):jK [tI one,tI other,lI sizes]=M.ok (tI (ad sizes other one (-1))):=by
 have l6:=S.h6
 have k1:bp (ki 0 1 2) none (ao cy (ao kb (ae 1) (ae 0)) (ae 2)) ((one.zip (other.zip sizes)).map λz=>.tup [.int z.1,.int z.2.1,.int z.2.2]) [none,none,none]=M.ok ((one.zip (other.zip sizes)).map λz=>.int ((z.2.1-z.1)%z.2.2)):=by
  refine wY (p:=λz:Int×Int×Int=>PV.int z.1) (q:=λz=>PV.int z.2.1) (s:=λz=>PV.int z.2.2) (one.zip (other.zip sizes)) λz hz=>?_
  obtain⟨m1,m2⟩:=List.of_mem_zip (a:=z.1) (b:=z.2) hz
  obtain⟨m3,m4⟩:=List.of_mem_zip (a:=z.2.1) (b:=z.2.2) m2
  have a4:=S.hx _ m4
  dsimp? [aS (i:=z.2.1-z.1) (j:=z.2.2) (by omega)]
 have z1:(one.zip (other.zip sizes)).length<=sizeLine:=by simp only[List.length_zip];exact aQ (by omega)
 unfold jK jd
 dsimp? [pY (p:=tI one) (q:=tI other) (r:=lI sizes) one other sizes rfl rfl rfl,List.length_map,av z1,k1]
 obtain⟨a1,a2⟩:=vQ (t:=-1) S h2 h1
 have e:ad sizes other one (-1)=(one.zip (other.zip sizes)).map λz=>(z.2.1-z.1)%z.2.2:=by
  refine lC (by rw[a1,List.length_map,List.length_zip,List.length_zip];omega) λi hi=>?_
  rw[a1] at hi
  rw[a2 i hi,aH (xs:=(one.zip (other.zip sizes)).map λz=>(z.2.1-z.1)%z.2.2) (by rw[List.length_map,List.length_zip,List.length_zip];omega),aH (xs:=other) (by omega),aH (xs:=one) (by omega),aH (xs:=sizes) hi]
  simp
  congr 1
 rw[e,tI,List.map_map];rfl
theorem EI{α:Type}{t:af->M Bool}{f:af->M PV}{inj h:α->PV}{rest:af}{x0:Option SV}(xs:List α)(T:∀ a∈xs,t (some (.sh (inj a))::rest)=M.ok true)(H:∀ a∈xs,f (some (.sh (inj a))::rest)=M.ok (h a)):bp (b_ 0) (some t) f (xs.map inj) (x0::rest)=M.ok (xs.map h):=by
 induction xs generalizing x0 with
 | nil=>rfl
 | cons a r ih =>
  rw[List.map_cons,bp]
  show M.bind (M.ok ((x0::rest).set 0 (some (.sh (inj a))))) _=_
  rw[M.aP,List.set_cons_zero]
  show M.bind (t _) _=_
  rw[T a List.mem_cons_self,M.aP,if_pos rfl,H a List.mem_cons_self,M.aP,ih (λb hb=>T b (List.mem_cons_of_mem _ hb)) λb hb=>H b (List.mem_cons_of_mem _ hb)]
  rfl
theorem Ef{α:Type}{t:af->M Bool}{f:af->M PV}{p q h:α->PV}{rest:af}{x0 x1:Option SV}(xs:List α)(T:∀ a∈xs,t (some (.sh (p a))::some (.sh (q a))::rest)=M.ok true)(H:∀ a∈xs,f (some (.sh (p a))::some (.sh (q a))::rest)=M.ok (h a)):bp (bC 0 1) (some t) f (xs.map λa=>.tup [p a,q a]) (x0::x1::rest)=M.ok (xs.map h):=by
 induction xs generalizing x0 x1 with
 | nil=>rfl
 | cons a r ih =>
  rw[List.map_cons,bp]
  show M.bind (M.ok (((x0::x1::rest).set 0 (some (.sh (p a)))).set 1 (some (.sh (q a))))) _=_
  rw[M.aP,List.set_cons_zero,List.set_cons_succ,List.set_cons_zero]
  show M.bind (t _) _=_
  rw[T a List.mem_cons_self,M.aP,if_pos rfl,H a List.mem_cons_self,M.aP,ih (λb hb=>T b (List.mem_cons_of_mem _ hb)) λb hb=>H b (List.mem_cons_of_mem _ hb)]
  rfl
theorem ji(xs:List Int)(hl:xs.length<=100):bP [tI xs,.int (xs.length:Int)]=M.ok (.bl true):=by
 have k1:bp (b_ 0) (some (dm (ai gu (aa (ae 0) aj)))) (ae 0) (xs.map PV.int) [none]=M.ok (xs.map PV.int):=EI (inj:=PV.int) xs (λx _=>by dsimp? [show gu [.int x]=M.ok (.bl true) from rfl]) λx _=>by dsimp? []
 unfold bP cw
 dsimp? [decide_true,List.length_map,av (aQ (show xs.length<=1000 by omega)),k1]
section
variable{ns:List Int}{sizes:List Int}{raw Ls:List (List Int)}{T:List Row}{idle:List (List Int)}{P W:List Int}
theorem Dh(Q:mV ns sizes raw Ls T idle){gap:List Int}(hg:Kp sizes gap)(hP:P.length=Ls.length)(hb:Bd 200 P)(led:Led sizes.length (vf sizes) Ls.length (AA Ls) (vf gap) (vf P)):gk [.lst (Ls.map tI),tI P,lI sizes,tI gap]=M.ok (.bl true):=by
 have S:=Q.S
 have l6:=S.h6
 have m8:=Q.m8
 have nk:=ji P (by omega)
 rw[hP] at nk
 refine jZ.eq ?_
 unfold gk gj
 dsimp? [List.length_map,nk,uN]
 refine jZ.loop (xs:=sizes.zipIdx) (inj:=λz=>.tup [.int (z.2:Int),.int z.1]) (λzs env=>∃ y4 y5,env=[some (.sh (.lst (Ls.map tI))),some (.sh (tI P)),some (.sh (lI sizes)),some (.sh (tI gap)),y4,y5]/\∀ z∈zs,z∈sizes.zipIdx) ⟨_,_,rfl,λz h=>h⟩ ?_ ?_
 ·rintro⟨s,i⟩ r env ⟨y4,y5,rfl,hz⟩
  have hm:=hz _ List.mem_cons_self
  have hi:=lL hm
  simp only at hi
  have es:sizes[i]=s:=by
   have:=List.mem_zipIdx hm
   simp at this
   exact this.2.symm▸rfl
  have sp:=S.hx s (List.fst_mem_of_mem_zipIdx hm)
  have k1:bp (bC 0 1) none (ao bS (ae 0) (ao aV (ae 1) (ae 2))) ((P.zip Ls).map λz=>.tup [.int z.1,tI z.2]) [none,none,some (.sh (.int (i:Int)))]=M.ok ((P.zip Ls).map λz=>.int (z.1*vf z.2 i)):=by
   refine fZ (p:=λz:Int×List Int=>PV.int z.1) (q:=λz=>tI z.2) (P.zip Ls) λz hzz=>?_
   obtain⟨m1,m2⟩:=List.of_mem_zip (a:=z.1) (b:=z.2) hzz
   obtain⟨k,hk,ek⟩:=List.mem_iff_getElem.mp m2
   have eg:Ls.getD k []=z.2:=by rw[List.getD_eq_getElem?_getD,List.getElem?_eq_getElem hk,Option.getD_some,ek]
   have a1:=Q.LL.at_ k hk
   have a2:=Q.LL.i9 k hk i hi
   have b2:=jP S i hi
   unfold AA at a2
   rw[eg] at a1 a2
   dsimp? [gS (xs:=z.2) (i:=i) (by omega),bf (i:=z.1) (j:=vf z.2 i) (k:=200) (l:=31) (hb _ m1) (by omega)]
  have es1:qN [.lst ((P.zip Ls).map λz=>.int (z.1*vf z.2 i))]=M.ok (.int ((P.zip Ls).map λz=>z.1*vf z.2 i).sum):=by
   have:=pH ((P.zip Ls).map λz=>z.1*vf z.2 i)
   rw[List.map_map] at this
   exact this
  have es2:((P.zip Ls).map λz=>z.1*vf z.2 i).sum=c6 Ls.length λl=>vf P l*AA Ls l i:=by
   have hl:((P.zip Ls).map λz=>z.1*vf z.2 i).length=Ls.length:=by rw[List.length_map,List.length_zip];omega
   rw[pA,hl]
   refine eT λl QA=>?_
   rw[aH (by rw[hl];exact QA),aH (xs:=P) (by omega)]
   unfold AA
   rw[List.getD_eq_getElem?_getD,List.getElem?_eq_getElem QA,Option.getD_some]
   simp
  have em:((P.zip Ls).map λz=>z.1*vf z.2 i).sum%s=vf gap i:=by
   rw[es2]
   obtain⟨x,hx⟩:=led i hi
   have g0:=hg.2 i hi
   rw[aH hi,es] at hx g0
   have:(c6 Ls.length λl=>vf P l*AA Ls l i)=vf gap i+s*(-x):=by rw[Int.mul_neg,← hx];omega
   rw[this,Int.add_mul_emod_self_left]
   exact Int.emod_eq_of_lt g0.1 g0.2
  have z1:(P.zip Ls).length<=sizeLine:=by rw[List.length_zip];exact aQ (by omega)
  dsimp? [bC,dW (p:=tI P) (q:=.lst (Ls.map tI)) (f:=PV.int) (g:=tI) P Ls rfl rfl,List.length_map,av z1,k1,es1,aS (i:=((P.zip Ls).map λz=>z.1*vf z.2 i).sum) (j:=s) (by omega),em,gS (xs:=gap) (i:=i) (by rw[hg.1];exact hi),decide_true]
  exact⟨_,rfl,_,_,rfl,λz h=>hz z (List.mem_cons_of_mem _ h)⟩
 ·rintro env ⟨y4,y5,rfl,_⟩
  dsimp? []
  exact⟨_,rfl,rfl⟩
theorem ES(Q:mV ns sizes raw Ls T idle){gap:List Int}(hg:Kp sizes gap){c:Nat}(w:Ws sizes T c W)(nd:¬ R sizes∣i5 sizes.length (vf sizes) (R sizes) (vf W) (vf gap)):ip [.lst (Ls.map tI),tI W,lI sizes,tI gap]=M.ok (.bl true):=by
 have S:=Q.S
 have l6:=S.h6
 have l1:=S.h1
 have nk:=ji W (by rw[w.len];omega)
 rw[w.len] at nk
 have k1:bp (bC 0 1) (some (dm (gZ Cq Bi (λ_=>M.ok (.int 0)) (ao aV (ae 2) (ae 0)) (ae 1)))) (ae 0) (sizes.zipIdx.map λz=>.tup [.int (z.2:Int),.int z.1]) [none,none,some (.sh (tI W))]=M.ok (sizes.zipIdx.map λz=>.int (z.2:Int)):=by
  refine Ef (p:=λz:Int×Nat=>PV.int (z.2:Int)) (q:=λz:Int×Nat=>PV.int z.1) sizes.zipIdx (λz hz=>?_) λz hz=>by dsimp? []
  have hi:=lL hz
  have es:sizes[z.2]=z.1:=by
   have:=List.mem_zipIdx hz
   simp at this
   exact this.2.symm▸rfl
  have a:=w.i9 z.2 hi
  rw[aH hi,es] at a
  dsimp? [gZ,gS (xs:=W) (i:=z.2) (by rw[w.len];exact hi),a.1,a.2,decide_true]
 have ne:¬ i5 sizes.length (vf sizes) (R sizes) (vf W) (vf gap)%R sizes=0:=λe=>nd (Int.dvd_of_emod_eq_zero e)
 have z1:sizes.zipIdx.length<=sizeLine:=by rw[List.length_zipIdx];exact aQ (by omega)
 refine jZ.eq ?_
 unfold ip ik
 dsimp? [nk,uN,List.length_map,List.length_zipIdx,av (aQ (show sizes.length<=1000 by omega)),k1,decide_true]
 refine jZ.loop (xs:=Ls) (inj:=tI) (λzs env=>∃ y4,env=[some (.sh (.lst (Ls.map tI))),some (.sh (tI W)),some (.sh (lI sizes)),some (.sh (tI gap)),y4]/\∀ z∈zs,z∈Ls) ⟨_,rfl,λz h=>h⟩ ?_ ?_
 ·rintro z r env ⟨y4,rfl,hz⟩
  obtain⟨k,hk,ek⟩:=List.mem_iff_getElem.mp (hz z List.mem_cons_self)
  have eg:Ls.getD k []=z:=by rw[List.getD_eq_getElem?_getD,List.getElem?_eq_getElem hk,Option.getD_some,ek]
  have a1:=Q.LL.at_ k hk
  have a2:=Q.LL.i9 k hk
  have eV:AA Ls k=vf z:=by unfold AA;rw[eg]
  rw[eg] at a1
  rw[eV] at a2
  have l0:=sv (ys:=z) S w.len (w.sm S) a1 (jq S a1 a2)
  have kl:=w.kill Q (Q.st.cl k (by omega))
  rw[eV] at kl
  dsimp? [b_,l0,Int.emod_eq_zero_of_dvd kl,decide_true]
  exact⟨_,rfl,_,rfl,λz h=>hz z (List.mem_cons_of_mem _ h)⟩
 ·rintro env ⟨y4,rfl,_⟩
  dsimp? [sv (ys:=gap) S w.len (w.sm S) hg.1 (hg.bd S),ne,decide_false]
  exact⟨_,rfl,rfl⟩
end
section
variable{ns:List Int}{sizes:List Int}{raw Ls:List (List Int)}{T:List Row}{idle:List (List Int)}{P W:List Int}
theorem ph:∀ zs:List Int,jb (zs.map PV.int)=true
 | []=>rfl
 | _::r=>by show (true&&jb (r.map PV.int))=true;rw[ph r];rfl
theorem A0{i:Nat}{f:af->M (List PV)}{env:af}{xs:List PV}{zs:List Int}(h1:ownAt i env=M.ok xs)(h2:f (ni i env)=M.ok (zs.map PV.int)):wb i f env=M.ok (zs.map PV.int):=by
 unfold wb
 rw[h1,M.aP,h2]
 exact av (ph zs)
theorem Bs(Q:mV ns sizes raw Ls T idle)(c:Int){one:List Int}(h1:Kp sizes one):jZ (eM [.int c,tI one,.lst (Ls.map tI),lI sizes]) λp=>∃ o:List Int,p=tI o/\Kp sizes o:=by
 have S:=Q.S
 have l6:=S.h6
 have l1:=S.h1
 have m8:=Q.m8
 obtain⟨e1,p1,p2⟩:=Ab c 1 (by decide)
 obtain⟨e2,q1,q2⟩:=Ab c 2 (by decide)
 have m4:=aS (i:=mx c 1) (j:=4) (by decide)
 unfold eM gq
 by_cases h0:mx c 1%4=0
 ·obtain⟨_,es,o,rfl,ho⟩:=pN S c 2 (by decide)
  dsimp? [e1,m4,h0,decide_true,es]
  exact⟨_,rfl,o,rfl,ho⟩
 dsimp? [e1,m4,h0,decide_false,BB,lR]
 refine jZ.loop (xs:=Ls.zipIdx) (inj:=λz=>.tup [.int (z.2:Int),tI z.1]) (λzs env=>∃ (o:List Int) (y5 y6 y7:Option SV),env=[some (.sh (.int c)),some (.sh (tI one)),some (.sh (.lst (Ls.map tI))),some (.sh (lI sizes)),some (.ow (o.map PV.int)),y5,y6,y7,none]/\Kp sizes o/\∀ z∈zs,z∈Ls.zipIdx) ⟨one,_,_,_,rfl,h1,λz h=>h⟩ ?_ ?_
 ·rintro⟨l,k⟩ r env ⟨o,y5,y6,y7,rfl,ho,hz⟩
  have hm:=hz _ List.mem_cons_self
  have hk:k<Ls.length:=by have:=List.snd_lt_of_mem_zipIdx hm;simpa using this
  obtain⟨k',O5,ek⟩:=List.mem_iff_getElem.mp (List.fst_mem_of_mem_zipIdx hm)
  simp only at ek
  have eg:Ls.getD k' []=l:=by rw[List.getD_eq_getElem?_getD,List.getElem?_eq_getElem O5,Option.getD_some,ek]
  have a1:=Q.LL.at_ k' O5
  have a2:=Q.LL.i9 k' O5
  have eV:AA Ls k'=vf l:=by unfold AA;rw[eg]
  rw[eg] at a1
  rw[eV] at a2
  have lb:=jq S a1 a2
  obtain⟨e3,r1,r2⟩:=Ab c (100+(k:Int)) (by omega)
  generalize mx c (100+(k:Int))=t at *
  have k1:bp (ki 0 1 2) none (ao cy (ao dc (ae 0) (ao bS (ae 3) (ae 1))) (ae 2)) ((o.zip (l.zip sizes)).map λz=>.tup [.int z.1,.int z.2.1,.int z.2.2]) [none,none,none,some (.sh (.int (t%1000)))]=M.ok ((o.zip (l.zip sizes)).map λz=>.int ((z.1+t%1000*z.2.1)%z.2.2)):=by
   refine wY (p:=λz:Int×Int×Int=>PV.int z.1) (q:=λz=>PV.int z.2.1) (s:=λz=>PV.int z.2.2) (o.zip (l.zip sizes)) λz hzz=>?_
   obtain⟨m1,m2⟩:=List.of_mem_zip (a:=z.1) (b:=z.2) hzz
   obtain⟨m3,m4⟩:=List.of_mem_zip (a:=z.2.1) (b:=z.2.2) m2
   have a4:=S.hx _ m4
   dsimp? [bf (i:=t%1000) (j:=z.2.1) (k:=31) (l:=200) (by omega) (lb _ m3),aS (i:=z.1+t%1000*z.2.1) (j:=z.2.2) (by omega)]
  have z1:(o.zip (l.zip sizes)).length<=sizeLine:=by simp only[List.length_zip];exact aQ (by have:=ho.1;omega)
  have ez:((o.zip (l.zip sizes)).map λz=>PV.int ((z.1+t%1000*z.2.1)%z.2.2))=(oy sizes o l (t%1000)).map PV.int:=by rw[oy,List.map_map];rfl
  rw[ez] at k1
  have z3:qO [.lst (o.map PV.int),tI l,lI sizes]=M.ok ((o.zip (l.zip sizes)).map λz=>.tup [.int z.1,.int z.2.1,.int z.2.2]):=pY (p:=.lst (o.map PV.int)) (q:=tI l) (r:=lI sizes) o l sizes rfl rfl rfl
  have lo:∀ y8,wb 4 (bR (i8 qO (aa (ae 4) (aa (ae 6) (aa (ae 3) aj)))) (ki 0 1 2) none (ao cy (ao dc (ae 0) (ao bS (ae 3) (ae 1))) (ae 2)) 3 [7]) [some (.sh (.int c)),some (.sh (tI one)),some (.sh (.lst (Ls.map tI))),some (.sh (lI sizes)),some (.ow (o.map PV.int)),some (.sh (.int (k:Int))),some (.sh (tI l)),some (.sh (.int (t%1000))),y8]=M.ok ((oy sizes o l (t%1000)).map PV.int):=λy8=>by
   refine A0 (xs:=o.map PV.int) rfl ?_
   dsimp? [ni,z3,List.length_map,av z1,k1]
  obtain⟨b1,b2,_⟩:=xW S (t:=t%1000) ho.1 a1
  dsimp? [bC,e3,aS (i:=t) (j:=1000) (by decide),lo]
  exact⟨_,rfl,oy sizes o l (t%1000),_,_,_,rfl,⟨b1,b2⟩,λz h=>hz z (List.mem_cons_of_mem _ h)⟩
 ·rintro env ⟨o,y5,y6,y7,rfl,ho,_⟩
  have hl:=ho.1
  by_cases h1':mx c 1%4=1
  ·obtain⟨j,hj⟩:=Int.eq_ofNat_of_zero_le (Int.emod_nonneg (mx c 2) (show (sizes.length:Int)≠0 by omega))
   have hj2:j<sizes.length:=by have:=Int.emod_lt_of_pos (mx c 2) (show (0:Int)<sizes.length by omega);omega
   have b:=jP S j hj2
   have ix:aV (.lst (o.map PV.int)) (.int (j:Int))=M.ok (.int (vf o j)):=pC (xs:=o) (by omega)
   dsimp? [e1,m4,h1',decide_true,e2,aS (i:=mx c 2) (j:=(sizes.length:Int)) (by omega),hj,GY,qk,ownAt,ni,ix,pC (xs:=sizes) hj2,aS (i:=vf o j+1) (j:=vf sizes j) (by omega),u4,qx (i:=4) (xs:=o) (j:=j) (by omega)]
   refine⟨_,rfl,o.set j ((vf o j+1)%vf sizes j),rfl,by simpa using hl,λi hi=>?_⟩
   rw[nv (by omega)]
   split
   ·rename_i z;subst z;exact⟨Int.emod_nonneg _ (by omega),Int.emod_lt_of_pos _ (by omega)⟩
   ·exact ho.2 i hi
  ·dsimp? [e1,m4,h1',decide_false]
   exact⟨_,rfl,o,rfl,ho⟩
end
section
variable{ns:List Int}{sizes:List Int}{raw Ls:List (List Int)}{T:List Row}{idle:List (List Int)}{P W:List Int}
theorem Me:xP (λc=>c==cS) "pulls" (way P)=M.ok (tI P):=ke (beq_self_eq_true _) rfl
theorem Nk:xP (λc=>c==de) "weights" (bar W)=M.ok (tI W):=ke (beq_self_eq_true _) rfl
theorem kU:yH (λ_=>false) (ma f7 gb) (ma j5 kj) (way P)=M.ok (.bl true):=by
 show dZ ((ma f7 gb cS).map .bl)=_
 rw[show ma f7 gb cS=some true by decide];rfl
theorem mi:yH (λ_=>false) (ma f7 gb) (ma j5 kj) (bar W)=M.ok (.bl false):=by
 show dZ ((ma f7 gb de).map .bl)=_
 rw[show ma f7 gb de=some false by decide];rfl
theorem DP:yH (λ_=>false) (ma mM mQ) (ma tD uR) (bar W)=M.ok (.bl true):=by
 show dZ ((ma mM mQ de).map .bl)=_
 rw[show ma mM mQ de=some true by decide];rfl
def Bl(sizes:List Int)(T:List Row)(one other:List Int):Prop:=G sizes.length (vf sizes) (DD T) sizes.length 0 (vf (ad sizes other one (-1)))
theorem J1(Q:mV ns sizes raw Ls T idle){one other:List Int}(h1:Kp sizes one)(h2:Kp sizes other) :
  (Bl sizes T one other/\dM [eG sizes Ls,.lst (Ls.map tI),lI sizes,tI one,tI other]=M.ok (way (told sizes Ls T idle (ad sizes other one (-1))))) ∨
  (¬ Bl sizes T one other/\∃ W,dM [eG sizes Ls,.lst (Ls.map tI),lI sizes,tI one,tI other]=M.ok (bar W)):=by
 have S:=Q.S
 have m8:=Q.m8
 obtain⟨ak,_⟩:=r0 (t:=-1) S h2.1 h1.1
 have eg:=IH S h1.1 h2.1
 rcases C6 Q h1 h2 with ⟨g,eb⟩ | ⟨ng,c,W,hc,w,eb,nd⟩
 ·obtain⟨et,tl,led,tn⟩:=mr (k:=Ls.length+1) S m8 Q.st (by omega) Q.I ak.Jb ak.2 g
  refine .inl ⟨g,?_⟩
  unfold dM ff
  dsimp? [eb,eg,kU,fD,Me,Dh Q ak tl (Fq Q.I tl tn) led]
 ·refine .inr ⟨ng,W,?_⟩
  unfold dM ff
  dsimp? [eb,eg,mi,DP,fD,Nk,ES Q ak w nd]
theorem iA(Q:mV ns sizes raw Ls T idle){xs:List Int}(h:Kp sizes xs):c7 [eG sizes Ls,tI xs]=M.ok (tI (lst sizes Ls T xs)):=by
 unfold c7 gY
 dsimp? [Q.E7,bX,oF (m := "least") rfl,qt (idle:=idle) Q.S Q.m8 Q.st (show Ls.length+1<=9 by have:=Q.m8;omega) h.1 h.2]
theorem Ht(Q:mV ns sizes raw Ls T idle){xs:List Int}(h:Kp sizes xs):Kp sizes (lst sizes Ls T xs):=⟨(du Q.st h.1 h.2).1,(du Q.st h.1 h.2).2.2.1⟩
theorem Bm(Q:mV ns sizes raw Ls T idle){one other:List Int}(h1:Kp sizes one)(h2:Kp sizes other):Bl sizes T one other ↔ G sizes.length (vf sizes) (DD T) sizes.length 0 (λi=>vf other i-vf one i):=by
 obtain⟨_,a⟩:=r0 (t:=-1) Q.S h2.1 h1.1
 constructor
 ·intro g
  refine Q.st.gd.qK (by omega) (λi hi=>?_) g
  obtain⟨x,hx⟩:=a i hi
  exact⟨-x,by rw[Int.mul_neg,← hx];omega⟩
 ·intro g
  refine Q.st.gd.qK (by omega) (λi hi=>?_) g
  obtain⟨x,hx⟩:=a i hi
  exact⟨x,by rw[← hx];omega⟩
theorem Ca(Q:mV ns sizes raw Ls T idle){d:List Int}(h:Kp sizes d):lst sizes Ls T d=List.replicate sizes.length 0 ↔ G sizes.length (vf sizes) (DD T) sizes.length 0 (vf d):=by
 obtain⟨b1,b2,b3,b4⟩:=du Q.st h.1 h.2
 constructor
 ·intro z
  exact G.ext (by omega) (λi hi=>by rw[z,e8];omega) b4
 ·intro gx
  refine lC (by simpa using b1) λi hi=>?_
  have g:=Q.st.gd.sub (by omega) gx b4
  have:=G.diff Q.st.gd sizes.length 0 (λi=>vf (lst sizes Ls T d) i) (by omega) (λi hi=>by have:=b3 i hi;omega) (λi _ hi=>by have:=b2 i hi;omega) (G.ext (by omega) (λi _=>by omega) g) i (by omega)
  rw[e8];exact this
theorem wo(Q:mV ns sizes raw Ls T idle){one other:List Int}(h1:Kp sizes one)(h2:Kp sizes other):lst sizes Ls T one=lst sizes Ls T other ↔ Bl sizes T one other:=by
 rw[Bm Q h1 h2]
 obtain⟨_,_,_,b4⟩:=du Q.st h1.1 h1.2
 obtain⟨_,_,_,c4⟩:=du Q.st h2.1 h2.2
 constructor
 ·intro e
  rw[e] at b4
  exact G.ext (by omega) (λi hi=>by omega) (Q.st.gd.sub (by omega) c4 b4)
 ·intro g
  exact(HR Q.st h2.1 h2.2 h1.1 h1.2 g).symm
theorem zU(Q:mV ns sizes raw Ls T idle){one other:List Int}(h1:Kp sizes one)(h2:Kp sizes other):∃ b:Bool,jY [eG sizes Ls,tI one,tI other]=M.ok (.bl b)/\(b=true ↔ Bl sizes T one other):=by
 obtain⟨ak,_⟩:=r0 (t:=-1) Q.S h2.1 h1.1
 refine⟨decide (lst sizes Ls T (ad sizes other one (-1))=List.replicate sizes.length 0),?_,?_⟩
 ·unfold jY mz
  dsimp? [pO (Ls:=Ls) Q.S h1 h2,Q.E7,bX,oF (m := "least") rfl,qt (idle:=idle) Q.S Q.m8 Q.st (show Ls.length+1<=9 by have:=Q.m8;omega) ak.1 ak.2,iY (Ls:=Ls) Q.S.h6,pD]
 ·rw[decide_eq_true_iff]
  exact Ca Q ak
theorem Ad(Q:mV ns sizes raw Ls T idle){one:List Int}(h1:Kp sizes one):dX [eG sizes Ls,.lst (Ls.map tI),lI sizes,tI one]=M.ok (.bl true):=by
 have hl:=Ht Q h1
 obtain⟨b1,b2,b3,b4⟩:=du Q.st h1.1 h1.2
 have g:Bl sizes T one (lst sizes Ls T one):=(Bm Q h1 hl).mpr (G.ext (by omega) (λi _=>by omega) (JR Q.st b4))
 have e2:lst sizes Ls T (lst sizes Ls T one)=lst sizes Ls T one:=((wo Q h1 hl).mpr g).symm
 have nk:=ji (lst sizes Ls T one) (by rw[b1];have:=Q.S.h6;omega)
 rw[b1] at nk
 have le:=iA Q hl
 rw[e2] at le
 rcases J1 Q h1 hl with ⟨_,ew⟩ | ⟨ng,_⟩
 ·unfold dX fF
  dsimp? [iA Q h1,nk,le,xO,decide_true,ew,kU]
 ·exact(ng g).elim
theorem G.at_{n:Nat}{s:cv}{D:Nat->cv}{j:Nat}:∀ {k d:Nat} {v:cv},G n s D k d v->(∀ i,d<=i->i<j->v i=0)->d<=j->j<d+k->a0 s D j∣v j
 | 0,d,v,_,_,h1,h2=>by omega
 | k+1,d,v,g,h0,h1,h2=>by
  rcases Nat.lt_or_eq_of_le h1 with q | q
  ·have z:=h0 d (Nat.le_refl _) q
   have e:(λi=>v i-v d/a0 s D d*D d i)=v:=by funext i;rw[z];simp
   have g2:=g.2
   rw[e] at g2
   exact G.at_ g2 (λi a b=>h0 i (by omega) b) (by omega) (by omega)
  ·subst q;exact g.1
theorem n9:∀ (a b:List Int),a.length=b.length->(∀ j,j<a.length->(∀ i,i<j->vf a i=vf b i)->vf b j<=vf a j)->HT.lexLt a b=false
 | [],[],_,_=>rfl
 | [],_::_,h,_=>by simp at h
 | _::_,[],h,_=>by simp at h
 | x::xs,y::ys,h,k=>by
  rw[HT.lG]
  have k0:=k 0 (by simp) (λi hi=>by omega)
  have e0:vf (x::xs) 0=x/\vf (y::ys) 0=y:=⟨rfl,rfl⟩
  rw[e0.1,e0.2] at k0
  by_cases e:x=y
  ·rw[if_pos e]
   refine n9 xs ys (by simpa using h) λj hj hh=>?_
   have:=k (j+1) (by simpa using hj) λi hi=>by
    cases i with
    | zero=>rw[e0.1,e0.2];exact e
    | succ i=>exact hh i (by omega)
   exact this
  ·rw[if_neg e];exact decide_eq_false (by omega)
theorem Bp(Q:mV ns sizes raw Ls T idle){xs:List Int}(h:Kp sizes xs):HT.lexLe (lst sizes Ls T xs) xs=true:=by
 obtain⟨b1,b2,b3,b4⟩:=du Q.st h.1 h.2
 unfold HT.lexLe
 rw[n9 xs _ (by rw[b1,h.1]) λj hj hh=>?_]
 ·rfl
 ·rw[h.1] at hj
  obtain⟨x,hx⟩:=G.at_ b4 (j:=j) (λi _ hi=>by rw[hh i hi];omega) (Nat.zero_le _) (by omega)
  have c1:=b2 j hj
  have c2:=(h.2 j hj).1
  have p:=(Q.st.gd.pos hj).1
  rcases(show x<0\/0<=x by omega) with z | z
  ·have:a0 (vf sizes) (DD T) j*x<=a0 (vf sizes) (DD T) j*(-1):=Int.mul_le_mul_of_nonneg_left (by omega) (by omega)
   omega
  ·have:=Int.mul_nonneg (show 0<=a0 (vf sizes) (DD T) j by omega) z
   omega
end
section
variable{ns:List Int}{sizes:List Int}{raw Ls:List (List Int)}{T:List Row}{idle:List (List Int)}{P W:List Int}
theorem Es(Q:mV ns sizes raw Ls T idle){P P':List Int}{v:cv}(hP:P.length=Ls.length)(hP':P'.length=Ls.length)(n1:∀ l,l<Ls.length->0<=vf P l/\vf P l<II idle l l)(n2:∀ l,l<Ls.length->0<=vf P' l/\vf P' l<II idle l l)
  (d1:Led sizes.length (vf sizes) Ls.length (AA Ls) v (vf P)) (d2:Led sizes.length (vf sizes) Ls.length (AA Ls) v (vf P')):P=P':=by
 have led:Led sizes.length (vf sizes) Ls.length (AA Ls) (λ_=>0) (λl=>vf P l-vf P' l):=Led.mix (a:=1) (b:=-1) d1 d2 (λi hi=>⟨0,by omega⟩) λl _=>by omega
 have key:∀ c,c<=Ls.length->∀ l,Ls.length-c<=l->l<Ls.length->vf P l-vf P' l=0:=by
  intro c
  induction c with
  | zero=>intro _ l h1 h2;omega
  | succ c ih =>
   intro hc l h1 h2
   by_cases z:Ls.length-c<=l
   ·exact ih (by omega) l z h2
   ·have dv:=Q.ord l h2 (λl=>vf P l-vf P' l) (λl' a b=>ih (by omega) l' (by omega) b) led
    have a:=n1 l h2
    have b:=n2 l h2
    exact mT dv (by omega) (by omega)
 refine lC (by omega) λl hl=>?_
 have:=key Ls.length (Nat.le_refl _) l (by omega) (by omega)
 omega
theorem zK(Q:mV ns sizes raw Ls T idle)(hP:P.length=Ls.length)(nf:∀ l,l<Ls.length->0<=vf P l/\vf P l<II idle l l):kc [eG sizes Ls,tI P]=M.ok (tI P):=by
 have S:=Q.S
 have m8:=Q.m8
 obtain⟨_,e,F,rfl,hF,ld⟩:=uZ Q (xs:=List.replicate sizes.length 0) ⟨by simp,C4 S⟩ hP (Fq Q.I hP nf)
 have ld':Led sizes.length (vf sizes) Ls.length (AA Ls) (vf F) (vf P):=λi hi=>by
  obtain⟨x,hx⟩:=ld i hi
  simp only[e8,Int.sub_zero] at hx
  exact⟨x,hx⟩
 obtain⟨et,tl,led,tn⟩:=mr (k:=Ls.length+1) S m8 Q.st (by omega) Q.I hF.Jb hF.2 (Kw Q.st (by omega) ld')
 rw[Es Q tl hP tn nf led ld'] at et
 unfold kc l4
 dsimp? [iY (Ls:=Ls) S.h6,e,Q.E7,bX,oF (m := "pulls_to") rfl,et]
theorem mJ{xs:List Int}(hx:∀ x∈xs,0<x/\x<2^60):∀ c,c<=xs.length->0<aT c (vf xs)/\aT c (vf xs)<2^(60*c+1)
 | 0,_=>⟨show (0:Int)<1 by decide,show (1:Int)<2^1 by decide⟩
 | c+1,h=>by
  obtain⟨a,b⟩:=mJ hx c (by omega)
  have q:=hx (vf xs c) (by rw[aH (by omega)];exact List.getElem_mem _)
  show 0<aT c (vf xs)*vf xs c/\aT c (vf xs)*vf xs c<_
  refine⟨Int.mul_pos a q.1,?_⟩
  have e:(2:Int)^(60*(c+1)+1)=2^(60*c+1)*2^60:=by rw[show 60*(c+1)+1=60*c+1+60 by omega,Int.pow_add]
  rw[e]
  exact Int.lt_of_lt_of_le (Int.mul_lt_mul_of_pos_right b q.1) (Int.mul_le_mul_of_nonneg_left (by omega) (Int.le_of_lt (Int.lt_trans a b)))
theorem mS{a:Int}{k:Nat}(h:0<a/\a<2^k):a.natAbs<2^k:=by
 have:(a.natAbs:Int)<((2^k:Nat):Int):=by
  rw[Int.natAbs_of_nonneg (by omega)];push_cast;exact h.2
 exact Int.ofNat_lt.mp this
theorem pq{xs:List Int}(hl:xs.length<=8)(hx:∀ x∈xs,0<x/\x<2^60):eQ [tI xs]=M.ok (.int (aT xs.length (vf xs))):=by
 refine jZ.eq ?_
 unfold eQ eO
 dsimp? []
 refine jZ.loop (xs:=xs) (inj:=PV.int) (λzs env=>∃ (c:Nat) (y:Option SV),env=[some (.sh (tI xs)),some (.sh (.int (aT c (vf xs)))),y]/\zs=xs.drop c/\c<=xs.length) ⟨0,_,rfl,rfl,by omega⟩ ?_ ?_
 ·rintro a r env ⟨c,y,rfl,hd,hc⟩
  obtain⟨c1,c2,c3⟩:=drop_cons hd.symm
  rw[List.getElem?_eq_getElem c1] at c2
  have e2:xs[c]=a:=Option.some.inj c2
  have ha:=hx a (by rw[← e2];exact List.getElem_mem _)
  have b:=mS (mJ hx c hc)
  have b':(aT c (vf xs)).natAbs<2^490:=Nat.lt_of_lt_of_le b (Nat.pow_le_pow_right (by decide) (by omega))
  have ep:aT c (vf xs)*a=aT (c+1) (vf xs):=by show _=aT c (vf xs)*vf xs c;rw[aH c1,e2]
  dsimp? [b_,bf (i:=aT c (vf xs)) (j:=a) (k:=490) (l:=60) b' (mS ha),ep]
  exact⟨_,rfl,c+1,_,rfl,c3.symm,by omega⟩
 ·rintro env ⟨c,y,rfl,hd,hc⟩
  have:=congrArg List.length hd
  rw[List.length_drop] at this
  simp at this
  obtain rfl:c=xs.length:=by omega
  dsimp? []
  exact⟨_,rfl,rfl⟩
theorem n_(Q:mV ns sizes raw Ls T idle):(Dr idle).length=Ls.length/\(∀ x∈Dr idle,0<x/\x<2^60)/\aT Ls.length (vf (Dr idle))=aT Ls.length λj=>II idle j j:=by
 have il:=Q.I.len
 refine⟨by rw[oY,il],λx hx=>?_,fc λj hj=>C9 (by omega)⟩
 obtain⟨i,hi,rfl⟩:=List.mem_iff_getElem.mp hx
 rw[oY,il] at hi
 have:=C9 (idle:=idle) (i:=i) (by omega)
 rw[aH (by rw[oY];omega)] at this
 rw[this]
 exact⟨Q.I.pos i hi,Q.I.le i hi⟩
theorem u6(Q:mV ns sizes raw Ls T idle):dQ [eG sizes Ls]=M.ok (.int (aT Ls.length λj=>II idle j j)):=by
 obtain⟨a,b,c⟩:=n_ Q
 have p:=pq (xs:=Dr idle) (by have:=Q.m8;omega) b
 rw[a,c] at p
 unfold dQ dP
 dsimp? [Q.E7,bX,oF (m := "spans") rfl,Ak (R:=T) Q.m8 Q.I,p]
theorem nR(Q:mV ns sizes raw Ls T idle):(∀ x∈kA sizes T,0<x/\x<2^60)/\aT sizes.length (vf (kA sizes T))=aT sizes.length (a0 (vf sizes) (DD T)):=by
 refine⟨λx hx=>?_,fc λj hj=>o3 hj⟩
 obtain⟨i,hi,rfl⟩:=List.mem_iff_getElem.mp hx
 rw[d_] at hi
 have:=o3 (sizes:=sizes) (R:=T) hi
 rw[aH (by rw[d_];exact hi)] at this
 rw[this]
 have a:=Q.st.gd.pos hi
 have b:=jP Q.S i hi
 omega
theorem AG(Q:mV ns sizes raw Ls T idle):fH [eG sizes Ls]=M.ok (.int (aT sizes.length (a0 (vf sizes) (DD T)))):=by
 obtain⟨b,c⟩:=nR Q
 have p:=pq (xs:=kA sizes T) (by rw[d_];have:=Q.S.h6;omega) b
 rw[d_,c] at p
 unfold fH fL
 dsimp? [Q.E7,bX,oF (m := "steps") rfl,u7 (idle:=idle) Q.S Q.st,p]
end
def tl:af->M Out :=
 (aq (aX 7 (ai dM (aa (ae 0) (aa (ae 1) (aa (ae 2) (aa (ae 4) (aa (ae 5) aj)))))))
 (aq (aX 8 (rT (λ_=>false) (ma f7 gb) (ma j5 kj) (ae 7)))
 (aq (aX 9 (ao cy (ai aL (aa (ae 3) (aa (λ_=>M.ok (.int 3)) aj))) (λ_=>M.ok (.int 4))))
 (aq (iO (ET (dm (ao uE (ae 7) (λ_=>M.ok .cR))) (zc (dm (ao j7 (ae 9) (λ_=>M.ok (.int 0)))) (jv (dm (ai dX (aa (ae 0) (aa (ae 1) (aa (ae 2) (aa (ae 4) aj))))))))) (aq (retS (λ_=>M.ok (.bl false)))
 ar) ar)
 (aq (iO (dm (ao j7 (ae 9) (λ_=>M.ok (.int 1)))) (aq (retS (ai fY (aa (ai jY (aa (ae 0) (aa (ae 4) (aa (ae 5) aj)))) (aa (ae 8) aj))))
 ar) ar)
 (aq (iO (dm (ao j7 (ae 9) (λ_=>M.ok (.int 2)))) (aq (aX 10 (ai c7 (aa (ae 0) (aa (ae 4) aj))))
 (aq (retS (pM (ao j7 (ao j7 (ae 10) (ai c7 (aa (ae 0) (aa (ae 5) aj)))) (ae 8)) (Ja (vC (ae 8)) (ao Im (ae 10) (ai CC (aa (ae 4) (aa (ae 5) aj)))))))
 ar)) ar)
 (aq (retS (Ja (vC (ae 8)) (ao j7 (ai kc (aa (ae 0) (aa (dy (λc=>c==cS) "pulls" (ae 7)) aj))) (dy (λc=>c==cS) "pulls" (ae 7)))))
 ar)))))))
theorem DJ:ij=(aq (aX 4 (ai cV (aa (ae 3) (aa (λ_=>M.ok (.int 1)) (aa (ae 2) aj)))))
 (aq (aX 5 (ai eM (aa (ae 3) (aa (ae 4) (aa (ae 1) (aa (ae 2) aj))))))
 (aq (iO (dm (ao j7 (ao cy (ae 3) (λ_=>M.ok (.int 2))) (λ_=>M.ok (.int 1)))) (aq (aX 6 (ai cO (aa (ao cQ (ae 3) (λ_=>M.ok (.int 2))) (aa (ao dc (ae 2) (ae 2)) aj))))
 (aq (aX 4 (ai cx (aa (jc (ae 6) vT (iG (ai dj (aa (ae 2) aj)))) aj)))
 (aq (aX 5 (ai cx (aa (jc (ae 6) (iG (ai dj (aa (ae 2) aj))) vT) aj)))
 ar))) ar)
 tl))):=rfl
section
variable{ns:List Int}{sizes:List Int}{raw Ls:List (List Int)}{T:List Row}{idle:List (List Int)}{P W:List Int}
theorem my(xs:List Int):n6 (tI xs)=some xs:=nI xs
theorem AH(xs ys:List Int):Im (tI xs) (tI ys)=M.ok (.bl (HT.lexLe xs ys)):=by
 unfold Im
 rw[my,my]
theorem EH(xs ys:List Int):CC [tI xs,tI ys]=M.ok (if HT.lexLt ys xs then tI ys else tI xs):=by
 show (match n6 (tI xs),n6 (tI ys) with | some ns,some ms=>M.ok (if HT.lexLt ms ns then tI ys else tI xs) | _,_=>none)=_
 rw[my,my]
theorem four(c:Int):c%4=0\/c%4=1\/c%4=2\/c%4=3:=by omega
theorem FE(Q:mV ns sizes raw Ls T idle){one other:List Int}(h1:Kp sizes one)(h2:Kp sizes other)(c:Int)(y6:Option SV) :
  tl [some (.sh (eG sizes Ls)),some (.sh (.lst (Ls.map tI))),some (.sh (lI sizes)),some (.sh (.int c)),some (.sh (tI one)),some (.sh (tI other)),y6,none,none,none,none]=M.ok (.rt (.bl true)):=by
 obtain⟨e3,_,_⟩:=Ab c 3 (by decide)
 have m4:=aS (i:=mx c 3) (j:=4) (by decide)
 have st:=Ad Q h1
 have le1:=iA Q h1
 have le2:=iA Q h2
 obtain⟨b,eb,ib⟩:=zU Q h1 h2
 have sm:=wo Q h1 h2
 obtain⟨ak,_⟩:=r0 (t:=-1) Q.S h2.1 h1.1
 unfold tl
 rcases J1 Q h1 h2 with ⟨g,ew⟩ | ⟨ng,W,ew⟩
 ·obtain⟨et,tl',led,tn⟩:=mr (k:=Ls.length+1) Q.S Q.m8 Q.st (by have:=Q.m8;omega) Q.I ak.Jb ak.2 g
  have nk:=zK Q tl' tn
  generalize told sizes Ls T idle (ad sizes other one (-1))=P at *
  obtain rfl:=ib.mpr g
  have es:=sm.mpr g
  have n0:uE (way P) .cR=M.ok (.bl false):=rfl
  have bo:fY [.bl true,.bl true]=M.ok (.bl true):=rfl
  rcases four (mx c 3) with q | q | q | q
  ·dsimp? [ew,kU,e3,m4,q,n0,decide_true,decide_false,st,show ¬ (0:Int)=1 by decide,show ¬ (0:Int)=2 by decide,fD,Me,nk,pD]
  ·dsimp? [ew,kU,e3,m4,q,n0,decide_true,decide_false,show ¬ (1:Int)=0 by decide,eb,bo]
  ·have lm:Im (tI (lst sizes Ls T one)) (if HT.lexLt other one then tI other else tI one)=M.ok (.bl true):=by
    split
    ·rw[AH,es,Bp Q h2]
    ·rw[AH,Bp Q h1]
   dsimp? [ew,kU,e3,m4,q,n0,decide_true,decide_false,show ¬ (2:Int)=0 by decide,show ¬ (2:Int)=1 by decide,le1,le2,pD,es.symm,xH,EH,lm]
  ·dsimp? [ew,kU,e3,m4,q,n0,decide_true,decide_false,show ¬ (3:Int)=0 by decide,show ¬ (3:Int)=1 by decide,show ¬ (3:Int)=2 by decide,fD,Me,nk,pD]
 ·have n0:uE (bar W) .cR=M.ok (.bl false):=rfl
  obtain rfl:b=false:=by
   cases b with
   | false=>rfl
   | true=>exact(ng (ib.mp rfl)).elim
  have es:¬ lst sizes Ls T one=lst sizes Ls T other:=λe=>ng (sm.mp e)
  have bo:fY [.bl false,.bl false]=M.ok (.bl true):=rfl
  rcases four (mx c 3) with q | q | q | q
  ·dsimp? [ew,mi,e3,m4,q,n0,decide_true,decide_false,st,show ¬ (0:Int)=1 by decide,show ¬ (0:Int)=2 by decide]
  ·dsimp? [ew,mi,e3,m4,q,n0,decide_true,decide_false,show ¬ (1:Int)=0 by decide,eb,bo]
  ·dsimp? [ew,mi,e3,m4,q,n0,decide_true,decide_false,show ¬ (2:Int)=0 by decide,show ¬ (2:Int)=1 by decide,le1,le2,pD,es,xH]
  ·dsimp? [ew,mi,e3,m4,q,n0,decide_true,decide_false,show ¬ (3:Int)=0 by decide,show ¬ (3:Int)=1 by decide,show ¬ (3:Int)=2 by decide]
end
theorem v9(xs:List Int)(n:Nat)(h:n<=xs.length):IF (lI xs) none (some (n:Int))=M.ok (lI (xs.take n)):=by
 have e1:HT.da (xs.map PV.int).length (xs.map PV.int).length (some (n:Int))=n:=by
  rw[List.length_map]
  unfold HT.da
  simp
  split <;> omega
 have e0:HT.da (xs.map PV.int).length 0 none=0:=rfl
 show M.ok (PV.lst (la (xs.map PV.int) none (some (n:Int))))=_
 rw[la,e1,e0,List.drop_zero,Nat.sub_zero,lI,List.map_take]
theorem A8(xs:List Int)(n:Nat)(h:n<=xs.length):IF (lI xs) (some (n:Int)) none=M.ok (lI (xs.drop n)):=by
 have e1:HT.da (xs.map PV.int).length 0 (some (n:Int))=n:=by
  rw[List.length_map]
  unfold HT.da
  simp
  split <;> omega
 have e0:HT.da (xs.map PV.int).length (xs.map PV.int).length none=xs.length:=by rw[List.length_map];rfl
 show M.ok (PV.lst (la (xs.map PV.int) (some (n:Int)) none))=_
 rw[la,e1,e0,lI,List.map_drop,List.take_of_length_le (by simp)]
theorem Kl(xs:List Int):∃ n,n<=3/\(1<=xs.length->1<=n)/\n<=xs.length/\IF (lI xs) none (some 3)=M.ok (lI (xs.take n)):=by
 rcases Nat.lt_or_ge xs.length 3 with h | h
 ·refine⟨xs.length,by omega,by omega,by omega,?_⟩
  have e1:HT.da (xs.map PV.int).length (xs.map PV.int).length (some 3)=xs.length:=by
   rw[List.length_map]
   unfold HT.da
   simp
   omega
  have e0:HT.da (xs.map PV.int).length 0 none=0:=rfl
  show M.ok (PV.lst (la (xs.map PV.int) none (some 3)))=_
  rw[la,e1,e0,List.drop_zero,Nat.sub_zero,lI,List.map_take]
 ·exact⟨3,by omega,by omega,h,v9 xs 3 h⟩
section
variable{ns:List Int}{sizes:List Int}{raw Ls:List (List Int)}{T:List Row}{idle:List (List Int)}{P W:List Int}
theorem ER(Q:mV ns sizes raw Ls T idle)(c:Int):hZ [eG sizes Ls,.lst (Ls.map tI),lI sizes,.int c]=M.ok (.bl true):=by
 have S:=Q.S
 have l6:=S.h6
 obtain⟨_,e1,one,rfl,h1⟩:=pN S c 1 (by decide)
 obtain⟨_,e2,other,rfl,h2⟩:=Bs Q c h1
 have m2:=aS (i:=c) (j:=2) (by decide)
 unfold hZ
 rw[DJ]
 by_cases z:c%2=1
 ·have ea:dc (lI sizes) (lI sizes)=M.ok (lI (sizes++sizes)):=by
   rw[lI,dc,av (aQ (by simp;omega)),lI,List.map_append]
  obtain⟨_,ed,xs,rfl,xl,xb⟩:=mZ (c/2) (lI (sizes++sizes)) (sizes++sizes) rfl (λb hb=>by
   have:=S.hx b (by rcases List.mem_append.mp hb with q | q <;> exact q)
   omega) (by simp;omega)
  have xl':xs.length=sizes.length+sizes.length:=by simpa using xl
  have k1:Kp sizes (xs.take sizes.length):=⟨by simp;omega,λi hi=>by
   have:=xb i (by simp;omega)
   rw[aH (by omega),aH (by simp;omega),List.getElem_append_left hi] at this
   rw[aH (by simp;omega),aH hi,List.getElem_take]
   exact this⟩
  have k2:Kp sizes (xs.drop sizes.length):=⟨by simp;omega,λi hi=>by
   have:=xb (sizes.length+i) (by simp;omega)
   rw[aH (by omega),aH (by simp;omega),List.getElem_append_right (by omega)] at this
   rw[aH (by simp;omega),aH hi,List.getElem_drop]
   simpa using this⟩
  dsimp? [e1,e2,m2,z,decide_true,bB (i:=c) (j:=2) (by decide) (by decide),ea,ed,jc,vT,iG,Hn,v9 xs sizes.length (by omega),A8 xs sizes.length (by omega),show ∀ zs:List Int,PV.tup (zs.map PV.int)=tI zs from λ_=>rfl,FE Q k1 k2]
 ·dsimp? [e1,e2,m2,z,decide_false,FE Q h1 h2]
end
theorem Ij(ns:List Int):sU [.jW (ns.map PV.int)]=M.ok (.bl true):=by
 obtain⟨c0,ec⟩:=sX ns 0
 rw[show ((0:Nat):Int)=0 from rfl] at ec
 obtain⟨c1,ec1⟩:=sX ns 1
 rw[show ((1:Nat):Int)=1 from rfl] at ec1
 obtain⟨_,es,xs,rfl,S0⟩:=AJ c0
 obtain⟨n3,n31,n32,n33,e3⟩:=Kl xs
 have x1:=S0.h1
 obtain⟨sizes,hs⟩:∃ sizes,xs.take n3=sizes:=⟨_,rfl⟩
 rw[hs] at e3
 have S:Sz sizes:=by
  subst hs
  exact⟨by simp;omega,by simp;omega,λx hx=>S0.hx x (List.mem_of_mem_take hx)⟩
 have l6:=S.h6
 obtain⟨em,m0,m1⟩:=Ab c1 1 (by decide)
 obtain⟨n,hn⟩:=Int.eq_ofNat_of_zero_le (show 0<=mx c1 1%5 by omega)
 have n4:n<=4:=by omega
 obtain⟨f,hf⟩:=Classical.axiomOfChoice (r:=λ(i:Nat) (l:List Int)=>(∃ c,cX [.jW (ns.map PV.int),.int (2+(i:Int))]=M.ok (.int c)/\dO [.int c,lI sizes]=M.ok (lI l))/\l.length=sizes.length/\Bd 200 l) λi=>by
  obtain⟨c,e⟩:=sX ns (2+i)
  rw[show ((2+i:Nat):Int)=2+(i:Int) by omega] at e
  obtain⟨_,el,l,rfl,h1,h2⟩:=Ay S c
  exact⟨l,⟨c,e,el⟩,h1,h2⟩
 let raw:=(List.range n).map f
 have hr:∀ l∈raw,l.length=sizes.length/\Bd 200 l:=λl hl=>by
  obtain⟨i,_,rfl⟩:=List.mem_map.mp hl
  exact(hf i).2
 have rl:raw.length=n:=by simp[raw]
 obtain⟨Ls,T,idle,Q⟩:=mV.get ns S (raw:=raw) (by omega) hr
 have kl:bp (b_ 0) none (ai dO (aa (ai cX (aa (ae 1) (aa (ao dc (λ_=>M.ok (.int 2)) (ae 0)) aj))) (aa (ae 2) aj))) ((List.range n).map λ(i:Nat)=>.int (i:Int)) [none,some (.sh (.jW (ns.map PV.int))),some (.sh (lI sizes))]=M.ok (raw.map lI):=by
  rw[show raw.map lI=(List.range n).map λi=>lI (f i) by simp[raw]]
  refine g8 (inj:=λ(i:Nat)=>PV.int (i:Int)) (List.range n) λi hi=>?_
  obtain⟨c,e,el⟩:=(hf i).1
  dsimp? [e,el]
 have kk:bp (b_ 0) none (ai fO (aa (ae 0) (aa (ae 1) aj))) (raw.map lI) [none,some (.sh (lI sizes))]=M.ok (Ls.map tI):=by
  rw[Q.eL,show (raw.map λl=>wq l sizes).map tI=raw.map λl=>tI (wq l sizes) by rw[List.map_map];rfl]
  refine g8 (inj:=lI) raw λl hl=>?_
  dsimp? [EO S (hr l hl).1]
 have zr:(List.range n).length<=sizeLine:=by rw[List.length_range];exact aQ (by omega)
 have zl:raw.length<=sizeLine:=by rw[rl];exact aQ (by omega)
 have cs:IF (.jW (ns.map PV.int)) (some 7) (some 63)=M.ok (.lst ((yu ns 7 63).map PV.int)):=E8 ns 7 63
 refine jZ.eq ?_
 unfold sU Bh
 dsimp? [ec,es,jc,vT,iG,Hn,e3,ec1,em,aS (i:=mx c1 1) (j:=5) (by decide),hn,i4 (n:=(n:Int)) (by omega) (by omega),Int.toNat_natCast,List.length_map,av zr,kl,show PV.lst (sizes.map PV.int)=lI sizes from rfl,Q.L_,av zl,kk,cs]
 refine jZ.loop (xs:=yu ns 7 63) (inj:=PV.int) (λzs env=>∃ y6,env=[some (.sh (.jW (ns.map PV.int))),some (.sh (lI sizes)),some (.sh (.int (n:Int))),some (.sh (.lst (raw.map lI))),some (.sh (eG sizes Ls)),some (.sh (.lst (Ls.map tI))),y6,none,none,none]) ⟨_,rfl⟩ ?_ ?_
 ·rintro a r env ⟨y6,rfl⟩
  dsimp? [b_,ER Q a]
  exact⟨_,rfl,_,rfl⟩
 rintro env ⟨y6,rfl⟩
 dsimp? []
 have sx:∀ x∈sizes,0<x/\x<2^60:=λx hx=>by have:=S.hx x hx;omega
 refine jZ.loop (xs:=sizes) (inj:=PV.int) (λzs env=>∃ (c:Nat) (y:Option SV),env=[some (.sh (.jW (ns.map PV.int))),some (.sh (lI sizes)),some (.sh (.int (n:Int))),some (.sh (.lst (raw.map lI))),some (.sh (eG sizes Ls)),some (.sh (.lst (Ls.map tI))),y6,some (.sh (.int (aT c (vf sizes)))),y,none]/\zs=sizes.drop c/\c<=sizes.length) ⟨0,_,rfl,rfl,by omega⟩ ?_ ?_
 ·rintro a r env ⟨c,y,rfl,hd,hc⟩
  obtain⟨c1,c2,c3⟩:=drop_cons hd.symm
  rw[List.getElem?_eq_getElem c1] at c2
  have e2:sizes[c]=a:=Option.some.inj c2
  have ha:=sx a (by rw[← e2];exact List.getElem_mem _)
  have b:=mS (mJ sx c hc)
  have b':(aT c (vf sizes)).natAbs<2^490:=Nat.lt_of_lt_of_le b (Nat.pow_le_pow_right (by decide) (by omega))
  have ep:aT c (vf sizes)*a=aT (c+1) (vf sizes):=by show _=aT c (vf sizes)*vf sizes c;rw[aH c1,e2]
  dsimp? [b_,bf (i:=aT c (vf sizes)) (j:=a) (k:=490) (l:=60) b' (mS ha),ep]
  exact⟨_,rfl,c+1,_,rfl,c3.symm,by omega⟩
 rintro env ⟨c,y,rfl,hd,hc⟩
 have:=congrArg List.length hd
 rw[List.length_drop] at this
 simp at this
 obtain rfl:c=sizes.length:=by omega
 have hp:=Q.pr
 obtain⟨sl,sb,se⟩:=n_ Q
 obtain⟨tb,te⟩:=nR Q
 have p1:=mJ sb Ls.length (by omega)
 have p2:=mJ tb sizes.length (by rw[d_];omega)
 rw[se] at p1
 rw[te] at p2
 have to:=u6 Q
 have co:=AG Q
 rw[← hp]
 have m8:=Q.m8
 generalize (aT Ls.length λj=>II idle j j)=A at *
 generalize aT sizes.length (a0 (vf sizes) (DD T))=B at *
 have a1:A.natAbs<2^490:=Nat.lt_of_lt_of_le (mS p1) (Nat.pow_le_pow_right (by decide) (by omega))
 have b1:B.natAbs<2^490:=Nat.lt_of_lt_of_le (mS p2) (Nat.pow_le_pow_right (by decide) (by omega))
 have nk:=ji [A,B] (by simp)
 have nk':bP [.tup [.int A,.int B],.int 2]=M.ok (.bl true):=nk
 have i0:aV (.lst [.int A,.int B]) (.int 0)=M.ok (.int A):=bZ (p:=.lst [.int A,.int B]) (j:=0) rfl rfl
 have i1:aV (.lst [.int A,.int B]) (.int 1)=M.ok (.int B):=bZ (p:=.lst [.int A,.int B]) (j:=1) rfl rfl
 obtain⟨k,ek,hk⟩:∃ k:Int,CG (λi j=>decide (i<j)) [.lst [.int A,.int B]]=M.ok (.int k)/\0<k:=by
  refine⟨_,rfl,?_⟩
  show 0<iz _ [B] A
  simp only[iz]
  split
  ·exact p2.1
  ·exact p1.1
 dsimp? [to,co,nk',ek,hk,decide_true,i0,i1,bf (i:=A) (j:=B) (k:=490) (l:=490) a1 b1]
 exact⟨_,rfl,rfl⟩
end wK
theorem PySem.Challenge.cw_dialvault_k36_whole_one_stands_for_a_cla_holds : PySem.Challenge.rw_dialvault_k36_whole_one_stands_for_a_cla.Holds :=
  wK.hold HD.said λns _ _ => wK.Ij ns
end