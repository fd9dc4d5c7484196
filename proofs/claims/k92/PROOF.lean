import PyProof.Rows.All
import Wide.All
import OpenK.AllK
import Wide.FinOn
import Lean
import PyProof.EqAt
import PyProof.EqKinds
import PyProof.TupleCall
import PySem.Challenge.RW_dialvault_k92_whole_order_of_vaults
set_option Elab.async false
set_option linter.all false
set_option maxRecDepth 100000
set_option maxHeartbeats 0
noncomputable section
theorem aR(h:True:=by rfl):True:=h
theorem aD(h:True:=by decide):True:=h
theorem aI(h:True:=by intro _;rfl):True:=h
theorem aK(h:True:=by kernel_rfl):True:=h
theorem aF(h:True:=by first | exact .inl rfl | exact .inr rfl | assumption):True:=h
theorem aU(h:True:=by with_unfolding_all rfl):True:=h
theorem aN(h:True:=by decide +kernel):True:=h
theorem aG(h:True:=by first | exact .inl rfl | exact .inr rfl):True:=h
namespace L2
open PySem PySem.Spec PyProof.Rows
abbrev Key:=Sum Int Str
def El:Key->Value->Bool
 | .inl k,v=>Value.isInt k v
 | .inr x,v=>Value.isStrOf x v
def Kh(w:World):Key->Int
 | .inl k=>hashInt k
 | .inr x=>hashStr w x
theorem cF:∀ {k:Key} {v:Value},El k v=true->(∃ i t,k=Sum.inl i/\v=Value.int i t)\/(∃ x t,k=Sum.inr x/\v=Value.str x t)
 | .inl i,v,h=>by
  obtain⟨t,e⟩:=Value.isInt_shape (k:=i) (v:=v) h
  exact .inl ⟨i,t,rfl,e⟩
 | .inr x,v,h=>by
  obtain⟨t,e⟩:=Value.isStrOf_shape (x:=x) (v:=v) h
  exact .inr ⟨x,t,rfl,e⟩
theorem Gr(a b:Int):decide ((Sum.inl a:Key)=Sum.inl b)=(a==b):=by
 by_cases e:a=b
 ·subst e;simp
 ·have h:¬ (Sum.inl a:Key)=Sum.inl b:=λq=>e (Sum.inl.inj q)
  rw[decide_eq_false h]
  exact(beq_eq_false_iff_ne.mpr e).symm
theorem GA(a b:Str):decide ((Sum.inr a:Key)=Sum.inr b)=decide (a=b):=by
 by_cases e:a=b
 ·subst e;simp
 ·have h:¬ (Sum.inr a:Key)=Sum.inr b:=λq=>e (Sum.inr.inj q)
  rw[decide_eq_false h,decide_eq_false e]
theorem F0(a:Int)(b:Str):decide ((Sum.inl a:Key)=Sum.inr b)=false:=decide_eq_false (λq=>nomatch q)
theorem FY(a:Str)(b:Int):decide ((Sum.inr a:Key)=Sum.inl b)=false:=decide_eq_false (λq=>nomatch q)
def xh(prog:Program)(w:World):PySem.KeyKind prog w Key where
 is:=El
 hash:=Kh w
 inj:=λv a b ha hb=>by
  rcases cF ha with ⟨i,t,rfl,rfl⟩ | ⟨x,t,rfl,rfl⟩
  ·rcases cF hb with ⟨j,u,rfl,e⟩ | ⟨y,u,rfl,e⟩
   ·injection e with e1 _;rw[e1]
   ·exact nomatch e
  ·rcases cF hb with ⟨j,u,rfl,e⟩ | ⟨y,u,rfl,e⟩
   ·exact nomatch e
   ·injection e with e1 _;rw[e1]
 byValue:=λk v h=>by
  rcases cF h with ⟨i,t,rfl,rfl⟩ | ⟨x,t,rfl,rfl⟩ <;> rfl
 pyHash:=λhv h=>by
  rcases cF hv with ⟨i,t,rfl,rfl⟩ | ⟨x,t,rfl,rfl⟩
  ·exact wpAny_pyHash_int h
  ·exact wpAny_pyHash_str h
 eqBool:=λhu hv h=>by
  rcases cF hu with ⟨i,t,rfl,rfl⟩ | ⟨x,t,rfl,rfl⟩
  ·rcases cF hv with ⟨j,u,rfl,rfl⟩ | ⟨y,u,rfl,rfl⟩
   ·rw[Gr] at h;exact wpAny_eqBool_int h
   ·rw[F0] at h;exact SeqAt.EqAt.int_str i t y u _ _ _ _ h
  ·rcases cF hv with ⟨j,u,rfl,rfl⟩ | ⟨y,u,rfl,rfl⟩
   ·rw[FY] at h;exact SeqAt.EqAt.str_int x t j u _ _ _ _ h
   ·rw[GA] at h;exact wpAny_eqBool_str h
 «strs»:=λk x t v h=>by
  rcases cF h with ⟨i,u,rfl,e⟩ | ⟨y,u,rfl,e⟩
  ·exact nomatch e
  ·injection e with e1 _
   subst e1
   cases v <;> rfl
end L2
namespace L2
open PySem PySem.Spec PyProof.Rows
inductive V where
 | cp | bl (b:Bool) | int (i:Int) | str (x:Str) | byt (b:Array UInt8) | EM (b:UInt64) | ref (a:Addr) | ty (n:String)
 deriving DecidableEq
def RelV:V->Value->Prop
 | .cp,u=>u=Value.none
 | .bl b,u=>u=Value.bool b
 | .int i,u=>∃ t,u=Value.int i t
 | .str x,u=>∃ t,u=Value.str x t
 | .byt b,u=>∃ t,u=Value.bytes b t
 | .EM b,u=>∃ t,u=Value.float b t
 | .ref a,u=>u=Value.ref a
 | .ty n,u=>u=Value.type n
abbrev Vals:List V->List Value->Prop:=Paired RelV
theorem Vals.length{xs:List V}{us:List Value}(r:Vals xs us):xs.length=us.length:=Paired.length r
theorem Vals.get:∀ {xs:List V} {us:List Value} {i:Nat} {x:V},Vals xs us->xs[i]?=some x->∃ u,us[i]?=some u/\RelV x u
 | _,_,_,_,.nil,e=>by simp at e
 | _,_,0,_,.cons r _,e=>by simp at e;subst e;exact⟨_,rfl,r⟩
 | _,_,i+1,x,.cons _ t,e=>by
  obtain⟨u,h1,h2⟩:=Vals.get (i:=i) (x:=x) t (by simpa using e)
  exact⟨u,by simpa using h1,h2⟩
theorem Vals.set{x:V}{u:Value}(r:RelV x u):∀ {xs:List V} {us:List Value} (i:Nat),Vals xs us->Vals (xs.set i x) (us.set i u)
 | _,_,_,.nil=>.nil
 | _,_,0,.cons _ t=>.cons r t
 | _,_,i+1,.cons q t=>.cons q (Vals.set r i t)
theorem Vals.append:∀ {xs ys:List V} {us ws:List Value},Vals xs us->Vals ys ws->Vals (xs++ys) (us++ws)
 | _,_,_,_,.nil,s=>s
 | _,_,_,_,.cons r t,s=>.cons r (Vals.append t s)
theorem Vals.take:∀ {xs:List V} {us:List Value} (n:Nat),Vals xs us->Vals (xs.take n) (us.take n)
 | _,_,0,_=>.nil
 | _,_,_+1,.nil=>.nil
 | _,_,n+1,.cons r t=>.cons r (Vals.take n t)
theorem Vals.drop:∀ {xs:List V} {us:List Value} (n:Nat),Vals xs us->Vals (xs.drop n) (us.drop n)
 | _,_,0,r=>r
 | _,_,_+1,.nil=>.nil
 | _,_,n+1,.cons _ t=>Vals.drop n t
def l7:Option V->Option Value->Prop
 | some v,some u=>RelV v u
 | none,none=>True
 | _,_=>False
def KV{κ:Type}:List (κ×V)->List (κ×Value)->Prop:=Paired λ(p:κ×V) (q:κ×Value)=>p.1=q.1/\RelV p.2 q.2
def kV:Key->V
 | .inl i=>.int i
 | .inr x=>.str x
inductive HO where
 | lst (xs:List V)
 | tup (xs:List V)
 | dK (MT:List (Key×V)) | dT (MT:List (List Key×V))
 | set (S:Int->Bool) (n:Nat)
 | ins (C dx:Addr) (fs:List (Str×V))
 | own (x:Addr)
 | xd (fs:List (Str×V))
 | met (f x:Addr)
 | iO (lo hi:Int)
 | qo (o:Obj) (u:HO)
 | ED (ps:Array Value)
 | ext (φ:Heap->Prop)
abbrev Hp:=Addr->Option HO
def upd(H:Hp)(a:Addr)(o:HO):Hp:=λb=>if b=a then some o else H b
theorem aA{H:Hp}{a:Addr}{o:HO}:upd H a o a=some o:=by unfold upd;rw[if_pos rfl]
theorem aw{H:Hp}{a b:Addr}{o:HO}(h:b≠a):upd H a o b=H b:=by unfold upd;rw[if_neg h]
theorem xp{H:Hp}{a:Addr}{o u:HO}:upd (upd H a o) a u=upd H a u:=by
 funext b;unfold upd;split <;> rfl
theorem bW{H:Hp}{a b:Addr}{o:HO}(h:H a=some o)(h':H b=none):a≠b:=by
 intro e;subst e;rw[h] at h';cases h'
section
variable(P:Program)(w:World)
def cv(H:Hp)(h:Heap)(a:Addr):HO->Prop
 | .lst xs=>xs.length<=sizeLine/\∃ (L7:List Value) (n:Nat),Vals xs L7/\h.get? a=some { cls:=.type "list", data:=.seq L7.toArray n }
 | .tup xs=>xs.length<=sizeLine/\∃ L7:List Value,Vals xs L7/\IsTup h a L7.toArray
 | .dK MT=>MT.length<=sizeLine/\(a==sysModules)=false/\∃ vs,KV MT vs/\h.DictOf (xh P w) a vs
 | .dT MT=>MT.length<=sizeLine/\(a==sysModules)=false/\∃ xs:List (List Key×Addr×Value),
   Paired (λ(p:List Key×V) (q:List Key×Addr×Value)=>p.1=q.1/\H q.2.1=some (.tup (p.1.map kV))/\RelV p.2 q.2.2) MT xs ∧
   ∃ o es ep,h.get? a=some o/\o.ExactDict/\o.data=.dict es ep/\es.toList=xs.map (entryOfKey (tupleKind (xh P w)))/\(xs.map (·.1)).Nodup
 | .set S n=>h.SetOf (intKind P w) a S n
 | .ins C dx fs=>H dx=some (.own a)/\fs.length<=1000/\dx≠a/\h.get? a=some (PySem.W.instObj C dx) ∧
   ∃ mA,h.Ns1 dx mA/\(∀ f,l7 (fs.lookup f) (mA f))/\PySem.Within mA (fs.map (·.1))
 | .own _=>∃ o,h.get? a=some o
 | .xd fs=>∃ mA,h.Ns1 a mA/\∀ f,l7 (fs.lookup f) (mA f)
 | .iO lo hi=>∃ t u v,h.get? a=some { cls:=.type "range", data:=.fields #[.int lo t,.int hi u,.int 1 v] }
 | .qo o u=>h.get? a=some o/\cv H h a u
 | .ED ps=>h.get? a=some { cls:=.none,data:=.fields ps }
 | .met f x=>h.get? a=some (PySem.W.methodObj (.ref f) (.ref x))
 | .ext φ=>φ h/\(∃ o,h.get? a=some o)/\∀ h1 h2:Heap,φ h1->(∀ o,h1.get? a=some o->h2.get? a=some o)->φ h2
def mK(H:Hp)(h:Heap):Prop:=∀ a o,H a=some o->cv P w H h a o
end
section
variable{P:Program}{w:World}{H H':Hp}{h h':Heap}{a:Addr}{o:HO}
theorem cv.lt(x:cv P w H h a o):a<h.objs.size:=by
 cases o with
 | lst xs=>obtain⟨_,_,_,_,e⟩:=x;exact Heap.lt_size e
 | tup xs=>obtain⟨_,_,_,p⟩:=x;exact p.lt
 | dK MT=>obtain⟨_,_,_,_,o,_,_,e,_⟩:=x;exact Heap.lt_size e
 | dT MT=>obtain⟨_,_,_,_,o,_,_,e,_⟩:=x;exact Heap.lt_size e
 | set S n=>obtain⟨o,_,_,_,e,_⟩:=x;exact Heap.lt_size e
 | ins C dx fs=>obtain⟨_,_,_,e,_⟩:=x;exact Heap.lt_size e
 | own y=>obtain⟨_,e⟩:=x;exact Heap.lt_size e
 | xd fs=>obtain⟨_,⟨_,_,_,e,_⟩,_⟩:=x;exact Heap.lt_size e
 | iO lo hi=>obtain⟨_,_,_,e⟩:=x;exact Heap.lt_size e
 | qo ob u=>obtain⟨e,_⟩:=x;exact Heap.lt_size e
 | ED ps=>exact Heap.lt_size (show h.get? a=some _ from x)
 | met f y=>exact Heap.lt_size (show h.get? a=some _ from x)
 | ext φ=>obtain⟨_,⟨_,e⟩,_⟩:=x;exact Heap.lt_size e
theorem Paired.Jd{α β:Type}{F G:α->β->Prop}:∀ {l₁:List α} {l₂:List β},Paired F l₁ l₂->(∀ a b,F a b->G a b)->Paired G l₁ l₂
 | _,_,.nil,_=>.nil
 | _,_,.cons r t,f=>.cons (f _ _ r) (Paired.Jd t f)
theorem cv.nM(x:cv P w H h a o)(k:∀ b u,(b=a\/H b=some (.own a))->h.get? b=some u->h'.get? b=some u)
  (ho:∀ b,H b=some (.own a)->H' b=some (.own a)) (ht:∀ b xs,H b=some (.tup xs)->H' b=some (.tup xs)):cv P w H' h' a o:=by
 induction o with
 | lst xs=>obtain⟨z,L7,n,r,e⟩:=x;exact⟨z,L7,n,r,k _ _ (.inl rfl) e⟩
 | tup xs=>obtain⟨z,L7,r,ob,e,c⟩:=x;exact⟨z,L7,r,ob,k _ _ (.inl rfl) e,c⟩
 | dK MT=>obtain⟨z,y,vs,r,ob,es,ep,e,c⟩:=x;exact⟨z,y,vs,r,ob,es,ep,k _ _ (.inl rfl) e,c⟩
 | dT MT =>
  obtain⟨z,y,xs,r,ob,es,ep,e,c⟩:=x
  exact⟨z,y,xs,Paired.Jd r λp q z=>⟨z.1,ht _ _ z.2.1,z.2.2⟩,ob,es,ep,k _ _ (.inl rfl) e,c⟩
 | set S n=>obtain⟨ob,es,ep,t,e,c⟩:=x;exact⟨ob,es,ep,t,k _ _ (.inl rfl) e,c⟩
 | ins C dx fs =>
  obtain⟨d,z,ne,e,mA,⟨od,es,ep,e2,c⟩,r⟩:=x
  exact⟨ho _ d,z,ne,k _ _ (.inl rfl) e,mA,⟨od,es,ep,k _ _ (.inr d) e2,c⟩,r⟩
 | own y=>obtain⟨ob,e⟩:=x;exact⟨ob,k _ _ (.inl rfl) e⟩
 | xd fs=>obtain⟨mA,⟨od,es,ep,e,c⟩,r⟩:=x;exact⟨mA,⟨od,es,ep,k _ _ (.inl rfl) e,c⟩,r⟩
 | iO lo hi=>obtain⟨t,u,v,e⟩:=x;exact⟨t,u,v,k _ _ (.inl rfl) e⟩
 | qo ob u ih=>obtain⟨e,q⟩:=x;exact⟨k _ _ (.inl rfl) e,ih q⟩
 | ED ps =>
  have e:h.get? a=some { cls:=.none,data:=.fields ps }:=x
  show h'.get? a=some { cls:=.none,data:=.fields ps }
  exact k a _ (.inl rfl) e
 | met f y =>
  have e:h.get? a=some (PySem.W.methodObj (.ref f) (.ref y)):=x
  show h'.get? a=some (PySem.W.methodObj (.ref f) (.ref y))
  exact k a _ (.inl rfl) e
 | ext φ=>obtain⟨p,⟨o,e⟩,st⟩:=x;exact⟨st _ _ p λo q=>k _ _ (.inl rfl) q,⟨o,k _ _ (.inl rfl) e⟩,st⟩
theorem mK.lt(x:mK P w H h)(e:H a=some o):a<h.objs.size:=(x a o e).lt
theorem mK.fresh(x:mK P w H h)(e:h.objs.size<=a):H a=none:=by
 cases q:H a with
 | none=>rfl
 | some u=>exact absurd (Nat.lt_of_lt_of_le (x.lt q) e) (Nat.lt_irrefl _)
theorem mK.kept(x:mK P w H h)(k:∀ b u,h.get? b=some u->h'.get? b=some u):mK P w H h':=λa o e =>
 (x a o e).nM (λb u _ q=>k b u q) (λ_ q=>q) λ_ _ q=>q
theorem mK.laid(x:mK P w H h)(k:∀ b u,h.get? b=some u->h'.get? b=some u)(hp:h.objs.size<=a)(new:cv P w (upd H a o) h' a o):mK P w (upd H a o) h':=λb u e=>by
 have hn:=x.fresh hp
 by_cases hb:b=a
 ·subst hb;rw[aA] at e;cases e;exact new
 ·rw[aw hb] at e
  exact(x b u e).nM (λc v _ q=>k c v q) (λc q=>by rw[aw (bW q hn)];exact q) λc xs q=>by rw[aw (bW q hn)];exact q
end
def Rd(H:Hp)(a:Addr)(u:HO):Prop:=H a=some u\/∃ o,H a=some (.qo o u)
theorem Rd.ok{P:Program}{w:World}{H:Hp}{h:Heap}{a:Addr}{u:HO}(r:Rd H a u)(x:mK P w H h):cv P w H h a u:=by
 rcases r with r | ⟨o,r⟩
 ·exact x a u r
 ·obtain⟨_,q⟩:=x a _ r
  exact q
def JG:Option HO->Prop
 | some (.lst _)=>True
 | some (.dK _)=>True
 | some (.dT _)=>True
 | some (.set _ _)=>True
 | some (.ins _ _ _)=>True
 | some (.ext _)=>True
 | _=>False
section
variable{P:Program}{w:World}{H:Hp}{h h':Heap}{x e:Addr}{o':HO}
theorem mK.write(ok:mK P w H h)(mu:JG (H x))(he:e=x\/H e=some (.own x))(k:∀ b u,b≠e->h.get? b=some u->h'.get? b=some u)(O6:∃ u,h'.get? e=some u)
  (new:cv P w (upd H x o') h' x o'):mK P w (upd H x o') h':=λb u q=>by
 have PK:∀ c y,H c=some (.own y)->c≠x:=λc y r z=>by subst z;rw[r] at mu;exact mu
 have ntup:∀ c xs,H c=some (.tup xs)->c≠x:=λc xs r z=>by subst z;rw[r] at mu;exact mu
 by_cases hb:b=x
 ·subst hb;rw[aA] at q;cases q;exact new
 ·rw[aw hb] at q
  by_cases N2:b=e
  ·have q':H b=some (.own x):=by
    rcases he with z | z
    ·exact absurd (N2.trans z) hb
    ·rw[N2];exact z
   rw[q] at q';cases q'
   obtain⟨v,hv⟩:=O6
   exact⟨v,by rw[N2];exact hv⟩
  ·refine(ok b u q).nM (λc v hc r=>k c v ?_ r) (λc r=>by rw[aw (PK c b r)];exact r) λc xs r=>by rw[aw (ntup c xs r)];exact r
   rcases hc with rfl | hc
   ·exact N2
   ·rintro rfl
    rcases he with z | z
    ·exact PK c b hc z
    ·rw[hc] at z;cases z;exact hb rfl
end
structure Un (fs ex:List Addr) (H H':Hp) (h h':Heap):Prop where
 keep:∀ b o,h.get? b=some o->H b=none->b ∉ fs->b ∉ ex->h'.get? b=some o
 slot:∀ b o,h.get? b=some o->H b=none->b∈fs->b ∉ ex->∃ sl,h'.get? b=some { o with slots:=sl }
 free:∀ b o,h.get? b=some o->H b=none->b ∉ ex->H' b=none
 there:∀ b o,h.get? b=some o->b ∉ ex->∃ o',h'.get? b=some o'
 sG:∀ b xs,H b=some (.tup xs)->H' b=some (.tup xs)
 mD:∀ b o u,H b=some (.qo o u)->H' b=some (.qo o u)
 rF:∀ b ps,H b=some (.ED ps)->∃ more,H' b=some (.ED (ps++more))
section
variable{fs OK ex ex':List Addr}{H H1 H2:Hp}{h h1 h2 h':Heap}{a x e:Addr}{o:HO}
theorem Un.any(u:Un fs ex H H1 h h1){b:Addr}{ob:Obj}(q:h.get? b=some ob)(n:H b=none)(hx:b ∉ ex):∃ sl,h1.get? b=some { ob with slots:=sl }:=by
 by_cases hb:b∈fs
 ·exact u.slot b ob q n hb hx
 ·exact⟨ob.slots,u.keep b ob q n hb hx⟩
theorem Un.kept(k:∀ b u,h.get? b=some u->h'.get? b=some u):Un fs ex H H h h' :=
 ⟨λb ob q _ _ _=>k b ob q,λb ob q _ _ _=>⟨ob.slots,k b ob q⟩,λ_ _ _ n _=>n,λb ob q _=>⟨ob,k b ob q⟩,λ_ _ q=>q,λ_ _ _ q=>q,λ_ ps q=>⟨#[],by rw[q];simp⟩⟩
theorem Un.refl:Un fs ex H H h h:=Un.kept λ_ _ q=>q
theorem Un.laid(k:∀ b u,h.get? b=some u->h'.get? b=some u)(hp:h.objs.size<=a)(hn:H a=none):Un fs ex H (upd H a o) h h' where
 keep:=λb u q _ _ _=>k b u q
 slot:=λb u q _ _ _=>⟨u.slots,k b u q⟩
 free:=λb u q n _=>by rw[aw (Nat.ne_of_lt (Nat.lt_of_lt_of_le (Heap.lt_size q) hp))];exact n
 there:=λb u q _=>⟨u,k b u q⟩
 sG:=λb xs q=>by rw[aw (bW q hn)];exact q
 mD:=λb u xs q=>by rw[aw (bW q hn)];exact q
 rF:=λb ps q=>⟨#[],by rw[aw (bW q hn),q];simp⟩
theorem Un.write(mu:JG (H x))(he:e=x\/H e=some (.own x))(k:∀ b u,b≠e->h.get? b=some u->h'.get? b=some u)(O6:∃ u,h'.get? e=some u):Un fs ex H (upd H x o) h h':=by
 have hx:∀ b,H b=none->b≠x:=λb n z=>by subst z;rw[n] at mu;exact mu
 have hb:∀ b,H b=none->b≠e:=λb n z=>by
  subst z
  rcases he with r | r
  ·exact hx b n r
  ·rw[n] at r;cases r
 have hm:∀ b u,H b=some u->¬ JG (some u)->b≠x:=λb u q nm z=>by subst z;rw[q] at mu;exact nm mu
 refine⟨λb u q n _ _=>k b u (hb b n) q,λb u q n _ _=>⟨u.slots,k b u (hb b n) q⟩,λb u q n _=>by rw[aw (hx b n)];exact n,λb u q _=>?_,
  λb xs q=>by rw[aw (hm b _ q λz=>z)];exact q,λb u xs q=>by rw[aw (hm b _ q λz=>z)];exact q,λb ps q=>⟨#[],by rw[aw (hm b _ q λz=>z),q];simp⟩⟩
 by_cases N2:b=e
 ·subst N2;exact O6
 ·exact⟨u,k b u N2 q⟩
end
def JB(h:Heap)(H:Hp):List Addr:=(List.range h.objs.size).filter λa=>(H a).isSome
def rH(h:Heap)(H:Hp):Heap:=PySem.W.hideAll h (JB h H)
theorem yF(h:Heap)(H:Hp):(rH h H).objs.size=h.objs.size:=PySem.W.hideAll_size _ _
theorem zU{h:Heap}{H:Hp}{b:Addr}{o:Obj}(e:h.get? b=some o)(n:H b=none):(rH h H).get? b=some o :=
 PySem.W.hideAll_get _ e λhm=>by
  have q:(H b).isSome=true:=(List.mem_filter.mp hm).2
  rw[n] at q;simp at q
theorem DW{h:Heap}{H:Hp}{b:Addr}{o:Obj}(e:(rH h H).get? b=some o):h.get? b=some o/\H b=none:=by
 have e':h.get? b=some o:=PySem.W.of_hideAll (JB h H) e
 refine⟨e',?_⟩
 cases q:H b with
 | none=>rfl
 | some x =>
  have hm:b∈JB h H:=List.mem_filter.mpr ⟨List.mem_range.mpr (Heap.lt_size e'),by simp[q]⟩
  have z:(rH h H).get? b=none:=PySem.W.hideAll_none (JB h H) hm
  rw[z] at e;cases e
def DF(g h:Heap)(L:Addr):List (Addr×Obj):=(List.range h.objs.size).filterMap λa=>if a=L\/(g.get? a).isSome=true then none else (h.get? a).map λo=>(a,o)
def rest(g h:Heap)(L d:Addr):List (Addr×Obj):=(DF g h L).filter λp=>decide (p.1≠d)
end L2
namespace L2
open PySem PySem.Spec PyProof.Rows
structure Mod (K:PySem.W.Frag) (mg:Str->Option Value) (base:Heap):Prop where
 EO:K.In base
 glob:base.Ns mainGlobals mg
 blt:∃ mb,base.Ns builtinsNs mb/\∀ x:Str,x ≠ "__name__" -> mb x=bootBuiltins x
 nolimit:base.NoLimit
structure Cx where
 prog:Program
 w:World
 K:PySem.W.Frag
 mg:Str->Option Value
 base:Heap
 A:Around
 N:List Str
 s₀:Shared
 H₀:Hp
 env:Env
 outer:List Env
 stack:List Env
 ex:List Addr
 fn:Str->Bool
 calm:Bool
 pn:List (Addr×Obj)
 xe:Value->Shared->Prop
def vi(l:List Env):List Addr:=l.filterMap (·.frame)
abbrev Cx.fs(X:Cx):List Addr:=vi X.outer
def Ce(sc:Scope)(x:Str):Prop:=sc.names.lookup x=some .local\/sc.names.lookup x=some .cell\/sc.names.lookup x=some .free
def Loc(sc:Scope)(x:Str):Prop:=sc.names.lookup x=some .local\/sc.names.lookup x=some .cell
def Look(env:Env)(h:Heap)(m:Str->Option Value)(x:Str)(u:Value):Prop :=
 (env.kindOf x=some .local/\m x=some u)\/((env.kindOf x=some .cell\/env.kindOf x=some .free)/\∃ c,env.cells.lookup x=some c/\h.IsCell c (some u))
structure Cx.Ok (X:Cx):Prop where
 mod:Mod X.K X.mg X.base
 kind:X.env.scope.kind=.function
 glob:X.env.globals=mainGlobals
 blt:X.env.builtins=builtinsNs
 above:X.s₀.heap.objs.size<=X.env.locals
 inj:∀ x y c,X.env.cells.lookup x=some c->X.env.cells.lookup y=some c->x=y
 has:∀ x,(X.env.kindOf x=some .cell\/X.env.kindOf x=some .free)->∃ c,X.env.cells.lookup x=some c
 IF:∀ x c,X.fn x=true->X.env.cells.lookup x=some c->X.s₀.heap.objs.size<=c
 hd:X.calm=true->X.A.handled=none
 frames:X.A.frames=some X.stack
 JM:X.stack=X.outer\/(X.stack=X.env::X.outer/\X.env.frame=some X.env.locals)
 Kq:∀ b∈X.ex,b≠X.env.locals/\∀ x c,X.env.cells.lookup x=some c->c≠b
 bs:∀ b o,X.base.get? b=some o->X.s₀.heap.get? b=some o/\X.H₀ b=none
 En:X.base.objs.size<=X.s₀.heap.objs.size
 zd:∀ b o,X.base.get? b=some o->b ∉ X.ex
 z7:∀ b∈X.ex,b ∉ X.fs
 nv:X.s₀.heap.FunFrames X.base X.outer
 FK:∀ b∈X.fs,X.H₀ b=none
structure Inv (X:Cx) (L4:List (Addr×Obj)) (σ:List (Option V)) (H:Hp) (s:Shared):Prop where
 ok:X.Ok
 os:s.os=X.s₀.os
 bare:AllBare s.gens
 base:Un X.fs X.ex X.H₀ H X.s₀.heap s.heap
 loc:∃ m,s.heap.Ns X.env.locals m/\∀ (i:Nat) (x:Str) (v:V),X.N[i]?=some x->σ[i]?=some (some v)->Ce X.env.scope x->∃ u,RelV v u/\Look X.env s.heap m x u
 cell:∀ x c,X.env.cells.lookup x=some c->∃ v,s.heap.IsCell c v
 free:H X.env.locals=none
 kI:∀ x c,X.env.cells.lookup x=some c->H c=none
 pin:∀ p∈X.pn++L4,s.heap.get? p.1=some p.2/\H p.1=none/\p.1≠X.env.locals/\p.1 ∉ X.fs/\∀ v,p.2.data≠.cell v
 bK:mK X.prog X.w H s.heap
 len:σ.length=X.N.length
section
variable{X:Cx}{L4:List (Addr×Obj)}{σ:List (Option V)}{H H':Hp}{s:Shared}{h':Heap}
theorem Cx.Ok.JQ(ok:X.Ok){b:Addr}{o:Obj}(e:X.base.get? b=some o):b ∉ X.fs:=λhb=>by
 have:=(ok.nv.mem hb).1
 rw[e] at this;cases this
theorem Inv.bs(I:Inv X L4 σ H s):∀ b o,X.base.get? b=some o->s.heap.get? b=some o/\H b=none:=λb o e =>
 ⟨I.base.keep b o (I.ok.bs b o e).1 (I.ok.bs b o e).2 (I.ok.JQ e) (I.ok.zd b o e),I.base.free b o (I.ok.bs b o e).1 (I.ok.bs b o e).2 (I.ok.zd b o e)⟩
theorem Inv.bk(I:Inv X L4 σ H s):∀ b o,X.base.get? b=some o->s.heap.get? b=some o:=λb o e=>(I.bs b o e).1
theorem Inv.mod(I:Inv X L4 σ H s):Mod X.K X.mg X.base:=I.ok.mod
theorem Inv.jV(I:Inv X L4 σ H s):X.K.In s.heap:=I.ok.mod.EO.keeps I.bk
theorem Inv.lt(I:Inv X L4 σ H s):X.env.locals<s.heap.objs.size:=let ⟨_,hn,_⟩:=I.loc;hn.lt
theorem Inv.sz(I:Inv X L4 σ H s):X.s₀.heap.objs.size<=s.heap.objs.size:=Nat.le_trans I.ok.above (Nat.le_of_lt I.lt)
theorem Inv.J3(I:Inv X L4 σ H s){a:Addr}(h:s.heap.objs.size<=a):a ∉ X.fs:=λhb=>by
 obtain⟨_,o,ho,_⟩:=I.ok.nv.mem hb
 exact absurd (Nat.lt_of_lt_of_le (Heap.lt_size ho) (Nat.le_trans I.sz h)) (Nat.lt_irrefl _)
theorem Inv.G9(I:Inv X L4 σ H s):∀ x c,X.env.cells.lookup x=some c->c≠X.env.locals:=λx c e z=>by
 obtain⟨v,o,ho,hd⟩:=I.cell x c e
 obtain⟨m,⟨o',es,ep,NM,Pk,_⟩,_⟩:=I.loc
 rw[z,NM] at ho;cases ho;rw[Pk] at hd;cases hd
theorem Inv.nv(I:Inv X L4 σ H s):s.heap.FunFrames X.base X.outer:=by
 have all:∀ (l:List Env),(∀ b∈vi l,b∈X.fs)->X.s₀.heap.FunFrames X.base l->s.heap.FunFrames X.base l:=by
  intro l
  induction l with
  | nil=>intro _ _;trivial
  | cons env r ih =>
   intro hs hl
   obtain⟨hk,⟨L,o,hf,hn,ho,hd⟩,hr⟩:=hl
   have hL:L∈X.fs:=hs L (by unfold vi;rw[List.filterMap_cons,hf];exact List.mem_cons_self)
   obtain⟨sl,e⟩:=I.base.slot L o ho (I.ok.FK L hL) hL λz=>I.ok.z7 L z hL
   exact⟨hk,⟨L,_,hf,hn,e,hd⟩,ih (λb hb=>hs b (by unfold vi;rw[List.filterMap_cons,hf];exact List.mem_cons_of_mem _ hb)) hr⟩
 exact all X.outer (λ_ hb=>hb) I.ok.nv
theorem Inv.stack(I:Inv X L4 σ H s):s.heap.FunFrames X.base X.stack:=by
 rcases I.ok.JM with e | ⟨e,hf⟩
 ·rw[e];exact I.nv
 ·rw[e]
  obtain⟨m,hn,_⟩:=I.loc
  refine .cons (by rw[I.ok.kind];decide) hf hn ?_ I.nv
  exact Heap.get?_none_of_le (Nat.le_trans I.ok.En I.ok.above)
theorem Inv.sM(I:Inv X L4 σ H s):∀ b∈vi X.stack,b∈X.env.locals::X.fs:=λb hb=>by
 rcases I.ok.JM with e | ⟨e,hf⟩
 ·rw[e] at hb;exact List.mem_cons_of_mem _ hb
 ·rw[e] at hb
  unfold vi at hb
  rw[List.filterMap_cons,hf] at hb
  exact hb
theorem Inv.rR(I:Inv X L4 σ H s):∀ b∈vi X.stack,H b=none:=λb hb=>by
 rcases List.mem_cons.mp (I.sM b hb) with e | hb
 ·rw[e];exact I.free
 ·obtain⟨_,o,ho,_⟩:=I.ok.nv.mem hb
  exact I.base.free b o ho (I.ok.FK b hb) λz=>I.ok.z7 b z hb
theorem Inv.step{g':Array GenState}{t':Nat}{d':Drawn}{ch:List Addr}(I:Inv X L4 σ H s)
  (NJ:∀ b∈ch,(b∈X.ex\/X.s₀.heap.objs.size<=b)/\b≠X.env.locals/\(∀ x c,X.env.cells.lookup x=some c->c≠b)/\∀ p∈X.pn++L4,p.1≠b)
  (keep:∀ b o,b≠X.env.locals->b ∉ X.fs->b ∉ ch->s.heap.get? b=some o->H b=none->h'.get? b=some o)
  (slot:∀ b o,b≠X.env.locals->b∈X.fs->b ∉ ch->s.heap.get? b=some o->H b=none->∃ sl,h'.get? b=some { o with slots:=sl }) (free:∀ b o,b ∉ ch->s.heap.get? b=some o->H b=none->H' b=none)
  (there:∀ b o,b ∉ ch->s.heap.get? b=some o->∃ o',h'.get? b=some o')
  (sG:∀ b xs,H b=some (.tup xs)->H' b=some (.tup xs)) (mD:∀ b o u,H b=some (.qo o u)->H' b=some (.qo o u)) (rF:∀ b ps,H b=some (.ED ps)->∃ more,H' b=some (.ED (ps++more)))
  (ns:∀ m,s.heap.Ns X.env.locals m->h'.Ns X.env.locals m) (bK:mK X.prog X.w H' h') (hg:AllBare g') :
  Inv X L4 σ H' { s with heap:=h',gens:=g',drawn:=d',toks:=t' }:=by
 have neL:∀ b o,X.s₀.heap.get? b=some o->b≠X.env.locals:=λb o e=>Nat.ne_of_lt (Nat.lt_of_lt_of_le (Heap.lt_size e) I.ok.above)
 have neC:∀ b o,X.s₀.heap.get? b=some o->b ∉ X.ex->b ∉ ch:=λb o e hx hb=>by
  rcases(NJ b hb).1 with z | z
  ·exact hx z
  ·exact absurd (Nat.lt_of_lt_of_le (Heap.lt_size e) z) (Nat.lt_irrefl _)
 have cellK:∀ x c,X.env.cells.lookup x=some c->∀ v,s.heap.IsCell c v->h'.IsCell c v:=λx c e v ⟨o,ho,hd⟩=>by
  have PJ:c ∉ ch:=λz=>(NJ c z).2.2.1 x c e rfl
  by_cases hc:c∈X.fs
  ·obtain⟨sl,q⟩:=slot c o (I.G9 x c e) hc PJ ho (I.kI x c e)
   exact⟨_,q,hd⟩
  ·exact⟨o,keep c o (I.G9 x c e) hc PJ ho (I.kI x c e),hd⟩
 refine⟨I.ok,I.os,hg,⟨λb o e n hb hx=>?_,λb o e n hb hx=>?_,λb o e n hx=>?_,λb o e hx=>?_,λb xs e=>sG b xs (I.base.sG b xs e),λb o xs e=>mD b o xs (I.base.mD b o xs e),λb ps e=>?_⟩,?_,λx c e=>?_,?_,λx c e=>?_,λp hp=>?_,bK,I.len⟩
 ·exact keep b o (neL b o e) hb (neC b o e hx) (I.base.keep b o e n hb hx) (I.base.free b o e n hx)
 ·obtain⟨sl,e1⟩:=I.base.slot b o e n hb hx
  obtain⟨sl',e2⟩:=slot b _ (neL b o e) hb (neC b o e hx) e1 (I.base.free b o e n hx)
  exact⟨sl',e2⟩
 ·obtain⟨o',e1⟩:=I.base.there b o e hx
  exact free b o' (neC b o e hx) e1 (I.base.free b o e n hx)
 ·obtain⟨o',e1⟩:=I.base.there b o e hx
  exact there b o' (neC b o e hx) e1
 ·obtain⟨m1,e1⟩:=I.base.rF b ps e
  obtain⟨m2,e2⟩:=rF b _ e1
  exact⟨m1++m2,by rw[e2,Array.append_assoc]⟩
 ·obtain⟨m,hn,hl⟩:=I.loc
  refine⟨m,ns m hn,λi x v e1 e2 e3=>?_⟩
  obtain⟨u,r,l⟩:=hl i x v e1 e2 e3
  refine⟨u,r,?_⟩
  rcases l with l | ⟨k,c,e,z⟩
  ·exact .inl l
  ·exact .inr ⟨k,c,e,cellK x c e _ z⟩
 ·obtain⟨v,z⟩:=I.cell x c e
  exact⟨v,cellK x c e v z⟩
 ·obtain⟨m,⟨o,_,_,ho,_⟩,_⟩:=I.loc
  exact free _ o (λz=>(NJ _ z).2.1 rfl) ho I.free
 ·obtain⟨v,o,ho,hd⟩:=I.cell x c e
  exact free c o (λz=>(NJ c z).2.2.1 x c e rfl) ho (I.kI x c e)
 ·obtain⟨e,n,ne,nf,d⟩:=I.pin p hp
  have PJ:p.1 ∉ ch:=λz=>(NJ p.1 z).2.2.2 p hp rfl
  exact⟨keep p.1 p.2 ne nf PJ e n,free p.1 p.2 PJ e n,ne,nf,d⟩
theorem Inv.un{t':Nat}(I:Inv X L4 σ H s)(u:Un X.fs [] H H' s.heap h')(bK:mK X.prog X.w H' h'):Inv X L4 σ H' { s with heap:=h',toks:=t' }:=by
 obtain⟨m,⟨o,es,ep,ho,r⟩,_⟩:=id I.loc
 obtain⟨sl,hL⟩:=u.any ho I.free (by simp)
 exact I.step (g':=s.gens) (d':=s.drawn) (ch:=[]) (λ_ z=>nomatch z) (λb o _ hb _ e n=>u.keep b o e n hb (by simp)) (λb o _ hb _ e n=>u.slot b o e n hb (by simp)) (λb o _ e n=>u.free b o e n (by simp)) (λb o _ e=>u.there b o e (by simp)) u.sG u.mD u.rF (λm' hm=>by
  obtain⟨o',es',ep',NM,r'⟩:=hm
  rw[ho] at NM;cases NM
  exact⟨_,es',ep',hL,r'⟩) bK I.bare
theorem Inv.call{g':Array GenState}{t':Nat}{d':Drawn}{ch:List Addr}(I:Inv X L4 σ H s)(u:Un (vi X.stack) ch H H' s.heap h')(bK:mK X.prog X.w H' h')(hg:AllBare g')
  (NJ:∀ b∈ch,(b∈X.ex\/X.s₀.heap.objs.size<=b)/\b≠X.env.locals/\(∀ x c,X.env.cells.lookup x=some c->c≠b)/\∀ p∈X.pn++L4,p.1≠b) :
  Inv X L4 σ H' { s with heap:=h',gens:=g',drawn:=d',toks:=t' }:=by
 obtain⟨m,⟨o,es,ep,ho,r⟩,_⟩:=id I.loc
 obtain⟨sl,hL⟩:=u.any ho I.free λz=>(NJ _ z).2.1 rfl
 exact I.step (ch:=ch) NJ (λb o hL hb hc e n=>u.keep b o e n (λz=>(List.mem_cons.mp (I.sM b z)).elim hL hb) hc) (λb o _ _ hc e n=>u.any e n hc) (λb o hc e n=>u.free b o e n hc) (λb o hc e=>u.there b o e hc) u.sG u.mD u.rF (λm' hm=>by
  obtain⟨o',es',ep',NM,r'⟩:=hm
  rw[ho] at NM;cases NM
  exact⟨_,es',ep',hL,r'⟩) bK hg
theorem Inv.turned{t':Nat}{it:Addr}(I:Inv X L4 σ H s)(k:∀ b o,b≠it->s.heap.get? b=some o->h'.get? b=some o)(hn:H it=none)(hL:it≠X.env.locals)
  (h1:it∈X.ex\/X.s₀.heap.objs.size<=it) (h2:∀ x c,X.env.cells.lookup x=some c->c≠it) (h3:∀ p∈X.pn++L4,p.1≠it):Inv X L4 σ H { s with heap:=h',toks:=t' }:=by
 have nit:∀ b u,H b=some u->b≠it:=λb u e z=>by rw[z,hn] at e;cases e
 refine I.step (g':=s.gens) (d':=s.drawn) (ch:=[it]) (λb hb=>?_) (λb o _ _ hc e _=>k b o (λz=>hc (by simp[z])) e) (λb o _ _ hc e _=>⟨o.slots,k b o (λz=>hc (by simp[z])) e⟩) (λ_ _ _ _ n=>n)
  (λb o hc e=>⟨o,k b o (λz=>hc (by simp[z])) e⟩) (λ_ _ e=>e) (λ_ _ _ e=>e) (λb ps e=>⟨#[],by rw[e];simp⟩) (λm hm=>?_) (λb u e=>?_) I.bare
 ·have e:b=it:=by simpa using hb
  subst e
  exact⟨h1,hL,h2,h3⟩
 ·obtain⟨o,es,ep,ho,r⟩:=hm
  exact⟨o,es,ep,k _ o (Ne.symm hL) ho,r⟩
 ·refine(I.bK b u e).nM (λc v hc q=>k c v ?_ q) (λ_ q=>q) λ_ _ q=>q
  rcases hc with z | z
  ·rw[z];exact nit b u e
  ·exact nit c _ z
theorem Inv.tok(I:Inv X L4 σ H s)(t:Nat):Inv X L4 σ H { s with toks:=t }:=I.un (h':=s.heap) (t':=t) Un.refl I.bK
theorem Inv.kept{t':Nat}(I:Inv X L4 σ H s)(k:∀ b u,s.heap.get? b=some u->h'.get? b=some u):Inv X L4 σ H { s with heap:=h',toks:=t' }:=I.un (Un.kept k) (I.bK.kept k)
theorem Inv.laid{a:Addr}{o:HO}{t':Nat}(I:Inv X L4 σ H s)(k:∀ b u,s.heap.get? b=some u->h'.get? b=some u)(hp:s.heap.objs.size<=a)(new:cv X.prog X.w (upd H a o) h' a o) :
  Inv X L4 σ (upd H a o) { s with heap:=h',toks:=t' }:=I.un (Un.laid k hp (I.bK.fresh hp)) (I.bK.laid k hp new)
theorem Inv.write{x e:Addr}{o:HO}{t':Nat}(I:Inv X L4 σ H s)(mu:JG (H x))(he:e=x\/H e=some (.own x))(k:∀ b u,b≠e->s.heap.get? b=some u->h'.get? b=some u)(O6:∃ u,h'.get? e=some u)
  (new:cv X.prog X.w (upd H x o) h' x o):Inv X L4 σ (upd H x o) { s with heap:=h',toks:=t' }:=I.un (Un.write mu he k O6) (I.bK.write mu he k O6 new)
theorem Inv.wX{Ou:List (Addr×Obj)}(I:Inv X L4 σ H s)(h:∀ p∈Ou,s.heap.get? p.1=some p.2/\H p.1=none/\p.1≠X.env.locals/\p.1 ∉ X.fs/\∀ v,p.2.data≠.cell v):Inv X Ou σ H s :=
 ⟨I.ok,I.os,I.bare,I.base,I.loc,I.cell,I.free,I.kI,λp hp=>(List.mem_append.mp hp).elim (λz=>I.pin p (List.mem_append_left _ z)) (h p),I.bK,I.len⟩
theorem t9{N:List Str}(hN:N.Nodup){i j:Nat}{x:Str}(a:N[i]?=some x)(b:N[j]?=some x):i=j:=by
 obtain⟨h1,e1⟩:=List.getElem?_eq_some_iff.mp a
 obtain⟨h2,e2⟩:=List.getElem?_eq_some_iff.mp b
 exact(List.getElem_inj hN).mp (e1.trans e2.symm)
theorem qX{M:Model}{A:Around}{E:Value->Shared->Prop}{i:Nat}{x:Str}{v:V}{u:Value}{Q:Unit->Shared->Prop}(I:Inv X L4 σ H s)(hN:X.N.Nodup)(hi:X.N[i]?=some x)(hx:Loc X.env.scope x)(r:RelV v u)
  (h:∀ s',Inv X L4 (σ.set i (some v)) H s'->(∃ a,Heap.SameBut a s.heap s'.heap/\(a=X.env.locals\/X.env.cells.lookup x=some a))->Q () s') (hf:autoParam (X.fn x=true\/X.env.scope.names.lookup x=some .local) aF._auto_1):wpAny M A (storeName X.env x u) Q E s:=by
 obtain⟨m,hn,hl⟩:=id I.loc
 have hcls:(X.env.scope.kind==.class||(X.env.scope.kind==.module&&X.env.locals != X.env.globals))=false:=by rw[I.ok.kind];rfl
 have hiσ:i<σ.length:=by rw[I.len];exact(List.getElem?_eq_some_iff.mp hi).1
 have G9:=I.G9
 have tracked:∀ {a:Addr} {h':Heap},(∃ o,s.heap.get? a=some o/\H a=none)->Heap.SameBut a s.heap h'->mK X.prog X.w H h':=λ{a h'} ha hs b ob e=>by
  obtain⟨_,_,NW⟩:=ha
  refine(I.bK b ob e).nM (λc w' hc q=>(hs.2 c ?_).trans q) (λ_ q=>q) λ_ _ q=>q
  rintro rfl
  rcases hc with rfl | hc
  ·rw[NW] at e;cases e
  ·rw[NW] at hc;cases hc
 rcases hx with hk | hk
 ·refine wpAny_storeName_local hk hn (λh' hn' hs=>?_) hcls
  obtain⟨oL,_,_,hoL,_⟩:=id hn
  refine h _ ⟨I.ok,I.os,I.bare,⟨λb o e n hb hx=>?_,λb o e n hb hx=>?_,I.base.free,λb o e hx=>?_,I.base.sG,I.base.mD,I.base.rF⟩,⟨_,hn',λj y v' e1 e2 e3=>?_⟩,λy c e=>?_,I.free,I.kI,λp hp=>?_,tracked ⟨oL,hoL,I.free⟩ hs,by simpa using I.len⟩ ⟨_,hs,.inl rfl⟩
  ·exact(hs.2 b (Nat.ne_of_lt (Nat.lt_of_lt_of_le (Heap.lt_size e) I.ok.above))).trans (I.base.keep b o e n hb hx)
  ·obtain⟨sl,e1⟩:=I.base.slot b o e n hb hx
   exact⟨sl,(hs.2 b (Nat.ne_of_lt (Nat.lt_of_lt_of_le (Heap.lt_size e) I.ok.above))).trans e1⟩
  ·obtain⟨o',e1⟩:=I.base.there b o e hx
   exact⟨o',(hs.2 b (Nat.ne_of_lt (Nat.lt_of_lt_of_le (Heap.lt_size e) I.ok.above))).trans e1⟩
  ·by_cases hj:j=i
   ·subst hj
    rw[hi] at e1;cases e1
    rw[List.getElem?_set_self hiσ] at e2
    cases e2
    exact⟨u,r,.inl ⟨hk,by simp⟩⟩
   ·rw[List.getElem?_set_ne (Ne.symm hj)] at e2
    obtain⟨u',r',q⟩:=hl j y v' e1 e2 e3
    refine⟨u',r',?_⟩
    rcases q with ⟨k,e⟩ | ⟨k,c,e,z⟩
    ·refine .inl ⟨k,?_⟩
     have:y≠x:=λe=>hj (t9 hN e1 (e▸hi))
     simp[this,e]
    ·exact .inr ⟨k,c,e,z.sameBut hs (G9 y c e)⟩
  ·obtain⟨w',z⟩:=I.cell y c e
   exact⟨w',z.sameBut hs (G9 y c e)⟩
  ·obtain⟨e,n,ne,nf,d⟩:=I.pin p hp
   exact⟨(hs.2 p.1 ne).trans e,n,ne,nf,d⟩
 ·have hfn:X.fn x=true:=by
   rcases hf with z | z
   ·exact z
   ·rw[z] at hk;cases hk
  obtain⟨c,hc⟩:=I.ok.has x (.inl hk)
  obtain⟨w',z⟩:=I.cell x c hc
  refine wpAny_storeName_cell I.ok.kind hk hc z (λh' OB hs=>?_)
  obtain⟨oc,hoc,hocd⟩:=id z
  refine h { s with heap:=h' } ⟨I.ok,I.os,I.bare,⟨λb o e n hb hx=>?_,λb o e n hb hx=>?_,I.base.free,λb o e hx=>?_,I.base.sG,I.base.mD,I.base.rF⟩,⟨m,hn.sameBut hs (Ne.symm (G9 x c hc)),λj y v' e1 e2 e3=>?_⟩,λy c' e=>?_,I.free,I.kI,λp hp=>?_,tracked ⟨oc,hoc,I.kI x c hc⟩ hs,by simpa using I.len⟩ ⟨c,hs,.inr hc⟩
  ·exact(hs.2 b (Nat.ne_of_lt (Nat.lt_of_lt_of_le (Heap.lt_size e) (I.ok.IF x c hfn hc)))).trans (I.base.keep b o e n hb hx)
  ·obtain⟨sl,e1⟩:=I.base.slot b o e n hb hx
   exact⟨sl,(hs.2 b (Nat.ne_of_lt (Nat.lt_of_lt_of_le (Heap.lt_size e) (I.ok.IF x c hfn hc)))).trans e1⟩
  ·obtain⟨o',e1⟩:=I.base.there b o e hx
   exact⟨o',(hs.2 b (Nat.ne_of_lt (Nat.lt_of_lt_of_le (Heap.lt_size e) (I.ok.IF x c hfn hc)))).trans e1⟩
  ·by_cases hj:j=i
   ·subst hj
    rw[hi] at e1;cases e1
    rw[List.getElem?_set_self hiσ] at e2
    cases e2
    exact⟨u,r,.inr ⟨.inl hk,c,hc,OB⟩⟩
   ·rw[List.getElem?_set_ne (Ne.symm hj)] at e2
    obtain⟨u',r',q⟩:=hl j y v' e1 e2 e3
    refine⟨u',r',?_⟩
    rcases q with q | ⟨k,c',e,z'⟩
    ·exact .inl q
    ·refine .inr ⟨k,c',e,z'.sameBut hs ?_⟩
     rintro rfl
     exact hj (t9 hN e1 (I.ok.inj _ _ _ e hc▸hi))
  ·by_cases hcc:c'=c
   ·subst hcc;exact⟨_,OB⟩
   ·obtain⟨w2,z2⟩:=I.cell y c' e
    exact⟨w2,z2.sameBut hs hcc⟩
  ·obtain⟨e,n,ne,nf,d⟩:=I.pin p hp
   refine⟨(hs.2 p.1 ?_).trans e,n,ne,nf,d⟩
   intro q
   rw[q,hoc] at e
   have q':oc=p.2:=Option.some.inj e
   exact d w' (by rw[← q'];exact hocd)
theorem uP{M:Model}{A:Around}{E:Value->Shared->Prop}{i:Nat}{x:Str}{v:V}{u:Value}{Q:Unit->Shared->Prop}(I:Inv X L4 σ H s)(hN:X.N.Nodup)(hi:X.N[i]?=some x)(hx:Loc X.env.scope x)(r:RelV v u)
  (h:∀ s',Inv X L4 (σ.set i (some v)) H s'->Q () s') (hf:autoParam (X.fn x=true\/X.env.scope.names.lookup x=some .local) aF._auto_1):wpAny M A (storeName X.env x u) Q E s :=
 qX I hN hi hx r (λs' I' _=>h s' I') hf
theorem Inv.A9{s':Shared}{ch:List Addr}(I:Inv X L4 σ H s)(ho:s'.os=s.os)(u:Un (vi X.stack) ch H H' s.heap s'.heap)(bK:mK X.prog X.w H' s'.heap)(hg:AllBare s'.gens)
  (NJ:∀ b∈ch,(b∈X.ex\/X.s₀.heap.objs.size<=b)/\b≠X.env.locals/\(∀ x c,X.env.cells.lookup x=some c->c≠b)/\∀ p∈X.pn++L4,p.1≠b):Inv X L4 σ H' s':=by
 obtain⟨h',g',d',t',o'⟩:=s'
 have e:o'=s.os:=ho
 subst e
 exact I.call (g':=g') (t':=t') (d':=d') u bK hg NJ
end
abbrev XK:=Value->Option Addr->Hp->Prop
abbrev St:=List (Option V)
abbrev VK:=V->Hp->Prop
abbrev TE:=St->Hp->VK->Prop
abbrev TT:=St->Hp->(Bool->Hp->Prop)->Prop
abbrev TA:=St->Hp->(List V->Hp->Prop)->Prop
structure Ends where
 nx:St->Hp->Prop
 rt:VK
 bk:St->Hp->Prop:=λ_ _=>False
 ct:St->Hp->Prop:=λ_ _=>False
abbrev TS:=Ends->St->Hp->Prop
def EP(X:Cx)(L4:List (Addr×Obj))(σ:St)(Q:VK)(u:Value)(s':Shared):Prop:=∃ v H',Inv X L4 σ H' s'/\RelV v u/\Q v H'
def TP(X:Cx)(L4:List (Addr×Obj))(σ:St)(Q:Bool->Hp->Prop)(b:Bool)(s':Shared):Prop:=∃ H',Inv X L4 σ H' s'/\Q b H'
def AP(X:Cx)(L4:List (Addr×Obj))(σ:St)(Q:List V->Hp->Prop)(us:List Value)(s':Shared):Prop:=∃ vs H',Inv X L4 σ H' s'/\Vals vs us/\Q vs H'
def SP(X:Cx)(L4:List (Addr×Obj))(D:Ends)(f:Flow)(s':Shared):Prop :=
 match f with
 | .next=>∃ σ' H',Inv X L4 σ' H' s'/\D.nx σ' H'
 | .brk=>∃ σ' H',Inv X L4 σ' H' s'/\D.bk σ' H'
 | .cont=>∃ σ' H',Inv X L4 σ' H' s'/\D.ct σ' H'
 | .ret u=>∃ v σ' H',Inv X L4 σ' H' s'/\RelV v u/\D.rt v H'
def PE(X:Cx)(e:Expr)(t:TE):Prop :=
 ∀ (L4:List (Addr×Obj)) (s:Shared) (σ:St) (H:Hp) (Q:VK),Inv X L4 σ H s->t σ H Q->wpAny (model X.prog X.w) X.A (eval e X.env) (EP X L4 σ Q) X.xe s
def PT(X:Cx)(e:Expr)(t:TT):Prop :=
 ∀ (L4:List (Addr×Obj)) (s:Shared) (σ:St) (H:Hp) (Q:Bool->Hp->Prop),Inv X L4 σ H s->t σ H Q->wpAny (model X.prog X.w) X.A (isTrue e X.env (eval e X.env)) (TP X L4 σ Q) X.xe s
def PW(X:Cx)(e:Expr)(t:TT):Prop :=
 ∀ (whole:Sem Value) (L4:List (Addr×Obj)) (s:Shared) (σ:St) (H:Hp) (Q:Bool->Hp->Prop),Inv X L4 σ H s->t σ H Q->wpAny (model X.prog X.w) X.A (isTrue e X.env whole) (TP X L4 σ Q) X.xe s
theorem PW.pt{X:Cx}{e:Expr}{t:TT}(h:PW X e t):PT X e t:=h _
def PA(X:Cx)(es:List Expr)(t:TA):Prop :=
 ∀ (pos:Pos) (L4:List (Addr×Obj)) (s:Shared) (σ:St) (H:Hp) (Q:List V->Hp->Prop),Inv X L4 σ H s->t σ H Q->wpAny (model X.prog X.w) X.A (spliced (backTo pos (starEach es X.env))) (AP X L4 σ Q) X.xe s
def PS(X:Cx)(st:Stmt)(t:TS):Prop :=
 ∀ (L4:List (Addr×Obj)) (s:Shared) (σ:St) (H:Hp) (D:Ends),Inv X L4 σ H s->t D σ H->wpAny (model X.prog X.w) X.A (exec st X.env) (SP X L4 D) X.xe s
def lW(X:Cx)(st:List Stmt)(t:TS):Prop :=
 ∀ (L4:List (Addr×Obj)) (s:Shared) (σ:St) (H:Hp) (D:Ends),Inv X L4 σ H s->t D σ H->wpAny (model X.prog X.w) X.A (execs st X.env) (SP X L4 D) X.xe s
theorem c7{α:Type}{t:Sem α}{Q Q':α->Shared->Prop}{M:Model}{A:Around}{E:Value->Shared->Prop}{s:Shared}(h:wpAny M A t Q E s)(hQ:∀ a s,Q a s->Q' a s):wpAny M A t Q' E s:=wpAny_mono h hQ λ_ _ x=>x
end L2
namespace L2
open PySem PySem.Spec PyProof.Rows
section
variable{X:Cx}
def JP(i:Nat):TE:=fun σ H Q=>∃ v,σ[i]?=some (some v)/\Q v H
def tC(v:V):TE:=λ_ H Q=>Q v H
theorem mf{i:Nat}{x:Str}{pos:Pos}(hN:X.N[i]?=some x)(hv:Ce X.env.scope x)(hd:autoParam ((x==("__debug__" : Str))=false) aD._auto_1)(Ng:autoParam ((x==("__classdict__" : Str))=false) aD._auto_1):PE X (.Name x pos) (JP i):=by
 intro L4 s σ H Q I h
 obtain⟨v,e,h⟩:=h
 obtain⟨m,hn,hl⟩:=I.loc
 obtain⟨u,r,l⟩:=hl i x v hN e hv
 have fin:EP X L4 σ Q u s:=⟨v,H,I,r,h⟩
 rcases l with ⟨hk,hm⟩ | ⟨hk,c,hc,NV⟩
 ·exact wpAny_Name (wpAny_loadName_local I.ok.kind hk hn hm fin) hd
 ·rcases hk with hk | hk
  ·exact wpAny_Name (wpAny_loadName_cell I.ok.kind hk hc NV fin) hd
  ·exact wpAny_Name (wpAny_loadName_free I.ok.kind hk hc NV fin Ng) hd
theorem FR{i j pos}:PE X (.Constant (.int i) j pos) (tC (.int i)):=λ_ _ _ H _ I h=>wpAny_Constant_int ⟨.int i,H,I.tok _,⟨_,rfl⟩,h⟩
theorem Ib{b j pos}:PE X (.Constant (.bool b) j pos) (tC (.bl b)):=λ_ _ _ H _ I h=>Constant_bool ⟨.bl b,H,I,rfl,h⟩
theorem EY{j pos}:PE X (.Constant .none j pos) (tC .cp):=λ_ _ _ H _ I h=>Constant_none ⟨.cp,H,I,rfl,h⟩
theorem FH{x j pos}:PE X (.Constant (.str x) j pos) (tC (.str x)):=λ_ _ _ H _ I h=>Calls.Constant_str ⟨.str x,H,I.tok _,⟨_,rfl⟩,h⟩
def Gl(X:Cx)(x:Str):Prop:=X.env.kindOf x=some .globalImplicit
theorem lS{E:Value->Shared->Prop}{L4:List (Addr×Obj)}{s:Shared}{σ:St}{H:Hp}{x:Str}{u:Value}{pos:Pos}{Q:Value->Shared->Prop}(I:Inv X L4 σ H s)(hg:Gl X x)(hm:X.mg x=some u)(h:Q u s)
  (hd:autoParam ((x==("__debug__" : Str))=false) aD._auto_1):wpAny (model X.prog X.w) X.A (eval (.Name x pos) X.env) Q E s :=
 Calls.Name_function_global I.ok.kind hg (Calls.loadGlobal_global (by rw[I.ok.glob];exact I.mod.glob.keeps I.bk) hm h) hd
theorem jn{E:Value->Shared->Prop}{L4:List (Addr×Obj)}{s:Shared}{σ:St}{H:Hp}{x:Str}{u:Value}{pos:Pos}{Q:Value->Shared->Prop}(I:Inv X L4 σ H s)(hg:Gl X x)(hm:X.mg x=none)(hv:bootBuiltins x=some u)(h:Q u s)
  (hn:autoParam (x ≠ "__name__") aD._auto_1) (hd:autoParam ((x==("__debug__" : Str))=false) aD._auto_1):wpAny (model X.prog X.w) X.A (eval (.Name x pos) X.env) Q E s:=by
 obtain⟨mb,h1,h2⟩:=I.mod.blt
 exact Calls.Name_function_global I.ok.kind hg (Calls.loadGlobal_builtin (by rw[I.ok.glob];exact I.mod.glob.keeps I.bk) hm (by rw[I.ok.blt];exact h1.keeps I.bk) ((h2 x hn).trans hv) h) hd
theorem Dz{x:Str}{v:V}{u:Value}{pos:Pos}(hg:Gl X x)(hm:X.mg x=some u)(r:RelV v u)(hd:autoParam ((x==("__debug__" : Str))=false) aD._auto_1):PE X (.Name x pos) (tC v) :=
 λ_ _ _ H _ I h=>lS I hg hm ⟨v,H,I,r,h⟩ hd
theorem lB{x:Str}{v:V}{u:Value}{pos:Pos}(hg:Gl X x)(hm:X.mg x=none)(hv:bootBuiltins x=some u)(r:RelV v u)(hn:autoParam (x ≠ "__name__") aD._auto_1)(hd:autoParam ((x==("__debug__" : Str))=false) aD._auto_1):PE X (.Name x pos) (tC v) :=
 λ_ _ _ H _ I h=>jn I hg hm hv ⟨v,H,I,r,h⟩ hn hd
variable{a b:Expr}{ta tb:TE}{pos:Pos}
def tB(t:TE):TT:=fun σ H Q=>t σ H λx H1=>∃ c,x=.bl c/\Q c H1
theorem E6{e:Expr}{t:TE}(h:PE X e t)(he:autoParam (∀ whole,isTrue e X.env whole=(do let v ← whole;standAt e.pos;holding [v] (truthy v))) aI._auto_1):PT X e (tB t):=by
 intro L4 s σ H Q I hw
 refine isTrue_plain (c7 (h L4 s σ H _ I hw) λv s1 ⟨x,H1,I1,r1,q1⟩=>?_) (he _)
 obtain⟨d,rfl,q⟩:=q1
 cases r1
 exact wpAny_truthy_bool ⟨H1,I1,q⟩
variable{tA tB':TT}{rest:List Expr}
def KQ(t u:TT):TT:=fun σ H Q=>t σ H λc H1=>if c=true then u σ H1 Q else Q false H1
def Lr(t u:TT):TT:=fun σ H Q=>t σ H λc H1=>if c=true then Q true H1 else u σ H1 Q
def KJ(t:TT):TT:=fun σ H Q=>t σ H λc H1=>Q (!c) H1
theorem pw_and1(ha:PT X a tA):PW X (.BoolOp .And [a] pos) tA:=by
 intro wh L4 s σ H Q I h
 refine isTrue_and (c7 (ha L4 s σ H Q I h) λc s1 e=>?_)
 cases c with
 | true=>exact isTrue_and_nil e
 | false=>exact e
theorem pw_or1(ha:PT X a tA):PW X (.BoolOp .Or [a] pos) tA:=by
 intro wh L4 s σ H Q I h
 refine isTrue_or (c7 (ha L4 s σ H Q I h) λc s1 e=>?_)
 cases c with
 | false=>exact isTrue_or_nil e
 | true=>exact e
theorem pw_and(ha:PT X a tA)(hb:PW X (.BoolOp .And (b::rest) pos) tB'):PW X (.BoolOp .And (a::b::rest) pos) (KQ tA tB'):=by
 intro wh L4 s σ H Q I h
 refine isTrue_and (c7 (ha L4 s σ H _ I h) λc s1 ⟨H1,I1,q1⟩=>?_)
 cases c with
 | true=>exact hb wh L4 s1 σ H1 Q I1 q1
 | false=>exact⟨H1,I1,q1⟩
theorem pw_or(ha:PT X a tA)(hb:PW X (.BoolOp .Or (b::rest) pos) tB'):PW X (.BoolOp .Or (a::b::rest) pos) (Lr tA tB'):=by
 intro wh L4 s σ H Q I h
 refine isTrue_or (c7 (ha L4 s σ H _ I h) λc s1 ⟨H1,I1,q1⟩=>?_)
 cases c with
 | true=>exact⟨H1,I1,q1⟩
 | false=>exact hb wh L4 s1 σ H1 Q I1 q1
theorem Ge(ha:PT X a tA):PT X (.UnaryOp .Not a pos) (KJ tA):=by
 intro L4 s σ H Q I h
 exact isTrue_not (ha L4 s σ H (λc H1=>Q (!c) H1) I h)
def I0(ta tb:TE):TE:=fun σ H Q=>ta σ H λx H1=>∃ c,x=.bl c/\if c=true then tb σ H1 Q else Q (.bl false) H1
def IA(ta:TE):TE:=fun σ H Q=>ta σ H λx H1=>∃ c,x=.bl c/\Q (.bl (!c)) H1
theorem wc{op}{t:TE}(h:PE X a t):PE X (.BoolOp op [a] pos) t:=λL4 s σ H Q I hw=>BoolOp_one (h L4 s σ H Q I hw)
theorem Hm(ha:PE X a ta)(hb:PE X (.BoolOp .And (b::rest) pos) tb):PE X (.BoolOp .And (a::b::rest) pos) (I0 ta tb):=by
 intro L4 s σ H Q I h
 refine BoolOp_and (c7 (ha L4 s σ H _ I h) λv s1 ⟨x,H1,I1,r1,q1⟩=>?_)
 obtain⟨c,rfl,q1⟩:=q1
 cases r1
 refine wpAny_truthy_bool ?_
 cases c with
 | true=>exact hb L4 s1 σ H1 Q I1 q1
 | false=>exact⟨.bl false,H1,I1,rfl,q1⟩
theorem Fl(ha:PE X a ta):PE X (.UnaryOp .Not a pos) (IA ta):=by
 intro L4 s σ H Q I h
 refine UnaryOp_ (c7 (ha L4 s σ H _ I h) λv s1 ⟨x,H1,I1,r1,q1⟩=>?_)
 obtain⟨c,rfl,q1⟩:=q1
 cases r1
 exact not_of (wpAny_truthy_bool ⟨.bl (!c),H1,I1,rfl,q1⟩)
def Lz(t:TT)(ta tb:TE):TE:=fun σ H Q=>t σ H λc H1=>if c=true then ta σ H1 Q else tb σ H1 Q
theorem B_{c:Expr}(hc:PT X c tA)(ha:PE X a ta)(hb:PE X b tb):PE X (.IfExp c a b pos) (Lz tA ta tb):=by
 intro L4 s σ H Q I h
 refine wpAny_IfExp (c7 (hc L4 s σ H _ I h) λd s1 ⟨H1,I1,q1⟩=>?_)
 cases d with
 | true=>exact ha L4 s1 σ H1 Q I1 q1
 | false=>exact hb L4 s1 σ H1 Q I1 q1
end
end L2
namespace L2
open PySem PySem.Spec PyProof.Rows
def iw(K:PySem.W.Frag)(H:Hp)(a:Addr)(xs:List V):Prop :=
 Rd H a (.lst xs) ∨
  ∃ (o:Obj) (L7:Array Value) (n:Nat),K.lookup a=some o/\o.cls=.type "list" /\ o.dict=none/\o.data=.seq L7 n/\L7.size<=sizeLine/\Vals xs L7.toList
def gB(K:PySem.W.Frag)(H:Hp)(a:Addr)(xs:List V):Prop :=
 Rd H a (.tup xs) ∨
  ∃ (o:Obj) (L7:Array Value) (n:Nat),K.lookup a=some o/\o.cls=.type "tuple" /\ o.data=.seq L7 n/\L7.size<=sizeLine/\Vals xs L7.toList
def Ke:Value->Option V
 | .none=>some .cp
 | .bool b=>some (.bl b)
 | .int i _=>some (.int i)
 | .str x _=>some (.str x)
 | .bytes b _=>some (.byt b)
 | .float b _=>some (.EM b)
 | .ref a=>some (.ref a)
 | .type n=>some (.ty n)
 | _=>none
theorem RelV.abs{x:V}{u:Value}(r:RelV x u):Ke u=some x:=by
 cases x with
 | cp=>cases r;rfl
 | bl _=>cases r;rfl
 | int _=>obtain⟨t,rfl⟩:=r;rfl
 | str _=>obtain⟨t,rfl⟩:=r;rfl
 | byt _=>obtain⟨t,rfl⟩:=r;rfl
 | EM _=>obtain⟨t,rfl⟩:=r;rfl
 | ref _=>cases r;rfl
 | ty _=>cases r;rfl
theorem RelV.inj{x y:V}{u:Value}(r:RelV x u)(q:RelV y u):x=y:=Option.some.inj (r.abs.symm.trans q.abs)
theorem Vals.inj:∀ {xs ys:List V} {us:List Value},Vals xs us->Vals ys us->xs=ys
 | _,_,_,.nil,.nil=>rfl
 | _,_,_,.cons r t,.cons r' t'=>by rw[r.inj r',Vals.inj t t']
section
variable{X:Cx}{L4:List (Addr×Obj)}{σ:St}{H:Hp}{s:Shared}{a:Addr}{xs ys:List V}
theorem iw.of{K:PySem.W.Frag}(h:H a=some (.lst xs)):iw K H a xs:=.inl (.inl h)
theorem gB.of{K:PySem.W.Frag}(h:H a=some (.tup xs)):gB K H a xs:=.inl (.inl h)
theorem Inv.list(I:Inv X L4 σ H s)(h:iw X.K H a xs):∃ L7:List Value,Vals xs L7/\PlainL s.heap a L7.toArray/\xs.length<=sizeLine:=by
 rcases h with h | ⟨o,L7,n,hk,hc,hd,hs,hz,r⟩
 ·obtain⟨z,L7,n,r,e⟩:=h.ok I.bK
  exact⟨L7,r,⟨_,n,e,rfl,rfl,rfl⟩,z⟩
 ·refine⟨L7.toList,r,⟨o,n,I.jV a o hk,hc,hd,by simpa using hs⟩,?_⟩
  have e:=r.length
  simp only[Array.length_toList] at e
  omega
theorem Inv.tuple(I:Inv X L4 σ H s)(h:gB X.K H a xs):∃ L7:List Value,Vals xs L7/\IsTup s.heap a L7.toArray/\xs.length<=sizeLine:=by
 rcases h with h | ⟨o,L7,n,hk,hc,hs,hz,r⟩
 ·obtain⟨z,L7,r,p⟩:=h.ok I.bK
  exact⟨L7,r,p,z⟩
 ·refine⟨L7.toList,r,⟨o,I.jV a o hk,hc,n,by simpa using hs⟩,?_⟩
  have e:=r.length
  simp only[Array.length_toList] at e
  omega
theorem Inv.oK(I:Inv X L4 σ H s)(h:iw X.K H a xs)(h':iw X.K H a ys):xs=ys:=by
 obtain⟨L7,r,⟨o,n,e,_,_,d⟩,_⟩:=I.list h
 obtain⟨its',r',⟨o',n',e',_,_,d'⟩,_⟩:=I.list h'
 rw[e] at e';cases e'
 rw[d] at d'
 injection d' with d1 _
 have:L7=its':=by simpa using congrArg Array.toList d1
 subst this
 exact r.inj r'
theorem Inv.mx(I:Inv X L4 σ H s)(h:gB X.K H a xs)(h':gB X.K H a ys):xs=ys:=by
 obtain⟨L7,r,⟨o,e,_,n,d⟩,_⟩:=I.tuple h
 obtain⟨its',r',⟨o',e',_,n',d'⟩,_⟩:=I.tuple h'
 rw[e] at e';cases e'
 rw[d] at d'
 injection d' with d1 _
 have:L7=its':=by simpa using congrArg Array.toList d1
 subst this
 exact r.inj r'
end
abbrev Cx.qf(X:Cx)(E:Value->Shared->Prop):Cx:={ X with xe:=E }
theorem Cx.Ok.qf{X:Cx}(ok:X.Ok)(E:Value->Shared->Prop):(X.qf E).Ok :=
 ⟨ok.mod,ok.kind,ok.glob,ok.blt,ok.above,ok.inj,ok.has,ok.IF,ok.hd,ok.frames,ok.JM,ok.Kq,ok.bs,ok.En,ok.zd,ok.z7,ok.nv,ok.FK⟩
theorem Cx.Ok.iG{X:Cx}{E:Value->Shared->Prop}(ok:(X.qf E).Ok):X.Ok :=
 ⟨ok.mod,ok.kind,ok.glob,ok.blt,ok.above,ok.inj,ok.has,ok.IF,ok.hd,ok.frames,ok.JM,ok.Kq,ok.bs,ok.En,ok.zd,ok.z7,ok.nv,ok.FK⟩
section
variable{X:Cx}{L4:List (Addr×Obj)}{σ:St}{H:Hp}{s:Shared}{E:Value->Shared->Prop}
theorem Inv.qf(I:Inv X L4 σ H s)(E:Value->Shared->Prop):Inv (X.qf E) L4 σ H s:=⟨I.ok.qf E,I.os,I.bare,I.base,I.loc,I.cell,I.free,I.kI,I.pin,I.bK,I.len⟩
theorem Inv.iG(I:Inv (X.qf E) L4 σ H s):Inv X L4 σ H s:=⟨I.ok.iG,I.os,I.bare,I.base,I.loc,I.cell,I.free,I.kI,I.pin,I.bK,I.len⟩
theorem SP.iG{D:Ends}{f:Flow}{s':Shared}(h:SP (X.qf E) L4 D f s'):SP X L4 D f s':=by
 cases f with
 | next=>obtain⟨σ',H',I,q⟩:=h;exact⟨σ',H',I.iG,q⟩
 | brk=>obtain⟨σ',H',I,q⟩:=h;exact⟨σ',H',I.iG,q⟩
 | cont=>obtain⟨σ',H',I,q⟩:=h;exact⟨σ',H',I.iG,q⟩
 | ret u=>obtain⟨v,σ',H',I,r,q⟩:=h;exact⟨v,σ',H',I.iG,r,q⟩
end
section
variable{X:Cx}{st:Stmt}{rest:List Stmt}{t u:TS}{e:Expr}{te:TE}{pos:Pos}
def Im:TS:=λD σ H=>D.nx σ H
def JR(t u:TS):TS:=λD σ H=>t { D with nx:=u D } σ H
theorem CI:lW X [] Im:=λ_ _ σ H _ I h=>wpAny_execs_nil ⟨σ,H,I,h⟩
theorem Bg(h1:PS X st t)(h2:lW X rest u):lW X (st::rest) (JR t u):=by
 intro L4 s σ H D I h
 refine wpAny_execs_cons (c7 (h1 L4 s σ H { D with nx:=u D } I h) λf s1 q=>?_)
 cases f with
 | next =>
  obtain⟨σ',H',I',q⟩:=q
  exact h2 L4 s1 σ' H' D I' q
 | ret v=>exact q
 | brk=>exact q
 | cont=>exact q
theorem Cq(h1:PS X st t):lW X [st] t:=by
 intro L4 s σ H D I h
 refine wpAny_execs_cons (c7 (h1 L4 s σ H D I h) λf s1 q=>?_)
 cases f with
 | next=>exact wpAny_execs_nil q
 | ret v=>exact q
 | brk=>exact q
 | cont=>exact q
theorem Inv.quiet{L4:List (Addr×Obj)}{σ:St}{H:Hp}{s:Shared}(I:Inv X L4 σ H s):interactive X.env=false:=by simp[interactive,I.ok.kind]
def Jb(te:TE):TS:=λD σ H=>te σ H λ_ H1=>D.nx σ H1
theorem xc(he:PE X e te)(hs:autoParam (swapsWith e none pos.line X.env=pure false) aR._auto_1):PS X (.Expr e pos) (Jb te):=by
 intro L4 s σ H D I h
 exact wpAny_Expr_any (c7 (he L4 s σ H _ I h) λv s1 ⟨x,H1,I1,r1,q1⟩=>⟨σ,H1,I1,q1⟩) I.quiet hs
def JS(te:TE):TS:=λD σ H=>te σ H D.rt
theorem Fx(he:PE X e te):PS X (.Return (some e) pos) (JS te):=by
 intro L4 s σ H D I h
 exact wpAny_Return_some (c7 (he L4 s σ H _ I h) λv s1 ⟨x,H1,I1,r1,q1⟩=>⟨x,σ,H1,I1,r1,q1⟩)
def Kz(c:TT)(t u:TS):TS:=λD σ H=>c σ H λb H1=>if b=true then t D σ H1 else u D σ H1
theorem HI{c:Expr}{a b:List Stmt}{tc:TT}(hc:PT X c tc)(ha:lW X a t)(hb:lW X b u):PS X (.If c a b pos) (Kz tc t u):=by
 intro L4 s σ H D I h
 refine wpAny_If (c7 (hc L4 s σ H _ I h) λd s1 ⟨H1,I1,q1⟩=>?_)
 cases d with
 | true=>exact ha L4 s1 σ H1 D I1 q1
 | false=>exact hb L4 s1 σ H1 D I1 q1
end
abbrev TG:=V->St->Hp->(St->Hp->Prop)->Prop
abbrev FL:=List V->St->Hp->(St->Hp->Prop)->Prop
def PG(X:Cx)(target:Expr)(t:TG):Prop :=
 ∀ (L4:List (Addr×Obj)) (s:Shared) (σ:St) (H:Hp) (v:V) (u:Value) (Q:St->Hp->Prop),Inv X L4 σ H s->RelV v u->t v σ H Q ->
  wpAny (model X.prog X.w) X.A (assign target X.env u) (λ_ s'=>∃ σ' H',Inv X L4 σ' H' s'/\Q σ' H') X.xe s
def JI(X:Cx)(ts:List Expr)(t:FL):Prop :=
 ∀ (L4:List (Addr×Obj)) (s:Shared) (σ:St) (H:Hp) (vs:List V) (us:List Value) (Q:St->Hp->Prop),Inv X L4 σ H s->Vals vs us->t vs σ H Q ->
  wpAny (model X.prog X.w) X.A (assignInOrder ((assignEach ts X.env).map (·.2)) us) (λ_ s'=>∃ σ' H',Inv X L4 σ' H' s'/\Q σ' H') X.xe s
abbrev FX:=V->V->V->Hp->(Hp->Prop)->Prop
def Je(X:Cx)(t:FX):Prop :=
 ∀ (L4:List (Addr×Obj)) (s:Shared) (σ:St) (H:Hp) (o i v:V) (ov iv u:Value) (Q:Hp->Prop),Inv X L4 σ H s->RelV o ov->RelV i iv->RelV v u->t o i v H Q ->
  wpAny (model X.prog X.w) X.A (setItem ov iv u) (λ_ s'=>∃ H',Inv X L4 σ H' s'/\Q H') X.xe s
section
variable{X:Cx}{pos:Pos}
def aH(i:Nat):TG:=λv σ H Q=>Q (σ.set i (some v)) H
theorem D9{i:Nat}{x:Str}(hN:X.N.Nodup)(hi:X.N[i]?=some x)(hx:Loc X.env.scope x)(hf:autoParam (X.fn x=true\/X.env.scope.names.lookup x=some .local) aF._auto_1):PG X (.Name x pos) (aH i):=by
 intro L4 s σ H v u Q I r h
 exact wpAny_assign_Name (uP I hN hi hx r (λs' I'=>⟨_,H,I',h⟩) hf)
def iW:FL:=λvs σ H Q=>vs=[]/\Q σ H
def bG(t:TG)(u:FL):FL:=λvs σ H Q=>∃ v r,vs=v::r/\t v σ H fun σ' H'=>u r σ' H' Q
theorem cz:JI X [] iW:=by
 intro L4 s σ H vs us Q I r h
 obtain⟨e,h⟩:=h
 subst e
 cases r
 exact assignInOrder_nil ⟨σ,H,I,h⟩
theorem aJ{e:Expr}{es:List Expr}{t:TG}{u:FL}(h1:PG X e t)(h2:JI X es u)
  (hs:autoParam ((assignEach (e::es) X.env).map (·.2)=assign e X.env::(assignEach es X.env).map (·.2)) aR._auto_1):JI X (e::es) (bG t u):=by
 intro L4 s σ H vs us Q I r h
 obtain⟨v,vr,e1,h⟩:=h
 subst e1
 cases r with
 | cons r rr =>
  rw[hs]
  refine assignInOrder_cons (c7 (h1 L4 s σ H _ _ _ I r h) λ_ s1 ⟨σ1,H1,I1,q1⟩=>?_)
  exact h2 L4 s1 σ1 H1 _ _ Q I1 rr q1
def iQ(K:PySem.W.Frag)(n:Nat)(t:FL):TG:=λv σ H Q=>∃ a xs,v=.ref a/\gB K H a xs/\xs.length=n/\t xs σ H Q
theorem dJ{es:List Expr}{k:Nat}{t:FL}{n:Nat}(hc:X.calm=true)(h:JI X es t)
  (hn:autoParam ((assignEach es X.env).length=n) aR._auto_1) (Mu:autoParam ((assignEach es X.env).findIdx? (·.1)=none) aR._auto_1):PG X (.Tuple es k pos) (iQ X.K n t):=by
 intro L4 s σ H v u Q I r hw
 obtain⟨a,xs,e1,hq,hl,hw⟩:=hw
 subst e1
 cases r
 obtain⟨L7,rv,ht,hz⟩:=I.tuple hq
 refine assign_Tuple_tuple (I.ok.hd hc) ht (by simp[hn,← hl,rv.length]) Mu λh' hx=>?_
 have I1:Inv X L4 σ H { s with heap:=h' }:=I.kept (t':=s.toks) λb o e=>hx b o (Nat.ne_of_lt (Heap.lt_size e)) e
 exact h L4 _ σ H xs _ Q I1 (by simpa using rv) hw
def KR(to ti:TE)(t:FX):TG:=λv σ H Q=>to σ H λo H1=>ti σ H1 λi H2=>t o i v H2 λH3=>Q σ H3
theorem Ha{o i:Expr}{to ti:TE}{t:FX}(ho:PE X o to)(hi:PE X i ti)(hs:Je X t)
  (ha:autoParam (∀ v,assign (.Subscript o i pos) X.env v=(do
   let ov ← holding [v] (eval o X.env)
   let iv ← holding [v,ov] (eval i X.env)
   standAt pos
   holding [v,ov,iv] (setItem ov iv v)
   release [v,ov,iv] [])) aI._auto_1):PG X (.Subscript o i pos) (KR to ti t):=by
 intro L4 s σ H v u Q I r h
 rw[ha]
 refine wpAny_bind (wpAny_holding (c7 (ho L4 s σ H _ I h) λov s1 ⟨x,H1,I1,r1,q1⟩=>?_))
 refine wpAny_bind (wpAny_holding (c7 (hi L4 s1 σ H1 _ I1 q1) λiv s2 ⟨y,H2,I2,r2,q2⟩=>?_))
 refine wpAny_bind (wpAny_standAt (wpAny_bind (wpAny_holding (c7 (hs L4 s2 σ H2 x y v ov iv u _ I2 r1 r2 r q2) λ_ s3 ⟨H3,I3,q3⟩=>?_))))
 exact wpAny_release ⟨σ,H3,I3,q3⟩
def G6(te:TE)(g:TG):TS:=λD σ H=>te σ H λx H1=>g x σ H1 D.nx
theorem GX{tg e:Expr}{te:TE}{g:TG}(he:PE X e te)(hg:PG X tg g)(hs:autoParam (swapsWithSole [tg] e pos.line X.env=pure false) aR._auto_1)(hw:autoParam (swappedStores [tg] e X.env=pure none) aR._auto_1)
  (h1:autoParam ((assignEach [tg] X.env).map (·.2)=[assign tg X.env]) aR._auto_1):PS X (.Assign [tg] e pos) (G6 te g):=by
 intro L4 s σ H D I h
 refine wpAny_Assign_stores (c7 (he L4 s σ H _ I h) λv s1 ⟨x,H1,I1,r1,q1⟩=>?_) hs hw
 rw[h1]
 exact c7 (hg L4 s1 σ H1 x v _ I1 r1 q1) λ_ s2 q=>q
theorem AM{i:Nat}{x:Str}{e:Expr}{te:TE}{pos':Pos}(hN:X.N.Nodup)(hi:X.N[i]?=some x)(hx:Loc X.env.scope x)(he:PE X e te)(hs:autoParam (swapsWith e (some (.Name x pos')) pos.line X.env=pure false) aR._auto_1)(hf:autoParam (X.fn x=true\/X.env.scope.names.lookup x=some .local) aF._auto_1) :
  PS X (.Assign [.Name x pos'] e pos) (G6 te (aH i)):=by
 intro L4 s σ H D I h
 refine wpAny_Assign_Name (c7 (he L4 s σ H _ I h) λv s1 ⟨y,H1,I1,r1,q1⟩=>?_) hs
 exact uP I1 hN hi hx r1 (λs2 I2=>⟨_,H1,I2,q1⟩) hf
end
section
variable{X:Cx}{pos:Pos}
def GL(c:TT)(tb:TS):TS:=λD σ H=>∃ W:Nat->St->Hp->Prop,(∃ m,W m σ H)/\∀ m σ H,W m σ H ->
 c σ H λb H1=>if b=true then ∃ N:St->Hp->Prop,(∀ σ' H',N σ' H'->∃ m',m'<m/\W m' σ' H')/\tb { D with nx:=N,ct:=N,bk:=D.nx } σ H1 else D.nx σ H1
theorem zm{c:Expr}{body:List Stmt}{tc:TT}{tb:TS}(hp:PassesOwn (model X.prog X.w) X.A X.env X.xe)(hc:PT X c tc)(hb:lW X body tb):PS X (.While c body [] pos) (GL tc tb):=by
 intro L4 s σ H D I h
 obtain⟨W,⟨m0,w0⟩,turn⟩:=h
 refine wpAny_While (codeAny_whileLoop (λn s'=>∃ σ' H',Inv X L4 σ' H' s'/\W n σ' H') ?_ m0 ⟨σ,H,I,w0⟩)
 rintro n s1 ⟨σ1,H1,I1,w1⟩
 refine wpAny_passesOwn hp (c7 (hc L4 s1 σ1 H1 _ I1 (turn n σ1 H1 w1)) λb s2 ⟨H2,I2,q2⟩=>?_)
 cases b with
 | true =>
  obtain⟨N,hN,q2⟩:=q2
  rw[if_pos rfl]
  refine wpAny_passesOwn hp (c7 (hb L4 s2 σ1 H2 _ I2 q2) λf s3 q3=>?_)
  cases f with
  | next =>
   obtain⟨σ3,H3,I3,n3⟩:=q3
   obtain⟨m',hm,w3⟩:=hN σ3 H3 n3
   exact⟨m',hm,σ3,H3,I3,w3⟩
  | cont =>
   obtain⟨σ3,H3,I3,n3⟩:=q3
   obtain⟨m',hm,w3⟩:=hN σ3 H3 n3
   exact⟨m',hm,σ3,H3,I3,w3⟩
  | brk=>exact q3
  | ret v=>exact q3
 | false =>
  rw[if_neg Bool.false_ne_true]
  exact wpAny_execs_nil ⟨σ1,H2,I2,q2⟩
end
structure It where
 go:Nat->Hp->Prop
 tq:Nat->Hp->V->Hp->Prop
 stop:Nat->Hp->Prop
def lD(X:Cx)(L4:List (Addr×Obj))(H:Hp)(b:Addr):Prop :=
 H b=none/\b≠X.env.locals/\b ∉ X.fs/\(b∈X.ex\/X.s₀.heap.objs.size<=b)/\(∀ x c,X.env.cells.lookup x=some c->c≠b)/\∀ p∈X.pn++L4,p.1≠b
theorem Inv.sI{X:Cx}{L4:List (Addr×Obj)}{σ:St}{H H':Hp}{s:Shared}{b:Addr}(I:Inv X L4 σ H s)(hb:s.heap.objs.size<=b)(hn:H' b=none):lD X L4 H' b:=by
 refine⟨hn,Nat.ne_of_gt (Nat.lt_of_lt_of_le I.lt hb),I.J3 hb,.inr (Nat.le_trans I.sz hb),λx c e z=>?_,λp hp z=>?_⟩
 ·obtain⟨v,q⟩:=I.cell x c e
  exact absurd (Nat.lt_of_lt_of_le q.lt (by rw[z];exact hb)) (Nat.lt_irrefl _)
 ·exact absurd (Nat.lt_of_lt_of_le (Heap.lt_size (I.pin p hp).1) (by rw[z];exact hb)) (Nat.lt_irrefl _)
structure Turn (P:Program) (w:World) (K:PySem.W.Frag) (tg:Expr) (J:It) (fp:List Addr) (it:Addr) (tn:Nat->Heap->Prop):Prop where
 mem:it∈fp
 obj:∀ i h,tn i h->∀ b∈fp,∃ o,h.get? b=some o/\∀ v,o.data≠.cell v
 keep:∀ i h h',tn i h->(∀ b∈fp,∀ o,h.get? b=some o->h'.get? b=some o)->tn i h'
 item:∀ (X:Cx),X.prog=P->X.w=w->X.K=K->X.calm=true->∀ (i:Nat) (L4:List (Addr×Obj)) (s:Shared) (σ:St) (H:Hp) (E:Value->Shared->Prop),Inv X L4 σ H s->(∀ b∈fp,lD X L4 H b)->tn i s.heap->J.go i H ->
  wpAny (model P w) X.A (pyNext (.ref it)) (λr s1=>∃ u,r=some u ∧
   wpAny (model P w) X.A (letOwnedTupleGo tg (.ref it) u) (λ_ s2=>∃ x H',Inv X L4 σ H' s2/\RelV x u/\J.tq i H x H'/\tn (i+1) s2.heap/\∀ b∈fp,H' b=none) E s1) E s
 done:∀ (X:Cx),X.prog=P->X.w=w->X.K=K->X.calm=true->∀ (i:Nat) (L4:List (Addr×Obj)) (s:Shared) (σ:St) (H:Hp) (E:Value->Shared->Prop),Inv X L4 σ H s->(∀ b∈fp,lD X L4 H b)->tn i s.heap->J.stop i H ->
  wpAny (model P w) X.A (pyNext (.ref it)) (λr s1=>r=none/\Inv X L4 σ H s1) E s
 self:∀ (A:Around) (i:Nat) (s:Shared) (Q:Value->Shared->Prop) (E:Value->Shared->Prop),tn i s.heap->Q (.ref it) s->wpAny (model P w) A (pyIter (.ref it)) Q E s
abbrev TI:=St->Hp->(It->Hp->Prop)->Prop
def J9(X:Cx)(L4:List (Addr×Obj))(σ:St)(tg:Expr)(R:It->Hp->Prop)(itv:Value)(s2:Shared):Prop :=
 ∃ (it:Addr) (fp:List Addr) (tn:Nat->Heap->Prop) (J:It) (H':Hp),itv=.ref it/\Inv X L4 σ H' s2/\Turn X.prog X.w X.K tg J fp it tn/\tn 0 s2.heap/\(∀ b∈fp,lD X L4 H' b)/\R J H'
def PI(X:Cx)(tg iter:Expr)(wi:TI):Prop :=
 ∀ (L4:List (Addr×Obj)) (s:Shared) (σ:St) (H:Hp) (R:It->Hp->Prop),Inv X L4 σ H s->wi σ H R ->
  wpAny (model X.prog X.w) X.A (eval iter X.env) (λv s1=>wpAny (model X.prog X.w) X.A (pyIter v) (J9 X L4 σ tg R) X.xe s1) X.xe s
theorem wZ {M : Model} {A : Around} {E : Value -> Shared -> Prop} {s : Shared} {tg : Expr} {it : Addr} {u : Value} {o : Obj} {n : String} {vs : Array Value} {Q : Unit -> Shared -> Prop} (ho : s.heap.get? it = some o) (hc : o.cls = .type n) (hd : o.data = .fields vs)
    (hn : ["enumerate", "zip", "dict_itemiterator", "dict_reverseitemiterator", "odict_iterator", "itertools.zip_longest", "itertools.pairwise"].contains n = false) (hQ : Q () s) : wpAny M A (letOwnedTupleGo tg (.ref it) u) Q E s := by
  unfold letOwnedTupleGo
  cases tg <;> first
    | exact wpAny_pure hQ
    | (cases u <;> first
        | exact wpAny_pure hQ
        | (refine wpAny_bind (wpAny_load ho ?_)
           rw [hc, hd]
           show wpAny M A (if (["enumerate", "zip", "dict_itemiterator", "dict_reverseitemiterator", "odict_iterator", "itertools.zip_longest", "itertools.pairwise"].contains n && vs[0]? == some (rawInt _)) = true then _ else _) Q E s
           rw [if_neg (by intro h; rw [hn, Bool.false_and] at h; cases h)]
           exact wpAny_pure hQ))
def Lq(K:PySem.W.Frag)(a:Addr):It :=
 ⟨λi H=>∃ xs x,iw K H a xs/\xs[i]?=some x,λi H x H'=>H'=H/\∀ xs,iw K H a xs->xs[i]?=some x,λi H=>∃ xs,iw K H a xs/\xs.length<=i⟩
def Ln(K:PySem.W.Frag)(a:Addr):It :=
 ⟨λi H=>∃ xs x,gB K H a xs/\xs[i]?=some x,λi H x H'=>H'=H/\∀ xs,gB K H a xs->xs[i]?=some x,λi H=>∃ xs,gB K H a xs/\xs.length<=i⟩
def Jw(lo:Int)(n:Nat):It:=⟨λi _=>i<n,λi H x H'=>H'=H/\x=.int (lo+i),λi _=>n<=i⟩
theorem xK{P:Program}{w:World}{K:PySem.W.Frag}{tg:Expr}(a it:Addr):Turn P w K tg (Lq K a) [it] it (λi h=>h.IsListIter it a i) where
 mem:=by simp
 obj:=λi h st b hb=>by
  have e:b=it:=by simpa using hb
  subst e
  obtain⟨o,e,c,d⟩:=st
  exact⟨o,e,λv z=>by rw[d] at z;cases z⟩
 keep:=λi h h' st k=>st.at λo e=>k it (by simp) o e
 item:=by
  intro X hP hw hK hc i L4 s σ H E I hf st hg
  subst hP hw hK
  obtain⟨xs,x,hq,hx⟩:=hg
  obtain⟨L7,rv,p,hz⟩:=I.list hq
  obtain⟨u,hu,ru⟩:=rv.get hx
  obtain⟨f0,f1,f2,f3,f4,f5⟩:=hf it (by simp)
  refine wpAny_pyNext_list_item st p.isList (x:=u) (by simpa using hu) λh' M3 sb=>?_
  have I1:Inv X L4 σ H { s with heap:=h' }:=I.turned (t':=s.toks) (λb o hb e=>(sb.2 b hb).trans e) f0 f1 f3 f4 f5
  obtain⟨o,e,c,d⟩:=id M3
  exact⟨u,rfl,wZ (s:={ s with heap:=h' }) e c d (by decide) ⟨x,H,I1,ru,⟨rfl,λys hy=>by rw[I.oK hy hq];exact hx⟩,M3,λb hb=>(hf b hb).1⟩⟩
 done:=by
  intro X hP hw hK hc i L4 s σ H E I hf st hg
  subst hP hw hK
  obtain⟨xs,hq,hx⟩:=hg
  obtain⟨L7,rv,p,hz⟩:=I.list hq
  obtain⟨f0,f1,f2,f3,f4,f5⟩:=hf it (by simp)
  have hl:=rv.length
  exact wpAny_pyNext_list_end (I.ok.hd hc) st p.isList (by simp;omega) λh' eb=>⟨rfl,I.turned (t':=s.toks) (λb o hb e=>eb b o hb e) f0 f1 f3 f4 f5⟩
 self:=λ_ _ _ _ _ st h=>wpAny_pyIter_listiter st h
theorem vp{P:Program}{w:World}{K:PySem.W.Frag}{tg:Expr}(a it:Addr):Turn P w K tg (Ln K a) [it] it (λi h=>h.IsTupleIter it a i) where
 mem:=by simp
 obj:=λi h st b hb=>by
  have e:b=it:=by simpa using hb
  subst e
  obtain⟨o,e,c,d⟩:=st
  exact⟨o,e,λv z=>by rw[d] at z;cases z⟩
 keep:=λi h h' st k=>st.at λo e=>k it (by simp) o e
 item:=by
  intro X hP hw hK hc i L4 s σ H E I hf st hg
  subst hP hw hK
  obtain⟨xs,x,hq,hx⟩:=hg
  obtain⟨L7,rv,p,hz⟩:=I.tuple hq
  obtain⟨u,hu,ru⟩:=rv.get hx
  obtain⟨f0,f1,f2,f3,f4,f5⟩:=hf it (by simp)
  refine wpAny_pyNext_tuple_item st (show s.heap.IsTuple a L7.toArray from p) (x:=u) (by simpa using hu) λh' M3 sb=>?_
  have I1:Inv X L4 σ H { s with heap:=h' }:=I.turned (t':=s.toks) (λb o hb e=>(sb.2 b hb).trans e) f0 f1 f3 f4 f5
  obtain⟨o,e,c,d⟩:=id M3
  exact⟨u,rfl,wZ (s:={ s with heap:=h' }) e c d (by decide) ⟨x,H,I1,ru,⟨rfl,λys hy=>by rw[I.mx hy hq];exact hx⟩,M3,λb hb=>(hf b hb).1⟩⟩
 done:=by
  intro X hP hw hK hc i L4 s σ H E I hf st hg
  subst hP hw hK
  obtain⟨xs,hq,hx⟩:=hg
  obtain⟨L7,rv,p,hz⟩:=I.tuple hq
  obtain⟨f0,f1,f2,f3,f4,f5⟩:=hf it (by simp)
  have hl:=rv.length
  exact wpAny_pyNext_tuple_end (I.ok.hd hc) st (show s.heap.IsTuple a L7.toArray from p) (by simp;omega) λh' eb=>⟨rfl,I.turned (t':=s.toks) (λb o hb e=>eb b o hb e) f0 f1 f3 f4 f5⟩
 self:=λ_ _ _ _ _ st h=>wpAny_pyIter_tupleiter st h
theorem vG{P:Program}{w:World}{K:PySem.W.Frag}{tg:Expr}(it:Addr)(lo:Int)(n:Nat):Turn P w K tg (Jw lo n) [it] it (λi h=>IsRangeIter h it (lo+(i:Nat)*1) ((n:Int)-(i:Nat)) 1) where
 mem:=by simp
 obj:=λi h st b hb=>by
  have e:b=it:=by simpa using hb
  subst e
  exact⟨_,st,λv z=>by
   have z':Data.fields _=Data.cell v:=z
   cases z'⟩
 keep:=λi h h' st k=>k it (by simp) _ st
 item:=by
  intro X hP hw hK hc i L4 s σ H E I hf st hg
  subst hP hw hK
  obtain⟨f0,f1,f2,f3,f4,f5⟩:=hf it (by simp)
  have W:=Walks.range (prog:=X.prog) (w:=X.w) (I.ok.hd hc) it lo 1 n
  refine W.item i s _ _ hg st λv h' tk hv M3 kk=>?_
  obtain⟨t,rfl⟩:=hv
  have I1:Inv X L4 σ H { s with heap:=h',toks:=tk }:=I.turned (λb o hb e=>kk b o (by simpa using hb) e) f0 f1 f3 f4 f5
  refine⟨_,rfl,wZ (s:={ s with heap:=h',toks:=tk }) (n := "range_iterator") M3 rfl rfl (by decide) ⟨.int (lo+i),H,I1,⟨t,?_⟩,⟨rfl,rfl⟩,M3,λb hb=>(hf b hb).1⟩⟩
  rw[Int.mul_one]
 done:=by
  intro X hP hw hK hc i L4 s σ H E I hf st hg
  subst hP hw hK
  obtain⟨f0,f1,f2,f3,f4,f5⟩:=hf it (by simp)
  exact wpAny_pyNext_range_end (I.ok.hd hc) st (by have:n<=i:=hg;omega) λh' eb=>⟨rfl,I.turned (t':=s.toks) (λb o hb e=>eb b o hb e) f0 f1 f3 f4 f5⟩
 self:=λ_ _ _ _ _ st h=>wpAny_pyIter_rangeiter st h
end L2
namespace L2
open PySem PySem.Spec PyProof.Rows
section
variable{X:Cx}{tg:Expr}
theorem uA{L4:List (Addr×Obj)}{σ:St}{H:Hp}{s:Shared}{R:It->Hp->Prop}{E:Value->Shared->Prop}{lo hi:Int}{t u v:Tok}{tk:Nat}(I:Inv X L4 σ H s)(h1:-(2^62)<=lo)(h2:lo<2^62)(h3:-(2^62)<=hi)(h4:hi<2^62)
  (q:R (Jw lo (hi-lo).toNat) H):wpAny (model X.prog X.w) X.A (pyIter (.ref s.heap.objs.size)) (J9 X L4 σ tg R) E { s with heap:=s.heap.push { cls:=.type "range", data:=.fields #[.int lo t,.int hi u,.int 1 v] },toks:=tk }:=by
 refine wpAny_pyIter_range (IsRange.new ..) (small_one h1 h2 h3 h4) ?_
 have I1:Inv X L4 σ H { s with heap:=s.heap.push { cls:=.type "range", data:=.fields #[.int lo t,.int hi u,.int 1 v] },toks:=tk }:=I.kept λb o e=>Heap.get?_push_of_some _ e
 refine⟨(s.heap.push { cls:=.type "range", data:=.fields #[.int lo t,.int hi u,.int 1 v] }).objs.size,[(s.heap.push { cls:=.type "range", data:=.fields #[.int lo t,.int hi u,.int 1 v] }).objs.size],_,_,H,rfl,
  I1.kept (t':=tk) λb o e=>Heap.get?_push_of_some _ e,vG _ lo (hi-lo).toNat,?_,λb hb=>?_,q⟩
 ·have e1:lo+((0:Nat):Int)*1=lo:=by simp
  have e2:(((hi-lo).toNat:Nat):Int)-((0:Nat):Int)=Builtin.Range.rangeSize lo hi 1:=by rw[rangeSize_one];split <;> omega
  show IsRangeIter _ _ (lo+((0:Nat):Int)*1) ((((hi-lo).toNat:Nat):Int)-((0:Nat):Int)) 1
  rw[e1,e2]
  exact Heap.get?_push_size _ rfl
 ·have e:b=(s.heap.push { cls:=.type "range", data:=.fields #[.int lo t,.int hi u,.int 1 v] }).objs.size:=by simpa using hb
  subst e
  exact I1.sI (Nat.le_refl _) (I1.bK.fresh (Nat.le_refl _))
def ER(ta:TA):TI:=fun σ H R=>ta σ H λvs H1=>∃ j:Int,vs=[.int j]/\-(2^62)<=j/\j<2^62/\R (Jw 0 j.toNat) H1
def Es(ta:TA):TI:=fun σ H R=>ta σ H λvs H1=>∃ i j:Int,vs=[.int i,.int j]/\(-(2^62)<=i/\i<2^62/\-(2^62)<=j/\j<2^62)/\R (Jw i (j-i).toNat) H1
theorem dW{a:Expr}{ta:TA}{p pos:Pos}(hg:Gl X "range")(hm:X.mg "range" = none)(ha:PA X [a] ta)(hs:autoParam (starEach [a] X.env=[(false,eval a X.env)]) aR._auto_1):PI X tg (.Call (.Name "range" p) [a] [] pos) (ER ta):=by
 intro L4 s σ H R I h
 refine Call_ (jn I hg hm boot_range (PyProof.Rows.callWith_type1 (c7 (ha pos L4 s σ H _ I h) λus s1 ⟨vs,H1,I1,r1,q1⟩=>?_) hs rfl))
 obtain⟨j,e,q1,q2,q⟩:=q1
 subst e
 cases r1 with
 | cons r rr =>
  cases rr
  obtain⟨t,rfl⟩:=r
  exact call_range_1 (uA I1 (by omega) (by omega) q1 q2 (by simpa using q))
theorem yC{a b:Expr}{ta:TA}{p pos:Pos}(hg:Gl X "range")(hm:X.mg "range" = none)(ha:PA X [a,b] ta)(hs:autoParam (starEach [a,b] X.env=[(false,eval a X.env),(false,eval b X.env)]) aR._auto_1)(Nm:autoParam (starEach [b] X.env=[(false,eval b X.env)]) aR._auto_1) :
  PI X tg (.Call (.Name "range" p) [a,b] [] pos) (Es ta):=by
 intro L4 s σ H R I h
 refine Call_ (jn I hg hm boot_range (PyProof.Rows.callWith_type1 (c7 (ha pos L4 s σ H _ I h) λus s1 ⟨vs,H1,I1,r1,q1⟩=>?_) (by rw[hs,Nm]) (by rw[Nm];rfl)))
 obtain⟨i,j,e,⟨q1,q2,q3,q4⟩,q⟩:=q1
 subst e
 cases r1 with
 | cons r rr =>
  cases rr with
  | cons r' rr =>
   cases rr
   obtain⟨t,rfl⟩:=r
   obtain⟨t',rfl⟩:=r'
   exact call_range_2 (uA I1 q1 q2 q3 q4 q)
def J8(wi:TI)(g:TG)(tb:TS):TS:=λD σ H=>wi σ H λJ H1=>∃ W:Nat->Nat->St->Hp->Prop,(∃ m,W 0 m σ H1)/\∀ i m σ H,W i m σ H ->
 (J.stop i H/\D.nx σ H)\/(J.go i H/\∃ N:St->Hp->Prop,(∀ σ' H',N σ' H'->∃ m',m'<m/\W (i+1) m' σ' H')/\∀ x H',J.tq i H x H'->g x σ H' fun σ2 H2=>tb { D with nx:=N,ct:=N,bk:=D.nx } σ2 H2)
def lY(fp:List Addr)(h:Heap):List (Addr×Obj):=fp.filterMap λb=>(h.get? b).map λo=>(b,o)
theorem jx{fp:List Addr}{h:Heap}{b:Addr}{o:Obj}(hb:b∈fp)(e:h.get? b=some o):(b,o)∈lY fp h:=List.mem_filterMap.mpr ⟨b,hb,by rw[e];rfl⟩
theorem xV{fp:List Addr}{h:Heap}{p:Addr×Obj}(hp:p∈lY fp h):p.1∈fp/\h.get? p.1=some p.2:=by
 obtain⟨b,hb,e⟩:=List.mem_filterMap.mp hp
 cases q:h.get? b with
 | none=>rw[q] at e;cases e
 | some o =>
  rw[q] at e
  have e':(b,o)=p:=Option.some.inj e
  subst e'
  exact⟨hb,q⟩
theorem Inv.pinned{L4:List (Addr×Obj)}{σ:St}{H:Hp}{s:Shared}{fp:List Addr}(I:Inv X L4 σ H s)(hf:∀ b∈fp,lD X L4 H b)(ho:∀ b∈fp,∃ o,s.heap.get? b=some o/\∀ v,o.data≠.cell v):Inv X (L4++lY fp s.heap) σ H s :=
 I.wX λp hp=>(List.mem_append.mp hp).elim (λz=>I.pin p (List.mem_append_right _ z)) λz=>by
  obtain⟨hb,e⟩:=xV z
  obtain⟨f0,f1,f2,_⟩:=hf p.1 hb
  obtain⟨o,e',d⟩:=ho p.1 hb
  rw[e] at e';cases e'
  exact⟨e,f0,f1,f2,d⟩
theorem Inv.lP{L4 pl:List (Addr×Obj)}{σ:St}{H:Hp}{s:Shared}(I:Inv X (L4++pl) σ H s):Inv X L4 σ H s:=I.wX λp hp=>I.pin p (List.mem_append_right _ (List.mem_append_left _ hp))
theorem Gz{iter:Expr}{body:List Stmt}{wi:TI}{g:TG}{tb:TS}{pos:Pos}(hp:PassesOwn (model X.prog X.w) X.A X.env X.xe)(hc:X.calm=true)(hi:PI X tg iter wi)(hg:PG X tg g)(hb:lW X body tb)
  (hs:autoParam (∀ x,foldedSetIterable iter X.env x=pure x) aI._auto_1):PS X (.For tg iter body [] pos) (J8 wi g tb):=by
 intro L4 s σ H D I h
 refine wpAny_For (c7 (hi L4 s σ H _ I h) λv s1 h1=>c7 h1 λitv s2 h2=>?_) hs
 obtain⟨it,fp,tn,J,H2,e,I2,T,OQ,f2,W,⟨m0,w0⟩,turn⟩:=h2
 subst e
 have NS:∀ {H':Hp},(∀ b∈fp,H' b=none)->∀ b∈fp,lD X L4 H' b:=λhn b hb=>⟨hn b hb,(f2 b hb).2⟩
 refine codeAny_forLoop_any (λn s'=>∃ i σ' H',Inv X L4 σ' H' s'/\tn i s'.heap/\(∀ b∈fp,H' b=none)/\W i n σ' H') ?_ m0 ⟨0,σ,H2,I2,OQ,λb hb=>(f2 b hb).1,w0⟩
 rintro n s3 ⟨i,σ3,H3,I3,st3,fr3,w3⟩
 rcases turn i n σ3 H3 w3 with ⟨stop,qn⟩ | ⟨go,N,hN,step⟩
 ·refine wpAny_passesOwn hp (c7 (T.done X rfl rfl rfl hc i L4 s3 σ3 H3 X.xe I3 (NS fr3) st3 stop) λr s4 ⟨hr,I4⟩=>?_)
  subst hr
  exact wpAny_execs_nil ⟨σ3,H3,I4,qn⟩
 ·refine wpAny_passesOwn hp (c7 (T.item X rfl rfl rfl hc i L4 s3 σ3 H3 X.xe I3 (NS fr3) st3 go) λr s4 ⟨u,hr,h4⟩=>?_)
  subst hr
  refine wpAny_passesOwn hp (c7 h4 λ_ s5 ⟨x,H5,I5,r5,y5,st5,fr5⟩=>?_)
  have I5':=I5.pinned (NS fr5) (T.obj _ _ st5)
  refine wpAny_passesOwn hp (c7 (hg _ s5 σ3 H5 x u _ I5' r5 (step x H5 y5)) λ_ s6 ⟨σ6,H6,I6,q6⟩=>?_)
  refine wpAny_passesOwn hp (c7 (hb _ s6 σ6 H6 _ I6 q6) λf s7 q7=>?_)
  have again:∀ {σ7:St} {H7:Hp},Inv X (L4++lY fp s5.heap) σ7 H7 s7->N σ7 H7->∃ m,m<n/\∃ i σ' H',Inv X L4 σ' H' s7/\tn i s7.heap/\(∀ b∈fp,H' b=none)/\W i m σ' H':=λ{σ7 H7} I7 n7=>by
   obtain⟨m',hm,w7⟩:=hN σ7 H7 n7
   refine⟨m',hm,i+1,σ7,H7,I7.lP,T.keep _ _ _ st5 λb hb o e=>(I7.pin (b,o) (List.mem_append_right _ (List.mem_append_right _ (jx hb e)))).1,λb hb=>?_,w7⟩
   obtain⟨o,e,d⟩:=T.obj _ _ st5 b hb
   exact(I7.pin (b,o) (List.mem_append_right _ (List.mem_append_right _ (jx hb e)))).2.1
  cases f with
  | next=>obtain⟨σ7,H7,I7,n7⟩:=q7;exact again I7 n7
  | cont=>obtain⟨σ7,H7,I7,n7⟩:=q7;exact again I7 n7
  | brk=>obtain⟨σ7,H7,I7,q7⟩:=q7;exact⟨σ7,H7,I7.lP,q7⟩
  | ret v=>obtain⟨x7,σ7,H7,I7,r7,q7⟩:=q7;exact⟨x7,σ7,H7,I7.lP,r7,q7⟩
end
end L2
namespace L2
open PySem PySem.Spec PyProof.Rows
abbrev R2:=V->V->Hp->VK->Prop
def h9(X:Cx)(f:Value->Value->Sem Value)(r:R2):Prop :=
 ∀ (L4:List (Addr×Obj)) (s:Shared) (σ:St) (H:Hp) (x y:V) (v u:Value) (Q:VK),Inv X L4 σ H s->RelV x v->RelV y u->r x y H Q ->
  wpAny (model X.prog X.w) X.A (f v u) (EP X L4 σ Q) X.xe s
def KH(X:Cx)(f:Value->Sem Value)(r:V->Hp->VK->Prop):Prop :=
 ∀ (L4:List (Addr×Obj)) (s:Shared) (σ:St) (H:Hp) (x:V) (v:Value) (Q:VK),Inv X L4 σ H s->RelV x v->r x H Q ->
  wpAny (model X.prog X.w) X.A (f v) (EP X L4 σ Q) X.xe s
def eC(X:Cx)(f:Value)(r:List V->Hp->VK->Prop):Prop :=
 ∀ (L4:List (Addr×Obj)) (s:Shared) (σ:St) (H:Hp) (xs:List V) (us:List Value) (Q:VK),Inv X L4 σ H s->Vals xs us->r xs H Q ->
  wpAny (model X.prog X.w) X.A (call f us) (EP X L4 σ Q) X.xe s
def IB(r:R2)(ta tb:TE):TE:=fun σ H Q=>ta σ H λx H1=>tb σ H1 λy H2=>r x y H2 Q
def Lk(r:V->Hp->VK->Prop)(ta:TE):TE:=fun σ H Q=>ta σ H λx H1=>r x H1 Q
def rI(C:Int->Int->Prop)(g:Int->Int->V):R2:=λx y H Q=>∃ i j,x=.int i/\y=.int j/\C i j/\Q (g i j) H
def wK(g:Int->Int->V):R2:=λx y H Q=>∃ i j,x=.int i/\y=.int j/\Q (g i j) H
def rU(g:Int->V):V->Hp->VK->Prop:=λx H Q=>∃ i,x=.int i/\Q (g i) H
section
variable{X:Cx}{a b c:Expr}{ta tb tc:TE}{pos:Pos}
theorem FW(ha:PE X a ta)(hb:PE X b tb){L4:List (Addr×Obj)}{s:Shared}{σ:St}{H:Hp}{R:V->V->Hp->Prop}(I:Inv X L4 σ H s)
  (h:ta σ H λx H1=>tb σ H1 λy H2=>R x y H2) {Q:Value->Shared->Prop} {f:Value->Value->Sem Value}
  (hf:∀ v u s2 x y H2,Inv X L4 σ H2 s2->RelV x v->RelV y u->R x y H2->wpAny (model X.prog X.w) X.A (f v u) Q X.xe s2) :
  wpAny (model X.prog X.w) X.A (eval a X.env) (λv s₁=>wpAny (model X.prog X.w) X.A (eval b X.env) (λu s₂=>wpAny (model X.prog X.w) X.A (f v u) Q X.xe s₂) X.xe s₁) X.xe s:=by
 refine c7 (ha L4 s σ H _ I h) λv s1 ⟨x,H1,I1,r1,q1⟩=>?_
 refine c7 (hb L4 s1 σ H1 _ I1 q1) λu s2 ⟨y,H2,I2,r2,q2⟩=>?_
 exact hf v u s2 x y H2 I2 r1 r2 q2
theorem EN{op:Operator}{r:R2}(ho:h9 X (binaryOp op) r)(ha:PE X a ta)(hb:PE X b tb):PE X (.BinOp a op b pos) (IB r ta tb):=by
 intro L4 s σ H Q I h
 exact wpAny_BinOp (FW ha hb I h λv u s2 x y H2 I2 rx ry q=>ho L4 s2 σ H2 x y v u Q I2 rx ry q)
theorem Jl{op:UnaryOp}{r:V->Hp->VK->Prop}(ho:KH X (unaryOp op) r)(ha:PE X a ta):PE X (.UnaryOp op a pos) (Lk r ta):=by
 intro L4 s σ H Q I h
 exact UnaryOp_ (c7 (ha L4 s σ H _ I h) λv s1 ⟨x,H1,I1,r1,q1⟩=>ho L4 s1 σ H1 x v Q I1 r1 q1)
theorem JA{f:Value->Value->Sem Value}{C:Int->Int->Prop}{g:Int->Int->Int}
  (rule:∀ (i j:Int) (t u:Tok) (s:Shared) (Q:Value->Shared->Prop) (E:Value->Shared->Prop),C i j->Q (.int (g i j) s.toks) { s with toks:=s.toks+1 }->wpAny (model X.prog X.w) X.A (f (.int i t) (.int j u)) Q E s) :
  h9 X f (rI C λi j=>.int (g i j)):=by
 intro L4 s σ H x y v u Q I rx ry h
 obtain⟨i,j,rfl,rfl,hc,q⟩:=h
 obtain⟨t,rfl⟩:=rx
 obtain⟨t',rfl⟩:=ry
 exact rule i j t t' s _ _ hc ⟨.int (g i j),H,I.tok _,⟨_,rfl⟩,q⟩
theorem H0{f:Value->Value->Sem Value}{g:Int->Int->Int}
  (rule:∀ (i j:Int) (t u:Tok) (s:Shared) (Q:Value->Shared->Prop) (E:Value->Shared->Prop),Q (.int (g i j) s.toks) { s with toks:=s.toks+1 }->wpAny (model X.prog X.w) X.A (f (.int i t) (.int j u)) Q E s) :
  h9 X f (wK λi j=>.int (g i j)):=by
 intro L4 s σ H x y v u Q I rx ry h
 obtain⟨i,j,rfl,rfl,q⟩:=h
 obtain⟨t,rfl⟩:=rx
 obtain⟨t',rfl⟩:=ry
 exact rule i j t t' s _ _ ⟨.int (g i j),H,I.tok _,⟨_,rfl⟩,q⟩
theorem CP{f:Value->Value->Sem Value}{g:Int->Int->Bool}
  (rule:∀ (i j:Int) (t u:Tok) (s:Shared) (Q:Value->Shared->Prop) (E:Value->Shared->Prop),Q (.bool (g i j)) s->wpAny (model X.prog X.w) X.A (f (.int i t) (.int j u)) Q E s) :
  h9 X f (wK λi j=>.bl (g i j)):=by
 intro L4 s σ H x y v u Q I rx ry h
 obtain⟨i,j,rfl,rfl,q⟩:=h
 obtain⟨t,rfl⟩:=rx
 obtain⟨t',rfl⟩:=ry
 exact rule i j t t' s _ _ ⟨.bl (g i j),H,I,rfl,q⟩
def GI(i j:Int):Prop:=0<=j/\j<=1000000/\i.natAbs<2^64
theorem GU:h9 X (binaryOp .Add) (wK λi j=>.int (i+j)):=H0 λ_ _ _ _ _ _ _ q=>add_int q
theorem Gq:h9 X (binaryOp .Sub) (wK λi j=>.int (i-j)):=H0 λ_ _ _ _ _ _ _ q=>sub_int q
theorem CD:h9 X (binaryOp .Mod) (rI (λ_ j=>j≠0) λi j=>.int (i.fmod j)):=JA λ_ _ _ _ _ _ _ hc q=>mod_int' hc q
theorem Ft:h9 X (binaryOp .Pow) (rI GI λi j=>.int (i^j.toNat)):=JA λ_ _ _ _ _ _ _ hc q=>pow_int_small hc.1 hc.2.1 hc.2.2 q
theorem LS{f:Value->Sem Value}{g:Int->Int}
  (rule:∀ (i:Int) (t:Tok) (s:Shared) (Q:Value->Shared->Prop) (E:Value->Shared->Prop),Q (.int (g i) s.toks) { s with toks:=s.toks+1 }->wpAny (model X.prog X.w) X.A (f (.int i t)) Q E s) :
  KH X f (rU λi=>.int (g i)):=by
 intro L4 s σ H x v Q I rx h
 obtain⟨i,rfl,q⟩:=h
 obtain⟨t,rfl⟩:=rx
 exact rule i t s _ _ ⟨.int (g i),H,I.tok _,⟨_,rfl⟩,q⟩
theorem FN:KH X (unaryOp .USub) (rU λi=>.int (-i)):=LS λ_ _ _ _ _ q=>neg_int q
end
section
variable{X:Cx}{a b c:Expr}{ta tb tc:TE}{pos:Pos}
theorem vH{L4:List (Addr×Obj)}{σ:St}{H:Hp}{s:Shared}{Q:VK}{k k':Bool}(I:Inv X L4 σ H s)(q:Q (.bl k) H)(e:k=k'):EP X L4 σ Q (.bool k') s:=by
 subst e
 exact⟨.bl k,H,I,rfl,q⟩
theorem Br:h9 X (compareOp .Lt) (wK λi j=>.bl (decide (i<j))):=CP λ_ _ _ _ _ _ _ q=>lt_int q
theorem uu:h9 X (compareOp .LtE) (wK λi j=>.bl (decide (i<=j))):=CP λ_ _ _ _ _ _ _ q=>le_int q
theorem Ey:h9 X (compareOp .Gt) (wK λi j=>.bl (decide (j<i))):=CP λ_ _ _ _ _ _ _ q=>gt_int q
theorem Ej:h9 X (compareOp .GtE) (wK λi j=>.bl (decide (j<=i))):=CP λ_ _ _ _ _ _ _ q=>ge_int q
theorem Bc:h9 X (compareOp .Is) (λx y H Q=>y=.cp/\Q (.bl (decide (x=.cp))) H):=by
 intro L4 s σ H x y v u Q I rx ry h
 obtain⟨rfl,q⟩:=h
 cases ry
 refine is_none_gen (vH I q ?_)
 cases x <;> first
  | (cases rx;rfl)
  | (obtain⟨t,rfl⟩:=rx;rfl)
theorem h9.or{f:Value->Value->Sem Value}{r r':R2}(h:h9 X f r)(h':h9 X f r'):h9 X f (λx y H Q=>r x y H Q\/r' x y H Q):=by
 intro L4 s σ H x y v u Q I rx ry q
 rcases q with q | q
 ·exact h L4 s σ H x y v u Q I rx ry q
 ·exact h' L4 s σ H x y v u Q I rx ry q
theorem e9(b:Expr){op:CmpOp}(h:autoParam (op≠.In) aD._auto_1)(h2:autoParam (op≠.NotIn) aD._auto_1):behindInMarks op b=false:=by
 have e1:(op==CmpOp.In)=false:=by cases op <;> first | rfl | exact absurd rfl h
 have e2:(op==CmpOp.NotIn)=false:=by cases op <;> first | rfl | exact absurd rfl h2
 cases b <;> simp[behindInMarks,e1,e2]
theorem C_{op:CmpOp}{r:R2}(ho:h9 X (compareOp op) r)(ha:PE X a ta)(hb:PE X b tb)(hm:behindInMarks op b=false):PE X (.Compare a [op] [b] pos) (IB r ta tb):=by
 intro L4 s σ H Q I h
 exact wpAny_Compare1 (FW ha hb I h λv u s2 x y H2 I2 rx ry q=>ho L4 s2 σ H2 x y v u Q I2 rx ry q) hm
def Jk(t:TE):TT:=fun σ H Q=>t σ H λx H'=>∃ k,x=.bl k/\Q k H'
theorem DV{op:CmpOp}{r:R2}(ho:h9 X (compareOp op) r)(ha:PE X a ta)(hb:PE X b tb)(hm:behindInMarks op b=false):PT X (.Compare a [op] [b] pos) (Jk (IB r ta tb)):=by
 intro L4 s σ H Q I h
 refine wpAny_isTrue_Compare1 (c7 (ha L4 s σ H _ I h) λv s1 ⟨x,H1,I1,r1,q1⟩=>c7 (hb L4 s1 σ H1 _ I1 q1) λu s2 ⟨y,H2,I2,r2,q2⟩ =>
  c7 (ho L4 s2 σ H2 x y v u _ I2 r1 r2 q2) λc s3 ⟨z,H3,I3,r3,k,e,q3⟩=>?_) hm
 subst e
 cases r3
 exact wpAny_truthy_bool ⟨H3,I3,q3⟩
def zN(r r':R2)(ta tb tc:TE):TE:=fun σ H Q=>ta σ H λx H1=>tb σ H1 λy H2=>r x y H2 λz H3=>∃ k,z=.bl k ∧
 (if k=true then tc σ H3 λw' H4=>r' y w' H4 Q else Q (.bl false) H3)
theorem A1{op OZ:CmpOp}{r r':R2}(ho:h9 X (compareOp op) r)(NM:h9 X (compareOp OZ) r')(ha:PE X a ta)(hb:PE X b tb)(hc:PE X c tc)
  (hm:autoParam (lastMarks [op,OZ] [b,c]=false) aU._auto_1):PE X (.Compare a [op,OZ] [b,c] pos) (zN r r' ta tb tc):=by
 intro L4 s σ H Q I h
 refine Compare_chain (c7 (ha L4 s σ H _ I h) λv s1 ⟨x,H1,I1,r1,q1⟩=>chain_link (c7 (hb L4 s1 σ H1 _ I1 q1) λu s2 ⟨y,H2,I2,r2,q2⟩ =>
  c7 (ho L4 s2 σ H2 x y v u _ I2 r1 r2 q2) λd s3 ⟨z,H3,I3,r3,k,e,q3⟩=>?_)) hm
 subst e
 cases r3
 refine wpAny_truthy_bool ?_
 cases k with
 | false=>exact ite_ff ⟨.bl false,H3,I3,rfl,q3⟩
 | true=>exact ite_tt (chain_last (c7 (hc L4 s3 σ H3 _ I3 q3) λw' s4 ⟨z',H4,I4,r4,q4⟩=>NM L4 s4 σ H4 y z' u w' Q I4 r2 r4 q4))
theorem mv:(sizeLine:Nat)<2^63:=by rw[sizeLine_eq];decide
theorem vM:h9 X (binaryOp .Add) (λx y H Q=>∃ i j,x=.str i/\y=.str j/\i.length+j.length<=sizeLine/\Q (.str (i++j)) H):=by
 intro L4 s σ H x y v u Q I rx ry h
 obtain⟨i,j,rfl,rfl,hz,q⟩:=h
 obtain⟨t,rfl⟩:=rx
 obtain⟨t',rfl⟩:=ry
 exact add_str (λt' tk=>⟨.str (i++j),H,I.tok _,⟨_,rfl⟩,q⟩) hz
theorem vals1{x:V}{us:List Value}(r:Vals [x] us):∃ u,us=[u]/\RelV x u:=by
 cases r with
 | cons r1 r2=>cases r2;exact⟨_,rfl,r1⟩
theorem vals2{x y:V}{us:List Value}(r:Vals [x,y] us):∃ u w',us=[u,w']/\RelV x u/\RelV y w':=by
 cases r with
 | cons r1 r2 =>
  cases r2 with
  | cons r3 r4=>cases r4;exact⟨_,_,rfl,r1,r3⟩
theorem rD(hc:X.calm=true):eC X (.builtin "max") (λxs H Q=>∃ i j,xs=[.int i,.int j]/\Q (.int (if j>i then j else i)) H):=by
 intro L4 s σ H xs us Q I r h
 obtain⟨i,j,rfl,q⟩:=h
 obtain⟨u,w',rfl,⟨t,rfl⟩,⟨t',rfl⟩⟩:=vals2 r
 refine max_two_ints (I.ok.hd hc) λh' tk k=>⟨_,H,I.kept k,?_,q⟩
 by_cases hj:j>i
 ·rw[if_pos hj,if_pos hj];exact⟨_,rfl⟩
 ·rw[if_neg hj,if_neg hj];exact⟨_,rfl⟩
end
end L2
namespace L2
open PySem PySem.Spec PyProof.Rows
structure vP (h:Heap) (x dx C:Addr) (mA:Str->Option Value):Prop where
 obj:h.get? x=some (PySem.W.instObj C dx)
 ns:h.Ns1 dx mA
 ne:dx≠x
theorem l9{h:Heap}{dx:Addr}{mA:Str->Option Value}(n:h.Ns1 dx mA):∃ od,h.get? dx=some od/\∀ name,PySem.W.lookIn name od=some (mA name):=by
 obtain⟨o,es,ep,ho,hd,hk,_,hm⟩:=n
 refine⟨o,ho,λname=>?_⟩
 have e:=hm name
 unfold nsFind findBy at e
 rw[← Array.find?_toList] at e
 unfold PySem.W.lookIn
 rw[hd]
 dsimp only
 split
 ·rename_i y q
  rw[q] at e
  exact congrArg some e
 ·rename_i q
  rw[q] at e
  have a:es.toList.any (·.refKey)=false:=by
   rw[List.any_eq_false]
   intro y hy
   obtain⟨z,t,hkey⟩:=hk y (Array.mem_toList_iff.mp hy)
   simp[DictEntry.refKey,hkey]
  have a':¬ es.toList.any (·.refKey)=true:=by rw[a];exact Bool.false_ne_true
  rw[if_neg a']
  exact congrArg some e
theorem vP.look{h:Heap}{x dx C:Addr}{mA:Str->Option Value}(I:vP h x dx C mA):∃ od,PySem.W.InstAt h x (PySem.W.instObj C dx) C (some od)/\∀ name,PySem.W.lookIn name od=some (mA name) :=
 let ⟨od,ho,hl⟩:=l9 I.ns
 ⟨od,⟨I.obj,rfl,rfl,ho⟩,hl⟩
section
variable{prog:Program}{w:World}{A:Around}{E:Value->Shared->Prop}{s:Shared}{K:PySem.W.Frag}{x dx C f:Addr}{mA:Str->Option Value}{name:Str}{v:Value}
theorem get_map{expr:Bool}{Q:Value->Shared->Prop}(X:K.In s.heap)(I:vP s.heap x dx C mA)(hg:PySem.W.plainGet K C name=true)(hh:PySem.W.hasDictIn K C=true)
  (ha:PySem.W.findIn K (.ref C) name=some none) (hv:mA name=some v) (O_:PySem.W.handedIn v=true) (h:Q v { s with toks:=s.toks+1 }) :
  wpAny (model prog w) A (getAttr (.ref x) name expr) Q E s:=by
 obtain⟨od,J,hl⟩:=I.look
 exact PySem.W.get_value X J (PySem.W.plainGet_of hg).1 (PySem.W.findObj_own hh ha rfl (by rw[hl,hv])) O_ h
theorem Bp{pl:Sem Bool}{Q:Value×List Value->Shared->Prop}(X:K.In s.heap)(I:vP s.heap x dx C mA)(hg:PySem.W.plainGet K C name=true)
  (hf:PySem.W.findIn K (.ref C) name=some (some (.ref f))) (ht:PySem.W.isFn K (.ref f)=true) (hv:mA name=none) (h:Q (.ref f,[.ref x]) s) :
  wpAny (model prog w) A (getMethod (.ref x) name pl) Q E s:=by
 obtain⟨od,J,hl⟩:=I.look
 exact PySem.W.method_fn X J (PySem.W.plainGet_of hg).1 (PySem.W.plainGet_of hg).2 hf (beq_iff_eq.mp ht) (by show (PySem.W.lookIn name od).map (·.isSome)=some false;rw[hl,hv];rfl) h
theorem CC{ns:List Str}{Q:Unit->Shared->Prop}(X:K.In s.heap)(I:vP s.heap x dx C mA)
  (hs:PySem.W.findIn K (.ref C) "__setattr__" = some (some (.builtin "object.__setattr__"))) (hp:PySem.W.plainOver K C=true) (ht:PySem.W.takerIn K C name=some none) (hh:PySem.W.hasDictIn K C=true)
  (hw:PySem.Within mA ns) (Nv:ns.length<=sizeLine)
  (h:∀ h',vP h' x dx C (λy=>if y=name then some v else mA y)->Heap.SameBut dx s.heap h'->Q () { s with heap:=h',toks:=s.toks+2 }) :
  wpAny (model prog w) A (setAttr (.ref x) name v) Q E s:=by
 obtain⟨od,J,hl⟩:=I.look
 refine PySem.W.set_plain X J hs (PySem.W.osa_open (s:={ s with toks:=s.toks+1 }) (r:=none) X J hp ht λb=>?_)
 obtain⟨cd,hc,Pk⟩:=PySem.W.any_some hh
 have hx:s.heap.get? x=some ⟨.ref C,some dx,.plain,#[]⟩:=I.obj
 refine wpAny_bind (wpAny_pure (wpAny_bind (wpAny_bind (wpAny_loadPart hx (wpAny_bind (PySem.W.Looks.here (s:={ s with toks:=s.toks+1 }) (PySem.W.looks_clsIn X hc) ?_))))))
 rw[Pk]
 refine wpAny_pure (a:=some dx) (wpAny_bind (wpAny_pure (wpAny_bind ?_)))
 refine wpAny_nsSet1 (s:={ s with toks:=s.toks+1 }) I.ns λh' OE Nm=>?_
 obtain⟨oD,esD,epD,hoD,hdD,N_⟩:=OE.count (PySem.Within.cons name v hw)
 refine wpAny_bind (wpAny_lookBehind hoD (by rw[hdD];exact pastItsLine_dict (Nat.le_trans N_ (by rw[List.length_cons];omega))) ?_)
 exact wpAny_pure (h _ ⟨(Nm.2 _ (Ne.symm I.ne)).trans I.obj,OE,I.ne⟩ Nm)
theorem Ax{R:Result->Shared->Prop}{vs:List Value}{kw:List (Str×Value)}(X:K.In s.heap)(hm:PySem.W.makesIn K C=true)
  (hi:PySem.W.findIn K (.ref C) "__init__" = some (some (.ref f))) (hf:PySem.W.typeIn K (.ref f)=some (.type "function"))
  (h:codeAny (model prog w) (A.under (.builtin "type.__call__" ⟨.ref C::vs,kw⟩)) (.call (.ref f) ⟨.ref (s.heap.objs.size+1)::vs,kw⟩) (PySem.W.InitBack (s.heap.objs.size+1) R)
   { s with heap:=(s.heap.push PySem.W.emptyDict).push (PySem.W.instObj C s.heap.objs.size) }) :
  codeAny (model prog w) A (.call (.ref C) ⟨vs,kw⟩) R s:=by
 obtain⟨hh,g,d,t,os⟩:=s
 exact PySem.W.make_core (PySem.W.makes_of X hm) (PySem.W.looks_findIn X hi) (λself=>PySem.W.bind_fn X self hf) (.inl rfl) h
end
def jE(f:Str)(v:V):List (Str×V)->List (Str×V)
 | []=>[(f,v)]
 | (g,x)::r=>if g=f then (g,v)::r else (g,x)::jE f v r
theorem mS(f g:Str)(v:V):∀ fs:List (Str×V),(jE f v fs).lookup g=if g=f then some v else fs.lookup g
 | []=>by
  show List.lookup g [(f,v)]=_
  by_cases h:g=f
  ·have hb:(g==f)=true:=beq_iff_eq.mpr h
   simp only[List.lookup,hb,if_pos h]
  ·have hb:(g==f)=false:=beq_eq_false_iff_ne.mpr h
   simp only[List.lookup,hb,if_neg h]
 | (k,x)::r=>by
  have ih:=mS f g v r
  rw[show jE f v ((k,x)::r)=(if k=f then (k,v)::r else (k,x)::jE f v r) from rfl]
  by_cases hk:k=f
  ·rw[if_pos hk]
   by_cases h:g=k
   ·have hb:(g==k)=true:=beq_iff_eq.mpr h
    simp only[List.lookup,hb,if_pos (h.trans hk)]
   ·have hb:(g==k)=false:=beq_eq_false_iff_ne.mpr h
    simp only[List.lookup,hb,if_neg (λe:g=f=>h (e.trans hk.symm))]
  ·rw[if_neg hk]
   by_cases h:g=k
   ·have hb:(g==k)=true:=beq_iff_eq.mpr h
    simp only[List.lookup,hb,if_neg (λe:g=f=>hk (h.symm.trans e))]
   ·have hb:(g==k)=false:=beq_eq_false_iff_ne.mpr h
    simp only[List.lookup,hb]
    exact ih
theorem mi(f:Str)(v:V):∀ fs:List (Str×V),f∈(jE f v fs).map (·.1)/\∀ g,g∈fs.map (·.1)->g∈(jE f v fs).map (·.1)
 | []=>⟨by simp[jE],λg h=>by simp at h⟩
 | (k,x)::r=>by
  obtain⟨i1,i2⟩:=mi f v r
  rw[show jE f v ((k,x)::r)=(if k=f then (k,v)::r else (k,x)::jE f v r) from rfl]
  by_cases hk:k=f
  ·rw[if_pos hk]
   subst hk
   exact⟨by simp,λg h=>by simpa using h⟩
  ·rw[if_neg hk]
   refine⟨?_,λg h=>?_⟩
   ·rw[List.map_cons]
    exact List.mem_cons_of_mem _ i1
   ·rw[List.map_cons] at h ⊢
    rcases List.mem_cons.mp h with e | e
    ·exact List.mem_cons.mpr (.inl e)
    ·exact List.mem_cons_of_mem _ (i2 g e)
theorem mW(f:Str)(v:V):∀ fs:List (Str×V),(jE f v fs).length<=fs.length+1
 | []=>by simp[jE]
 | (k,x)::r=>by
  have ih:=mW f v r
  rw[show jE f v ((k,x)::r)=(if k=f then (k,v)::r else (k,x)::jE f v r) from rfl]
  by_cases hk:k=f
  ·rw[if_pos hk,List.length_cons,List.length_cons];omega
  ·rw[if_neg hk,List.length_cons,List.length_cons];omega
theorem l7.some_of{v:V}{o:Option Value}(r:l7 (some v) o):∃ u,o=some u/\RelV v u:=by
 cases o with
 | none=>exact(show False from r).elim
 | some u=>exact⟨u,rfl,r⟩
theorem l7.none_of{o:Option Value}(r:l7 none o):o=none:=by
 cases o with
 | none=>rfl
 | some u=>exact(show False from r).elim
theorem y0{v:V}{u:Value}(r:RelV v u):PySem.W.handedIn u=true:=by
 cases v with
 | cp=>cases (show u=Value.none from r);rfl
 | bl b=>cases (show u=Value.bool b from r);rfl
 | int i=>obtain⟨t,e⟩:=(show ∃ t,u=Value.int i t from r);cases e;rfl
 | str x=>obtain⟨t,e⟩:=(show ∃ t,u=Value.str x t from r);cases e;rfl
 | byt b=>obtain⟨t,e⟩:=(show ∃ t,u=Value.bytes b t from r);cases e;rfl
 | EM b=>obtain⟨t,e⟩:=(show ∃ t,u=Value.float b t from r);cases e;rfl
 | ref a=>cases (show u=Value.ref a from r);rfl
 | ty n=>cases (show u=Value.type n from r);rfl
section
variable{P:Program}{w:World}{H H':Hp}{h h':Heap}{a C dx:Addr}{fs OK:List (Str×V)}
theorem lQ(bK:mK P w H h)(e:H a=some (.ins C dx fs)):∃ mA,vP h a dx C mA/\(∀ f,l7 (fs.lookup f) (mA f))/\PySem.Within mA (fs.map (·.1))/\fs.length<=1000/\H dx=some (.own a):=by
 obtain⟨d,z,ne,ob,mA,n,r,q⟩:=(show cv P w H h a (.ins C dx fs) from bK a _ e)
 exact⟨mA,⟨ob,n,ne⟩,r,q,z,d⟩
end
structure lU (K:PySem.W.Frag) (C:Addr):Prop where
 pg:PySem.W.plainGet K C Str.empty=true
 hd:PySem.W.hasDictIn K C=true
 po:PySem.W.plainOver K C=true
 sa:PySem.W.findIn K (.ref C) "__setattr__" = some (some (.builtin "object.__setattr__"))
theorem lU.get{K:PySem.W.Frag}{C:Addr}(c:lU K C)(f:Str):PySem.W.plainGet K C f=true:=c.pg
def bZ(K:PySem.W.Frag)(C:Addr)(f:Str):Prop:=PySem.W.findIn K (.ref C) f=some none
theorem bZ.Er{K:PySem.W.Frag}{C:Addr}{f:Str}(n:bZ K C f):PySem.W.takerIn K C f=some none:=by
 unfold PySem.W.takerIn
 rw[show PySem.W.findIn K (.ref C) f=some none from n]
 rfl
structure Meth (K:PySem.W.Frag) (C:Addr) (m:Str) (f:Addr):Prop where
 at_:PySem.W.findIn K (.ref C) m=some (some (.ref f))
 fn:PySem.W.isFn K (.ref f)=true
 kp:PySem.W.keepIn K (.ref f)=true
section
variable{X:Cx}{L4:List (Addr×Obj)}{σ:St}{H:Hp}{s:Shared}{a C dx:Addr}{fs:List (Str×V)}{f:Str}{v:V}{A:Around}{E:Value->Shared->Prop}
theorem vJ{b:Bool}{Q:Value->Shared->Prop}(I:Inv X L4 σ H s)(e:H a=some (.ins C dx fs))(c:lU X.K C)(n:bZ X.K C f)(l:fs.lookup f=some v)
  (h:∀ u s',Inv X L4 σ H s'->RelV v u->Q u s'):wpAny (model X.prog X.w) A (getAttr (.ref a) f b) Q E s:=by
 obtain⟨mA,O,r,_,_,_⟩:=lQ I.bK e
 obtain⟨u,hu,ru⟩:=l7.some_of (v:=v) (o:=mA f) (by rw[← l];exact r f)
 exact get_map I.jV O (c.get f) c.hd n hu (y0 ru) (h u _ (I.tok _) ru)
theorem pF{m:Str}{g:Addr}{pl:Sem Bool}{Q:Value×List Value->Shared->Prop}(I:Inv X L4 σ H s)(e:H a=some (.ins C dx fs))(c:lU X.K C)(k:Meth X.K C m g)(l:fs.lookup m=none)
  (h:Q (.ref g,[.ref a]) s):wpAny (model X.prog X.w) A (getMethod (.ref a) m pl) Q E s:=by
 obtain⟨mA,O,r,_,_,_⟩:=lQ I.bK e
 have hn:mA m=none:=l7.none_of (by rw[← l];exact r m)
 exact Bp I.jV O (c.get m) k.at_ k.fn hn h
theorem vY{y:V}{u:Value}{Q:Unit->Shared->Prop}(I:Inv X L4 σ H s)(e:H a=some (.ins C dx fs))(c:lU X.K C)(n:bZ X.K C f)(hl:fs.length<1000)(ry:RelV y u)
  (h:∀ s',Inv X L4 σ (upd H a (.ins C dx (jE f y fs))) s'->Q () s'):wpAny (model X.prog X.w) A (setAttr (.ref a) f u) Q E s:=by
 obtain⟨mA,O,r,wi,_,ho⟩:=lQ I.bK e
 have hz:(fs.map (·.1)).length<=sizeLine:=by rw[List.length_map,sizeLine_eq];omega
 refine CC I.jV O c.sa c.po n.Er c.hd wi hz λh' O' sb=>h _ ?_
 have hd:∃ o,h'.get? dx=some o:=let ⟨o,_,_,e',_⟩:=O'.ns;⟨o,e'⟩
 refine I.write (x:=a) (e:=dx) (by rw[e];exact True.intro) (.inr ho) (λb q hb z=>(sb.2 b hb).trans z) hd ?_
 refine⟨by rw[aw O.ne];exact ho,?_,O.ne,O'.obj,_,O'.ns,λg=>?_,λg hg=>?_⟩
 ·have:=mW f y fs;omega
 ·show l7 ((jE f y fs).lookup g) (if g=f then some u else mA g)
  rw[mS]
  by_cases q:g=f
  ·rw[if_pos q,if_pos q];exact ry
  ·rw[if_neg q,if_neg q];exact r g
 ·by_cases q:g=f
  ·rw[q];exact(mi f y fs).1
  ·refine(mi f y fs).2 g (wi g λz=>hg ?_)
   show (if g=f then some u else mA g)=none
   rw[if_neg q];exact z
theorem Inv.made(I:Inv X L4 σ H s):Inv X L4 σ (upd (upd H s.heap.objs.size (.own (s.heap.objs.size+1))) (s.heap.objs.size+1) (.ins C s.heap.objs.size []))
  { s with heap:=(s.heap.push PySem.W.emptyDict).push (PySem.W.instObj C s.heap.objs.size) }:=by
 have e1:(s.heap.push PySem.W.emptyDict).get? s.heap.objs.size=some PySem.W.emptyDict:=Heap.get?_push_size s.heap rfl
 have e2:((s.heap.push PySem.W.emptyDict).push (PySem.W.instObj C s.heap.objs.size)).get? (s.heap.objs.size+1)=some (PySem.W.instObj C s.heap.objs.size):=by
  have:=Heap.get?_push_size (s.heap.push PySem.W.emptyDict) (o:=PySem.W.instObj C s.heap.objs.size) rfl
  rwa [Heap.size_push] at this
 have e3:(s.heap.push PySem.W.emptyDict).Ns s.heap.objs.size (λ_=>none):=⟨PySem.W.emptyDict,#[],_,e1,rfl,(λe he=>absurd he (by simp)),λ_=>rfl⟩
 have I1:=I.laid (a:=s.heap.objs.size) (o:=.own (s.heap.objs.size+1)) (h':=s.heap.push PySem.W.emptyDict) (t':=s.toks) (λb u q=>Heap.get?_push_of_some _ q) (Nat.le_refl _) ⟨_,e1⟩
 refine I1.laid (a:=s.heap.objs.size+1) (o:=.ins C s.heap.objs.size []) (t':=s.toks) (λb u q=>Heap.get?_push_of_some _ q) (Nat.le_of_eq (Heap.size_push _ _)) ?_
 have ne:s.heap.objs.size≠s.heap.objs.size+1:=Nat.ne_of_lt (Nat.lt_succ_self _)
 refine⟨by rw[aw ne,aA],Nat.zero_le _,ne,e2,λ_=>none,(Heap.Ns1.of_empty e3).at λo q=>Heap.get?_push_of_some _ q,λ_=>True.intro,λy hy=>absurd rfl hy⟩
theorem DO{prog:Program}{w:World}{env:Env}{e:Expr}{f:Str}{pos:Pos}{s:Shared}{Q:Value->Shared->Prop}(hb:attributeBase e f env (eval e env)=eval e env)
  (h:wpAny (model prog w) A (eval e env) (λo s₁=>wpAny (model prog w) A (getAttr o f true) Q E s₁) E s):wpAny (model prog w) A (eval (.Attribute e f pos) env) Q E s :=
 Attribute_any_ h (by rw[arm_eval_Attribute,hb])
end
def Lb(K:PySem.W.Frag)(ta:TE)(f:Str):TE:=fun σ H Q=>ta σ H λx H1=>∃ a C dx fs v,x=.ref a/\H1 a=some (.ins C dx fs)/\lU K C/\bZ K C f/\fs.lookup f=some v/\Q v H1
def K4(K:PySem.W.Frag)(ta tv:TE)(f:Str):TS:=λD σ H=>tv σ H λy H1=>ta σ H1 λx H2=>∃ a C dx fs,x=.ref a/\H2 a=some (.ins C dx fs)/\lU K C/\bZ K C f/\fs.length<1000 ∧
 D.nx σ (upd H2 a (.ins C dx (jE f y fs)))
section
variable{X:Cx}{o e value:Expr}{f:Str}{pos pos' tpos:Pos}{ta tv:TE}
theorem EZ(he:PE X e ta)(hb:attributeBase e f X.env (eval e X.env)=eval e X.env):PE X (.Attribute e f pos) (Lb X.K ta f):=by
 intro L4 s σ H Q I h
 refine DO hb (c7 (he L4 s σ H _ I h) λu s1 ⟨x,H1,I1,rx,a,C,dx,fs,v,ex,ea,c,n,l,q⟩=>?_)
 subst ex
 obtain rfl:u=Value.ref a:=rx
 exact vJ I1 ea c n l λu' s2 I2 ru=>⟨v,H1,I2,ru,q⟩
theorem Hl(ha:PE X o ta)(hv:PE X value tv)(hs:swapsWith value (some (.Attribute o f pos')) pos.line X.env=pure false):PS X (.Assign [.Attribute o f pos'] value pos) (K4 X.K ta tv f):=by
 intro L4 s σ H D I h
 refine plainObj_wpAny_Assign_Attribute (c7 (hv L4 s σ H _ I h) λu s1 ⟨y,H1,I1,ry,q⟩=>c7 (ha L4 s1 σ H1 _ I1 q) λov s2 ⟨x,H2,I2,rx,a,C,dx,fs,ex,ea,c,n,l,q2⟩=>?_) hs
 subst ex
 obtain rfl:ov=Value.ref a:=rx
 exact vY I2 ea c n l ry λs3 I3=>⟨σ,_,I3,q2⟩
end
section
variable{X:Cx}{L4:List (Addr×Obj)}{σ:St}{H:Hp}{s:Shared}{A:Around}{E:Value->Shared->Prop}{Q:Value->Shared->Prop}{c:Value}{b:Bool}
inductive jI (K:PySem.W.Frag) (H:Hp):V->Value->Prop where
 | cp:jI K H .cp (.type "NoneType")
 | bl (x:Bool):jI K H (.bl x) (.type "bool")
 | int (i:Int):jI K H (.int i) (.type "int")
 | str (x:Str):jI K H (.str x) (.type "str")
 | EM (x:UInt64):jI K H (.EM x) (.type "float")
 | lst {a:Addr} {xs:List V} (e:H a=some (.lst xs)):jI K H (.ref a) (.type "list")
 | qo {a:Addr} {o:Obj} {xs:List V} (e:H a=some (.qo o (.lst xs))):jI K H (.ref a) (.type "list")
 | tup {a:Addr} {xs:List V} (e:H a=some (.tup xs)):jI K H (.ref a) (.type "tuple")
 | dK {a:Addr} {MT:List (Key×V)} (e:H a=some (.dK MT)):jI K H (.ref a) (.type "dict")
 | dT {a:Addr} {MT:List (List Key×V)} (e:H a=some (.dT MT)):jI K H (.ref a) (.type "dict")
 | ins {a C dx:Addr} {fs:List (Str×V)} (e:H a=some (.ins C dx fs)) (cl:lU K C) (ha:PySem.W.findIn K (.ref C) "__class__" = some (some (.builtin "object.__class__")))
   (hn:PySem.W.specialIn K (.builtin "object.__class__") "__get__" = some (some (.builtin "getset_descriptor.__get__"))) (HE:PySem.W.takesIn K (.builtin "object.__class__")=some true)
   (hm:PySem.W.mroIn K C (.type "object")=some true):jI K H (.ref a) (.ref C)
theorem xY{x:V}{u t:Value}(I:Inv X L4 σ H s)(rx:RelV x u)(ty:jI X.K H x t)(e:PySem.W.kitOne X.K t c=some b)(h:∀ tk,Q (.bool b) { s with toks:=tk }) :
  wpAny (model X.prog X.w) A (call (.builtin "isinstance") [u,c]) Q E s:=by
 cases ty with
 | cp=>cases (show u=Value.none from rx);exact PySem.W.kia_one PySem.W.kitx_none I.jV True.intro e (λz=>nomatch z) h
 | bl y=>cases (show u=Value.bool y from rx);exact PySem.W.kia_one PySem.W.kitx_bool I.jV True.intro e (λz=>nomatch z) h
 | int i=>obtain⟨t,q⟩:=(show ∃ t,u=Value.int i t from rx);cases q;exact PySem.W.kia_one PySem.W.kitx_int I.jV True.intro e (λz=>nomatch z) h
 | str y=>obtain⟨t,q⟩:=(show ∃ t,u=Value.str y t from rx);cases q;exact PySem.W.kia_one PySem.W.kitx_str I.jV True.intro e (λz=>nomatch z) h
 | EM y=>obtain⟨t,q⟩:=(show ∃ t,u=Value.float y t from rx);cases q;exact PySem.W.kia_one PySem.W.kitx_float I.jV True.intro e (λz=>nomatch z) h
 | @lst a xs ea =>
  cases (show u=Value.ref a from rx)
  obtain⟨_,_,n,_,h1⟩:=(show cv X.prog X.w H s.heap a (.lst xs) from I.bK a _ ea)
  exact PySem.W.kia_one PySem.W.kitx_list I.jV ⟨_,h1,rfl⟩ e (λz=>nomatch z) h
 | @qo a ob xs ea =>
  cases (show u=Value.ref a from rx)
  obtain⟨_,_,_,n,_,h1⟩:=(show cv X.prog X.w H s.heap a (.qo ob (.lst xs)) from I.bK a _ ea)
  exact PySem.W.kia_one PySem.W.kitx_list I.jV ⟨_,h1,rfl⟩ e (λz=>nomatch z) h
 | @tup a xs ea =>
  cases (show u=Value.ref a from rx)
  obtain⟨_,_,_,p⟩:=(show cv X.prog X.w H s.heap a (.tup xs) from I.bK a _ ea)
  obtain⟨o,h1,h2,_⟩:=p
  exact PySem.W.kia_one PySem.W.kitx_tuple I.jV ⟨o,h1,h2⟩ e (λz=>nomatch z) h
 | @dK a MT ea =>
  cases (show u=Value.ref a from rx)
  obtain⟨_,_,vs,_,p⟩:=(show cv X.prog X.w H s.heap a (.dK MT) from I.bK a _ ea)
  obtain⟨o,es,ep,h1,h2,_⟩:=p
  exact PySem.W.kia_one PySem.W.kitx_dict I.jV ⟨o,h1,h2.1⟩ e (λz=>nomatch z) h
 | @dT a MT ea =>
  cases (show u=Value.ref a from rx)
  obtain⟨_,_,xs,_,o,es,ep,h1,h2,_⟩:=(show cv X.prog X.w H s.heap a (.dT MT) from I.bK a _ ea)
  exact PySem.W.kia_one PySem.W.kitx_dict I.jV ⟨o,h1,h2.1⟩ e (λz=>nomatch z) h
 | @ins a C dx fs ea cl ha hn HE hm =>
  cases (show u=Value.ref a from rx)
  obtain⟨mA,O,_⟩:=lQ I.bK ea
  obtain⟨od,J,_⟩:=O.look
  exact PySem.W.kia_one (PySem.W.kitx_own (cl.get _) cl.hd ha hn HE hm) I.jV J e (λz=>nomatch z) h
end
end L2
namespace L2
open PySem PySem.Spec PyProof.Rows
structure cD (k:Nat) (A:Around):Prop where
 hd:A.handled=none
 dp:A.depth+3*k+5<recursionLimit
 un:A.units+16*k+200<cLine
theorem cD.mono{j k:Nat}{A:Around}(r:cD k A)(h:j<=k):cD j A:=⟨r.hd,by have:=r.dp;omega,by have:=r.un;omega⟩
theorem cD.deeper{k:Nat}{A:Around}(r:cD (k+1) A)(env:Env):cD k (A.deeper env) :=
 ⟨r.hd,by have:=r.dp;show A.depth+1+3*k+5<_;omega,by have:=r.un;show A.units+3+16*k+200<_;omega⟩
theorem vB{A:Around}{C:Addr}{us:List Value}{kw:List (Str×Value)}:(A.under (.builtin "type.__call__" ⟨.ref C::us,kw⟩)).depth=A.depth+1:=by
 first | rfl | simp[Around.under,Code.weight,Code.isCreation,Code.isGuard,Code.isCaller,Code.frames,Code.isFrame,guardIds]
theorem vI{A:Around}{C:Addr}{us:List Value}{kw:List (Str×Value)}:(A.under (.builtin "type.__call__" ⟨.ref C::us,kw⟩)).units=A.units+1:=by
 first | rfl | simp[Around.under,Code.cUnits,Code.frames,Code.isFrame]
theorem cD.make{k:Nat}{A:Around}(r:cD (k+1) A)(C:Addr)(us:List Value)(kw:List (Str×Value)):cD k (A.under (.builtin "type.__call__" ⟨.ref C::us,kw⟩)) :=
 ⟨r.hd,by have:=r.dp;rw[vB];omega,by have:=r.un;rw[vI];omega⟩
theorem cD.depth{k:Nat}{A:Around}(r:cD k A):A.depth<recursionLimit:=by have:=r.dp;omega
theorem cD.units{k:Nat}{A:Around}(r:cD k A):A.units+64<cLine:=by have:=r.un;omega
def IQ:TA:=λ_ H Q=>Q [] H
def Js(ta:TE)(tr:TA):TA:=fun σ H Q=>ta σ H λx H1=>tr σ H1 λxs H2=>Q (x::xs) H2
section
variable{X:Cx}{e:Expr}{es:List Expr}{te:TE}{t:TA}{pos:Pos}
theorem pE:PA X [] IQ:=λ_ _ _ _ H Q I h=>Calls.spliced_nil ⟨[],H,I,.nil,h⟩
theorem iu(ha:PE X e te)(hr:PA X es t)(hs:autoParam (starEach (e::es) X.env=(false,eval e X.env)::starEach es X.env) aR._auto_1):PA X (e::es) (Js te t):=by
 intro pos L4 s σ H Q I h
 rw[hs]
 show wpAny _ _ (spliced ((false,eval e X.env)::backTo pos (starEach es X.env))) _ _ s
 refine Calls.spliced_cons (c7 (ha L4 s σ H _ I h) λu s1 ⟨x,H1,I1,r1,q1⟩=>?_)
 exact c7 (hr pos L4 s1 σ H1 _ I1 q1) λus s2 ⟨xs,H2,I2,r2,q2⟩=>⟨x::xs,H2,I2,.cons r1 r2,q2⟩
def Ka(t:TA):TE:=fun σ H Q=>t σ H λxs H1=>xs.length<=sizeLine/\∀ p,H1 p=none->Q (.ref p) (upd H1 p (.tup xs))
def Kk(t:TA):TE:=fun σ H Q=>t σ H λxs H1=>xs.length<=sizeLine/\∀ p,H1 p=none->Q (.ref p) (upd H1 p (.lst xs))
theorem Ao{x1}(h:PA X es t):PE X (.Tuple es x1 pos) (Ka t):=by
 intro L4 s σ H Q I hq
 refine wpAny_Tuple_spliced (c7 (h pos L4 s σ H _ I hq) λus s1 ⟨xs,H1,I1,r,z,q⟩=>⟨by rw[← r.length];exact z,?_⟩)
 have hf:H1 s1.heap.objs.size=none:=I1.bK.fresh (Nat.le_refl _)
 refine⟨.ref s1.heap.objs.size,upd H1 s1.heap.objs.size (.tup xs),I1.laid (t':=s1.toks) (λb u e=>Heap.get?_push_of_some _ e) (Nat.le_refl _) ?_,rfl,q _ hf⟩
 exact⟨z,us,r,⟨_,Heap.get?_push_size _ rfl,rfl,_,rfl⟩⟩
theorem zk(h:PA X es t):PE X (.List es pos) (Kk t):=by
 intro L4 s σ H Q I hq
 refine wpAny_List_spliced (c7 (h pos L4 s σ H _ I hq) λus s1 ⟨xs,H1,I1,r,z,q⟩=>⟨by rw[← r.length];exact z,?_⟩)
 have hf:H1 s1.heap.objs.size=none:=I1.bK.fresh (Nat.le_refl _)
 refine⟨.ref s1.heap.objs.size,upd H1 s1.heap.objs.size (.lst xs),I1.laid (t':=s1.toks) (λb u e=>Heap.get?_push_of_some _ e) (Nat.le_refl _) ?_,rfl,q _ hf⟩
 exact⟨z,us,0,r,Heap.get?_push_size _ rfl⟩
end
abbrev Sp:=List V->Hp->VK->XK->Prop
abbrev CJ:=List Env->Hp->Shared->XK->Value->Shared->Prop
structure vy (P:Program) (w:World) (K:PySem.W.Frag) (mg:Str->Option Value) (base:Heap) (A:Around) (outer:List Env) (s:Shared) (H:Hp):Prop where
 frames:A.frames=some outer
 mod:Mod K mg base
 bs:∀ b o,base.get? b=some o->s.heap.get? b=some o/\H b=none
 En:base.objs.size<=s.heap.objs.size
 nv:s.heap.FunFrames base outer
 FK:∀ b∈vi outer,H b=none
 bK:mK P w H s.heap
 bare:AllBare s.gens
def CE(outer:List Env)(P:Program)(w:World)(H:Hp)(s:Shared)(Q:VK)(u:Value)(s':Shared):Prop :=
 ∃ v H',s'.os=s.os/\AllBare s'.gens/\Un (vi outer) [] H H' s.heap s'.heap/\mK P w H' s'.heap/\RelV v u/\Q v H'
def CR(CX:CJ)(outer:List Env)(P:Program)(w:World)(H:Hp)(s:Shared)(Q:VK)(E:XK)(r:Result)(s':Shared):Prop :=
 match r with
 | .ok (.ret u)=>CE outer P w H s Q u s'
 | .ok _=>False
 | .error e=>CX outer H s E e s'
structure aP (P:Program) (w:World) (K:PySem.W.Frag) (mg:Str->Option Value) (base:Heap) (CX:CJ) (k:Nat) (f:Addr) (fd:FuncData) (ps:List Str) (sp:Sp):Prop where
 len:∀ vs H Q E,sp vs H Q E->vs.length=ps.length
 run:∀ (A:Around) (outer:List Env) (s:Shared) (H:Hp) (args:Args) (us:List Value) (vs:List V) (Q:VK) (E:XK),cD k A->vy P w K mg base A outer s H->BindsTo s fd args (ps.zip us)->Vals vs us->sp vs H Q E ->
  codeAny (model P w) A (.call (.ref f) args) (CR CX outer P w H s Q E) s
theorem vy.make{P:Program}{w:World}{K:PySem.W.Frag}{mg:Str->Option Value}{base:Heap}{A:Around}{outer:List Env}{s:Shared}{H:Hp}(e:vy P w K mg base A outer s H)(C:Addr)(us:List Value)(kw:List (Str×Value)) :
  vy P w K mg base (A.under (.builtin "type.__call__" ⟨.ref C::us,kw⟩)) outer s H:=⟨by first | exact e.frames | (simpa [Around.under,Code.envs,Code.isFrame,pushEnvs] using e.frames),e.mod,e.bs,e.En,e.nv,e.FK,e.bK,e.bare⟩
section
variable{X:Cx}{L4:List (Addr×Obj)}{σ:St}{H:Hp}{s s':Shared}
theorem Inv.k8(I:Inv X L4 σ H s):vy X.prog X.w X.K X.mg X.base X.A X.stack s H :=
 ⟨I.ok.frames,I.ok.mod,I.bs,Nat.le_trans I.ok.En I.sz,I.stack,I.rR,I.bK,I.bare⟩
theorem Inv.after{Q:VK}{u:Value}(I:Inv X L4 σ H s)(h:CE X.stack X.prog X.w H s Q u s'):EP X L4 σ Q u s':=by
 obtain⟨v,H',os,bare,un,bK,r,q⟩:=h
 obtain⟨hh,g,d,t,os'⟩:=s'
 obtain rfl:os'=s.os:=os
 exact⟨v,H',I.call (h':=hh) (g':=g) (d':=d) (t':=t) (ch:=[]) un bK bare (λb z=>absurd z (by simp)),r,q⟩
end
def Binds(K:PySem.W.Frag)(fd:FuncData)(ps:List Str)(ds:List Value):Prop :=
 ∀ (s:Shared) (us:List Value),K.In s.heap->(us++ds).length=ps.length->BindsTo s fd ⟨us,[]⟩ (ps.zip (us++ds))
theorem Binds.all{K:PySem.W.Frag}{fd:FuncData}{ps:List Str}(h:∀ us:List Value,us.length=ps.length->bindArgs fd ⟨us,[]⟩=pure (ps.zip us)):Binds K fd ps []:=λs us _ hl=>by
 rw[List.append_nil] at hl ⊢
 exact .of_eq (h us hl)
section
variable{X:Cx}{CX:CJ}{k:Nat}{f C:Addr}{fd:FuncData}{ps:List Str}{sp:Sp}{MM:List V}{ds:List Value}{E:XK}{x m:Str}{p pos apos:Pos}{e o:Expr}{es:List Expr}{ta:TE}{t:TA}
structure Mk (K:PySem.W.Frag) (C f:Addr):Prop where
 makes:PySem.W.makesIn K C=true
 init:PySem.W.findIn K (.ref C) "__init__" = some (some (.ref f))
 fn:PySem.W.isFn K (.ref f)=true
 kp:PySem.W.keepIn K (.ref C)=true
end
section
variable{X:Cx}{CX:CJ}{k:Nat}{f C:Addr}{fd:FuncData}{ps ks:List Str}{sp:Sp}{E:XK}{x m:Str}{p pos apos kpos:Pos}{e o:Expr}{es:List Expr}{kws:List Keyword}{te ta:TE}{t tk:TA}{nm:Option Str}
variable{g:List Value->List Value->List Value}{gV:List V->List V->List V}
end
structure cO (N P:List Str) (sc:Scope):Prop where
 kind:sc.kind=.function
 co:sc.isCoroutine=false
 gen:sc.isGenerator=false
 nd:N.Nodup
 pre:N.take P.length=P
 par:∀ x∈P,sc.names.lookup x=some .local\/sc.names.lookup x=some .cell
 FT:∀ y∈sc.names,y.2≠.free
theorem qI{kindOf:Str->Option NameKind}{x:Str}:∀ {binds:List (Str×Value)} {m:Str->Option Value},(∀ v,(x,v) ∉ binds)->bindL kindOf binds m x=m x
 | [],_,_=>rfl
 | (n,v)::r,m,h=>by
  unfold bindL
  rw[qI λw hw=>h w (List.mem_cons_of_mem _ hw)]
  split
  ·have:x≠n:=by rintro rfl;exact h v List.mem_cons_self
   simp[this]
  ·rfl
theorem qW{kindOf:Str->Option NameKind}{x:Str}:∀ {binds:List (Str×Value)} {m:Str->Option Value},(∀ v,(x,v) ∉ binds)->bindC kindOf binds m x=m x
 | [],_,_=>rfl
 | (n,v)::r,m,h=>by
  unfold bindC
  rw[qW λw hw=>h w (List.mem_cons_of_mem _ hw)]
  split
  ·rfl
  ·have:x≠n:=by rintro rfl;exact h v List.mem_cons_self
   simp[this]
theorem rh{kindOf:Str->Option NameKind}{x:Str}{v:Value}:∀ {P:List Str} {vs:List Value} {i:Nat} {m:Str->Option Value},P.Nodup->P[i]?=some x->vs[i]?=some v->kindOf x=some .local ->
  bindL kindOf (P.zip vs) m x=some v
 | [],_,_,_,_,h,_,_=>by simp at h
 | _::_,[],_,_,_,_,h,_=>by simp at h
 | p::P,w::vs,0,m,nd,h1,h2,hk=>by
  simp at h1 h2;subst h1;subst h2
  show bindL kindOf ((p,w)::P.zip vs) m p=_
  unfold bindL
  rw[qI λv hv=>(List.nodup_cons.mp nd).1 (List.of_mem_zip hv).1,if_pos hk]
  simp
 | p::P,w::vs,i+1,m,nd,h1,h2,hk=>by
  show bindL kindOf ((p,w)::P.zip vs) m x=_
  unfold bindL
  exact rh (i:=i) (List.nodup_cons.mp nd).2 (by simpa using h1) (by simpa using h2) hk
theorem qJ{kindOf:Str->Option NameKind}{x:Str}{v:Value}:∀ {P:List Str} {vs:List Value} {i:Nat} {m:Str->Option Value},P.Nodup->P[i]?=some x->vs[i]?=some v->kindOf x≠some .local ->
  bindC kindOf (P.zip vs) m x=some v
 | [],_,_,_,_,h,_,_=>by simp at h
 | _::_,[],_,_,_,_,h,_=>by simp at h
 | p::P,w::vs,0,m,nd,h1,h2,hk=>by
  simp at h1 h2;subst h1;subst h2
  show bindC kindOf ((p,w)::P.zip vs) m p=_
  unfold bindC
  rw[qW λv hv=>(List.nodup_cons.mp nd).1 (List.of_mem_zip hv).1,if_neg hk]
  simp
 | p::P,w::vs,i+1,m,nd,h1,h2,hk=>by
  show bindC kindOf ((p,w)::P.zip vs) m x=_
  unfold bindC
  exact qJ (i:=i) (List.nodup_cons.mp nd).2 (by simpa using h1) (by simpa using h2) hk
def start(N:List Str)(vs:List V):St:=vs.map some++List.replicate (N.length-vs.length) none
def lF(CX:CJ)(P:Program)(w:World)(K:PySem.W.Frag)(mg:Str->Option Value)(base:Heap)(N:List Str)(qual:Str)(scope:Scope)(f:Addr)(cd:Value)(A:Around)(outer:List Env)(s:Shared)(H:Hp)(E:XK):Cx where
 prog:=P
 w:=w
 K:=K
 mg:=mg
 base:=base
 A:=A.deeper (envOfC qual scope s.heap.objs.size f cd)
 N:=N
 s₀:=s
 H₀:=H
 env:=envOfC qual scope s.heap.objs.size f cd
 outer:=outer
 stack:=envOfC qual scope s.heap.objs.size f cd::outer
 ex:=[]
 calm:=true
 fn:=λ_=>true
 pn:=[]
 xe:=λe s'=>wpAny (model P w) (A.deeper (envOfC qual scope s.heap.objs.size f cd)) (leaving (envOfC qual scope s.heap.objs.size f cd) e) (λ_ s''=>CX outer H s E e s'') (λe' s''=>CX outer H s E e' s'') s'
theorem ux{sc:Scope}{n:Nat}{x:Str}(h:sc.names.lookup x=some .cell):∃ c,(cellsFrom n sc.names []).lookup x=some c:=by
 have q:=PySem.W.cellsFrom_some sc.names n [] (.inl h)
 exact Option.isSome_iff_exists.mp q
theorem yv{CX:CJ}{P:Program}{w:World}{K:PySem.W.Frag}{mg:Str->Option Value}{base:Heap}{N ps:List Str}{qual:Str}{scope:Scope}{f:Addr}{cd:Value}{A:Around}{outer:List Env}{s s1:Shared}{H:Hp}{E:XK}{us:List Value}{vs:List V}
  (S:cO N ps scope) (hd:A.handled=none) (e0:vy P w K mg base A outer s H) (hl:vs.length=ps.length) (r:Vals vs us)
  (x:InCallC s s.heap.objs.size (bindL (envOfC qual scope s.heap.objs.size f cd).kindOf (ps.zip us) λ_=>none) (cellsFrom (s.heap.objs.size+1) scope.names []) (bindC (envOfC qual scope s.heap.objs.size f cd).kindOf (ps.zip us) λ_=>none) s1) :
  Inv (lF CX P w K mg base N qual scope f cd A outer s H E) [] (start N vs) H s1:=by
 have Mz:ps.length<=N.length:=by have:=congrArg List.length S.pre;rw[List.length_take] at this;omega
 obtain⟨h1,tk,rfl,hk⟩:=x.done
 have vS:∀ b:Addr,b ∉ (lF CX P w K mg base N qual scope f cd A outer s H E).ex:=λb z=>absurd (show b∈([]:List Addr) from z) (by simp)
 refine⟨⟨e0.mod,S.kind,rfl,rfl,Nat.le_refl _,λy z c h1 h2=>?_,λy hy=>?_,λy c _ h=>?_,λ_=>hd,Around.frames_deeper e0.frames,.inr ⟨rfl,rfl⟩,λb z=>absurd z (vS b),e0.bs,e0.En,λb _ _=>vS b,λb z=>absurd z (vS b),e0.nv,e0.FK⟩,
  rfl,e0.bare,Un.kept hk,⟨_,x.toInCall.ns,λi y v h1 h2 h3=>?_⟩,λy c h=>⟨_,x.cell y c h⟩,e0.bK.fresh (Nat.le_refl _),λy c h=>?_,λp hp=>absurd (show p∈([]:List (Addr×Obj)) from hp) (by simp),e0.bK.kept hk,?_⟩
 ·exact name_of_addr x.apart (PySem.mem_of_lookup h1) (PySem.mem_of_lookup h2)
 ·have hy:scope.names.lookup y=some .cell\/scope.names.lookup y=some .free:=hy
  rcases hy with hy | hy
  ·exact ux hy
  ·exact absurd rfl (S.FT _ (PySem.mem_of_lookup hy))
 ·exact Nat.le_of_lt (x.above y c (PySem.mem_of_lookup h))
 ·have hi:i<vs.length:=by
   unfold start at h2
   by_cases hi:i<vs.length
   ·exact hi
   ·rw[List.getElem?_append_right (by simpa using hi)] at h2
    rw[List.getElem?_replicate] at h2
    split at h2 <;> cases h2
  have ha:vs[i]?=some v:=by
   unfold start at h2
   rw[List.getElem?_append_left (by simpa using hi),List.getElem?_map] at h2
   cases e:vs[i]? with
   | none=>rw[e] at h2;cases h2
   | some a=>rw[e] at h2;cases h2;rfl
  obtain⟨u,hu,rv⟩:=r.get ha
  have hp:ps[i]?=some y:=by
   rw[← S.pre,List.getElem?_take_of_lt (by omega)];exact h1
  have ndP:ps.Nodup:=by rw[← S.pre];exact S.nd.sublist (List.take_sublist _ _)
  refine⟨u,rv,?_⟩
  rcases S.par y (List.mem_of_getElem? hp) with k | k
  ·exact .inl ⟨k,rh ndP hp hu k⟩
  ·obtain⟨c,e⟩:=ux (n:=s.heap.objs.size+1) k
   refine .inr ⟨.inl k,c,e,?_⟩
   have q:=x.cell y c e
   rw[qJ ndP hp hu (by show scope.names.lookup y≠_;rw[k];decide)] at q
   exact q
 ·exact e0.bK.fresh (Nat.le_of_lt (x.above y c (PySem.mem_of_lookup h)))
 ·unfold start
  show _=N.length
  rw[List.length_append,List.length_map,List.length_replicate]
  omega
theorem HR{CX:CJ}{P:Program}{w:World}{K:PySem.W.Frag}{mg:Str->Option Value}{base:Heap}{k:Nat}{f:Addr}{name qual:Str}{params:Arguments}{body:List Stmt}{scope:Scope}{dV kV doc pm Mp ct oc:Value}{an od:Option Addr}
  {N1:Array (Option Value)} {N ps:List Str} {sp:Sp} (lk:K.lookup f=some ⟨oc,od,.func (PySem.W.fnOf name qual params body scope dV kV doc pm an Mp ct),N1⟩) (Ng:PySem.W.codeIn K Mp qual=true) (S:cO N ps scope)
  (len:∀ vs H Q E,sp vs H Q E->vs.length=ps.length)
  (N9:∀ (A:Around) (outer:List Env) (s:Shared) (H:Hp) (vs:List V) (Q:VK) (E:XK),cD k (A.deeper (envOfC qual scope s.heap.objs.size f Mp))->sp vs H Q E ->
   ∃ t,lW (lF CX P w K mg base N qual scope f Mp A outer s H E) body t/\t { nx:=λ_ H'=>Q .cp H',rt:=Q } (start N vs) H) :
  aP P w K mg base CX (k+1) f (PySem.W.fnOf name qual params body scope dV kV doc pm an Mp ct) ps sp:=by
 refine⟨len,λA outer s H args us vs Q E hr e0 hb r hsp=>?_⟩
 have hl:=len _ _ _ _ hsp
 have KX:K.In s.heap:=e0.mod.EO.keeps λb o e=>(e0.bs b o e).1
 have lim:s.heap.NoLimit:=e0.mod.nolimit.keeps λb o e=>(e0.bs b o e).1
 have Pp:∀ y∈ps.zip us,scope.names.lookup y.1=some .local\/(scope.names.lookup y.1=some .cell/\((cellsFrom (s.heap.objs.size+1) scope.names []).lookup y.1).isSome=true):=λ⟨n,v⟩ hy=>by
  rcases S.par n (List.of_mem_zip hy).1 with q | q
  ·exact .inl q
  ·exact .inr ⟨q,PySem.W.cellsFrom_some _ _ _ (.inl q)⟩
 refine codeAny_call_function hr.depth (KX _ _ lk) rfl S.co S.gen rfl (PySem.W.codeRec_of KX Ng) (hb _ _ _ _ ?_)
 refine wpAny_newFunctionEnv_cells S.kind Pp λenv he s1 x=>?_
 subst he
 refine⟨lim.keeps x.toInCall.keep,codeAny_func ?_⟩
 obtain⟨t,ht,hq⟩:=N9 A outer s H vs Q E (hr.deeper _) hsp
 have I:Inv (lF CX P w K mg base N qual scope f Mp A outer s H E) [] (start N vs) H s1:=yv S hr.hd e0 hl r x
 refine wpAny_mono (ht [] s1 (start N vs) H _ I hq) (λfl s' hs=>?_) λe s' hs=>hs
 have fin:∀ {σ':St} {H':Hp} {v:V} {u:Value},Inv (lF CX P w K mg base N qual scope f Mp A outer s H E) [] σ' H' s'->RelV v u->Q v H'->CE outer P w H s Q u s' :=
  λ{σ' H' v u} J rv q=>⟨v,H',J.os,J.bare,J.base,J.bK,rv,q⟩
 cases fl with
 | ret u =>
  obtain⟨v,σ',H',J,rv,q⟩:=hs
  exact fin J rv q
 | next =>
  obtain⟨σ',H',J,q⟩:=hs
  exact fin (v:=V.cp) (u:=Value.none) J rfl q
 | brk =>
  obtain⟨_,_,_,q⟩:=hs
  exact False.elim q
 | cont =>
  obtain⟨_,_,_,q⟩:=hs
  exact False.elim q
end L2
namespace L2
open PySem PySem.Spec PyProof.Rows
section
variable{X:Cx}{x:Str}{p pos:Pos}{e:Expr}{es:List Expr}{t:TA}{id T:String}{r:List V->Hp->VK->Prop}
def KU(r:List V->Hp->VK->Prop)(t:TA):TE:=fun σ H Q=>t σ H λvs H1=>r vs H1 Q
theorem pR(hc:eC X (.builtin id) r)(hg:Gl X x)(hm:X.mg x=none)(hv:bootBuiltins x=some (.builtin id))(ha:PA X (e::es) t)(hn:autoParam (x ≠ "__name__") aD._auto_1)(M0:autoParam ((x==("__debug__" : Str))=false) aD._auto_1)
  (he:autoParam (starEach (e::es) X.env=(false,eval e X.env)::starEach es X.env) aR._auto_1) (Mz:autoParam ((backTo pos (starEach es X.env)).any (·.1)=false) aR._auto_1):PE X (.Call (.Name x p) (e::es) [] pos) (KU r t):=by
 intro L4 s σ H Q I h
 refine wpAny_Call_Name_kw (jn I hg hm hv ?_ hn M0)
 exact PyProof.Rows.callWith_builtin1 (c7 (ha pos L4 s σ H _ I h) λus s1 ⟨vs,H1,I1,r1,q1⟩=>hc L4 s1 σ H1 vs us Q I1 r1 q1) he Mz
theorem yy(hc:eC X (.type T) r)(hg:Gl X x)(hm:X.mg x=none)(hv:bootBuiltins x=some (.type T))(ha:PA X (e::es) t)(hn:autoParam (x ≠ "__name__") aD._auto_1)(M0:autoParam ((x==("__debug__" : Str))=false) aD._auto_1)
  (he:autoParam (starEach (e::es) X.env=(false,eval e X.env)::starEach es X.env) aR._auto_1) (Mz:autoParam ((backTo pos (starEach es X.env)).any (·.1)=false) aR._auto_1):PE X (.Call (.Name x p) (e::es) [] pos) (KU r t):=by
 intro L4 s σ H Q I h
 refine wpAny_Call_Name_kw (jn I hg hm hv ?_ hn M0)
 exact PyProof.Rows.callWith_type1 (c7 (ha pos L4 s σ H _ I h) λus s1 ⟨vs,H1,I1,r1,q1⟩=>hc L4 s1 σ H1 vs us Q I1 r1 q1) he Mz
end
end L2
namespace HT
open PySem PyProof.Rows
section
open PySem.SeqAt
open PySem.AutoSeq1 (wpAny_loadPart')
open PySem.MeetsSeq PySem.MeetsSeq2 PySem.MeetsSeq3
end
section
variable{prog:Program}{w:World}{A:Around}{E:Value->Shared->Prop}{s:Shared}
theorem DZ{t b:Addr}{vs ws:List Value}{Q:Value->Shared->Prop}(ht:IsTup s.heap t vs.toArray)(hb:IsTup s.heap b ws.toArray)(hv:vs≠[])
  (h1:ws=[]->Q (.ref t) s) (h2:ws≠[]->Q (.ref s.heap.objs.size) { s with heap:=s.heap.push { cls:=.type "tuple", data:=.seq (vs++ws).toArray } })
  (Nv:vs.length+ws.length<=sizeLine):wpAny (model prog w) A (binaryOp .Add (.ref t) (.ref b)) Q E s:=by
 obtain⟨⟨cls,dd,data,sl⟩,ho,hc,n,hd⟩:=id ht
 obtain⟨⟨cls2,Pd,data2,sl2⟩,N4,OC,n2,hd2⟩:=id hb
 simp only at hc hd OC hd2
 subst hc hd OC hd2
 have e:vs.toArray++ws.toArray=(vs++ws).toArray:=by simp
 by_cases hw:ws=[]
 ·exact concat_meets ⟨_,ho,rfl⟩ ⟨_,N4,rfl⟩ noFill_tuple_add seq_tuple_add PySem.F.slot_tuple_add PySem.F.entry_tuple_add (PySem.F.args_tuple_add_2 _ _)
   (tuple_addW1 t b vs.toArray ws.toArray n n2 dd Pd sl sl2 (by simpa using hv) (by simp[hw])) ⟨ho,N4,h1 hw⟩
 ·refine concat_meets ⟨_,ho,rfl⟩ ⟨_,N4,rfl⟩ noFill_tuple_add seq_tuple_add PySem.F.slot_tuple_add PySem.F.entry_tuple_add (PySem.F.args_tuple_add_2 _ _)
   (tuple_addW2 t b vs.toArray ws.toArray n n2 dd Pd sl sl2 (by simpa using hv) (by simpa using hw) (by rw[List.size_toArray,List.size_toArray];exact Nv)) ⟨ho,N4,?_⟩
  rw[e]
  exact h2 hw
def dw(n d:Nat):Option Int->Nat
 | none=>d
 | some v=>if v<0 then (v+(n:Int)).toNat else min v.toNat n
theorem nY(n d k:Nat):dw n d (some (k:Int))=min k n:=by
 show (if (k:Int)<0 then ((k:Int)+(n:Int)).toNat else min (k:Int).toNat n)=min k n
 rw[if_neg (by omega),Int.toNat_natCast]
theorem FE(n d:Nat)(hd:d<=n)(o:Option Int):dw n d o<=n:=by
 cases o with
 | none=>exact hd
 | some v =>
  show (if v<0 then (v+(n:Int)).toNat else min v.toNat n)<=n
  by_cases hv:v<0
  ·rw[if_pos hv];omega
  ·rw[if_neg hv];exact Nat.min_le_right _ _
theorem wV(v:Int)(n d:Nat):(if v<0 then max (v+(n:Int)) 0 else min v (n:Int))=((dw n d (some v):Nat):Int):=by
 show (if v<0 then max (v+(n:Int)) 0 else min v (n:Int))=(((if v<0 then (v+(n:Int)).toNat else min v.toNat n):Nat):Int)
 by_cases hv:v<0
 ·simp only[if_pos hv];omega
 ·simp only[if_neg hv];omega
theorem vq(lo hi:Option Int)(n:Nat):Builtin.Slice.sliceAdjust lo hi 1 (n:Int)=(((dw n 0 lo:Nat):Int),((dw n n hi:Nat):Int)):=by
 have h1:¬ ((1:Int)<0):=by omega
 unfold Builtin.Slice.sliceAdjust
 simp only[h1,if_false]
 refine Prod.ext ?_ ?_
 ·cases lo with
  | none=>rfl
  | some v=>exact wV v n 0
 ·cases hi with
  | none=>rfl
  | some v=>exact wV v n n
theorem v9(i j:Nat):Builtin.Slice.slicePlaces (i:Int) (j:Int) 1=j-i:=by
 unfold Builtin.Slice.slicePlaces
 have h1:(1:Int)>0:=by omega
 simp only[h1,if_true,Int.ediv_one]
 split <;> omega
theorem om{v:Value}{o:Option Int}{Q:Option Int->Shared->Prop}(p:IsPart v o)(h:Q o s):wpAny (model prog w) A (Builtin.Slice.slicePartIndex v) Q E s:=by
 cases p with
 | none=>exact slicePart_none h
 | int i t=>exact slicePart_int h
theorem iS{sl:Addr}{vl vu:Value}{lo hi:Option Int}{n:Nat}{Q:Int×Int×Nat->Shared->Prop}(hs:s.heap.IsSliceOf sl vl vu .none)(pl:IsPart vl lo)(pu:IsPart vu hi)
  (h:Q (((dw n 0 lo:Nat):Int),1,dw n n hi-dw n 0 lo) s):wpAny (model prog w) A (Builtin.Slice.sliceApplied (.ref sl) (pure (n:Int))) Q E s:=by
 obtain⟨os,OW,hcs,Pm⟩:=id hs
 unfold Builtin.Slice.sliceApplied Builtin.Slice.sliceFields
 refine wpAny_bind (wpAny_bind (wpAny_field OW Pm (x:=vl) rfl (wpAny_bind (wpAny_field OW Pm (x:=vu) rfl (wpAny_bind (wpAny_field OW Pm (x:=.none) rfl (wpAny_pure ?_)))))))
 refine wpAny_bind (slicePart_none ?_)
 show wpAny _ _ (if ((1:Int)==0)=true then _ else _) _ _ s
 rw[if_neg (by decide)]
 refine wpAny_bind (om pl (wpAny_bind (om pu (wpAny_bind (wpAny_pure ?_)))))
 show wpAny _ _ (match Builtin.Slice.sliceAdjust lo hi 1 (n:Int) with | (lo,hi)=>pure (lo,(1:Int),Builtin.Slice.slicePlaces lo hi 1)) _ _ s
 rw[vq lo hi n]
 show wpAny _ _ (pure (((dw n 0 lo:Nat):Int),(1:Int),Builtin.Slice.slicePlaces ((dw n 0 lo:Nat):Int) ((dw n n hi:Nat):Int) 1)) _ _ s
 rw[v9]
 exact wpAny_pure h
theorem BD(xs:Array Value)(i k:Nat):((List.range k).filterMap λ(m:Nat)=>xs[((i:Int)+(m:Int)*1).toNat]?).toArray=((xs.toList.drop i).take k).toArray:=by
 have e:(λ(m:Nat)=>xs[((i:Int)+(m:Int)*1).toNat]?)=λm=>xs[i+m]?:=by
  funext m
  have:((i:Int)+(m:Int)*1).toNat=i+m:=by omega
  rw[this]
 rw[e]
 have:=pick_run xs i k
 rw[List.filterMap_map] at this
 have e2:((λx=>xs[x]?)∘λx=>i+x)=λm=>xs[i+m]?:=rfl
 rw[e2] at this
 rw[this]
theorem lj{t sl:Addr}{items:Array Value}{vl vu:Value}{lo hi:Option Int}{Q:Value->Shared->Prop}(ht:IsTup s.heap t items)(hs:s.heap.IsSliceOf sl vl vu .none)(pl:IsPart vl lo)(pu:IsPart vu hi)
  (hw:¬ (dw items.size 0 lo=0/\dw items.size items.size hi=items.size))
  (h:Q (.ref s.heap.objs.size) { s with heap:=s.heap.push { cls:=.type "tuple", data:=.seq ((items.toList.drop (dw items.size 0 lo)).take (dw items.size items.size hi-dw items.size 0 lo)).toArray } })
  (Nv:items.size<=sizeLine):wpAny (model prog w) A (getItem (.ref t) (.ref sl)) Q E s:=by
 have NZ:sizeOk (.seq ((items.toList.drop (dw items.size 0 lo)).take (dw items.size items.size hi-dw items.size 0 lo)).toArray):=by
  show ((items.toList.drop (dw items.size 0 lo)).take (dw items.size items.size hi-dw items.size 0 lo)).toArray.size<=sizeLine
  rw[List.size_toArray,List.length_take,List.length_drop,Array.length_toList]
  omega
 have hj:dw items.size items.size hi<=items.size:=FE _ _ (Nat.le_refl _) hi
 obtain⟨os,OW,hcs,Pm⟩:=id hs
 have hTs:s.TypeIs (.ref sl) "slice" := ⟨os,OW,hcs⟩
 unfold getItem
 try with_reducible refine wpAny_holding ?_
 first | refine wpAny_bind (wpAny_pure ?_) | skip
 refine wpAny_bind (wpAny_sequenceKey ht.typeIs (by decide) ?_)
 refine wpAny_bind (wpAny_callSpecial?_slot (name:=Str.ofString "__getitem__") ht.typeIs PyProof.Rows.slot_tuple_getitem
  (wpAny_call_entry PyProof.Rows.slot_tuple_getitem ht.typeIs entry_tuple_getitem ?_ (args_tuple_getitem _ _)))
 show wpAny _ _ (Builtin.Tuple.tupleItemsOf (.ref t) >>= _) _ _ s
 refine wpAny_bind (tupleItemsOf_ ht ?_)
 refine wpAny_bind (wpAny_typeOf hTs ?_)
 rw[if_pos (by decide)]
 refine wpAny_bind (iS hs pl pu ?_)
 have hno:¬ ((((dw items.size 0 lo:Nat):Int)==0&&(1:Int)==1&&(dw items.size items.size hi-dw items.size 0 lo)==items.size)=true):=by
  intro q
  rw[Bool.and_eq_true,Bool.and_eq_true] at q
  have q1:((dw items.size 0 lo:Nat):Int)=0:=eq_of_beq q.1.1
  have q2:dw items.size items.size hi-dw items.size 0 lo=items.size:=eq_of_beq q.2
  exact hw ⟨by omega,by omega⟩
 show wpAny _ _ (if (((dw items.size 0 lo:Nat):Int)==0&&(1:Int)==1&&(dw items.size items.size hi-dw items.size 0 lo)==items.size)=true then _ else _) _ _ s
 rw[if_neg hno,BD]
 first
  | exact wpAny_bind (m:=Builtin.Tuple.tupleExact _) (wpAny_newObj_type (wpAny_pure ⟨_,rfl,wpAny_pure h⟩) NZ)
  | exact wpAny_bind (m:=Builtin.Tuple.tupleExact _) (wpAny_newObj_type (wpAny_bind (wpAny_pure (wpAny_pure ⟨_,rfl,wpAny_pure h⟩))) NZ)
  | exact wpAny_bind (wpAny_bind (m:=Builtin.Tuple.tupleExact _) (wpAny_newObj_type (wpAny_pure (wpAny_pure ⟨_,rfl,wpAny_pure h⟩)) NZ))
  | exact wpAny_bind (wpAny_bind (m:=Builtin.Tuple.tupleExact _) (wpAny_newObj_type (wpAny_pure ⟨_,rfl,wpAny_pure h⟩) NZ))
end
end HT
namespace L2
open PySem PySem.Spec PyProof.Rows
abbrev TO:=St->Hp->(Option Int->Hp->Prop)->Prop
def PO(X:Cx)(e:Option Expr)(t:TO):Prop :=
 ∀ (L4:List (Addr×Obj)) (s:Shared) (σ:St) (H:Hp) (Q:Option Int->Hp->Prop),Inv X L4 σ H s->t σ H Q ->
  wpAny (model X.prog X.w) X.A (evalPart e X.env) (λu s'=>∃ o H',Inv X L4 σ H' s'/\IsPart u o/\Q o H') X.xe s
def C0:TO:=λ_ H Q=>Q none H
def Ja(t:TE):TO:=fun σ H Q=>t σ H λx H1=>∃ i,x=.int i/\Q (some i) H1
theorem intsAre_of{ns:List Int}:∀ {us:List Value},Vals (ns.map V.int) us->IntsAre us ns:=by
 induction ns with
 | nil=>intro us r;rw[List.map_nil] at r;cases r;exact .nil
 | cons n ns ih =>
  intro us r
  rw[List.map_cons] at r
  cases r with
  | cons r1 r2 =>
   obtain⟨t,e⟩:=r1
   subst e
   exact .cons n t (ih r2)
section
variable{X:Cx}{e:Expr}{te:TE}{lo hi:Option Expr}{tl th:TO}{pos p2:Pos}
theorem D6:PO X none C0:=by
 intro L4 s σ H Q I h
 rw[evalPart_none]
 exact wpAny_pure ⟨none,H,I,.none,h⟩
theorem DS(h:PE X e te):PO X (some e) (Ja te):=by
 intro L4 s σ H Q I hw
 rw[evalPart_some]
 refine c7 (h L4 s σ H _ I hw) λu s1 ⟨x,H1,I1,r1,q1⟩=>?_
 obtain⟨i,rfl,q⟩:=q1
 obtain⟨t,rfl⟩:=r1
 exact⟨some i,H1,I1,.int i t,q⟩
def Cf(X:Cx)(r:V->Option Int->Option Int->Hp->VK->Prop):Prop :=
 ∀ (L4:List (Addr×Obj)) (s:Shared) (σ:St) (H:Hp) (x:V) (v vl vu:Value) (lo hi:Option Int) (sl:Addr) (Q:VK),Inv X L4 σ H s->RelV x v->s.heap.IsSliceOf sl vl vu .none->IsPart vl lo->IsPart vu hi->r x lo hi H Q ->
  ∃ T id,typeLookup (.type T) "__getitem__" = pure (some (.builtin id))/\s.TypeIs v T/\wpAny (model X.prog X.w) X.A (getItem v (.ref sl)) (EP X L4 σ Q) X.xe s
theorem Cf.or{r r':V->Option Int->Option Int->Hp->VK->Prop}(h:Cf X r)(h':Cf X r'):Cf X (λx lo hi H Q=>r x lo hi H Q\/r' x lo hi H Q):=by
 intro L4 s σ H x v vl vu lo hi sl Q I rx hs pl pu q
 rcases q with q | q
 ·exact h L4 s σ H x v vl vu lo hi sl Q I rx hs pl pu q
 ·exact h' L4 s σ H x v vl vu lo hi sl Q I rx hs pl pu q
def LX(r:V->Option Int->Option Int->Hp->VK->Prop)(te:TE)(tl th:TO):TE:=fun σ H Q=>te σ H λx H1=>tl σ H1 λl H2=>th σ H2 λu H3=>r x l u H3 Q
theorem BP{r:V->Option Int->Option Int->Hp->VK->Prop}(hr:Cf X r)(he:PE X e te)(hl:PO X lo tl)(hu:PO X hi th):PE X (.Subscript e (.Slice lo hi none p2) pos) (LX r te tl th):=by
 intro L4 s σ H Q I h
 refine Subscript_ (c7 (he L4 s σ H _ I h) λv s1 ⟨x,H1,I1,r1,q1⟩=>?_)
 refine wpAny_Slice (c7 (hl L4 s1 σ H1 _ I1 q1) λvl s2 ⟨l,H2,I2,pl,q2⟩=>c7 (hu L4 s2 σ H2 _ I2 q2) λvu s3 ⟨u,H3,I3,pu,q3⟩=>?_)
 rw[evalPart_none]
 refine wpAny_pure ?_
 have I4:Inv X L4 σ H3 { s3 with heap:=s3.heap.push { cls:=.type "slice", data:=.fields #[vl,vu,.none] } }:=I3.kept (t':=s3.toks) λb ob q=>Heap.get?_push_of_some _ q
 obtain⟨T,id,hT,ht,hg⟩:=hr L4 { s3 with heap:=s3.heap.push { cls:=.type "slice", data:=.fields #[vl,vu,.none] } } σ H3 x v vl vu l u s3.heap.objs.size Q I4 r1 (Heap.IsSliceOf.new ..) pl pu q3
 show wpAny (model X.prog X.w) X.A (subscriptTail e (.Slice lo hi none p2) v (.ref s3.heap.objs.size)) (EP X L4 σ Q) X.xe { s3 with heap:=s3.heap.push { cls:=.type "slice", data:=.fields #[vl,vu,.none] } }
 exact tail_any (ops:=[.ref s3.heap.objs.size,v]) ht hT hg (by with_unfolding_all rfl)
def tX(xs:List V)(lo hi:Option Int):List V:=(xs.drop (HT.dw xs.length 0 lo)).take (HT.dw xs.length xs.length hi-HT.dw xs.length 0 lo)
theorem mV(xs:List V)(lo hi:Option Int):(tX xs lo hi).length<=xs.length:=by
 unfold tX
 rw[List.length_take,List.length_drop]
 omega
def J0(K:PySem.W.Frag):V->Option Int->Option Int->Hp->VK->Prop:=λx lo hi H Q=>∃ a xs,x=.ref a/\gB K H a xs ∧
 ¬ (HT.dw xs.length 0 lo=0/\HT.dw xs.length xs.length hi=xs.length)/\∀ p,H p=none->Q (.ref p) (upd H p (.tup (tX xs lo hi)))
theorem Fg:Cf X (J0 X.K):=by
 intro L4 s σ H x v vl vu lo hi sl Q I rx hs pl pu h
 obtain⟨a,xs,rfl,hx,hw,q⟩:=h
 cases rx
 obtain⟨L7,r,ht,hz⟩:=I.tuple hx
 have hlen:L7.toArray.size=xs.length:=by rw[List.size_toArray];exact r.length.symm
 refine⟨"tuple", _,PyProof.Rows.slot_tuple_getitem.lookup,ht.typeIs,?_⟩
 refine HT.lj ht hs pl pu (by rw[hlen];exact hw) ?_ (by rw[hlen];exact hz)
 rw[hlen]
 refine⟨.ref s.heap.objs.size,_,I.laid (t':=s.toks) (o:=.tup (tX xs lo hi)) (λb ob q=>Heap.get?_push_of_some _ q) (Nat.le_refl _) ?_,rfl,q _ (I.bK.fresh (Nat.le_refl _))⟩
 exact⟨Nat.le_trans (mV xs lo hi) hz,_,(r.drop (HT.dw xs.length 0 lo)).take (HT.dw xs.length xs.length hi-HT.dw xs.length 0 lo),IsTup.new _ _⟩
def Et(K:PySem.W.Frag):R2:=λx y H Q=>∃ a b xs ys,x=.ref a/\y=.ref b/\gB K H a xs/\gB K H b ys/\xs≠[]/\xs.length+ys.length<=sizeLine ∧
 (ys=[]->Q (.ref a) H)/\(ys≠[]->∀ p,H p=none->Q (.ref p) (upd H p (.tup (xs++ys))))
theorem Vals.lR{xs:List V}{us:List Value}(r:Vals xs us):us=[] ↔ xs=[]:=by
 cases r with
 | nil=>simp
 | cons _ _=>simp
theorem Dp:h9 X (binaryOp .Add) (Et X.K):=by
 intro L4 s σ H x y v u Q I rx ry h
 obtain⟨a,b,xs,ys,rfl,rfl,ha,hb,hx,hz,q1,q2⟩:=h
 cases rx
 cases ry
 obtain⟨L7,r1,p1,_⟩:=I.tuple ha
 obtain⟨NC,r2,p2,_⟩:=I.tuple hb
 refine HT.DZ p1 p2 (λz=>hx (r1.lR.mp z)) (λz=>⟨.ref a,H,I,rfl,q1 (r2.lR.mp z)⟩) (λz=>?_) (by rw[← r1.length,← r2.length];exact hz)
 refine⟨.ref s.heap.objs.size,_,I.laid (t':=s.toks) (o:=.tup (xs++ys)) (λb ob q=>Heap.get?_push_of_some _ q) (Nat.le_refl _) ?_,rfl,q2 (λw=>z (r2.lR.mpr w)) _ (I.bK.fresh (Nat.le_refl _))⟩
 exact⟨by rw[List.length_append];exact hz,_,r1.append r2,IsTup.new _ _⟩
end
end L2
namespace L2
open PySem PySem.Spec PyProof.Rows
def zh(n:Nat)(i:Int):Option Nat:=if 0<=i then (if i<n then some i.toNat else none) else if -(n:Int)<=i then some (i+n).toNat else none
def tm{α:Type}(xs:List α)(i:Int):Option α:=(zh xs.length i).bind λj=>xs[j]?
theorem w_{n:Nat}{i:Int}{j:Nat}(h:zh n i=some j):seqIndex? i n=some j/\j<n/\-(n:Int)<=i/\i<n:=by
 unfold zh at h
 by_cases h0:0<=i
 ·rw[if_pos h0] at h
  by_cases h1:i<n
  ·rw[if_pos h1] at h
   have e:i.toNat=j:=Option.some.inj h
   exact⟨by rw[seqIndex_of h0 h1,e],by omega,by omega,h1⟩
  ·rw[if_neg h1] at h;cases h
 ·rw[if_neg h0] at h
  by_cases h1:-(n:Int)<=i
  ·rw[if_pos h1] at h
   have e:(i+n).toNat=j:=Option.some.inj h
   exact⟨by rw[seqIndex_neg (by omega) h1,e],by omega,h1,by omega⟩
  ·rw[if_neg h1] at h;cases h
theorem rE{α:Type}{xs:List α}{i:Int}{v:α}(h:tm xs i=some v):∃ j,seqIndex? i xs.length=some j/\xs[j]?=some v/\j<xs.length/\-(xs.length:Int)<=i/\i<xs.length:=by
 unfold tm at h
 cases e:zh xs.length i with
 | none=>rw[e] at h;cases h
 | some j =>
  rw[e] at h
  obtain⟨h1,h2,h3,h4⟩:=w_ e
  exact⟨j,h1,h,h2,h3,h4⟩
theorem sX{α:Type}{xs:List α}{j:Nat}{v:α}(h:xs[j]?=some v):tm xs (j:Int)=some v:=by
 have hj:j<xs.length:=(List.getElem?_eq_some_iff.mp h).1
 have e:zh xs.length (j:Int)=some j:=by
  unfold zh
  rw[if_pos (by omega),if_pos (by omega)];simp
 unfold tm;rw[e];exact h
def sC(b:Expr):Prop:=∀ o i,subscripted b false o i=operate [o,i] (getItem o i)
def Dk(X:Cx)(r:R2):Prop :=
 ∀ (value slice:Expr) (L4:List (Addr×Obj)) (s:Shared) (σ:St) (H:Hp) (x y:V) (v u:Value) (Q:VK),Inv X L4 σ H s->RelV x v->RelV y u->r x y H Q ->
  subscripted slice false v u=operate [v,u] (getItem v u)->wpAny (model X.prog X.w) X.A (subscriptTail value slice v u) (EP X L4 σ Q) X.xe s
def LO(X:Cx)(id:String)(r:V->List V->Hp->VK->Prop):Prop :=
 ∀ (L4:List (Addr×Obj)) (s:Shared) (σ:St) (H:Hp) (x:V) (xs:List V) (v:Value) (us:List Value) (Q:VK),Inv X L4 σ H s->RelV x v->Vals xs us->r x xs H Q ->
  wpAny (model X.prog X.w) X.A (call (.builtin id) (v::us)) (EP X L4 σ Q) X.xe s
section
variable{X:Cx}{a b:Expr}{ta tb:TE}{pos:Pos}
theorem Dk.or{r r':R2}(h:Dk X r)(h':Dk X r'):Dk X (λx y H Q=>r x y H Q\/r' x y H Q):=by
 intro value slice L4 s σ H x y v u Q I rx ry q hs
 rcases q with q | q
 ·exact h value slice L4 s σ H x y v u Q I rx ry q hs
 ·exact h' value slice L4 s σ H x y v u Q I rx ry q hs
theorem Iz{r:R2}(hr:Dk X r)(ha:PE X a ta)(hb:PE X b tb)(hs:sC b):PE X (.Subscript a b pos) (IB r ta tb):=by
 intro L4 s σ H Q I h
 exact Subscript_ (FW ha hb I h λv u s2 x y H2 I2 rx ry q=>hr a b L4 s2 σ H2 x y v u Q I2 rx ry q (hs _ _))
def I_(K:PySem.W.Frag):R2:=λx y H Q=>∃ p xs i v,x=.ref p/\y=.int i/\iw K H p xs/\tm xs i=some v/\Q v H
def Jp(K:PySem.W.Frag):R2:=λx y H Q=>∃ p xs i v,x=.ref p/\y=.int i/\gB K H p xs/\tm xs i=some v/\Q v H
def HN:R2:=λx y H Q=>∃ z i c,x=.str z/\y=.int i/\z.length<=sizeLine/\tm z.cps.toList i=some c/\Q (.str ⟨#[c]⟩) H
theorem C8:Dk X (I_ X.K):=by
 intro value slice L4 s σ H x y v u Q I rx ry h hs
 obtain⟨p,xs,i,z,rfl,rfl,hq,he,q⟩:=h
 cases rx
 obtain⟨t,rfl⟩:=ry
 obtain⟨L7,r,pl,hz⟩:=I.list hq
 obtain⟨j,h1,h2,h3,h4,h5⟩:=rE he
 obtain⟨w,ew,NI⟩:=r.get h2
 have hl:=r.length
 have hn:=mv
 have fin:EP X L4 σ Q w s:=⟨z,H,I,NI,q⟩
 by_cases h0:0<=i
 ·have hj:i.toNat=j:=by
   rw[seqIndex_of h0 h5] at h1
   exact Option.some.inj h1
  exact item_listR pl.isList h0 (by omega) (by rw[hj];simpa using ew) fin hs
 ·have hj:(i+(L7.toArray.size:Int)).toNat=j:=by
   rw[seqIndex_neg (by omega) h4] at h1
   rw[List.size_toArray,← hl]
   exact Option.some.inj h1
  exact subscriptTail_builtinR (x:=w) pl.isList.typeIs slot_list_getitem.lookup
   (wpAny_getItem_list_neg (Q:=λr s'=>r=w/\EP X L4 σ Q r s') pl.isList (by omega) (by rw[List.size_toArray] <;> omega) (by omega) (by rw[hj];simpa using ew) ⟨rfl,fin⟩) hs
theorem E8:Dk X (Jp X.K):=by
 intro value slice L4 s σ H x y v u Q I rx ry h hs
 obtain⟨p,xs,i,z,rfl,rfl,hq,he,q⟩:=h
 cases rx
 obtain⟨t,rfl⟩:=ry
 obtain⟨L7,r,pl,hz⟩:=I.tuple hq
 obtain⟨j,h1,h2,h3,h4,h5⟩:=rE he
 obtain⟨w,ew,NI⟩:=r.get h2
 have hl:=r.length
 have hn:=mv
 have fin:EP X L4 σ Q w s:=⟨z,H,I,NI,q⟩
 exact subscriptTail_builtinR (x:=w) pl.typeIs slot_tuple_getitem.lookup
  (getItem_tuple (j:=j) (Q:=λr s'=>r=w/\EP X L4 σ Q r s') pl (by omega) (by omega) (by rw[List.size_toArray,← hl];exact h1) (by simpa using ew) ⟨rfl,fin⟩) hs
theorem Fs:Dk X HN:=by
 intro value slice L4 s σ H x y v u Q I rx ry h hs
 obtain⟨z,i,c,rfl,rfl,hz,he,q⟩:=h
 obtain⟨t,rfl⟩:=rx
 obtain⟨t',rfl⟩:=ry
 obtain⟨j,h1,h2,h3,h4,h5⟩:=rE he
 have hl:z.cps.toList.length=z.length:=by simp[Str.length]
 rw[hl] at h1 h4 h5
 have hn:=mv
 exact tail_any (typeIs_str s z t) slot_str_getitem.lookup (getItem_str (c:=c) (by
  have e1:decide (i < -(2^63:Int))=false:=decide_eq_false (by omega)
  have e2:decide (i>=2^63)=false:=decide_eq_false (by omega)
  rw[e1,e2,Bool.or_false]) (by rw[h1];simpa using h2) ⟨.str ⟨#[c]⟩,H,I.tok _,⟨_,rfl⟩,q⟩) hs
def Lh(K:PySem.W.Frag):R2:=λx y H Q=>I_ K x y H Q\/Jp K x y H Q\/HN x y H Q
theorem Gh:Dk X (Lh X.K):=C8.or (E8.or Fs)
theorem wm(L7:List Value)(n j:Nat)(u:Value):Obj.mapSeq (·.setIfInBounds j u) { cls:=.type "list", data:=.seq L7.toArray n }={ cls:=.type "list", data:=.seq (L7.set j u).toArray n }:=by
 simp[Obj.mapSeq]
theorem Inv.lst{L4:List (Addr×Obj)}{σ:St}{H:Hp}{s:Shared}{p:Addr}{xs:List V}(I:Inv X L4 σ H s)(h:H p=some (.lst xs)) :
  ∃ (L7:List Value) (n:Nat),Vals xs L7/\s.heap.get? p=some { cls:=.type "list", data:=.seq L7.toArray n }/\xs.length<=sizeLine:=by
 obtain⟨z,L7,n,r,e⟩:=I.bK p _ h
 exact⟨L7,n,r,e,z⟩
theorem Inv.GH{L4:List (Addr×Obj)}{σ:St}{H:Hp}{s:Shared}{p:Addr}{xs ys:List V}{L7 its':List Value}{n n':Nat}{f:Obj->Obj}(I:Inv X L4 σ H s)(h:H p=some (.lst xs))
  (ho:s.heap.get? p=some { cls:=.type "list", data:=.seq L7.toArray n }) (hf:f { cls:=.type "list", data:=.seq L7.toArray n }={ cls:=.type "list", data:=.seq its'.toArray n' }) (r:Vals ys its') (hz:ys.length<=sizeLine) (t:Nat) :
  Inv X L4 σ (upd H p (.lst ys)) { s with heap:=s.heap.update p f,toks:=t }:=by
 have e:(s.heap.update p f).get? p=some { cls:=.type "list", data:=.seq its'.toArray n' }:=by
  rw[Heap.get?_update_self f ho (by rw[hf] <;> rfl),hf]
 refine I.write (x:=p) (e:=p) (by rw[h];trivial) (.inl rfl) (λb u hb q=>(Heap.get?_update_other _ _ (Ne.symm hb)).trans q) ⟨_,e⟩ ?_
 exact⟨hz,its',n',r,e⟩
def HY:V->V->V->Hp->(Hp->Prop)->Prop:=λo i v H Q=>∃ p xs k j,o=.ref p/\i=.int k/\H p=some (.lst xs)/\zh xs.length k=some j/\Q (upd H p (.lst (xs.set j v)))
theorem set_list:Je X HY:=by
 intro L4 s σ H o i v ov iv u Q I ro ri rv h
 obtain⟨p,xs,k,j,rfl,rfl,hp,hj,q⟩:=h
 cases ro
 obtain⟨t,rfl⟩:=ri
 obtain⟨L7,n,r,ho,hz⟩:=I.lst hp
 obtain⟨h1,h2,h3,h4⟩:=w_ hj
 have hl:=r.length
 have hn:=mv
 have I':Inv X L4 σ (upd H p (.lst (xs.set j v))) { s with heap:=s.heap.update p (Obj.mapSeq (·.setIfInBounds j u)) } :=
  I.GH hp ho (wm L7 n j u) (r.set rv j) (by rw[List.length_set];exact hz) s.toks
 by_cases h0:0<=k
 ·have hk:k.toNat=j:=by
   rw[seqIndex_of h0 h4] at h1
   exact Option.some.inj h1
  exact PySem.W.ki_setAt ho h0 (by omega) (by rw[List.size_toArray,← hl];exact h4) (by rw[hk];exact⟨_,I',q⟩)
 ·have hk:(k+(L7.toArray.size:Int)).toNat=j:=by
   rw[seqIndex_neg (by omega) h3] at h1
   rw[List.size_toArray,← hl]
   exact Option.some.inj h1
  exact PySem.W.ki_setBack ho (by omega) (by rw[List.size_toArray,← hl];exact h3) (by omega) (by rw[hk];exact⟨_,I',q⟩)
theorem sW(lo hi:Option Int)(n:Nat):(sliceBounds lo hi none n).1=((HT.dw n 0 lo:Nat):Int)/\(sliceBounds lo hi none n).2.1=((HT.dw n n hi:Nat):Int)/\(sliceBounds lo hi none n).2.2=1:=by
 refine⟨?_,?_,rfl⟩
 ·cases lo with
  | none=>simp[sliceBounds,HT.dw]
  | some i =>
   simp only[sliceBounds,HT.dw,Option.getD_none,show (1:Int)>0 by decide,if_true]
   by_cases h:i<0
   ·simp only[h,if_true] <;> omega
   ·simp only[h,if_false] <;> omega
 ·cases hi with
  | none=>simp[sliceBounds,HT.dw]
  | some i =>
   simp only[sliceBounds,HT.dw,Option.getD_none,show (1:Int)>0 by decide,if_true]
   by_cases h:i<0
   ·simp only[h,if_true] <;> omega
   ·simp only[h,if_false] <;> omega
theorem pW(L7:List Value)(lo hi:Option Int):slicePick L7.toArray lo hi none=((L7.drop (HT.dw L7.length 0 lo)).take (HT.dw L7.length L7.length hi-HT.dw L7.length 0 lo)).toArray:=by
 obtain⟨h1,h2,h3⟩:=sW lo hi L7.toArray.size
 unfold slicePick
 rw[h1,h2,h3]
 simp only[sliceRange_one,pick_run,List.size_toArray] <;> rfl
def JX(K:PySem.W.Frag):V->Option Int->Option Int->Hp->VK->Prop:=λx lo hi H Q=>∃ a xs,x=.ref a/\iw K H a xs/\∀ p,H p=none->Q (.ref p) (upd H p (.lst (tX xs lo hi)))
theorem C2:Cf X (JX X.K):=by
 intro L4 s σ H x v vl vu lo hi sl Q I rx hs pl pu h
 obtain⟨a,xs,rfl,hx,q⟩:=h
 cases rx
 obtain⟨L7,r,ht,hz⟩:=I.list hx
 have hlen:=r.length
 refine⟨"list", _,slot_list_getitem.lookup,ht.isList.typeIs,?_⟩
 refine wpAny_getItem_list_slice ht.isList hs pl pu .none (by simp) ?_ (by rw[List.size_toArray] <;> omega)
 rw[pW,← hlen]
 refine⟨.ref s.heap.objs.size,_,I.laid (t':=s.toks) (o:=.lst (tX xs lo hi)) (λb ob q=>Heap.get?_push_of_some _ q) (Nat.le_refl _) ?_,rfl,q _ (I.bK.fresh (Nat.le_refl _))⟩
 exact⟨Nat.le_trans (mV xs lo hi) hz,_,0,(r.drop (HT.dw xs.length 0 lo)).take (HT.dw xs.length xs.length hi-HT.dw xs.length 0 lo),Heap.get?_push_size _ rfl⟩
def kL:V->Bool
 | .cp=>true
 | .bl _=>true
 | .int _=>true
 | .str _=>true
 | _=>false
def Em:V->V->Bool
 | .cp,.cp=>true
 | .bl a,.bl b=>a==b
 | .bl a,.int b=>(if a then 1 else 0)==b
 | .int a,.bl b=>a==(if b then 1 else 0)
 | .int a,.int b=>a==b
 | .str a,.str b=>a==b
 | _,_=>false
theorem FV{A:Around}{s:Shared}{y x:V}{u v:Value}(ry:RelV y u)(rx:RelV x v)(fy:kL y=true)(fx:kL x=true):SeqAt.EqAt A s u v (Em y x):=by
 cases y with
 | cp =>
  cases ry
  cases x with
  | cp=>cases rx;exact SeqAt.EqAt.same _
  | bl b=>cases rx;exact SeqAt.EqAt.none_bool b
  | int b=>obtain⟨t,rfl⟩:=rx;exact SeqAt.EqAt.none_int b t
  | str b=>obtain⟨t,rfl⟩:=rx;exact SeqAt.EqAt.none_str b t
  | _=>exact absurd (show false=true from fx) Bool.false_ne_true
 | bl a =>
  cases ry
  cases x with
  | cp=>cases rx;exact SeqAt.EqAt.bool_none a
  | bl b=>cases rx;exact SeqAt.EqAt.bool_bool a b
  | int b=>obtain⟨t,rfl⟩:=rx;exact SeqAt.EqAt.bool_int a b t
  | str b=>obtain⟨t,rfl⟩:=rx;exact SeqAt.EqAt.bool_str a b t
  | _=>exact absurd (show false=true from fx) Bool.false_ne_true
 | int a =>
  obtain⟨t',rfl⟩:=ry
  cases x with
  | cp=>cases rx;exact SeqAt.EqAt.int_none a t'
  | bl b=>cases rx;exact SeqAt.EqAt.int_bool a t' b
  | int b=>obtain⟨t,rfl⟩:=rx;exact SeqAt.EqAt.int_int a t' b t
  | str b=>obtain⟨t,rfl⟩:=rx;exact SeqAt.EqAt.int_str a t' b t
  | _=>exact absurd (show false=true from fx) Bool.false_ne_true
 | str a =>
  obtain⟨t',rfl⟩:=ry
  cases x with
  | cp=>cases rx;exact SeqAt.EqAt.str_none a t'
  | bl b=>cases rx;exact SeqAt.EqAt.str_bool a t' b
  | int b=>obtain⟨t,rfl⟩:=rx;exact SeqAt.EqAt.str_int a t' b t
  | str b=>obtain⟨t,rfl⟩:=rx;exact SeqAt.EqAt.str_str a t' b t
  | _=>exact absurd (show false=true from fx) Bool.false_ne_true
 | _=>exact absurd (show false=true from fy) Bool.false_ne_true
def Cw(x:V)(u:Value):Bool:=match u with
 | .none=>Em .cp x
 | .bool b=>Em (.bl b) x
 | .int i _=>Em (.int i) x
 | .str z _=>Em (.str z) x
 | _=>false
theorem Ay{x y:V}{u:Value}(r:RelV y u)(f:kL y=true):Cw x u=Em y x:=by
 cases y with
 | cp=>cases r;rfl
 | bl b=>cases r;rfl
 | int i=>obtain⟨t,rfl⟩:=r;rfl
 | str z=>obtain⟨t,rfl⟩:=r;rfl
 | _=>exact absurd (show false=true from f) Bool.false_ne_true
theorem sF{x:V}:∀ {xs:List V} {us:List Value},Vals xs us->xs.all kL=true->us.any (Cw x)=xs.any λy=>Em y x
 | _,_,.nil,_=>rfl
 | y::xs,u::us,.cons r t,f=>by
  rw[List.all_cons,Bool.and_eq_true] at f
  rw[List.any_cons,List.any_cons,Ay r f.1,sF t f.2]
theorem ph{A:Around}{s:Shared}{x:V}{v:Value}(rx:RelV x v)(fx:kL x=true):∀ {xs:List V} {us:List Value},Vals xs us->xs.all kL=true->∀ u∈us,SeqAt.EqAt A s u v (Cw x u)
 | _,_,.nil,_=>λu hu=>by cases hu
 | y::xs,u::us,.cons r t,f=>λu' hu=>by
  rw[List.all_cons,Bool.and_eq_true] at f
  rcases List.mem_cons.mp hu with rfl | hu
  ·rw[Ay r f.1];exact FV r rx f.1 fx
  ·exact ph rx fx t f.2 u' hu
def JF(x:V)(xs:List V):Bool:=xs.any λy=>Em y x
def Li(K:PySem.W.Frag)(neg:Bool):R2:=λx y H Q=>∃ p xs,y=.ref p/\(iw K H p xs\/gB K H p xs)/\kL x=true/\xs.all kL=true/\Q (.bl (if neg then !JF x xs else JF x xs)) H
theorem yH:h9 X (compareOp .In) (Li X.K false):=by
 intro L4 s σ H x y v u Q I rx ry h
 obtain⟨p,xs,rfl,hq,fx,fs,q⟩:=h
 cases ry
 rcases hq with hq | hq
 ·obtain⟨L7,r,pl,hz⟩:=I.list hq
  refine SeqAt.in_listAt (Cw x) pl.isList (λw hw=>ph rx fx r fs w (by simpa using hw)) ⟨.bl _,H,I,rfl,?_⟩
  rw[show L7.toArray.any (Cw x)=L7.any (Cw x) by simp,sF r fs]
  exact q
 ·obtain⟨L7,r,pl,hz⟩:=I.tuple hq
  refine SeqAt.in_tupleAt (Cw x) pl (λw hw=>ph rx fx r fs w (by simpa using hw)) ⟨.bl _,H,I,rfl,?_⟩
  rw[show L7.toArray.any (Cw x)=L7.any (Cw x) by simp,sF r fs]
  exact q
theorem rO:eC X (.builtin "len") (λxs H Q=>∃ p ys,xs=[.ref p]/\(iw X.K H p ys\/gB X.K H p ys)/\Q (.int ys.length) H):=by
 intro L4 s σ H xs us Q I r h
 obtain⟨p,ys,rfl,hq,q⟩:=h
 obtain⟨u,rfl,rx⟩:=vals1 r
 cases rx
 have hn:=mv
 rcases hq with hq | hq
 ·obtain⟨L7,r',pl,hz⟩:=I.list hq
  have hlen:=r'.length
  exact Calls.call_len_list pl.isList (by simp only[List.size_toArray] <;> omega) ⟨.int ys.length,H,I.tok _,⟨s.toks+1,by rw[List.size_toArray,hlen]⟩,q⟩
 ·obtain⟨L7,r',pl,hz⟩:=I.tuple hq
  have hlen:=r'.length
  exact len_tuple pl (by simp only[List.size_toArray] <;> omega) ⟨.int ys.length,H,I.tok _,⟨s.toks+1,by rw[List.size_toArray,hlen]⟩,q⟩
theorem rL:eC X (.builtin "len") (λxs H Q=>∃ z,xs=[.str z]/\z.length<=sizeLine/\Q (.int z.length) H):=by
 intro L4 s σ H xs us Q I r h
 obtain⟨z,rfl,hz,q⟩:=h
 obtain⟨u,rfl,t,rfl⟩:=vals1 r
 have hn:=mv
 exact len_str (by omega) ⟨.int z.length,H,I.tok _,⟨_,rfl⟩,q⟩
theorem eC.or{f:Value}{r r':List V->Hp->VK->Prop}(h:eC X f r)(h':eC X f r'):eC X f (λxs H Q=>r xs H Q\/r' xs H Q):=by
 intro L4 s σ H xs us Q I rs q
 rcases q with q | q
 ·exact h L4 s σ H xs us Q I rs q
 ·exact h' L4 s σ H xs us Q I rs q
theorem sT:eC X (.type "list") (λxs H Q=>∃ p ys,xs=[.ref p]/\(iw X.K H p ys\/gB X.K H p ys)/\∀ l,H l=none->Q (.ref l) (upd H l (.lst ys))):=by
 intro L4 s σ H xs us Q I r h
 obtain⟨p,ys,rfl,hq,q⟩:=h
 obtain⟨u,rfl,rx⟩:=vals1 r
 cases rx
 have fin:∀ (L7:List Value),Vals ys L7->ys.length<=sizeLine->∀ (h':Heap) (c':Nat),(∀ b o',s.heap.get? b=some o'->h'.get? b=some o') ->
   h'.get? s.heap.objs.size=some { cls:=.type "list", dict:=none,data:=.seq L7.toArray c',slots:=#[] }->EP X L4 σ Q (.ref s.heap.objs.size) { s with heap:=h' }:=λL7 r' hz h' c' kp e =>
  ⟨.ref s.heap.objs.size,_,I.laid (t':=s.toks) kp (Nat.le_refl _) (show cv X.prog X.w _ h' _ (.lst ys) from ⟨hz,L7,c',r',e⟩),rfl,q _ (I.bK.fresh (Nat.le_refl _))⟩
 rcases hq with hq | hq
 ·obtain⟨L7,r',pl,hz⟩:=I.list hq
  have hlen:=r'.length
  obtain⟨o,ho,hc,n,hd⟩:=pl.isList
  exact call_list_seq p (.inl rfl) ho hc hd (λh' c' kp e=>fin L7 r' hz h' c' kp e) (by simp only[List.size_toArray] <;> omega)
 ·obtain⟨L7,r',pl,hz⟩:=I.tuple hq
  have hlen:=r'.length
  obtain⟨o,ho,hc,n,hd⟩:=pl
  exact call_list_seq p (.inr rfl) ho hc hd (λh' c' kp e=>fin L7 r' hz h' c' kp e) (by simp only[List.size_toArray] <;> omega)
theorem qc:eC X (.type "tuple") (λxs H Q=>∃ p ys,xs=[.ref p]/\((iw X.K H p ys/\∀ l,H l=none->Q (.ref l) (upd H l (.tup ys)))\/(gB X.K H p ys/\Q (.ref p) H))):=by
 intro L4 s σ H xs us Q I r h
 obtain⟨p,ys,rfl,h⟩:=h
 obtain⟨u,rfl,rx⟩:=vals1 r
 cases rx
 rcases h with ⟨hq,q⟩ | ⟨hq,q⟩
 ·obtain⟨L7,r',pl,hz⟩:=I.list hq
  have hlen:=r'.length
  refine call_tuple_list pl.isList (λh' kp=>?_) (by simp only[List.size_toArray] <;> omega)
  have I1:Inv X L4 σ H { s with heap:=h' }:=I.kept (t':=s.toks) kp
  have I2:Inv X L4 σ (upd H h'.objs.size (.tup ys)) { s with heap:=h'.push { cls:=.type "tuple", data:=.seq L7.toArray } } :=
   I1.laid (t':=s.toks) (λb o e=>Heap.get?_push_of_some _ e) (Nat.le_refl _) (show cv X.prog X.w _ _ _ (.tup ys) from ⟨hz,L7,r',IsTup.new _ _⟩)
  exact⟨.ref h'.objs.size,_,I2,rfl,q _ (I1.bK.fresh (Nat.le_refl _))⟩
 ·obtain⟨L7,r',pl,hz⟩:=I.tuple hq
  exact call_tuple_same pl ⟨.ref p,H,I,rfl,q⟩
def Ll(K:PySem.W.Frag)(T:String)(x:V)(H:Hp):Prop:=match x with
 | .str _=>T = "str"
 | .int _=>T = "int"
 | .ref p=>(T = "list" /\ ∃ xs,iw K H p xs)\/(T = "tuple" /\ ∃ o,K.lookup p=some o/\o.cls=.type "tuple" /\ o.dict=none) ∨
   (T = "dict" /\ ((∃ MT,H p=some (.dK MT))\/∃ MT,H p=some (.dT MT)))\/(T = "set" /\ ∃ S n,H p=some (.set S n))
 | _=>False
theorem FG{L4:List (Addr×Obj)}{σ:St}{H:Hp}{s:Shared}{T:String}{x:V}{v:Value}(I:Inv X L4 σ H s)(r:RelV x v)(ty:Ll X.K T x H) :
  s.TypeIs v T/\∀ a,v=.ref a->∃ ob,s.heap.get? a=some ob/\ob.dict=none:=by
 cases x with
 | str z =>
  obtain⟨t,rfl⟩:=r
  cases (show T = "str" from ty)
  exact⟨typeIs_str s z t,λ_ e=>nomatch e⟩
 | int i =>
  obtain⟨t,rfl⟩:=r
  cases (show T = "int" from ty)
  exact⟨typeIs_int s i t,λ_ e=>nomatch e⟩
 | ref p =>
  cases r
  rcases ty with ⟨rfl,xs,hq⟩ | ⟨rfl,o,hk,hc,hd⟩ | ⟨rfl,hk⟩ | ⟨rfl,S,n,hk⟩
  ·obtain⟨L7,_,pl,_⟩:=I.list hq
   refine⟨pl.isList.typeIs,λa e=>?_⟩
   cases e
   obtain⟨o,n,e,c,hd,_⟩:=pl
   exact⟨o,e,hd⟩
  ·refine⟨⟨o,I.jV p o hk,hc⟩,λa e=>?_⟩
   cases e
   exact⟨o,I.jV _ o hk,hd⟩
  ·have z:∃ o,s.heap.get? p=some o/\o.ExactDict:=by
    rcases hk with ⟨MT,hk⟩ | ⟨MT,hk⟩
    ·obtain⟨_,_,_,_,o,_,_,e,ex,_⟩:=I.bK p _ hk
     exact⟨o,e,ex⟩
    ·obtain⟨_,_,_,_,o,_,_,e,ex,_⟩:=I.bK p _ hk
     exact⟨o,e,ex⟩
   obtain⟨o,e,ex⟩:=z
   refine⟨⟨o,e,ex.1⟩,λa e2=>?_⟩
   cases e2
   exact⟨o,e,ex.2.1⟩
  ·obtain⟨o,_,_,_,e,ex,_⟩:=I.bK p _ hk
   refine⟨⟨o,e,ex.1⟩,λa e2=>?_⟩
   cases e2
   exact⟨o,e,ex.2.1⟩
 | _=>exact False.elim ty
def LP(K:PySem.W.Frag)(T:String)(r:V->List V->Hp->VK->Prop)(to:TE)(t:TA):TE:=fun σ H Q=>to σ H λx H1=>Ll K T x H1/\t σ H1 λxs H2=>r x xs H2 Q
variable{o e:Expr}{es:List Expr}{to:TE}{t:TA}{name:Str}{apos Mm:Pos}{T id:String}{r:V->List V->Hp->VK->Prop}
theorem Iu(pa:PlainAttrs T)(slot:Slot T name id)(hty:typeOf (.builtin id)=pure (.type "method_descriptor"))(hm:LO X id r)(ho:PE X o to)(ha:PA X (e::es) t)
  (N8:autoParam (attributeBase o name X.env (eval o X.env)=eval o X.env) aR._auto_1)
  (OS:autoParam (((backTo Mm (starEach (e::es) X.env)).all (λx=>!x.1)&&(backToKw Mm (keywordEach [] X.env)).all (λx=>x.1.isSome)
   && decide ((e::es).length+([]:List Keyword).length+(if ([]:List Keyword).isEmpty then 0 else 1)<30))=true) aR._auto_1)
  (Oe:autoParam ((apos.endLine==Mm.line)=true) aR._auto_1) (hs:autoParam (starEach (e::es) X.env=(false,eval e X.env)::starEach es X.env) aR._auto_1) (NP:autoParam ((backTo Mm (starEach es X.env)).any (·.1)=false) aR._auto_1) :
  PE X (.Call (.Attribute o name apos) (e::es) [] Mm) (LP X.K T r to t):=by
 intro L4 s σ H Q I h
 refine wpAny_Call_method_late N8 OS Oe rfl (c7 (ho L4 s σ H _ I h) λv s1 ⟨x,H1,I1,r1,ty,q1⟩=>?_)
 obtain⟨h1,h2⟩:=FG I1 r1 ty
 refine⟨T,id,pa,slot,hty,h1,h2,?_⟩
 have hA:=ha Mm L4 s1 σ H1 _ I1 q1
 rw[hs] at hA ⊢
 refine Calls.callWith_builtin (by show (false||(backTo Mm (starEach es X.env)).any (·.1))=false;rw[NP] <;> rfl) (Calls.evalArgs_plain ?_)
 exact c7 hA λus s2 ⟨vs,H2,I2,r2,q2⟩=>hm L4 s2 σ H2 x vs v us Q I2 r1 r2 q2
end
end L2
namespace L2
open PySem PySem.Spec PyProof.Rows
def Lw(X:Cx)(id:String)(r:V->List V->Hp->VK->Prop):Prop :=
 ∀ (L4:List (Addr×Obj)) (s:Shared) (σ:St) (H:Hp) (x:V) (xs:List V) (v:Value) (us:List Value) (Q:VK),Inv X L4 σ H s->RelV x v->Vals xs us->r x xs H Q ->
  wpAny (model X.prog X.w) X.A (call (.builtin id) (v::us)) (EP X L4 σ Q) X.xe s
theorem Vals.one:∀ {x:V} {us:List Value},Vals [x] us->∃ u,us=[u]/\RelV x u
 | _,_,.cons r .nil=>⟨_,rfl,r⟩
theorem Vals.rep{xs:List V}{us:List Value}(h:Vals xs us):∀ k:Nat,Vals (List.replicate k xs).flatten (List.replicate k us).flatten
 | 0=>.nil
 | k+1=>by
  rw[List.replicate_succ,List.replicate_succ,List.flatten_cons,List.flatten_cons]
  exact Vals.append h (Vals.rep h k)
theorem foldl_rep(L7:List Value):∀ (k:Nat) (acc:List Value),
  List.foldl (λx1 x2=>x1++x2) acc.toArray (List.replicate k L7.toArray)=(acc++(List.replicate k L7).flatten).toArray
 | 0,acc=>by simp
 | k+1,acc=>by
  have e:acc.toArray++L7.toArray=(acc++L7).toArray:=by simp
  have e2:(acc++L7)++(List.replicate k L7).flatten=acc++(List.replicate (k+1) L7).flatten:=by
   rw[List.replicate_succ,List.flatten_cons,List.append_assoc]
  rw[← e2,← foldl_rep L7 k (acc++L7),← e,List.replicate_succ,List.foldl_cons]
section
variable{X:Cx}{L4:List (Addr×Obj)}{σ:St}{H:Hp}{s:Shared}{l b:Addr}{xs ys zs:List V}
theorem Inv.J7{L7 its':List Value}{n:Nat}{f:Array Value->Array Value}{t':Nat}(I:Inv X L4 σ H s)(hH:H l=some (.lst xs))
  (e:s.heap.get? l=some { cls:=.type "list", data:=.seq L7.toArray n }) (hf:f L7.toArray=its'.toArray) (hv:Vals ys its') (hz:ys.length<=sizeLine) :
  Inv X L4 σ (upd H l (.lst ys)) { s with heap:=s.heap.update l (Obj.mapSeq f),toks:=t' }:=by
 have q:=PySem.IsL.update e f
 rw[hf] at q
 refine I.write (x:=l) (e:=l) (by rw[hH];exact trivial) (.inl rfl) (λb' u hb hu=>(Heap.get?_update_other s.heap (Obj.mapSeq f) (Ne.symm hb)).trans hu) ⟨_,q⟩ ?_
 exact⟨hz,its',_,hv,q⟩
theorem Inv.Jh{L7:List Value}{t':Nat}(I:Inv X L4 σ H s)(hv:Vals ys L7)(hz:ys.length<=sizeLine) :
  Inv X L4 σ (upd H s.heap.objs.size (.lst ys)) { s with heap:=s.heap.push { cls:=.type "list", data:=.seq L7.toArray },toks:=t' } :=
 I.laid (λ_ _ q=>Heap.get?_push_of_some _ q) (Nat.le_refl _) ⟨hz,L7,0,hv,Heap.get?_push_size _ rfl⟩
theorem Inv.fresh(I:Inv X L4 σ H s):H s.heap.objs.size=none:=I.bK.fresh (Nat.le_refl _)
theorem Inv.Dm(I:Inv X L4 σ H s)(hH:H l=some (.lst xs)):xs.length<=sizeLine/\∃ (L7:List Value) (n:Nat),Vals xs L7/\xs.length=L7.length/\s.heap.get? l=some { cls:=.type "list", data:=.seq L7.toArray n }:=by
 obtain⟨z,L7,n,r,e⟩:=I.bK l _ hH
 exact⟨z,L7,n,r,r.length,e⟩
theorem Bw{n:Nat}(h:n<=sizeLine):Builtin.List.listTooLong n=false:=by
 unfold Builtin.List.listTooLong
 exact decide_eq_false (by omega)
end
section
variable{X:Cx}
def CQ:V->List V->Hp->VK->Prop:=λx vs H Q=>∃ l xs y,x=.ref l/\vs=[y]/\H l=some (.lst xs)/\xs.length<sizeLine/\Q .cp (upd H l (.lst (xs++[y])))
theorem qC:Lw X "list.append" CQ:=by
 intro L4 s σ H x vs v us Q I rx rv h
 obtain⟨l,xs,y,rfl,rfl,hH,hz,q⟩:=h
 cases rx
 obtain⟨u,rfl,ru⟩:=rv.one
 obtain⟨z,L7,n,r,hl,e⟩:=I.Dm hH
 refine call_meets F.slot_list_append ⟨_,e,rfl⟩ F.entry_list_append (F.args_list_append_2 _ _) (PySem.list_append l L7.toArray n u (by rw[List.size_toArray];omega)) ⟨e,?_⟩
 refine⟨.cp,_,I.J7 (its':=L7++[u]) hH e (by simp) (r.append (.cons ru .nil)) ?_,rfl,q⟩
 rw[List.length_append,List.length_singleton]
 omega
def HK:R2:=λx y H Q=>∃ l b xs zs,x=.ref l/\y=.ref b/\H l=some (.lst xs)/\H b=some (.lst zs)/\xs.length+zs.length<=sizeLine/\∀ p,H p=none->Q (.ref p) (upd H p (.lst (xs++zs)))
theorem Ff:h9 X (binaryOp .Add) HK:=by
 intro L4 s σ H x y v u Q I rx ry h
 obtain⟨l,b,xs,zs,rfl,rfl,hH,hB,hz,q⟩:=h
 cases rx
 cases ry
 obtain⟨z,L7,n,r,hl,e⟩:=I.Dm hH
 obtain⟨z2,NC,n2,r2,Nk,e2⟩:=I.Dm hB
 refine PySem.P.add_list e e2 ?_ (by rw[List.size_toArray,List.size_toArray];omega)
 have ea:L7.toArray++NC.toArray=(L7++NC).toArray:=by simp
 rw[ea]
 exact⟨.ref _,_,I.Jh (t':=s.toks) (r.append r2) (by rw[List.length_append];omega),rfl,q _ I.fresh⟩
def Il:R2:=λx y H Q=>∃ l k xs,x=.ref l/\y=.int k/\H l=some (.lst xs)/\-(2^63)<=k/\k<2^63/\xs.length*k.toNat<=sizeLine ∧
 ∀ p,H p=none->Q (.ref p) (upd H p (.lst (List.replicate k.toNat xs).flatten))
theorem len_rep{α:Type}(xs:List α)(k:Nat):(List.replicate k xs).flatten.length=k*xs.length:=by
 induction k with
 | zero=>simp
 | succ k ih=>rw[List.replicate_succ,List.flatten_cons,List.length_append,ih,Nat.succ_mul,Nat.add_comm]
theorem z8:h9 X (binaryOp .Mult) Il:=by
 intro L4 s σ H x y v u Q I rx ry h
 obtain⟨l,k,xs,rfl,rfl,hH,h1,h2,hz,q⟩:=h
 cases rx
 obtain⟨t,rfl⟩:=ry
 obtain⟨z,L7,n,r,hl,e⟩:=I.Dm hH
 have hlen:L7.toArray.size*k.toNat<=sizeLine:=by rw[List.size_toArray,← hl];exact hz
 have hcap:¬ L7.toArray.size*k.toNat>(2^63-1)/8:=by
  have:(sizeLine:Nat)<=(2^63-1)/8:=by decide
  omega
 have hfit:¬ (!Builtin.List.listFitsIndex k)=true:=by
  rw[fitsIndex_both h1 h2]
  exact Bool.false_ne_true
 have Pq:¬ Builtin.List.listTooLong (L7.toArray.size*k.toNat)=true:=by
  rw[Bw hlen]
  exact Bool.false_ne_true
 have Nl:List.foldl (λx1 x2=>x1++x2) #[] (List.replicate (if L7.toArray.isEmpty=true then 0 else k.toNat) L7.toArray)=(List.replicate k.toNat L7).flatten.toArray:=by
  have f0:∀ m:Nat,List.foldl (λx1 x2=>x1++x2) #[] (List.replicate m L7.toArray)=(List.replicate m L7).flatten.toArray:=λm=>by
   have:=foldl_rep L7 m []
   rw[List.nil_append] at this
   exact this
  rw[f0]
  cases L7 with
  | nil=>simp
  | cons a r'=>rw[if_neg (by simp)]
 refine wpAny_binaryOp_repeat_ref (T := "list") (U := "int") (by decide) ⟨_,e,rfl⟩ (λs'=>typeIs_int s' k t) noFill_list_mul F.fills_int_mul F.slot_int_rmul repeat_list F.slot_int_index.lookup
  (call_meets F.slot_int_rmul (typeIs_int s k t) F.entry_int_rmul (F.args_int_rmul_2 _ _) (int___rmul___int_list k t l L7.toArray n)
   ⟨e,rfl,⟨_,e,rfl⟩,call_meets F.slot_list_mul ⟨_,e,rfl⟩ F.entry_list_mul (F.args_list_mul_2 _ _) (AutoListH.list___mul___list_int_3 l L7.toArray n k t hfit hcap Pq) ⟨e,?_⟩⟩)
 rw[Nl]
 exact⟨.ref _,_,I.Jh (t':=s.toks) (r.rep k.toNat) (by rw[len_rep,Nat.mul_comm];exact hz),rfl,q _ I.fresh⟩
end
section
variable{prog:Program}{w:World}{A:Around}{E:Value->Shared->Prop}{s:Shared}
end
section
variable{X:Cx}
end
end L2
namespace L2
open PySem PySem.Spec PyProof.Rows
section
variable{κ:Type}[DecidableEq κ]
end
section
variable{P:Program}{w:World}{H:Hp}{h:Heap}{a:Addr}
end
section
variable{X:Cx}{L4:List (Addr×Obj)}{σ:St}{H:Hp}{s:Shared}{a:Addr}{y v:V}{u r:Value}{o:Option V}{A:Around}{E:Value->Shared->Prop}
end
section
variable{X:Cx}{L4:List (Addr×Obj)}{σ:St}{H:Hp}{s:Shared}{a:Addr}{MT:List (Key×V)}{k:Key}{u:Value}{A:Around}{E:Value->Shared->Prop}
end
section
variable{X:Cx}{o i e value:Expr}{pos pos' tpos:Pos}{td ty tv:TE}
end
section
variable{X:Cx}{pos:Pos}
end
section
variable{X:Cx}{L4:List (Addr×Obj)}{σ:St}{H:Hp}{s:Shared}{a:Addr}{y d:V}{u r:Value}{o:Option V}{A:Around}{E:Value->Shared->Prop}
end
section
variable{X:Cx}{o e f:Expr}{apos Mm:Pos}{td ty tx:TE}
end
section
variable{X:Cx}{L4:List (Addr×Obj)}{σ:St}{H:Hp}{s:Shared}{a:Addr}{MT:List (Key×V)}{A:Around}{E:Value->Shared->Prop}
end
section
variable{X:Cx}{L4:List (Addr×Obj)}{σ:St}{H:Hp}{s:Shared}{a:Addr}{y:V}{u:Value}{A:Around}{E:Value->Shared->Prop}
end
end L2
namespace Att
open PySem PySem.W PySem.Calls PyProof.Rows
theorem nF{P:Params}{h:Heap}:∀ (ns:List Int) (vs:List Value),WellAll P h vs (ns.map WData.int)->IntsAre vs ns:=by
 intro ns
 induction ns with
 | nil =>
  intro vs w
  rw[List.map_nil] at w
  cases w
  exact .nil
 | cons n ns ih =>
  intro vs w
  rw[List.map_cons] at w
  cases w with
  | cons a b =>
   cases a
   exact .cons _ _ (ih _ b)
theorem yd{l:OpenLaw}{n:Nat}(hn:l.most=some n){P:Params}{h:Heap}{args:List WData}{vals:List Value}
  (yz:l.row.toRowW.claim.pre args=true) (hwl:WellAll P h vals args) :
  ∃ a vs ns,vals=[Value.ref a]/\args=[WData.list (ns.map WData.int)]/\h.get? a=some { cls:=.type "list", data:=.seq vs.toArray }/\IntsAre vs ns/\ns.length<=n:=by
 have hsh:WShape.hasAll [] args [.list .int]=true:=(pre_splitW yz).1
 have hc:l.pre.holds [] { args:=args }=true:=(pre_splitW yz).2
 obtain⟨d,r,rfl,h1,h2⟩:=hasAllW_cons hsh
 obtain rfl:=hasAllW_nil h2
 obtain⟨xs,rfl,h3⟩:=hasW_list h1
 obtain⟨ns,rfl⟩:=items_int h3
 have hlen:ns.length<=n:=by
  unfold OpenLaw.pre at hc
  have h4:(WTm.not (.lt (.lit (.int (n:Int))) (.len (.arg 0)))).holds [] { args:=[.list (ns.map .int)] }=true:=by
   have h4:=(holds_andW hc).1
   rw[hn] at h4
   exact h4
  have h5:=condW_of h4 (w_not (w_lt w_lit (w_len_list (w_arg rfl))))
  rw[List.length_map] at h5
  refine Nat.le_of_not_lt λq=>?_
  have q':(n:Int)<((ns.length:Nat):Int):=by omega
  first
   | (rw[decide_eq_true q'] at h5;exact absurd h5 (by decide))
   | (simp at h5;omega)
 cases hwl with
 | cons w1 w2 =>
  cases w2
  cases w1 with
  | list ho hall=>exact⟨_,_,ns,rfl,rfl,ho,nF ns _ hall,hlen⟩
theorem xQ(l:OpenLaw)(args:List WData):l.row.toRowW.claim.post args (.bool true) args=true :=
 postW_of (r:=l.row.toRowW) (X:=(true==true))
  (show WShape.has [] (.bool true) .bool=true by first | rfl | decide | simp[WShape.has,WShape.arms,WShape.armsAll])
  (show (WTm.eq .res (.lit (.bool true))).value [] { args:=args,res:=some (.bool true),after:=args }=some (.bool (true==true)) from w_eq_bool (w_res rfl) w_lit) rfl
section
variable{prog:Program}{w:World}{A:Around}{E:Value->Shared->Prop}{s:Shared}{K:Frag}
end
end Att
namespace L2
open PySem PySem.Spec PyProof.Rows
theorem rB:∀ {vs:List Value} {ns:List Int},IntsAre vs ns->Vals (ns.map V.int) vs
 | _,_,.nil=>.nil
 | _,_,.cons n t h=>.cons ⟨t,rfl⟩ (rB h)
def Jm(H:Hp):Prop:=∀ b,H b=none\/∃ o xs,H b=some (.qo o (.lst xs))
theorem BZ{P:Program}{w:World}{K:PySem.W.Frag}{mg mb:Str->Option Value}{CX:CJ}{k:Nat}{fa a:Addr}{fd:FuncData}{x:Str}{sp:Sp}{s₁:Shared}{vs:List Value}{ns:List Int}
  (KX:K.In s₁.heap) (hns:s₁.heap.Ns mainGlobals mg) (hb:s₁.heap.Ns builtinsNs mb) (O5:∀ x:Str,x ≠ "__name__" -> mb x=bootBuiltins x) (hlim:s₁.heap.NoLimit) (hg:s₁.gens=#[])
  (ha:s₁.heap.get? a=some { cls:=.type "list", data:=.seq vs.toArray }) (hi:IntsAre vs ns) (hl:ns.length<=sizeLine) (hr:cD k callerA)
  (F:∀ base:Heap,K.In base->base.Ns mainGlobals mg->aP P w K mg base CX k fa fd [x] sp) (Ph:∀ (s:Shared) (u:Value),BindsTo s fd ⟨[u],[]⟩ [(x,u)])
  (hsp:∀ H:Hp,Jm H->iw K H a (ns.map V.int)->sp [.ref a] H (λv _=>v=.bl true) λ_ _ _=>False)
  (hCX:∀ H e s',CX [] H s₁ (λ_ _ _=>False) e s'->False) :
  codeAny (model P w) callerA (.call (.ref fa) ⟨[.ref a],[]⟩) (λr s'=>r=.ok (.ret (.bool true))/\OldK s₁.heap s'.heap/\s'.os=s₁.os/\AllBare s'.gens) s₁:=by
 have rv:=rB hi
 have lenV:=hi.length
 have core:∀ H:Hp,Jm H->iw K H a (ns.map V.int)->mK P w H s₁.heap->(∀ b,H b≠none->b=a)->(H a≠none->K.lookup a=none) ->
   codeAny (model P w) callerA (.call (.ref fa) ⟨[.ref a],[]⟩) (λr s'=>r=.ok (.ret (.bool true))/\OldK s₁.heap s'.heap/\s'.os=s₁.os/\AllBare s'.gens) s₁:=by
  intro H hO hS bK hA hK
  have NT:∀ {b:Addr} {o:Obj},s₁.heap.get? b=some o->H b=none->(rH s₁.heap H).get? b=some o:=λe n=>zU e n
  have vS:∀ {b:Addr} {o:Obj} {es:Array DictEntry} {ep:Nat},s₁.heap.get? b=some o->o.data=.dict es ep->H b=none:=λ{b o es ep} e d=>by
   cases q:H b with
   | none=>rfl
   | some u =>
    have e':b=a:=hA b (by rw[q];simp)
    subst e'
    rw[ha] at e;cases e
    have d':Data.seq vs.toArray _=Data.dict es ep:=d
    cases d'
  have nsK:∀ {b:Addr} {m:Str->Option Value},s₁.heap.Ns b m->(rH s₁.heap H).Ns b m:=λ{b m} ⟨o,es,ep,e,d,r⟩=>⟨o,es,ep,NT e (vS e d),d,r⟩
  have hKb:K.In (rH s₁.heap H):=λb o e=>NT (KX b o e) (by
   cases q:H b with
   | none=>rfl
   | some u =>
    have e':b=a:=hA b (by rw[q];simp)
    subst e'
    rw[hK (by rw[q];simp)] at e;cases e)
  have hM:Mod K mg (rH s₁.heap H):=⟨hKb,nsK hns,⟨mb,nsK hb,O5⟩,let ⟨mc,h1,h2⟩:=hlim;⟨mc,nsK h1,h2⟩⟩
  have e0:vy P w K mg (rH s₁.heap H) callerA [] s₁ H:=⟨rfl,hM,λb o e=>DW e,Nat.le_of_eq (yF _ _),trivial,λb hb=>absurd (show b∈([]:List Addr) from hb) (by simp),bK,.of_eq hg⟩
  refine codeAny_mono ((F _ hKb (nsK hns)).run callerA [] s₁ H ⟨[.ref a],[]⟩ [.ref a] [.ref a] _ _ hr e0 (Ph s₁ (.ref a)) (.cons rfl .nil) (hsp H hO hS)) λr s' h=>?_
  cases r with
  | error e=>exact(hCX H e s' h).elim
  | ok fl =>
   cases fl with
   | next=>exact False.elim h
   | brk=>exact False.elim h
   | cont=>exact False.elim h
   | ret u =>
    obtain⟨v,H',os,bare,un,hok',r',q⟩:=h
    have q':v=.bl true:=q
    subst q'
    obtain rfl:u=Value.bool true:=r'
    refine⟨rfl,OldK.of_keep λb o e=>?_,os,bare⟩
    cases q:H b with
    | none=>exact un.keep b o e q (by intro z;exact absurd (show b∈([]:List Addr) from z) (by simp)) (by simp)
    | some u =>
     rcases hO b with z | ⟨ob,xs,z⟩
     ·rw[q] at z;cases z
     ·have z2:=un.mD b ob _ z
      obtain⟨e1,_⟩:=bK b _ z
      obtain⟨e2,_⟩:=hok' b _ z2
      rw[e] at e1;cases e1
      exact e2
 cases hk:K.lookup a with
 | some o =>
  have e:=KX a o hk
  rw[ha] at e
  cases e
  refine core (λ_=>none) (λ_=>.inl rfl) (.inr ⟨_,vs.toArray,_,hk,rfl,rfl,rfl,by rw[List.size_toArray,lenV];exact hl,by simpa using rv⟩) (λb u z=>by have z':(none:Option HO)=some u:=z;cases z') (λb z=>absurd rfl z) λz=>absurd rfl z
 | none =>
  refine core (λb=>if b=a then some (.qo { cls:=.type "list", data:=.seq vs.toArray } (.lst (ns.map V.int))) else none) (λb=>?_) (.inl (.inr ⟨{ cls:=.type "list", data:=.seq vs.toArray },if_pos rfl⟩)) (λb u z=>?_) (λb z=>?_) λ_=>hk
  ·by_cases hb:b=a
   ·exact .inr ⟨_,_,if_pos hb⟩
   ·exact .inl (if_neg hb)
  ·by_cases hb:b=a
   ·have z':=(if_pos hb).symm.trans z
    cases z'
    subst hb
    exact⟨ha,by rw[List.length_map];exact hl,vs,_,rv,ha⟩
   ·have z':=(if_neg hb).symm.trans z
    cases z'
  ·by_cases hb:b=a
   ·exact hb
   ·exact absurd (if_neg hb) z
end L2
namespace L2
open PySem PySem.Spec PyProof.Rows
end L2
namespace L2
open PySem PySem.Spec PyProof.Rows
def inClass(s:Stmt)(j:Nat):Stmt:=match s with
 | .ClassDef _ _ _ body _ _ _ _ _ _ _=>body.getD j (.Pass ⟨0,0,0,0⟩)
 | _=>.Pass ⟨0,0,0,0⟩
def iB(s:Stmt):Arguments:=match s with
 | .FunctionDef _ a _ _ _ _ _ _ _ _=>a
 | _=>{ posonlyargs:=[],args:=[],vararg:=none,kwonlyargs:=[],kw_defaults:=[],kwarg:=none,defaults:=[] }
def fb(s:Stmt):List Stmt:=match s with
 | .FunctionDef _ _ b _ _ _ _ _ _ _=>b
 | _=>[]
def bc(s:Stmt):Scope:=match s with
 | .FunctionDef _ _ _ _ _ _ sc _ _ _=>sc
 | _=>{ kind:=.function,names:=[],isGenerator:=false,isCoroutine:=false }
abbrev E0:XK:=λ_ _ _=>False
section
variable{P:Program}{w:World}{K:PySem.W.Frag}{mg:Str->Option Value}{base:Heap}
end
theorem lX{n:Nat}(h:n<=1000):n<sizeLine:=Nat.lt_of_le_of_lt h (by decide)
section
variable{X:Cx}
end
def bC(H H':Hp):Prop:=∀ b o,H b=some o->H' b=some o
end L2
namespace L2
open PySem PySem.Spec PyProof.Rows
section
variable{X:Cx}
def AX(_ j:Int):Prop:=j≠0/\j.natAbs.log2<9000
theorem z0:h9 X (binaryOp .FloorDiv) (rI AX λi j=>.int (i.fdiv j)):=JA λ_ _ _ _ _ _ _ hc q=>floordiv_int hc.1 q (.inl (PyProof.noPylong_of_log2 hc.2))
theorem C7:h9 X (binaryOp .Mult) (rI (λi j=>IntMulOk i j) λi j=>.int (i*j)):=JA λ_ _ _ _ _ _ _ hc q=>mul_int q hc
theorem Aa{a b:Int}{m n:Nat}(ha:a.natAbs<2^m)(hb:b.natAbs<2^n)(h:m+n<=134217728):IntMulOk a b:=IntMulOk.of_le (intBits_le_iff.mpr ha) (intBits_le_iff.mpr hb) h
theorem B8:bootBuiltins "isinstance" = some (.builtin "isinstance"):=by decide +kernel
theorem Hq:bootBuiltins "int" = some (.type "int"):=by decide +kernel
theorem Ea:bootBuiltins "bool" = some (.type "bool"):=by decide +kernel
theorem oC:bootBuiltins "tuple" = some (.type "tuple"):=by decide +kernel
theorem wG:bootBuiltins "list" = some (.type "list"):=by decide +kernel
theorem G7:bootBuiltins "sum" = some (.builtin "sum"):=by decide +kernel
def Km(K:PySem.W.Frag):List V->Hp->VK->Prop:=λxs H Q=>∃ x T t b,xs=[x,.ty T]/\jI K H x t/\PySem.W.kitOne K t (.type T)=some b/\Q (.bl b) H
theorem Be:eC X (.builtin "isinstance") (Km X.K):=by
 intro L4 s σ H xs us Q I r h
 obtain⟨x,T,t,b,rfl,ty,e,q⟩:=h
 cases r with
 | cons r1 r2 =>
  cases r2 with
  | cons r3 r4 =>
   cases r4
   cases (show _=Value.type T from r3)
   exact xY I r1 ty e λtk=>⟨.bl b,H,I.tok tk,rfl,q⟩
end
section
variable(K:PySem.W.Frag)
end
section
variable{X:Cx}
theorem Inv.j3{L4:List (Addr×Obj)}{σ:St}{H:Hp}{s:Shared}{h':Heap}{t':Nat}{ch:List Addr}{a:Addr}{o:HO}(I:Inv X L4 σ H s)(k:∀ b u,b ∉ ch->s.heap.get? b=some u->h'.get? b=some u)
  (NJ:∀ b∈ch,lD X L4 H b) (hp:s.heap.objs.size<=a) (hl:∀ b∈ch,∃ u,s.heap.get? b=some u) (new:cv X.prog X.w (upd H a o) h' a o):Inv X L4 σ (upd H a o) { s with heap:=h',toks:=t' }:=by
 have ne:∀ b u,s.heap.get? b=some u->b≠a:=λb u e=>Nat.ne_of_lt (Nat.lt_of_lt_of_le (Heap.lt_size e) hp)
 have Oc:H a=none:=I.bK.fresh hp
 have Oo:∀ b u,H b=some u->b ∉ ch:=λb u e z=>by rw[(NJ b z).1] at e;cases e
 have Om:∀ b u,H b=some u->b≠a:=λb u e z=>by rw[z,Oc] at e;cases e
 refine I.step (g':=s.gens) (d':=s.drawn) (ch:=ch) (λb hb=>?_) (λb u _ _ hc e _=>k b u hc e) (λb u _ _ hc e _=>⟨u.slots,k b u hc e⟩)
  (λb u _ e n=>by rw[aw (ne b u e)];exact n) (λb u hc e=>⟨u,k b u hc e⟩)
  (λb xs e=>by rw[aw (Om b _ e)];exact e) (λb ob u e=>by rw[aw (Om b _ e)];exact e) (λb ps e=>⟨#[],by rw[aw (Om b _ e),e];simp⟩) (λm hm=>?_) (λb u e=>?_) I.bare
 ·obtain⟨_,f1,_,f3,f4,f5⟩:=NJ b hb
  exact⟨f3,f1,f4,f5⟩
 ·obtain⟨ob,es,ep,ho,r⟩:=hm
  exact⟨ob,es,ep,k _ ob (λz=>(NJ _ z).2.1 rfl) ho,r⟩
 ·by_cases z:b=a
  ·subst z
   rw[aA] at e
   cases e
   exact new
  ·rw[aw z] at e
   refine(I.bK b u e).nM (λc v hc q=>k c v ?_ q) (λc q=>?_) λc ys q=>?_
   ·rcases hc with z' | z'
    ·rw[z'];exact Oo b u e
    ·exact Oo c _ z'
   ·rw[aw (Om c _ q)];exact q
   ·rw[aw (Om c _ q)];exact q
def G5 (K : PySem.W.Frag) (a : Addr) : It :=
  ⟨λi H => ∃ xs x, iw K H a xs /\ xs[i]? = some x,
   λi H y H' => ∃ p x, H p = none /\ y = .ref p /\ H' = upd H p (.tup [.int i, x]) /\ ∀ xs, iw K H a xs -> xs[i]? = some x,
   λi H => ∃ xs, iw K H a xs /\ xs.length <= i⟩
theorem yj{P:Program}{w:World}{K:PySem.W.Frag}{elts:List Expr}{x1:Nat}{tp:Pos}(a e it:Addr)(NX:e≠it):Turn P w K (.Tuple elts x1 tp) (G5 K a) [e,it] e (λi h=>(∃ old,IsEnum h e it i old)/\h.IsListIter it a i) where
 mem:=by simp
 obj:=λi h st b hb=>by
  obtain⟨⟨old,he⟩,⟨o,e1,c,d⟩⟩:=st
  rcases List.mem_cons.mp hb with z | z
  ·subst z
   exact⟨_,he,λv z=>by cases z⟩
  ·have z':b=it:=by simpa using z
   subst z'
   exact⟨o,e1,λv z=>by rw[d] at z;cases z⟩
 keep:=λi h h' st k=>by
  obtain⟨⟨old,he⟩,hit⟩:=st
  exact⟨⟨old,k e (by simp) _ he⟩,hit.at λo x=>k it (by simp) o x⟩
 item:=by
  intro X hP hw hK hc i L4 s σ H E I hf st hg
  subst hP hw hK
  obtain⟨xs,x,hq,hx⟩:=hg
  obtain⟨L7,rv,p,hz⟩:=I.list hq
  obtain⟨u,hu,ru⟩:=rv.get hx
  obtain⟨⟨old,he⟩,hit⟩:=st
  have Ob:e<s.heap.objs.size:=Heap.lt_size he
  have OT:it<s.heap.objs.size:=by obtain⟨_,z,_⟩:=hit;exact Heap.lt_size z
  refine wpAny_pyNext_enum_item he hit p.isList (x:=u) (by simpa using hu) NX λh' ho OU hT Nv hk=>⟨_,rfl,?_⟩
  refine wpAny_letOwnedTupleGo_enum (s:={ s with heap:=h',toks:=s.toks+1 }) ho λh2 he2 Nm=>?_
  have Oj:∀ b o,b ∉ [e,it]->s.heap.get? b=some o->h2.get? b=some o:=λb o hb q=>by
   have n1:b≠e:=λz=>hb (by simp[z])
   have n2:b≠it:=λz=>hb (by simp[z])
   exact(Nm.2 b n1).trans (hk b o n1 n2 q)
  have Oz:h2.get? s.heap.objs.size=some { cls:=.type "tuple", data:=.seq #[.int i s.toks,u] }:=(Nm.2 _ (Nat.ne_of_gt Ob)).trans hT
  have I2:Inv X L4 σ (upd H s.heap.objs.size (.tup [.int i,x])) { s with heap:=h2,toks:=s.toks+1 } :=
   I.j3 (ch:=[e,it]) Oj hf (Nat.le_refl _) (λb hb=>by
    rcases List.mem_cons.mp hb with z | z
    ·subst z;exact⟨_,he⟩
    ·have z':b=it:=by simpa using z
     subst z'
     obtain⟨o,z,_⟩:=hit
     exact⟨o,z⟩)
    ⟨by show 2<=sizeLine;decide,[.int i s.toks,u],.cons ⟨_,rfl⟩ (.cons ru .nil),⟨_,Oz,rfl,_,rfl⟩⟩
  have Nl:H s.heap.objs.size=none:=I.bK.fresh (Nat.le_refl _)
  refine⟨.ref s.heap.objs.size,_,I2,rfl,⟨_,x,Nl,rfl,rfl,λys hy=>by rw[I.oK hy hq];exact hx⟩,⟨⟨u,by simpa using he2⟩,OU.at λo z=>(Nm.2 it (Ne.symm NX)).trans z⟩,λb hb=>?_⟩
  have nb:b≠s.heap.objs.size:=by
   rcases List.mem_cons.mp hb with z | z
   ·rw[z];exact Nat.ne_of_lt Ob
   ·have z':b=it:=by simpa using z
    rw[z'];exact Nat.ne_of_lt OT
  rw[aw nb]
  exact(hf b hb).1
 done:=by
  intro X hP hw hK hc i L4 s σ H E I hf st hg
  subst hP hw hK
  obtain⟨xs,hq,hx⟩:=hg
  obtain⟨L7,rv,p,hz⟩:=I.list hq
  have hl:=rv.length
  obtain⟨⟨old,he⟩,hit⟩:=st
  obtain⟨f0,f1,f2,f3,f4,f5⟩:=hf it (by simp)
  exact wpAny_pyNext_enum_end (I.ok.hd hc) he hit p.isList (by simp;omega) λh' eb=>⟨rfl,I.turned (t':=s.toks) (λb o hb e=>eb b o hb e) f0 f1 f3 f4 f5⟩
 self:=λ_ _ _ _ _ st h=>by
  obtain⟨⟨old,he⟩,_⟩:=st
  exact wpAny_pyIter_enum he h
end
end L2
namespace L2
open PySem PySem.Spec PyProof.Rows
section
variable{prog:Program}{w:World}{A:Around}{R:Result->Shared->Prop}{s:Shared}
theorem xD{elt target iter:Expr}{ifs:List Expr}{scope:Scope}{pos:Pos}{it acc:Value}{env:Env}(I:Nat->Shared->Prop)
  (turn:∀ n s,I n s->wpAny (model prog w) A (pyNext it) (λr s₁=>match r with
   | none=>R (.ok .next) s₁
   | some v=>wpAny (model prog w) A (letOwnedTupleGo target it v) (λ_ s₂=>wpAny (model prog w) A (assign target env v) (λ_ s₃ =>
     wpAny (model prog w) A (forIn ifs true λc r=>if r=true then do let ok ← isTrue c env (eval c env);pure (ForInStep.yield ok) else pure (ForInStep.yield r)) (λok s₄ =>
      if ok=true then wpAny (model prog w) A (eval elt env) (λx s₅ =>
       wpAny (model prog w) A (call (.builtin "list.append") [acc,x]) (λ_ s₆=>∃ m,m<n/\I m s₆) (λ_ _=>False) s₅) (λ_ _=>False) s₄
      else ∃ m,m<n/\I m s₄) (λ_ _=>False) s₃) (λ_ _=>False) s₂) (λ_ _=>False) s₁) (λ_ _=>False) s)
  (n:Nat) (h:I n s) :
  codeAny (model prog w) A (.compLoop (.ListComp elt [⟨target,iter,ifs,0⟩] scope pos) 0 it acc env) R s:=by
 refine codeAny_loop rfl I (λn s hI=>?_) n h
 show wpAny _ A ((compTurn (.ListComp elt [⟨target,iter,ifs,0⟩] scope pos) 0 it acc env).onRaise (λx=>do noteFrame x env;theTreesLotGoes x)) _ _ s
 refine wpAny_noted ?_
 rw[compTurn_list]
 refine wpAny_bind (wpAny_standAt (wpAny_bind (wpAny_mono (turn n s hI) (λr s₁ h₁=>?_) λ_ _ h'=>h'.elim)))
 cases r with
 | none=>exact wpAny_pure h₁
 | some v =>
  refine wpAny_bind (wpAny_mono h₁ (λ_ s₂ h₂=>wpAny_bind (wpAny_mono h₂ (λ_ s₃ h₃=>wpAny_bind (wpAny_mono h₃ (λok s₄ h₄=>?_) λ_ _ h'=>h'.elim)) λ_ _ h'=>h'.elim)) λ_ _ h'=>h'.elim)
  cases ok with
  | false=>exact wpAny_pure ⟨rfl,h₄⟩
  | true =>
   exact wpAny_bind (wpAny_bind (wpAny_mono h₄ (λx s₅ h₅=>wpAny_bind (wpAny_mono h₅ (λ_ s₆ h₆=>wpAny_pure (wpAny_pure ⟨rfl,h₆⟩)) λ_ _ h'=>h'.elim)) λ_ _ h'=>h'.elim))
end
def pT(X:Cx)(scope:Scope)(cl:List (Str×Addr))(N:List Str)(C:Addr)(s₀:Shared)(H₀:Hp)(ex:List Addr)(L4:List (Addr×Obj)):Cx :=
 { X with N:=N,s₀:=s₀,H₀:=H₀,env:=compEnvC scope cl C X.env,outer:=X.stack,stack:=X.stack,ex:=ex,fn:=λ_=>false,pn:=X.pn++L4,xe:=λ_ _=>False }
inductive iZ (X:Cx) (sc:Scope) (cl:List (Str×Addr)):List Str->List Nat->Prop where
 | nil:iZ X sc cl [] []
 | cons {x:Str} {j:Nat} {c:Addr} {fs:List Str} {js:List Nat} (hN:X.N[j]?=some x) (hf:sc.names.lookup x=some .free) (hv:X.env.kindOf x=some .cell\/X.env.kindOf x=some .free) (hc:X.env.cells.lookup x=some c) (hl:cl.lookup x=some c) (r:iZ X sc cl fs js):iZ X sc cl (x::fs) (j::js)
inductive eU (X:Cx):List (Str×Addr)->Prop where
 | nil:eU X []
 | cons {x:Str} {c:Addr} {r:List (Str×Addr)} (h:X.env.cells.lookup x=some c) (t:eU X r):eU X ((x,c)::r)
theorem eU.at{X:Cx}:∀ {cl:List (Str×Addr)},eU X cl->∀ x c,cl.lookup x=some c->X.env.cells.lookup x=some c
 | _,.nil,_,_,e=>by simp at e
 | _,.cons (x:=y) (c:=d) h t,x,c,e=>by
  rw[List.lookup_cons] at e
  cases q:x==y with
  | true =>
   rw[q] at e
   have e':d=c:=Option.some.inj e
   have q':x=y:=by simpa using q
   rw[q',← e'];exact h
  | false =>
   rw[q] at e
   exact eU.at t x c e
def ik(cl:List (Str×Addr))(names:List (Str×NameKind)):Bool:=names.all λy=>y.2 != .free||(cl.lookup y.1).isSome
def gm(names:List (Str×NameKind)):Bool:=names.all λy=>y.2 != .cell
def ir(names:List (Str×NameKind)):Bool:=names.all λy=>y.2 != .local||(names.lookup y.1==some .local)
def fS(ts:List Str)(js:List Nat)(σ:St):St:=ts.map (λ_=>none)++js.map λj=>(σ[j]?).join
def Ae(wi:TI)(g:TG)(tt:Option TT)(te:TE)(ts:List Str)(js:List Nat):TE:=fun σ H Q=>wi σ H λJ H1=>∀ D,H1 D=none ->
 ∃ W:Nat->Nat->St->Hp->Prop,(∃ m,W 0 m (fS ts js σ) (upd H1 D (.lst [])))/\∀ i m σ' H',W i m σ' H' ->
  (J.stop i H'/\Q (.ref D) H')\/(J.go i H'/\∃ N:St->Hp->Prop,(∀ σ'' H'',N σ'' H''->∃ m',m'<m/\W (i+1) m' σ'' H'') ∧
   ∀ x H2,J.tq i H' x H2->g x σ' H2 fun σ2 H3=>match tt with
    | none=>te σ2 H3 λy H4=>∃ ys,H4 D=some (.lst ys)/\ys.length<sizeLine/\N σ2 (upd H4 D (.lst (ys++[y])))
    | some t=>t σ2 H3 λb Pc=>if b=true then te σ2 Pc λy H4=>∃ ys,H4 D=some (.lst ys)/\ys.length<sizeLine/\N σ2 (upd H4 D (.lst (ys++[y]))) else N σ2 Pc)
theorem pG {scope : Scope} {cl : List (Str × Addr)} {C : Addr} {env : Env} {x : Str} (h : (compEnvC scope cl C env).kindOf x = some .cell \/ (compEnvC scope cl C env).kindOf x = some .free) (nc : gm scope.names = true) : scope.names.lookup x = some .free := by
  have key : ∀ (names : List (Str × NameKind)), gm names = true ->
      ((names.map λ(n, k) => if (k == NameKind.free && env.scope.kind == .function && env.kindOf n == some .cell) then (n, NameKind.cell) else (n, k)).lookup x = some .cell ∨
       (names.map λ(n, k) => if (k == NameKind.free && env.scope.kind == .function && env.kindOf n == some .cell) then (n, NameKind.cell) else (n, k)).lookup x = some .free) -> names.lookup x = some .free := by
    intro names
    induction names with
    | nil => intro _ h; simp at h
    | cons p r ih =>
      obtain ⟨n, k⟩ := p
      intro nc h
      have nc' : (k != .cell) = true /\ gm r = true := by
        unfold gm at nc
        rw [List.all_cons, Bool.and_eq_true] at nc
        exact nc
      rw [List.map_cons] at h
      dsimp only at h
      by_cases hc : (k == NameKind.free && env.scope.kind == .function && env.kindOf n == some .cell) = true
      · rw [if_pos hc] at h
        rw [List.lookup_cons] at h ⊢
        cases q : x == n with
        | true =>
          have : k = .free := by
            rw [Bool.and_eq_true, Bool.and_eq_true] at hc
            simpa using hc.1.1
          rw [this]
        | false =>
          rw [q] at h
          exact ih nc'.2 h
      · rw [if_neg hc] at h
        rw [List.lookup_cons] at h ⊢
        cases q : x == n with
        | true =>
          rw [q] at h
          have nk : k ≠ .cell := by simpa using nc'.1
          rcases h with h | h
          · exact absurd (Option.some.inj h) nk
          · exact h
        | false =>
          rw [q] at h
          exact ih nc'.2 h
  exact key scope.names nc h
theorem uB{X:Cx}{tg elt iter:Expr}{ifs:List Expr}{scope:Scope}{cl:List (Str×Addr)}{pos Mm:Pos}{wi:TI}{g:TG}{tt:Option TT}{te:TE}{ts fs:List Str}{js:List Nat}(Mf:X.calm=true)
  (Mv:closureFor scope X.env=pure cl) (hk:scope.kind=.function) (nc:gm scope.names=true) (lo:ir scope.names=true) (fh:ik cl scope.names=true) (ag:eU X cl) (fr:iZ X scope cl fs js)
  (hi:PI X tg iter wi) (hg:∀ C s₀ H₀ ex L4,PG (pT X scope cl (ts++fs) C s₀ H₀ ex L4) tg g)
  (ht:∀ C s₀ H₀ ex L4,match ifs,tt with | [],none=>True | [c],some t=>PT (pT X scope cl (ts++fs) C s₀ H₀ ex L4) c t | _,_=>False)
  (he:∀ C s₀ H₀ ex L4,PE (pT X scope cl (ts++fs) C s₀ H₀ ex L4) elt te)
  (hs:∀ x,foldedSetIterable iter X.env x=pure x) {L4:List (Addr×Obj)} {s:Shared} {σ:St} {H:Hp} {Q:VK} (I:Inv X L4 σ H s) (h:Ae wi g tt te ts js σ H Q)
  (use:Option (Value->Sem Unit)) (Qv:Value->Shared->Prop)
  (GG:∀ (D:Addr) (H':Hp) (s':Shared) (C:Addr),Inv X L4 σ H' s'->Q (.ref D) H'->(∃ m,s'.heap.Ns C m)->lD X L4 H' C->compPost (model X.prog X.w) X.A X.xe use Qv (.ref D) C (.ok .next) s') :
  wpAny (model X.prog X.w) X.A (comprehension (.ListComp elt [⟨tg,iter,ifs,0⟩] scope pos) scope X.env Mm (newList []) false (eval iter X.env) use) Qv X.xe s:=by
 have NV:∀ y∈scope.names,y.2≠.cell:=λy hy=>by
  have:=List.all_eq_true.mp nc y hy
  simpa using this
 have OV:∀ y∈scope.names,y.2=.local->scope.names.lookup y.1=some .local:=λy hy hl=>by
  have:=List.all_eq_true.mp lo y hy
  rw[hl] at this
  simpa using this
 refine wpAny_comprehension_free (use:=use) rfl hs Mv hk OV (c7 (hi L4 s σ H _ I h) λv s1 h1=>c7 h1 λitv s2 h2=>?_)
 obtain⟨it,fp,tn,J,H1,e,I2,T,OQ,f2,hJ⟩:=h2
 subst e
 refine wpAny_newObj_type (wpAny_newFunctionEnv NV (by intro y hy;simp at hy) (λh₁ hns1 hsb1=>?_) hk)
 dsimp only at hns1 hsb1 ⊢
 generalize hH2:s2.heap.push { cls:=.type "list", dict:=none,data:=.seq ([]:List Value).toArray }=G at hns1 hsb1 ⊢
 have hC:G.objs.size=s2.heap.objs.size+1:=by rw[← hH2,Heap.size_push]
 have old:∀ b o,s2.heap.get? b=some o->h₁.get? b=some o:=λb o e=>by
  have hb:=Heap.lt_size e
  refine hsb1.extBut b o (Nat.ne_of_lt (Nat.lt_of_lt_of_le hb (Nat.le_of_lt (by rw[hC];exact Nat.lt_succ_self _)))) (Heap.get?_push_of_some _ ?_)
  rw[← hH2]
  exact Heap.get?_push_of_some _ e
 have hacc:h₁.get? s2.heap.objs.size=some { cls:=.type "list", dict:=none,data:=.seq #[] }:=by
  refine hsb1.extBut _ _ (Nat.ne_of_lt (by rw[hC];exact Nat.lt_succ_self _)) (Heap.get?_push_of_some _ ?_)
  rw[← hH2]
  exact Heap.get?_push_size _ rfl
 have nD:H1 s2.heap.objs.size=none:=I2.bK.fresh (Nat.le_refl _)
 have nC:H1 G.objs.size=none:=I2.bK.fresh (by omega)
 obtain⟨W,⟨m0,w0⟩,turn⟩:=hJ _ nD
 have Pn:∀ b∈fp,b<s2.heap.objs.size:=λb hb=>by
  obtain⟨o,e,_⟩:=T.obj _ _ OQ b hb
  exact Heap.lt_size e
 have ltk:∀ (x:Str) (c:Addr),cl.lookup x=some c->c<s2.heap.objs.size/\H1 c=none/\(∃ v,s2.heap.IsCell c v):=λx c e=>by
  have e':=ag.at x c e
  obtain⟨v,q⟩:=I2.cell x c e'
  exact⟨q.lt,I2.kI x c e',v,q⟩
 let X':=pT X scope cl (ts++fs) G.objs.size s2 H1 fp L4
 have okX:X'.Ok:=by
  refine⟨I2.ok.mod,hk,I2.ok.glob,I2.ok.blt,by show s2.heap.objs.size<=G.objs.size;omega,λx y c e1 e2=>I2.ok.inj x y c (ag.at x c e1) (ag.at y c e2),λx hx=>?_,λx c hf _=>(nomatch (show (false:Bool)=true from hf)),I2.ok.hd,I2.ok.frames,.inl rfl,λb hb=>⟨?_,λx c e z=>?_⟩,λb o e=>I2.bs b o e,Nat.le_trans I2.ok.En I2.sz,λb o e hb=>?_,λb hb hz=>?_,I2.stack,λb hb=>I2.rR b hb⟩
  ·have NW:=pG (env:=X.env) hx nc
   have hm:∃ y∈scope.names,y.1=x/\y.2=.free:=by
    have:∀ (l:List (Str×NameKind)),l.lookup x=some .free->∃ y∈l,y.1=x/\y.2=.free:=by
     intro l
     induction l with
     | nil=>intro h;simp at h
     | cons p r ih =>
      intro h
      rw[List.lookup_cons] at h
      cases q:x==p.1 with
      | true =>
       rw[q] at h
       exact⟨p,List.mem_cons_self,(by simpa using q:x=p.1).symm,Option.some.inj h⟩
      | false =>
       rw[q] at h
       obtain⟨y,hy,r1,r2⟩:=ih h
       exact⟨y,List.mem_cons_of_mem _ hy,r1,r2⟩
    exact this _ NW
   obtain⟨y,hy,r1,r2⟩:=hm
   have:=List.all_eq_true.mp fh y hy
   rw[r2] at this
   have h':(cl.lookup y.1).isSome=true:=by simpa using this
   rw[r1] at h'
   exact Option.isSome_iff_exists.mp h'
  ·exact Nat.ne_of_lt (Nat.lt_of_lt_of_le (Pn b hb) (by show s2.heap.objs.size<=G.objs.size;omega))
  ·exact(f2 b hb).2.2.2.2.1 x c (ag.at x c e) z
  ·obtain⟨_,_,_,f3,_,_⟩:=f2 b hb
   rcases f3 with z | z
   ·exact I2.ok.zd b o e z
   ·exact absurd (Nat.lt_of_lt_of_le (Heap.lt_size (I2.ok.bs b o e).1) z) (Nat.lt_irrefl _)
  ·rcases List.mem_cons.mp (I2.sM b hz) with z | z
   ·exact(f2 b hb).2.1 z
   ·exact(f2 b hb).2.2.1 z
 have keepB:∀ b o,s2.heap.get? b=some o->h₁.get? b=some o:=old
 have I3:Inv X' [] (fS ts js σ) (upd H1 s2.heap.objs.size (.lst [])) { s2 with heap:=h₁,toks:=s2.toks+([]:List (Str×Value)).length }:=by
  have neD:∀ b o,s2.heap.get? b=some o->b≠s2.heap.objs.size:=λb o e=>Nat.ne_of_lt (Heap.lt_size e)
  refine⟨okX,rfl,I2.bare,⟨λb o e n hb hx=>old b o e,λb o e n hb hx=>⟨o.slots,old b o e⟩,λb o e n hx=>by rw[aw (neD b o e)];exact n,λb o e hx=>⟨o,old b o e⟩,λb xs e=>?_,λb o u e=>?_,λb ps e=>?_⟩,⟨_,hns1,λi x v e1 e2 e3=>?_⟩,λx c e=>?_,?_,λx c e=>?_,λp hp=>?_,?_,?_⟩
  ·rw[aw (bW e nD)];exact e
  ·rw[aw (bW e nD)];exact e
  ·exact⟨#[],by rw[aw (bW e nD)];exact Eq.trans e (by simp)⟩
  ·
   have hlen:(ts.map (λ_=>(none:Option V))).length=ts.length:=List.length_map _
   unfold fS at e2
   by_cases MS:i<ts.length
   ·rw[List.getElem?_append_left (by rw[hlen];exact MS),List.getElem?_map] at e2
    cases q:ts[i]? <;> rw[q] at e2 <;> cases e2
   ·rw[List.getElem?_append_right (by rw[hlen];omega),hlen] at e2
    have e1':fs[i-ts.length]?=some x:=by
     have e1':(ts++fs)[i]?=some x:=e1
     rw[List.getElem?_append_right (by omega)] at e1'
     exact e1'
    have all:∀ {fs:List Str} {js:List Nat},iZ X scope cl fs js->∀ k:Nat,fs[k]?=some x->(js.map λj=>(σ[j]?).join)[k]?=some (some v) ->
      ∃ (j:Nat) (c:Addr),X.N[j]?=some x/\σ[j]?=some (some v)/\(X.env.kindOf x=some .cell\/X.env.kindOf x=some .free)/\X.env.cells.lookup x=some c/\cl.lookup x=some c/\scope.names.lookup x=some .free:=by
     intro fs js r
     induction r with
     | nil=>intro k e;simp at e
     | @cons y j c fs js hN hf hv hc hl r ih =>
      intro k e e'
      cases k with
      | zero =>
       have e0:y=x:=by simpa using e
       subst e0
       have Pe:(σ[j]?).join=some v:=by simpa using e'
       refine⟨j,c,hN,?_,hv,hc,hl,hf⟩
       cases q:σ[j]? with
       | none=>rw[q] at Pe;cases Pe
       | some z=>rw[q] at Pe;cases z with
        | none=>cases Pe
        | some z =>
         have:z=v:=by simpa using Pe
         rw[this]
      | succ k=>exact ih k (by simpa using e) (by simpa using e')
    obtain⟨j,c,q1,q2,q3,q4,q5,q6⟩:=all fr (i-ts.length) e1' e2
    obtain⟨m,hn,hl⟩:=I2.loc
    have vis:Ce X.env.scope x:=by
     rcases q3 with z | z
     ·exact .inr (.inl z)
     ·exact .inr (.inr z)
    obtain⟨u,ru,lk⟩:=hl j x v q1 q2 vis
    refine⟨u,ru,.inr ⟨?_,c,q5,?_⟩⟩
    ·rcases e3 with z | z | z
     ·exfalso
      have key:∀ (l:List (Str×NameKind)),(l.map λ(n,k)=>if (k==NameKind.free&&X.env.scope.kind==.function&&X.env.kindOf n==some .cell) then (n,NameKind.cell) else (n,k)).lookup x=some .local->l.lookup x=some .local:=by
       intro l
       induction l with
       | nil=>intro h;simp at h
       | cons p r ih =>
        obtain⟨n,k⟩:=p
        intro h
        rw[List.map_cons] at h
        dsimp only at h
        by_cases hc:(k==NameKind.free&&X.env.scope.kind==.function&&X.env.kindOf n==some .cell)=true
        ·rw[if_pos hc] at h
         rw[List.lookup_cons] at h ⊢
         cases q:x==n with
         | true=>rw[q] at h;cases h
         | false=>rw[q] at h;exact ih h
        ·rw[if_neg hc] at h
         rw[List.lookup_cons] at h ⊢
         cases q:x==n with
         | true=>rw[q] at h;exact h
         | false=>rw[q] at h;exact ih h
      have:=key _ z
      rw[q6] at this
      cases this
     ·exact .inl z
     ·exact .inr z
    ·rcases lk with ⟨k,_⟩ | ⟨_,c',e4,z⟩
     ·rcases q3 with z | z <;> rw[z] at k <;> cases k
     ·rw[q4] at e4
      cases e4
      obtain⟨o,ho,hd⟩:=z
      exact⟨o,old c o ho,hd⟩
  ·obtain⟨_,_,v,o,ho,hd⟩:=ltk x c e
   exact⟨v,o,old c o ho,hd⟩
  ·show upd H1 s2.heap.objs.size (.lst []) G.objs.size=none
   rw[aw (Nat.ne_of_gt (by rw[hC];exact Nat.lt_succ_self _))];exact nC
  ·obtain⟨q1,q2,_⟩:=ltk x c e
   rw[aw (Nat.ne_of_lt q1)];exact q2
  ·have OO:p∈X.pn++L4:=by
    have:p∈(X.pn++L4)++[]:=hp
    rwa [List.append_nil] at this
   obtain⟨e,n,ne,nf,d⟩:=I2.pin p OO
   have MS:=Heap.lt_size e
   refine⟨old _ _ e,by rw[aw (Nat.ne_of_lt MS)];exact n,?_,λhz=>?_,d⟩
   ·show p.1≠G.objs.size
    exact Nat.ne_of_lt (Nat.lt_trans MS (by rw[hC];exact Nat.lt_succ_self _))
   ·rcases List.mem_cons.mp (I2.sM _ hz) with z | z
    ·exact ne z
    ·exact nf z
  ·exact I2.bK.laid old (Nat.le_refl _) ⟨Nat.zero_le _,[],0,.nil,hacc⟩
  ·show (fS ts js σ).length=(ts++fs).length
   have frl:∀ {fs:List Str} {js:List Nat},iZ X scope cl fs js->fs.length=js.length:=by
    intro fs js r
    induction r with
    | nil=>rfl
    | cons _ _ _ _ _ _ ih=>rw[List.length_cons,List.length_cons,ih]
   unfold fS
   rw[List.length_append,List.length_append,List.length_map,List.length_map,frl fr]
 have NS:∀ {H':Hp},(∀ b∈fp,H' b=none)->∀ b∈fp,lD X' [] H' b:=λ{H'} hn b hb=>by
  obtain⟨_,f1,f3,_,f4,f5⟩:=f2 b hb
  refine⟨hn b hb,okX.Kq b hb |>.1,okX.z7 b hb,.inl hb,λx c e=>f4 x c (ag.at x c e),λp hp=>f5 p ?_⟩
  have:p∈(X.pn++L4)++[]:=hp
  rwa [List.append_nil] at this
 have fin:∀ {σ':St} {H':Hp} {s':Shared},Inv X' [] σ' H' s'->Q (.ref s2.heap.objs.size) H' ->
   compPost (model X.prog X.w) X.A X.xe use Qv (.ref s2.heap.objs.size) G.objs.size (.ok .next) s':=by
  intro σ' H' s' I4 q
  obtain⟨m,hn,_⟩:=I4.loc
  have fC:H' G.objs.size=none:=I4.free
  have Io:Inv X L4 σ H' s':=by
   refine I2.A9 (s':=s') (ch:=fp) I4.os ⟨λb o e n hb hx=>?_,λb o e n hb hx=>?_,λb o e n hx=>I4.base.free b o e n hx,λb o e hx=>?_,I4.base.sG,I4.base.mD,I4.base.rF⟩ I4.bK I4.bare λb hb=>?_
   ·exact I4.base.keep b o e n hb hx
   ·exact I4.base.slot b o e n hb hx
   ·exact I4.base.there b o e hx
   ·obtain⟨_,f1,_,f3,f4,f5⟩:=f2 b hb
    exact⟨f3,f1,f4,f5⟩
  have hCl:s2.heap.objs.size<=G.objs.size:=by rw[hC];exact Nat.le_succ _
  exact GG _ H' s' _ Io q ⟨m,hn⟩ (I2.sI hCl fC)
 have loop:∀ s3:Shared,s3={ s2 with heap:=h₁,toks:=s2.toks+([]:List (Str×Value)).length } ->
   codeAny (model X.prog X.w) X.A (.compLoop (.ListComp elt [⟨tg,iter,ifs,0⟩] scope pos) 0 (.ref it) (.ref s2.heap.objs.size) (compEnvC scope cl G.objs.size X.env))
    (compPost (model X.prog X.w) X.A X.xe use Qv (.ref s2.heap.objs.size) G.objs.size) s3:=by
  rintro s3 rfl
  refine xD (λn s'=>∃ i σ' H',Inv X' [] σ' H' s'/\tn i s'.heap/\(∀ b∈fp,H' b=none)/\W i n σ' H') ?_ m0 ⟨0,_,_,I3,T.keep _ _ _ OQ λb _ o e=>old b o e,λb hb=>?_,w0⟩
  ·rintro n s3 ⟨i,σ3,H3,I3,st3,fr3,w3⟩
   rcases turn i n σ3 H3 w3 with ⟨stop,qn⟩ | ⟨go,N,hN,step⟩
   ·refine c7 (T.done X' rfl rfl rfl Mf i [] s3 σ3 H3 _ I3 (NS fr3) st3 stop) λr s4 ⟨hr,I4⟩=>?_
    subst hr
    exact fin I4 qn
   ·refine c7 (T.item X' rfl rfl rfl Mf i [] s3 σ3 H3 _ I3 (NS fr3) st3 go) λr s4 ⟨u,hr,h4⟩=>?_
    subst hr
    refine c7 h4 λ_ s5 ⟨x,H5,I5,r5,y5,st5,fr5⟩=>?_
    have I5':=I5.pinned (NS fr5) (T.obj _ _ st5)
    refine c7 (hg _ _ _ _ _ _ s5 σ3 H5 x u _ I5' r5 (step x H5 y5)) λ_ s6 ⟨σ6,H6,I6,q6⟩=>?_
    have again:∀ {σ7:St} {H7:Hp} {s7:Shared},Inv X' ([]++lY fp s5.heap) σ7 H7 s7->N σ7 H7->∃ m,m<n/\∃ i σ' H',Inv X' [] σ' H' s7/\tn i s7.heap/\(∀ b∈fp,H' b=none)/\W i m σ' H':=λ{σ7 H7 s7} I7 n7=>by
     obtain⟨m',hm,w7⟩:=hN σ7 H7 n7
     refine⟨m',hm,i+1,σ7,H7,I7.lP,T.keep _ _ _ st5 λb hb o e=>(I7.pin (b,o) (List.mem_append_right _ (List.mem_append_right _ (jx hb e)))).1,λb hb=>?_,w7⟩
     obtain⟨o,e,d⟩:=T.obj _ _ st5 b hb
     exact(I7.pin (b,o) (List.mem_append_right _ (List.mem_append_right _ (jx hb e)))).2.1
    have tail:∀ {H7:Hp} {s7:Shared},Inv X' ([]++lY fp s5.heap) σ6 H7 s7->(te σ6 H7 λy H4=>∃ ys,H4 s2.heap.objs.size=some (.lst ys)/\ys.length<sizeLine/\N σ6 (upd H4 s2.heap.objs.size (.lst (ys++[y])))) ->
      wpAny (model X.prog X.w) X.A (eval elt (compEnvC scope cl G.objs.size X.env)) (λx s₅=>wpAny (model X.prog X.w) X.A (call (.builtin "list.append") [.ref s2.heap.objs.size,x])
       (λ_ s₆=>∃ m,m<n/\∃ i σ' H',Inv X' [] σ' H' s₆/\tn i s₆.heap/\(∀ b∈fp,H' b=none)/\W i m σ' H') (λ_ _=>False) s₅) (λ_ _=>False) s7:=by
     intro H7 s7 I7 q7
     refine c7 (he _ _ _ _ _ _ s7 σ6 H7 _ I7 q7) λuy s8 ⟨y,H8,I8,ry,ys,hy,hl,q8⟩=>?_
     refine c7 (qC (X:=X') _ s8 σ6 H8 (.ref s2.heap.objs.size) [y] (.ref s2.heap.objs.size) [uy] (λ_ H9=>N σ6 H9) I8 rfl (.cons ry .nil) ⟨_,ys,y,rfl,rfl,hy,hl,q8⟩) λ_ s9 ⟨_,H9,I9,_,q9⟩=>?_
     exact again I9 q9
    cases ifs with
    | nil =>
     cases tt with
     | none=>exact wpAny_tests_nil (tail I6 q6)
     | some t=>exact(ht 0 s2 H1 [] []).elim
    | cons c r =>
     cases r with
     | nil =>
      cases tt with
      | none=>exact(ht 0 s2 H1 [] []).elim
      | some t =>
       refine wpAny_tests_one (c7 (ht G.objs.size s2 H1 fp L4 _ s6 σ6 H6 _ I6 q6) λb s7 ⟨H7,I7,q7⟩=>?_)
       cases b with
       | true =>
        rw[if_pos rfl] at q7 ⊢
        exact tail I7 q7
       | false =>
        rw[if_neg Bool.false_ne_true] at q7 ⊢
        exact again I7 q7
     | cons _ _=>cases tt <;> exact(ht 0 s2 H1 [] []).elim
  ·rw[aw (Nat.ne_of_lt (Pn b hb))]
   exact(f2 b hb).1
 exact codeAny_compStart_list (loop _ rfl) (T.self _ 0 _ _ _ (T.keep _ _ _ OQ λb _ o e=>old b o e) (loop _ rfl))
theorem Inv.other{X:Cx}{L4:List (Addr×Obj)}{σ:St}{H:Hp}{s:Shared}{C:Addr}{h':Heap}(I:Inv X L4 σ H s)(f:lD X L4 H C)(hs:Heap.SameBut C s.heap h'):Inv X L4 σ H { s with heap:=h' }:=by
 obtain⟨f0,f1,_,f3,f4,f5⟩:=f
 refine I.A9 (s':={ s with heap:=h' }) (ch:=[C]) rfl ⟨λb o e n hb hx=>?_,λb o e n hb hx=>?_,λb o e n hx=>n,λb o e hx=>?_,λ_ _ q=>q,λ_ _ _ q=>q,λb ps q=>⟨#[],by rw[q];simp⟩⟩ (λb u e=>?_) I.bare λb hb=>?_
 ·exact(hs.2 b (λz=>hx (by rw[z];exact List.mem_singleton.mpr rfl))).trans e
 ·exact⟨o.slots,(hs.2 b (λz=>hx (by rw[z];exact List.mem_singleton.mpr rfl))).trans e⟩
 ·exact⟨o,(hs.2 b (λz=>hx (by rw[z];exact List.mem_singleton.mpr rfl))).trans e⟩
 ·refine(I.bK b u e).nM (λc v hc q=>(hs.2 c ?_).trans q) (λ_ q=>q) λ_ _ q=>q
  rcases hc with z | z
  ·rw[z];exact bW e f0
  ·exact bW z f0
 ·rw[List.mem_singleton.mp hb]
  exact⟨f3,f1,f4,f5⟩
theorem wM{X:Cx}{tg elt iter:Expr}{ifs:List Expr}{scope:Scope}{cl:List (Str×Addr)}{pos:Pos}{wi:TI}{g:TG}{tt:Option TT}{te:TE}{ts fs:List Str}{js:List Nat}(Mf:X.calm=true)
  (Mv:closureFor scope X.env=pure cl) (hk:scope.kind=.function) (nc:gm scope.names=true) (lo:ir scope.names=true) (fh:ik cl scope.names=true) (ag:eU X cl) (fr:iZ X scope cl fs js)
  (hi:PI X tg iter wi) (hg:∀ C s₀ H₀ ex L4,PG (pT X scope cl (ts++fs) C s₀ H₀ ex L4) tg g)
  (ht:∀ C s₀ H₀ ex L4,match ifs,tt with | [],none=>True | [c],some t=>PT (pT X scope cl (ts++fs) C s₀ H₀ ex L4) c t | _,_=>False)
  (he:∀ C s₀ H₀ ex L4,PE (pT X scope cl (ts++fs) C s₀ H₀ ex L4) elt te)
  (hs:autoParam (∀ x,foldedSetIterable iter X.env x=pure x) aI._auto_1) :
  PE X (.ListComp elt [⟨tg,iter,ifs,0⟩] scope pos) (Ae wi g tt te ts js):=by
 intro L4 s σ H Q I h
 rw[eval_ListComp]
 refine uB Mf Mv hk nc lo fh ag fr hi hg ht he hs I h none _ λD H' s' C Io q hm f=>?_
 obtain⟨m,hn⟩:=hm
 exact⟨m,hn,λh' O9=>⟨.ref D,H',Io.other f O9,rfl,q⟩⟩
def wA(wi:TI)(g:TG)(te:TE)(ts:List Str)(js:List Nat):TE:=fun σ H Q=>wi σ H λJ H1=>∀ D,H1 D=none ->
 ∃ W:Nat->Nat->St->Hp->Prop,(∃ m,W 0 m (fS ts js σ) (upd H1 D (.lst [])))/\∀ i m σ' H',W i m σ' H' ->
  (J.stop i H'/\Q (.ref D) H')\/(J.go i H'/\∃ N:St->Hp->Prop,(∀ σ'' H'',N σ'' H''->∃ m',m'<m/\W (i+1) m' σ'' H'') ∧
   ∀ x H2,J.tq i H' x H2->g x σ' H2 fun σ2 H3=>te σ2 H3 λy H4=>∃ ys,H4 D=some (.lst ys)/\ys.length<sizeLine/\N σ2 (upd H4 D (.lst (ys++[y]))))
def Hj(wi:TI)(g:TG)(t:TT)(te:TE)(ts:List Str)(js:List Nat):TE:=fun σ H Q=>wi σ H λJ H1=>∀ D,H1 D=none ->
 ∃ W:Nat->Nat->St->Hp->Prop,(∃ m,W 0 m (fS ts js σ) (upd H1 D (.lst [])))/\∀ i m σ' H',W i m σ' H' ->
  (J.stop i H'/\Q (.ref D) H')\/(J.go i H'/\∃ N:St->Hp->Prop,(∀ σ'' H'',N σ'' H''->∃ m',m'<m/\W (i+1) m' σ'' H'') ∧
   ∀ x H2,J.tq i H' x H2->g x σ' H2 fun σ2 H3=>t σ2 H3 λb Pc=>if b=true then te σ2 Pc λy H4=>∃ ys,H4 D=some (.lst ys)/\ys.length<sizeLine/\N σ2 (upd H4 D (.lst (ys++[y]))) else N σ2 Pc)
theorem Ba{X:Cx}{tg elt iter:Expr}{scope:Scope}{cl:List (Str×Addr)}{pos:Pos}{wi:TI}{g:TG}{te:TE}{ts fs:List Str}{js:List Nat}(Mf:X.calm=true)
  (Mv:closureFor scope X.env=pure cl) (hk:scope.kind=.function) (nc:gm scope.names=true) (lo:ir scope.names=true) (fh:ik cl scope.names=true) (ag:eU X cl) (fr:iZ X scope cl fs js)
  (hi:PI X tg iter wi) (hg:∀ C s₀ H₀ ex L4,PG (pT X scope cl (ts++fs) C s₀ H₀ ex L4) tg g) (he:∀ C s₀ H₀ ex L4,PE (pT X scope cl (ts++fs) C s₀ H₀ ex L4) elt te)
  (hs:autoParam (∀ x,foldedSetIterable iter X.env x=pure x) aI._auto_1):PE X (.ListComp elt [⟨tg,iter,[],0⟩] scope pos) (wA wi g te ts js) :=
 wM (tt:=none) Mf Mv hk nc lo fh ag fr hi hg (λ_ _ _ _ _=>trivial) he hs
theorem A_{X:Cx}{tg elt iter c:Expr}{scope:Scope}{cl:List (Str×Addr)}{pos:Pos}{wi:TI}{g:TG}{t:TT}{te:TE}{ts fs:List Str}{js:List Nat}(Mf:X.calm=true)
  (Mv:closureFor scope X.env=pure cl) (hk:scope.kind=.function) (nc:gm scope.names=true) (lo:ir scope.names=true) (fh:ik cl scope.names=true) (ag:eU X cl) (fr:iZ X scope cl fs js)
  (hi:PI X tg iter wi) (hg:∀ C s₀ H₀ ex L4,PG (pT X scope cl (ts++fs) C s₀ H₀ ex L4) tg g) (ht:∀ C s₀ H₀ ex L4,PT (pT X scope cl (ts++fs) C s₀ H₀ ex L4) c t) (he:∀ C s₀ H₀ ex L4,PE (pT X scope cl (ts++fs) C s₀ H₀ ex L4) elt te)
  (hs:autoParam (∀ x,foldedSetIterable iter X.env x=pure x) aI._auto_1):PE X (.ListComp elt [⟨tg,iter,[c],0⟩] scope pos) (Hj wi g t te ts js) :=
 wM (tt:=some t) Mf Mv hk nc lo fh ag fr hi hg ht he hs
end L2
namespace L2
open PySem PySem.Spec PyProof.Rows
def gi(h:Heap)(b:Bool)(l:Addr)(xs:Array Value):Prop:=match b with
 | true=>h.IsList l xs
 | false=>h.IsTuple l xs
def eN(h:Heap)(b:Bool)(it l:Addr)(i:Nat):Prop:=match b with
 | true=>h.IsListIter it l i
 | false=>h.IsTupleIter it l i
theorem gi.at{h h':Heap}{b:Bool}{l:Addr}{xs:Array Value}(x:gi h b l xs)(k:∀ o,h.get? l=some o->h'.get? l=some o):gi h' b l xs:=by
 cases b with
 | true=>obtain⟨o,ho,r⟩:=(show h.IsList l xs from x);exact(show h'.IsList l xs from ⟨o,k o ho,r⟩)
 | false=>obtain⟨o,ho,r⟩:=(show h.IsTuple l xs from x);exact(show h'.IsTuple l xs from ⟨o,k o ho,r⟩)
theorem eN.at{h h':Heap}{b:Bool}{it l:Addr}{i:Nat}(x:eN h b it l i)(k:∀ o,h.get? it=some o->h'.get? it=some o):eN h' b it l i:=by
 cases b with
 | true=>obtain⟨o,ho,r⟩:=(show h.IsListIter it l i from x);exact(show h'.IsListIter it l i from ⟨o,k o ho,r⟩)
 | false=>obtain⟨o,ho,r⟩:=(show h.IsTupleIter it l i from x);exact(show h'.IsTupleIter it l i from ⟨o,k o ho,r⟩)
theorem eN.obj{h:Heap}{b:Bool}{it l:Addr}{i:Nat}(x:eN h b it l i):∃ o vs,h.get? it=some o/\o.data=.fields vs:=by
 cases b with
 | true=>obtain⟨o,ho,_,hd⟩:=(show h.IsListIter it l i from x);exact⟨o,_,ho,hd⟩
 | false=>obtain⟨o,ho,_,hd⟩:=(show h.IsTupleIter it l i from x);exact⟨o,_,ho,hd⟩
theorem gi.obj{h:Heap}{b:Bool}{l:Addr}{xs:Array Value}(x:gi h b l xs):∃ o n,h.get? l=some o/\o.data=.seq xs n:=by
 cases b with
 | true=>obtain⟨o,ho,_,n,hd⟩:=(show h.IsList l xs from x);exact⟨o,n,ho,hd⟩
 | false=>obtain⟨o,ho,_,n,hd⟩:=(show h.IsTuple l xs from x);exact⟨o,n,ho,hd⟩
section
variable{prog:Program}{w:World}{A:Around}{E:Value->Shared->Prop}{s:Shared}
theorem iE{it t:Addr}{i:Nat}{items:Array Value}{x:Value}{Q:Value->Shared->Prop}(hit:s.heap.IsTupleIter it t i)
  (ht:s.heap.IsTuple t items) (hx:items[i]?=some x)
  (hQ:∀ h',h'.IsTupleIter it t (i+1)->Heap.SameBut it s.heap h'->Q x { s with heap:=h' }) :
  wpAny (model prog w) A (Builtin.SmallTypes.nextOf (.ref it)) Q E s:=by
 obtain⟨o,ho,hc,hd⟩:=id hit
 obtain⟨ol,hol,_,nl,hdl⟩:=ht
 unfold Builtin.SmallTypes.nextOf
 refine wpAny_bind (wpAny_callSpecial?_slot (name:=Str.ofString "__next__") hit.typeIs F.slot_tuple_iterator_next
  (wpAny_call_entry F.slot_tuple_iterator_next hit.typeIs F.entry_tuple_iterator_next ?_ (F.args_tuple_iterator_next_1 _)))
 show wpAny _ _ (field (.ref it) 0 >>= _) _ _ s
 refine wpAny_bind (wpAny_field ho hd (x:=.ref t) rfl ?_)
 show wpAny _ _ (if (Value.ref t==Value.none)=true then _ else _) _ _ s
 rw[if_neg (show ¬ ((Value.ref t==Value.none)=true) from Bool.false_ne_true)]
 show wpAny _ _ (field (.ref it) 1 >>= _) _ _ s
 refine wpAny_bind (wpAny_field ho hd (x:=.int i 0) rfl ?_)
 show wpAny _ _ (seqItems? (.ref t) >>= _) _ _ s
 refine wpAny_bind (wpAny_seqItems hol hdl ?_)
 simp only[Int.toNat_natCast,hx]
 refine wpAny_bind (wpAny_setField ho hd (by simp) (wpAny_pure ⟨x,rfl,wpAny_pure (hQ _ ?_ (Heap.SameBut.update ..))⟩))
 exact⟨_,Heap.get?_update_self _ ho (Obj.isFreed_of_fields (Obj.data_mapFields hd _)),(Obj.cls_mapFields ..).trans hc,by
  rw[Obj.data_mapFields hd];simp[rawInt]⟩
theorem fv{it t:Addr}{i:Nat}{items:Array Value}{Q:Value->Shared->Prop}(hh:A.handled=none)
  (hit:s.heap.IsTupleIter it t i) (ht:s.heap.IsTuple t items) (hx:items[i]?=none)
  (hE:∀ h' e,Heap.ExtBut it s.heap h'->(∃ o,h'.get? e=some o/\o.cls=.type "StopIteration")->E (.ref e) { s with heap:=h' }) :
  wpAny (model prog w) A (Builtin.SmallTypes.nextOf (.ref it)) Q E s:=by
 obtain⟨o,ho,hc,hd⟩:=id hit
 obtain⟨ol,hol,_,nl,hdl⟩:=ht
 unfold Builtin.SmallTypes.nextOf
 refine wpAny_bind (wpAny_callSpecial?_slot (name:=Str.ofString "__next__") hit.typeIs F.slot_tuple_iterator_next
  (wpAny_call_entry F.slot_tuple_iterator_next hit.typeIs F.entry_tuple_iterator_next ?_ (F.args_tuple_iterator_next_1 _)))
 show wpAny _ _ (field (.ref it) 0 >>= _) _ _ s
 refine wpAny_bind (wpAny_field ho hd (x:=.ref t) rfl ?_)
 show wpAny _ _ (if (Value.ref t==Value.none)=true then _ else _) _ _ s
 rw[if_neg (show ¬ ((Value.ref t==Value.none)=true) from Bool.false_ne_true)]
 show wpAny _ _ (field (.ref it) 1 >>= _) _ _ s
 refine wpAny_bind (wpAny_field ho hd (x:=.int i 0) rfl ?_)
 show wpAny _ _ (seqItems? (.ref t) >>= _) _ _ s
 refine wpAny_bind (wpAny_seqItems hol hdl ?_)
 simp only[Int.toNat_natCast,hx]
 refine wpAny_bind (wpAny_rule (wpAny_bind (wpAny_setField ho hd (by simp) ?_)))
 show wpAny _ _ (newExc (.type "StopIteration") [] >>= _) _ _ _
 refine wpAny_bind ?_
 simp only[newExc,newTuple]
 refine wpAny_bind (wpAny_newObj_type ?_ (by size_fits))
 refine wpAny_bind (m:=firstArgMember _ _) (wpAny_of_eq (a:=Value.none) (by first | rfl | (simp only[firstArgMember];rfl)) ?_)
 refine wpAny_newObj_type ?_ (by size_fits)
 simp only[raiseNew]
 refine wpAny_bind (wpAny_handled ?_)
 first | rw[show A.in1.handled=none from hh] | rw[hh]
 refine wpAny_bind (wpAny_pure (wpAny_throw ?_))
 exact hE _ _ (((Heap.SameBut.update ..).extBut.push _).push _) ⟨_,Heap.get?_push_size _ rfl,rfl⟩
theorem c8{b:Bool}{it l:Addr}{i:Nat}{items:Array Value}{x:Value}{Q:Value->Shared->Prop}(hit:eN s.heap b it l i)(hl:gi s.heap b l items)(hx:items[i]?=some x)
  (hQ:∀ h',eN h' b it l (i+1)->Heap.SameBut it s.heap h'->Q x { s with heap:=h' }):wpAny (model prog w) A (Builtin.SmallTypes.nextOf (.ref it)) Q E s:=by
 cases b with
 | true=>exact wpAny_nextOf_list_item hit hl hx hQ
 | false=>exact iE hit hl hx hQ
theorem gU{b:Bool}{it l:Addr}{i:Nat}{items:Array Value}{Q:Value->Shared->Prop}(hh:A.handled=none)(hit:eN s.heap b it l i)(hl:gi s.heap b l items)(hx:items[i]?=none)
  (hE:∀ h' e,Heap.ExtBut it s.heap h'->(∃ o,h'.get? e=some o/\o.cls=.type "StopIteration")->E (.ref e) { s with heap:=h' }):wpAny (model prog w) A (Builtin.SmallTypes.nextOf (.ref it)) Q E s:=by
 cases b with
 | true=>exact wpAny_nextOf_list_end hh hit hl hx hE
 | false=>exact fv hh hit hl hx hE
theorem xG{b1 b2:Bool}{z TI TO i1 i2 l1 l2:Addr}{k1 k2:Nat}{xs ys:Array Value}{x y a b:Value}{Q:Value->Shared->Prop}(D:ZipApart z TI TO i1 i2 l1 l2)
  (hz:IsZip s.heap z TI TO .none) (MK:IsPair s.heap TI (.ref i1) (.ref i2)) (MN:IsPair s.heap TO a b)
  (h1:eN s.heap b1 i1 l1 k1) (h2:eN s.heap b2 i2 l2 k2) (Nj:gi s.heap b1 l1 xs) (Nk:gi s.heap b2 l2 ys) (hx:xs[k1]?=some x) (hy:ys[k2]?=some y)
  (hQ:∀ h',IsZip h' z TI TO (rawInt s.heap.objs.size)->IsPair h' TO x y->eN h' b1 i1 l1 (k1+1)->eN h' b2 i2 l2 (k2+1)->IsPair h' s.heap.objs.size x y->h'.objs.size=s.heap.objs.size+1 ->
   (∀ c o,c≠z->c≠TO->c≠i1->c≠i2->s.heap.get? c=some o->h'.get? c=some o)->Q (.ref s.heap.objs.size) { s with heap:=h' }) :
  wpAny (model prog w) A (Builtin.«zip.__next__» ⟨[.ref z],[]⟩) (λfin s'=>∃ v,fin=.done (.ret v)/\Q v s') E s:=by
 show wpAny _ _ (field (.ref z) 2 >>= _) _ _ _
 refine wpAny_bind (wpAny_field hz rfl (x:=.bool false) rfl ?_)
 show wpAny _ _ (field (.ref z) 3 >>= _) _ _ _
 refine wpAny_bind (wpAny_field hz rfl (x:=.ref TI) rfl ?_)
 refine wpAny_bind (wpAny_seqItems MK rfl ?_)
 show wpAny _ _ (Builtin.SmallTypes.ownedTupleIsFree (.ref z) >>= _) _ _ _
 refine wpAny_bind ?_
 unfold Builtin.SmallTypes.ownedTupleIsFree
 refine wpAny_bind (wpAny_field hz rfl (x:=.none) rfl (wpAny_pure ?_))
 simp only[if_true]
 refine wpAny_bind (wpAny_rule ?_)
 refine wpAny_bind (wpAny_field hz rfl (x:=.ref TO) rfl ?_)
 refine wpAny_bind (wpAny_setField_rec hz (by simp) λh₁ hz1 hs1=>?_)
 replace hz1:IsZip h₁ z TI TO .ellipsis:=hz1
 refine wpAny_bind ?_
 simp only[List.zipIdx_cons,List.zipIdx_nil,List.forIn_cons,List.forIn_nil]
 refine wpAny_bind (wpAny_bind (wpAny_onRaise ?_))
 show wpAny _ _ (Builtin.SmallTypes.nextOf (.ref i1) >>= _) _ _ _
 refine wpAny_bind (c8 (h1.at λo e=>hs1.extBut _ _ D.i1z e) (Nj.at λo e=>hs1.extBut _ _ D.l1z e) hx λh₂ h1₂ hs2=>wpAny_pure ?_)
 have hTO2:IsPair h₂ TO a b:=hs2.extBut _ _ D.TOi1 (hs1.extBut _ _ D.TOz MN)
 refine wpAny_bind (wpAny_seqItems hTO2 rfl ?_)
 refine wpAny_bind (wpAny_updateSeq_pair hTO2 λh₃ hTO3 hs3=>?_)
 replace hTO3:IsPair h₃ TO x b:=hTO3
 refine wpAny_bind (wpAny_letGo (wpAny_pure ?_))
 refine wpAny_bind (wpAny_bind (wpAny_onRaise ?_))
 show wpAny _ _ (Builtin.SmallTypes.nextOf (.ref i2) >>= _) _ _ _
 refine wpAny_bind (c8 (h2.at λo e=>hs3.extBut _ _ D.TOi2.symm (hs2.extBut _ _ D.i12.symm (hs1.extBut _ _ D.i2z e)))
  (Nk.at λo e=>hs3.extBut _ _ D.l2TO (hs2.extBut _ _ D.l2i1 (hs1.extBut _ _ D.l2z e))) hy λh₄ h2₄ hs4=>wpAny_pure ?_)
 have hTO4:IsPair h₄ TO x b:=hs4.extBut _ _ D.TOi2 hTO3
 refine wpAny_bind (wpAny_seqItems hTO4 rfl ?_)
 refine wpAny_bind (wpAny_updateSeq_pair hTO4 λh₅ hTO5 hs5=>?_)
 replace hTO5:IsPair h₅ TO x y:=hTO5
 refine wpAny_bind (wpAny_letGo (wpAny_pure (wpAny_pure ?_)))
 refine wpAny_bind (wpAny_seqItems hTO5 rfl ?_)
 refine wpAny_bind (wpAny_newTuple ?_)
 have Nv:h₅.objs.size=s.heap.objs.size:=by rw[hs5.1,hs4.1,hs3.1,hs2.1,hs1.1]
 have hz5:IsZip h₅ z TI TO .ellipsis:=hs5.extBut _ _ D.TOz.symm (hs4.extBut _ _ D.i2z.symm (hs3.extBut _ _ D.TOz.symm (hs2.extBut _ _ D.i1z.symm hz1)))
 have hk5:∀ c o,c≠z->c≠TO->c≠i1->c≠i2->s.heap.get? c=some o->h₅.get? c=some o:=λc o c1 c2 c3 c4 e =>
  hs5.extBut _ _ c2 (hs4.extBut _ _ c4 (hs3.extBut _ _ c2 (hs2.extBut _ _ c3 (hs1.extBut _ _ c1 e))))
 have h1₅:eN h₅ b1 i1 l1 (k1+1):=h1₂.at λo e=>hs5.extBut _ _ D.TOi1.symm (hs4.extBut _ _ D.i12 (hs3.extBut _ _ D.TOi1.symm e))
 have h2₅:eN h₅ b2 i2 l2 (k2+1):=h2₄.at λo e=>hs5.extBut _ _ D.TOi2.symm e
 have Oh:z<h₅.objs.size:=Heap.lt_size hz5
 show wpAny _ _ (Builtin.SmallTypes.ownedTupleHandOut (.ref z) (.ref h₅.objs.size) >>= _) _ _ _
 refine wpAny_bind ?_
 unfold Builtin.SmallTypes.ownedTupleHandOut
 have hz6:IsZip (h₅.push { cls:=.type "tuple", data:=.seq #[x,y] }) z TI TO .ellipsis:=Heap.get?_push_of_some _ hz5
 refine wpAny_bind (wpAny_setField_rec hz6 (by simp) λh₇ hz7 hs7=>?_)
 replace hz7:IsZip h₇ z TI TO (rawInt h₅.objs.size):=hz7
 refine wpAny_setField_rec hz7 (by simp) λh₈ hz₈ hs8=>?_
 replace hz₈:IsZip h₈ z TI TO (rawInt h₅.objs.size):=hz₈
 have up:∀ c o,c≠z->h₅.get? c=some o->h₈.get? c=some o:=λc o c1 e=>hs8.extBut _ _ c1 (hs7.extBut _ _ c1 (Heap.get?_push_of_some _ e))
 have hT8:IsPair h₈ h₅.objs.size x y:=hs8.extBut _ _ (Nat.ne_of_gt Oh) (hs7.extBut _ _ (Nat.ne_of_gt Oh) (Heap.get?_push_size _ rfl))
 have hz8:h₈.objs.size=h₅.objs.size+1:=by rw[hs8.1,hs7.1,Heap.size_push]
 rw[Nv] at hz₈ hT8 hz8
 refine wpAny_pure ⟨_,rfl,?_⟩
 show Q (.ref h₅.objs.size) _
 rw[Nv]
 exact hQ h₈ hz₈ (up _ _ D.TOz hTO5) (h1₅.at λo e=>up _ o D.i1z e) (h2₅.at λo e=>up _ o D.i2z e) hT8 hz8 λc o c1 c2 c3 c4 e=>up c o c1 (hk5 c o c1 c2 c3 c4 e)
theorem Bo{b1 b2:Bool}{z TI TO i1 i2 l1 l2:Addr}{k1 k2:Nat}{xs ys:Array Value}{a b:Value}{Q:Fin->Shared->Prop}(hh:A.handled=none)(D:ZipApart z TI TO i1 i2 l1 l2)
  (hz:IsZip s.heap z TI TO .none) (MK:IsPair s.heap TI (.ref i1) (.ref i2)) (MN:IsPair s.heap TO a b)
  (h1:eN s.heap b1 i1 l1 k1) (h2:eN s.heap b2 i2 l2 k2) (Nj:gi s.heap b1 l1 xs) (Nk:gi s.heap b2 l2 ys) (Nu:xs[k1]?=none\/ys[k2]?=none)
  (hE:∀ h' e,(∀ c o,c≠z->c≠TO->c≠i1->c≠i2->s.heap.get? c=some o->h'.get? c=some o)->(∃ o,h'.get? e=some o/\o.cls=.type "StopIteration")->E (.ref e) { s with heap:=h' }) :
  wpAny (model prog w) A (Builtin.«zip.__next__» ⟨[.ref z],[]⟩) Q E s:=by
 show wpAny _ _ (field (.ref z) 2 >>= _) _ _ _
 refine wpAny_bind (wpAny_field hz rfl (x:=.bool false) rfl ?_)
 show wpAny _ _ (field (.ref z) 3 >>= _) _ _ _
 refine wpAny_bind (wpAny_field hz rfl (x:=.ref TI) rfl ?_)
 refine wpAny_bind (wpAny_seqItems MK rfl ?_)
 show wpAny _ _ (Builtin.SmallTypes.ownedTupleIsFree (.ref z) >>= _) _ _ _
 refine wpAny_bind ?_
 unfold Builtin.SmallTypes.ownedTupleIsFree
 refine wpAny_bind (wpAny_field hz rfl (x:=.none) rfl (wpAny_pure ?_))
 simp only[if_true]
 refine wpAny_bind (wpAny_rule ?_)
 refine wpAny_bind (wpAny_field hz rfl (x:=.ref TO) rfl ?_)
 refine wpAny_bind (wpAny_setField_rec hz (by simp) λh₁ hz1 hs1=>?_)
 replace hz1:IsZip h₁ z TI TO .ellipsis:=hz1
 refine wpAny_bind ?_
 simp only[List.zipIdx_cons,List.zipIdx_nil,List.forIn_cons,List.forIn_nil]
 refine wpAny_bind (wpAny_bind (wpAny_onRaise ?_))
 show wpAny _ _ (Builtin.SmallTypes.nextOf (.ref i1) >>= _) _ _ _
 cases hx:xs[k1]? with
 | none =>
  refine wpAny_bind (gU hh (h1.at λo e=>hs1.extBut _ _ D.i1z e) (Nj.at λo e=>hs1.extBut _ _ D.l1z e) hx λh₂ e hs2 he=>?_)
  obtain⟨oe,NA,NU⟩:=he
  have hz2:IsZip h₂ z TI TO .ellipsis:=hs2 _ _ D.i1z.symm hz1
  have OD:e≠z:=λx=>by subst x;rw[hz2] at NA;cases NA;simp at NU
  refine wpAny_setField_rec hz2 (by simp) λh₃ _ hs3=>hE h₃ e (λc o c1 _ c3 _ x=>hs3.extBut _ _ c1 (hs2 _ _ c3 (hs1.extBut _ _ c1 x))) ⟨oe,hs3.extBut _ _ OD NA,NU⟩
 | some x =>
  have hy:ys[k2]?=none:=by rcases Nu with h | h;rw[hx] at h;cases h;exact h
  refine wpAny_bind (c8 (h1.at λo e=>hs1.extBut _ _ D.i1z e) (Nj.at λo e=>hs1.extBut _ _ D.l1z e) hx λh₂ h1₂ hs2=>wpAny_pure ?_)
  have hTO2:IsPair h₂ TO a b:=hs2.extBut _ _ D.TOi1 (hs1.extBut _ _ D.TOz MN)
  refine wpAny_bind (wpAny_seqItems hTO2 rfl ?_)
  refine wpAny_bind (wpAny_updateSeq_pair hTO2 λh₃ hTO3 hs3=>?_)
  refine wpAny_bind (wpAny_letGo (wpAny_pure ?_))
  refine wpAny_bind (wpAny_bind (wpAny_onRaise ?_))
  show wpAny _ _ (Builtin.SmallTypes.nextOf (.ref i2) >>= _) _ _ _
  refine wpAny_bind (gU hh (h2.at λo e=>hs3.extBut _ _ D.TOi2.symm (hs2.extBut _ _ D.i12.symm (hs1.extBut _ _ D.i2z e)))
   (Nk.at λo e=>hs3.extBut _ _ D.l2TO (hs2.extBut _ _ D.l2i1 (hs1.extBut _ _ D.l2z e))) hy λh₄ e hs4 he=>?_)
  obtain⟨oe,NA,NU⟩:=he
  have hz4:IsZip h₄ z TI TO .ellipsis:=hs4 _ _ D.i2z.symm (hs3.extBut _ _ D.TOz.symm (hs2.extBut _ _ D.i1z.symm hz1))
  have OD:e≠z:=λx=>by subst x;rw[hz4] at NA;cases NA;simp at NU
  refine wpAny_setField_rec hz4 (by simp) λh₅ _ hs5=>hE h₅ e (λc o c1 c2 c3 c4 x=>hs5.extBut _ _ c1 (hs4 _ _ c4 (hs3.extBut _ _ c2 (hs2.extBut _ _ c3 (hs1.extBut _ _ c1 x))))) ⟨oe,hs5.extBut _ _ OD NA,NU⟩
theorem uF{b:Bool}{l:Addr}{items:Array Value}{Q:Value->Shared->Prop}(hl:gi s.heap b l items)
  (h:∀ o,o=({ cls:=.type (if b then "list_iterator" else "tuple_iterator"),data:=.fields #[.ref l,.int 0 0] }:Obj)->Q (.ref s.heap.objs.size) { s with heap:=s.heap.push o }):wpAny (model prog w) A (pyIter (.ref l)) Q E s:=by
 cases b with
 | true=>exact wpAny_pyIter_list hl (h _ rfl)
 | false=>exact wpAny_pyIter_tuple hl (h _ rfl)
theorem mw{b1 b2:Bool}{z TI TO i1 i2 l1 l2:Addr}{k1 k2:Nat}{xs ys:Array Value}{x y a b:Value}{Q:Option Value->Shared->Prop}(D:ZipApart z TI TO i1 i2 l1 l2)
  (hz:IsZip s.heap z TI TO .none) (MK:IsPair s.heap TI (.ref i1) (.ref i2)) (MN:IsPair s.heap TO a b)
  (h1:eN s.heap b1 i1 l1 k1) (h2:eN s.heap b2 i2 l2 k2) (Nj:gi s.heap b1 l1 xs) (Nk:gi s.heap b2 l2 ys) (hx:xs[k1]?=some x) (hy:ys[k2]?=some y)
  (hQ:∀ h',IsZip h' z TI TO (rawInt s.heap.objs.size)->IsPair h' TO x y->eN h' b1 i1 l1 (k1+1)->eN h' b2 i2 l2 (k2+1)->IsPair h' s.heap.objs.size x y->h'.objs.size=s.heap.objs.size+1 ->
   (∀ c o,c≠z->c≠TO->c≠i1->c≠i2->s.heap.get? c=some o->h'.get? c=some o)->Q (some (.ref s.heap.objs.size)) { s with heap:=h' }) :
  wpAny (model prog w) A (pyNext (.ref z)) Q E s:=by
 have hT:s.TypeIs (.ref z) "zip" := ⟨_,hz,rfl⟩
 unfold pyNext
 exact wpAny_bind (wpAny_attempt (wpAny_callSpecial?_slot (name:=Str.ofString "__next__") hT F.slot_zip_next
  (wpAny_call_entry F.slot_zip_next hT F.entry_zip_next
   (xG D hz MK MN h1 h2 Nj Nk hx hy λh' a1 a2 a3 a4 a5 a6 a7=>wpAny_pure (hQ h' a1 a2 a3 a4 a5 a6 a7)) (F.args_zip_next_1 _))))
theorem nr{b1 b2:Bool}{z TI TO i1 i2 l1 l2:Addr}{k1 k2:Nat}{xs ys:Array Value}{a b:Value}{Q:Option Value->Shared->Prop}(hh:A.handled=none)(D:ZipApart z TI TO i1 i2 l1 l2)
  (hz:IsZip s.heap z TI TO .none) (MK:IsPair s.heap TI (.ref i1) (.ref i2)) (MN:IsPair s.heap TO a b)
  (h1:eN s.heap b1 i1 l1 k1) (h2:eN s.heap b2 i2 l2 k2) (Nj:gi s.heap b1 l1 xs) (Nk:gi s.heap b2 l2 ys) (Nu:xs[k1]?=none\/ys[k2]?=none)
  (hQ:∀ h',(∀ c o,c≠z->c≠TO->c≠i1->c≠i2->s.heap.get? c=some o->h'.get? c=some o)->Q none { s with heap:=h' }):wpAny (model prog w) A (pyNext (.ref z)) Q E s:=by
 have hT:s.TypeIs (.ref z) "zip" := ⟨_,hz,rfl⟩
 unfold pyNext
 refine wpAny_bind (wpAny_attempt (wpAny_callSpecial?_slot (name:=Str.ofString "__next__") hT F.slot_zip_next
  (wpAny_call_entry F.slot_zip_next hT F.entry_zip_next (Bo hh D hz MK MN h1 h2 Nj Nk Nu λh' e hk he=>?_) (F.args_zip_next_1 _))))
 obtain⟨o,ho,hc⟩:=he
 refine wpAny_bind (wpAny_isInstance (T := "StopIteration") (b:=true) ⟨o,ho,hc⟩ isSubtype_stop ?_)
 exact wpAny_pure (hQ _ hk)
abbrev CA(b:Bool)(l:Addr):Obj:={ cls:=.type (if b then "list_iterator" else "tuple_iterator"),data:=.fields #[.ref l,.int 0 0] }
abbrev F_(h:Heap)(b1:Bool)(l1:Addr):Heap:=h.push (CA b1 l1)
abbrev EK(h:Heap)(b1 b2:Bool)(l1 l2:Addr):Heap:=(F_ h b1 l1).push (CA b2 l2)
abbrev JC(h:Heap)(b1 b2:Bool)(l1 l2:Addr):Heap:=(EK h b1 b2 l1 l2).push { cls:=.type "tuple", data:=.seq #[.ref h.objs.size,.ref (F_ h b1 l1).objs.size] }
abbrev Jy(h:Heap)(b1 b2:Bool)(l1 l2:Addr):Heap:=(JC h b1 b2 l1 l2).push { cls:=.type "tuple", data:=.seq #[.none,.none] }
abbrev E1(h:Heap)(b1 b2:Bool)(l1 l2:Addr):Heap:=(Jy h b1 b2 l1 l2).push { cls:=.type "zip", data:=.fields #[.none,.bool false,.bool false,.ref (EK h b1 b2 l1 l2).objs.size,.ref (JC h b1 b2 l1 l2).objs.size] }
end
theorem gg{prog:Program}{w:World}{A:Around}{E:Value->Shared->Prop}{s:Shared}{b:Bool}{l:Addr}{items:Array Value}{Q:Value->Shared->Prop}(hl:gi s.heap b l items)
  (h:Q (.ref s.heap.objs.size) { s with heap:=s.heap.push (CA b l) }):wpAny (model prog w) A (pyIter (.ref l)) Q E s:=uF hl λo e=>by subst e;exact h
theorem gi.push{h:Heap}{b:Bool}{l:Addr}{xs:Array Value}(x:gi h b l xs)(o:Obj):gi (h.push o) b l xs:=x.at λ_ e=>Heap.get?_push_of_some _ e
theorem n_(b1 b2:Bool)(l1 l2:Addr)(xs ys:Array Value) :
  Meets (Builtin.«zip.__new__» ⟨[.type "zip", .ref l1,.ref l2],[]⟩) (λ_ R s=>gi s.heap b1 l1 xs/\gi s.heap b2 l2 ys ∧
   R (.ok (.ret (.ref (Jy s.heap b1 b2 l1 l2).objs.size))) { s with heap:=E1 s.heap b1 b2 l1 l2 }) :=
 .of_wp λprog w A R s h=>by
  obtain⟨hp,g,d,tk,os⟩:=s;obtain⟨Nj,Nk,h⟩:=h
  have Px:=sub_zip
  have hL1:gi (Shared.heap ⟨hp,g,d,tk,os⟩) b1 l1 xs:=Nj
  have hL2:gi (Shared.heap ⟨hp.push (CA b1 l1),g,d,tk,os⟩) b2 l2 ys:=gi.push Nk _
  wp_walk using gg hL1,gg hL2
  exact⟨_,rfl,h⟩
section
variable{prog:Program}{w:World}{A:Around}{E:Value->Shared->Prop}{s:Shared}
theorem eN.new(h:Heap)(b:Bool)(it l:Addr)(e:h.get? it=some (CA b l)):eN h b it l 0:=by
 cases b with
 | true=>exact⟨_,e,rfl,rfl⟩
 | false=>exact⟨_,e,rfl,rfl⟩
theorem yT{b1 b2:Bool}{l1 l2:Addr}{xs ys:Array Value}{Q:Value->Shared->Prop}(Nj:gi s.heap b1 l1 xs)(Nk:gi s.heap b2 l2 ys)
  (h:∀ h',IsZip h' (s.heap.objs.size+4) (s.heap.objs.size+2) (s.heap.objs.size+3) .none->IsPair h' (s.heap.objs.size+2) (.ref s.heap.objs.size) (.ref (s.heap.objs.size+1)) ->
   IsPair h' (s.heap.objs.size+3) .none .none->eN h' b1 s.heap.objs.size l1 0->eN h' b2 (s.heap.objs.size+1) l2 0->h'.objs.size=s.heap.objs.size+5 ->
   (∀ c o,s.heap.get? c=some o->h'.get? c=some o)->Q (.ref (s.heap.objs.size+4)) { s with heap:=h' }) :
  wpAny (model prog w) A (call (.type "zip") [.ref l1,.ref l2]) Q E s:=by
 refine callType_new F.called_zip (by decide) (F.typeCall_zip_2 _ _) (F.newCall_zip_2 _ _) (λobj=>F.args_object_init_3 obj _ _) F.entry_zip_new
  (n_ b1 b2 l1 l2 xs ys) ⟨Nj,Nk,?_⟩
 have z1:(F_ s.heap b1 l1).objs.size=s.heap.objs.size+1:=Heap.size_push ..
 have z2:(EK s.heap b1 b2 l1 l2).objs.size=s.heap.objs.size+2:=by rw[Heap.size_push,z1]
 have z3:(JC s.heap b1 b2 l1 l2).objs.size=s.heap.objs.size+3:=by rw[Heap.size_push,z2]
 have z4:(Jy s.heap b1 b2 l1 l2).objs.size=s.heap.objs.size+4:=by rw[Heap.size_push,z3]
 have z5:(E1 s.heap b1 b2 l1 l2).objs.size=s.heap.objs.size+5:=by rw[Heap.size_push,z4]
 have g5:(E1 s.heap b1 b2 l1 l2).get? (Jy s.heap b1 b2 l1 l2).objs.size=some _:=Heap.get?_push_size _ rfl
 have g4:(E1 s.heap b1 b2 l1 l2).get? (JC s.heap b1 b2 l1 l2).objs.size=some _:=Heap.get?_push_of_some _ (Heap.get?_push_size _ rfl)
 have g3:(E1 s.heap b1 b2 l1 l2).get? (EK s.heap b1 b2 l1 l2).objs.size=some _:=Heap.get?_push_of_some _ (Heap.get?_push_of_some _ (Heap.get?_push_size _ rfl))
 have g2:(E1 s.heap b1 b2 l1 l2).get? (F_ s.heap b1 l1).objs.size=some _:=Heap.get?_push_of_some _ (Heap.get?_push_of_some _ (Heap.get?_push_of_some _ (Heap.get?_push_size _ rfl)))
 have g1:(E1 s.heap b1 b2 l1 l2).get? s.heap.objs.size=some _:=Heap.get?_push_of_some _ (Heap.get?_push_of_some _ (Heap.get?_push_of_some _ (Heap.get?_push_of_some _ (Heap.get?_push_size _ rfl))))
 show _/\_
 rw[z2,z3,z4] at g5
 rw[z1,z2] at g3
 rw[z3] at g4
 rw[z1] at g2
 rw[z4]
 exact⟨⟨_,g5,rfl⟩,h _ g5 g3 g4 (eN.new _ b1 _ _ g1) (eN.new _ b2 _ _ g2) z5 λc o x =>
  Heap.get?_push_of_some _ (Heap.get?_push_of_some _ (Heap.get?_push_of_some _ (Heap.get?_push_of_some _ (Heap.get?_push_of_some _ x))))⟩
end
def kC(K:PySem.W.Frag)(H:Hp)(b:Bool)(a:Addr)(xs:List V):Prop:=match b with
 | true=>iw K H a xs
 | false=>gB K H a xs
section
variable{X:Cx}
theorem Inv.row{L4:List (Addr×Obj)}{σ:St}{H:Hp}{s:Shared}{b:Bool}{a:Addr}{xs:List V}(I:Inv X L4 σ H s)(h:kC X.K H b a xs):∃ L7:List Value,Vals xs L7/\gi s.heap b a L7.toArray/\xs.length<=sizeLine:=by
 cases b with
 | true =>
  obtain⟨L7,r,p,z⟩:=I.list h
  exact⟨L7,r,p.isList,z⟩
 | false =>
  obtain⟨L7,r,p,z⟩:=I.tuple h
  exact⟨L7,r,p,z⟩
theorem Inv.lN{L4:List (Addr×Obj)}{σ:St}{H:Hp}{s:Shared}{b:Bool}{a:Addr}{xs ys:List V}(I:Inv X L4 σ H s)(h:kC X.K H b a xs)(h':kC X.K H b a ys):xs=ys:=by
 cases b with
 | true=>exact I.oK h h'
 | false=>exact I.mx h h'
theorem Inv.xt{L4:List (Addr×Obj)}{σ:St}{H:Hp}{s:Shared}{h':Heap}{t':Nat}{ch:List Addr}(I:Inv X L4 σ H s)(k:∀ b u,b ∉ ch->s.heap.get? b=some u->h'.get? b=some u)
  (NJ:∀ b∈ch,lD X L4 H b):Inv X L4 σ H { s with heap:=h',toks:=t' }:=by
 have Oo:∀ b u,H b=some u->b ∉ ch:=λb u e z=>by rw[(NJ b z).1] at e;cases e
 refine I.step (g':=s.gens) (d':=s.drawn) (ch:=ch) (λb hb=>?_) (λb u _ _ hc e _=>k b u hc e) (λb u _ _ hc e _=>⟨u.slots,k b u hc e⟩)
  (λb u _ e n=>n) (λb u hc e=>⟨u,k b u hc e⟩) (λb xs e=>e) (λb ob u e=>e) (λb ps e=>⟨#[],by rw[e];simp⟩) (λm hm=>?_) (λb u e=>?_) I.bare
 ·obtain⟨_,f1,_,f3,f4,f5⟩:=NJ b hb
  exact⟨f3,f1,f4,f5⟩
 ·obtain⟨ob,es,ep,ho,r⟩:=hm
  exact⟨ob,es,ep,k _ ob (λz=>(NJ _ z).2.1 rfl) ho,r⟩
 ·refine(I.bK b u e).nM (λc v hc q=>k c v ?_ q) (λc q=>q) λc ys q=>q
  rcases hc with z' | z'
  ·rw[z'];exact Oo b u e
  ·exact Oo c _ z'
theorem cK{L4:List (Addr×Obj)}{σ:St}{H:Hp}{s:Shared}{b:Bool}{a c:Addr}{xs:List V}(I:Inv X L4 σ H s)(h:kC X.K H b a xs)(f:lD X L4 H c):a≠c:=by
 have rd:∀ {u:HO},Rd H a u->a≠c:=λ{u} r=>by
  rcases r with r | ⟨o,r⟩
  ·exact bW r f.1
  ·exact bW r f.1
 have mk:∀ {o:Obj},X.K.lookup a=some o->a≠c:=λ{o} e z=>by
  subst z
  have e':=I.ok.mod.EO _ _ e
  rcases f.2.2.2.1 with q | q
  ·exact I.ok.zd _ _ e' q
  ·exact absurd (Nat.lt_of_lt_of_le (Heap.lt_size (I.ok.bs _ _ e').1) q) (Nat.lt_irrefl _)
 cases b with
 | true =>
  rcases(show iw X.K H a xs from h) with r | ⟨o,L7,n,e,_⟩
  ·exact rd r
  ·exact mk e
 | false =>
  rcases(show gB X.K H a xs from h) with r | ⟨o,L7,n,e,_⟩
  ·exact rd r
  ·exact mk e
def Ku (K : PySem.W.Frag) (b1 b2 : Bool) (a1 a2 : Addr) : It :=
  ⟨λi H => ∃ xs ys x y, kC K H b1 a1 xs /\ kC K H b2 a2 ys /\ xs[i]? = some x /\ ys[i]? = some y,
   λi H v H' => ∃ p x y, H p = none /\ v = .ref p /\ H' = upd H p (.tup [x, y]) /\ (∀ xs, kC K H b1 a1 xs -> xs[i]? = some x) /\ (∀ ys, kC K H b2 a2 ys -> ys[i]? = some y),
   λi H => ∃ xs ys, kC K H b1 a1 xs /\ kC K H b2 a2 ys /\ (xs.length <= i \/ ys.length <= i)⟩
theorem zK{P:Program}{w:World}{K:PySem.W.Frag}{elts:List Expr}{x1:Nat}{tp:Pos}(b1 b2:Bool)(a1 a2 z TI TO i1 i2:Addr)(D:TI≠z/\TO≠z/\i1≠z/\i2≠z/\TI≠TO/\TI≠i1/\TI≠i2/\TO≠i1/\TO≠i2/\i1≠i2) :
  Turn P w K (.Tuple elts x1 tp) (Ku K b1 b2 a1 a2) [z,TO,i1,i2,TI] z (λi h=>IsZip h z TI TO .none/\IsPair h TI (.ref i1) (.ref i2)/\(∃ a b,IsPair h TO a b)/\eN h b1 i1 a1 i/\eN h b2 i2 a2 i) where
 mem:=by simp
 obj:=λi h st b hb=>by
  obtain⟨hz,MK,⟨a,c,MN⟩,h1,h2⟩:=st
  simp only[List.mem_cons,List.mem_nil_iff,or_false] at hb
  rcases hb with q | q | q | q | q <;> subst q
  ·exact⟨_,hz,λv z=>by cases z⟩
  ·exact⟨_,MN,λv z=>by cases z⟩
  ·obtain⟨o,vs,e,d⟩:=h1.obj
   exact⟨o,e,λv z=>by rw[d] at z;cases z⟩
  ·obtain⟨o,vs,e,d⟩:=h2.obj
   exact⟨o,e,λv z=>by rw[d] at z;cases z⟩
  ·exact⟨_,MK,λv z=>by cases z⟩
 keep:=λi h h' st k=>by
  obtain⟨hz,MK,⟨a,c,MN⟩,h1,h2⟩:=st
  exact⟨k z (by simp) _ hz,k TI (by simp) _ MK,⟨a,c,k TO (by simp) _ MN⟩,h1.at λo e=>k i1 (by simp) o e,h2.at λo e=>k i2 (by simp) o e⟩
 item:=by
  intro X hP hw hK hc i L4 s σ H E I hf st hg
  subst hP hw hK
  obtain⟨xs,ys,x,y,ML,MF,hx,hy⟩:=hg
  obtain⟨Oi,OG,p1,PC⟩:=I.row ML
  obtain⟨NC,OH,p2,PD⟩:=I.row MF
  obtain⟨u1,hu1,ru1⟩:=OG.get hx
  obtain⟨u2,hu2,ru2⟩:=OH.get hy
  obtain⟨hz,MK,⟨a,c,MN⟩,h1,h2⟩:=st
  obtain⟨d1,d2,d3,d4,d5,d6,d7,d8,d9,d10⟩:=D
  obtain⟨o1,n1,e1,dd1⟩:=p1.obj
  obtain⟨o2,n2,e2,Pd⟩:=p2.obj
  obtain⟨oi1,vs1,Pf,di1⟩:=h1.obj
  obtain⟨oi2,vs2,Pg,di2⟩:=h2.obj
  have D:ZipApart z TI TO i1 i2 a1 a2:=⟨d1,d2,d3,d4,d5,d6,d7,d8,d9,d10,cK I ML (hf z (by simp)),cK I ML (hf TO (by simp)),cK I ML (hf i1 (by simp)),cK I ML (hf i2 (by simp)),
   cK I MF (hf z (by simp)),cK I MF (hf TO (by simp)),cK I MF (hf i1 (by simp)),cK I MF (hf i2 (by simp))⟩
  refine mw D hz MK MN h1 h2 p1 p2 (x:=u1) (y:=u2) (by simpa using hu1) (by simpa using hu2) λh' g1 g2 g3 g4 g5 g6 g7=>⟨_,rfl,?_⟩
  refine wpAny_letOwnedTupleGo_zip (s:={ s with heap:=h' }) g1 λh3 hz3 NY=>?_
  have Nl:H s.heap.objs.size=none:=I.bK.fresh (Nat.le_refl _)
  have lt:∀ {c:Addr} {o:Obj},s.heap.get? c=some o->c≠s.heap.objs.size:=λe=>Nat.ne_of_lt (Heap.lt_size e)
  have Ol:∀ b o,b ∉ [z,TO,i1,i2,TI]->s.heap.get? b=some o->h3.get? b=some o:=λb o hb q=>by
   simp only[List.mem_cons,List.mem_nil_iff,or_false,not_or] at hb
   exact(NY.2 b hb.1).trans (g7 b o hb.1 hb.2.1 hb.2.2.1 hb.2.2.2.1 q)
  have hT3:h3.get? s.heap.objs.size=some { cls:=.type "tuple", data:=.seq #[u1,u2] }:=(NY.2 _ (lt hz).symm).trans g5
  have I3:Inv X L4 σ (upd H s.heap.objs.size (.tup [x,y])) { s with heap:=h3,toks:=s.toks } :=
   I.j3 (ch:=[z,TO,i1,i2,TI]) Ol hf (Nat.le_refl _) (λb hb=>by
    simp only[List.mem_cons,List.mem_nil_iff,or_false] at hb
    rcases hb with q | q | q | q | q <;> subst q
    ·exact⟨_,hz⟩
    ·exact⟨_,MN⟩
    ·exact⟨_,Pf⟩
    ·exact⟨_,Pg⟩
    ·exact⟨_,MK⟩)
    ⟨by show 2<=sizeLine;decide,[u1,u2],.cons ru1 (.cons ru2 .nil),⟨_,hT3,rfl,_,rfl⟩⟩
  refine⟨.ref s.heap.objs.size,_,I3,rfl,⟨_,x,y,Nl,rfl,rfl,λzs OF=>by rw[I.lN OF ML];exact hx,λzs OF=>by rw[I.lN OF MF];exact hy⟩,
   ⟨hz3,(NY.2 TI d1).trans (g7 TI _ d1 d5 d6 d7 MK),⟨_,_,(NY.2 TO d2).trans g2⟩,g3.at λo e=>(NY.2 i1 d3).trans e,g4.at λo e=>(NY.2 i2 d4).trans e⟩,λb hb=>?_⟩
  have nb:b≠s.heap.objs.size:=by
   simp only[List.mem_cons,List.mem_nil_iff,or_false] at hb
   rcases hb with q | q | q | q | q <;> subst q
   ·exact lt hz
   ·exact lt MN
   ·exact lt Pf
   ·exact lt Pg
   ·exact lt MK
  rw[aw nb]
  exact(hf b hb).1
 done:=by
  intro X hP hw hK hc i L4 s σ H E I hf st hg
  subst hP hw hK
  obtain⟨xs,ys,ML,MF,Nu⟩:=hg
  obtain⟨Oi,OG,p1,PC⟩:=I.row ML
  obtain⟨NC,OH,p2,PD⟩:=I.row MF
  obtain⟨hz,MK,⟨a,c,MN⟩,h1,h2⟩:=st
  obtain⟨d1,d2,d3,d4,d5,d6,d7,d8,d9,d10⟩:=D
  have D:ZipApart z TI TO i1 i2 a1 a2:=⟨d1,d2,d3,d4,d5,d6,d7,d8,d9,d10,cK I ML (hf z (by simp)),cK I ML (hf TO (by simp)),cK I ML (hf i1 (by simp)),cK I ML (hf i2 (by simp)),
   cK I MF (hf z (by simp)),cK I MF (hf TO (by simp)),cK I MF (hf i1 (by simp)),cK I MF (hf i2 (by simp))⟩
  have l1:=OG.length
  have l2:=OH.length
  refine nr (I.ok.hd hc) D hz MK MN h1 h2 p1 p2 ?_ λh' k=>⟨rfl,?_⟩
  ·rcases Nu with q | q
   ·exact .inl (by simp;omega)
   ·exact .inr (by simp;omega)
  ·exact I.xt (t':=s.toks) (ch:=[z,TO,i1,i2,TI]) (λb u hb e=>by
    simp only[List.mem_cons,List.mem_nil_iff,or_false,not_or] at hb
    exact k b u hb.1 hb.2.1 hb.2.2.1 hb.2.2.2.1 e) hf
 self:=λ_ _ _ _ _ st h=>by
  obtain⟨hz,_⟩:=st
  exact wpAny_pyIter_zip hz h
theorem G0(n:Nat):n+2≠n+4/\n+3≠n+4/\n≠n+4/\n+1≠n+4/\n+2≠n+3/\n+2≠n/\n+2≠n+1/\n+3≠n/\n+3≠n+1/\n≠n+1:=by
 refine⟨?_,?_,?_,?_,?_,?_,?_,?_,?_,?_⟩ <;> omega
def Iq(K:PySem.W.Frag)(tl:TA):TI:=fun σ H R=>tl σ H λvs H1=>∃ b1 b2 a1 a2,vs=[.ref a1,.ref a2]/\(∃ xs,kC K H1 b1 a1 xs)/\(∃ ys,kC K H1 b2 a2 ys)/\R (Ku K b1 b2 a1 a2) H1
theorem iM{elts:List Expr}{x1:Nat}{tp:Pos}{l1 l2:Expr}{tl:TA}{p pos:Pos}(hg:Gl X "zip")(hm:X.mg "zip" = none)(hl:PA X [l1,l2] tl)(hs:autoParam (starEach [l1,l2] X.env=[(false,eval l1 X.env),(false,eval l2 X.env)]) aR._auto_1)(Nm:autoParam (starEach [l2] X.env=[(false,eval l2 X.env)]) aR._auto_1) :
  PI X (.Tuple elts x1 tp) (.Call (.Name "zip" p) [l1,l2] [] pos) (Iq X.K tl):=by
 intro L4 s σ H R I h
 refine Call_ (jn I hg hm PyProof.Rows.boot_zip (PyProof.Rows.callWith_type1 (c7 (hl pos L4 s σ H _ I h) λus s1 ⟨vs,H1,I1,r1,q1⟩=>?_) (by rw[hs,Nm]) (by rw[Nm];rfl)))
 obtain⟨b1,b2,a1,a2,e,⟨xs,ML⟩,⟨ys,MF⟩,q⟩:=q1
 subst e
 cases r1 with
 | cons r rr =>
  cases rr with
  | cons r' rr =>
   cases rr
   cases (show _=Value.ref a1 from r)
   cases (show _=Value.ref a2 from r')
   obtain⟨Oi,OG,p1,PC⟩:=I1.row ML
   obtain⟨NC,OH,p2,PD⟩:=I1.row MF
   refine yT p1 p2 λh' g1 g2 g3 g4 g5 g6 g7=>?_
   have I2:Inv X L4 σ H1 { s1 with heap:=h' }:=I1.kept (t':=s1.toks) g7
   refine wpAny_pyIter_zip (s:={ s1 with heap:=h' }) g1 ?_
   refine⟨s1.heap.objs.size+4,[s1.heap.objs.size+4,s1.heap.objs.size+3,s1.heap.objs.size,s1.heap.objs.size+1,s1.heap.objs.size+2],_,_,H1,rfl,I2,
    zK b1 b2 a1 a2 _ _ _ _ _ (G0 s1.heap.objs.size),⟨g1,g2,⟨_,_,g3⟩,g4,g5⟩,λb hb=>?_,q⟩
   have hle:s1.heap.objs.size<=b:=by
    simp only[List.mem_cons,List.mem_nil_iff,or_false] at hb
    rcases hb with q | q | q | q | q
    ·rw[q];exact Nat.le_add_right _ 4
    ·rw[q];exact Nat.le_add_right _ 3
    ·rw[q];exact Nat.le_refl _
    ·rw[q];exact Nat.le_add_right _ 1
    ·rw[q];exact Nat.le_add_right _ 2
   exact I1.sI hle (I1.bK.fresh hle)
end
end L2
namespace L2
open PySem PySem.Spec PyProof.Rows
def JY(K:PySem.W.Frag)(b:Bool)(a:Addr):It:=match b with
 | true=>Lq K a
 | false=>Ln K a
section
variable{X:Cx}{tg:Expr}
def HM(K:PySem.W.Frag)(tl:TE):TI:=fun σ H R=>tl σ H λx H1=>∃ b a,x=.ref a/\(∃ xs,kC K H1 b a xs)/\R (JY K b a) H1
theorem eQ{l:Expr}{tl:TE}(hl:PE X l tl):PI X tg l (HM X.K tl):=by
 intro L4 s σ H R I h
 refine c7 (hl L4 s σ H _ I h) λv s1 ⟨x,H1,I1,r1,q1⟩=>?_
 obtain⟨b,a,e,⟨xs,hq⟩,q⟩:=q1
 subst e
 cases r1
 cases b with
 | true =>
  obtain⟨L7,rv,p,hz⟩:=I1.list hq
  refine wpAny_pyIter_list p.isList ?_
  refine⟨s1.heap.objs.size,[s1.heap.objs.size],_,_,H1,rfl,I1.kept (t':=s1.toks) λb o e=>Heap.get?_push_of_some _ e,xK a _,⟨_,Heap.get?_push_size _ rfl,rfl,rfl⟩,λb hb=>?_,q⟩
  have e:b=s1.heap.objs.size:=by simpa using hb
  subst e
  exact I1.sI (Nat.le_refl _) (I1.bK.fresh (Nat.le_refl _))
 | false =>
  obtain⟨L7,rv,p,hz⟩:=I1.tuple hq
  refine wpAny_pyIter_tuple (show s1.heap.IsTuple a L7.toArray from p) ?_
  refine⟨s1.heap.objs.size,[s1.heap.objs.size],_,_,H1,rfl,I1.kept (t':=s1.toks) λb o e=>Heap.get?_push_of_some _ e,vp a _,⟨_,Heap.get?_push_size _ rfl,rfl,rfl⟩,λb hb=>?_,q⟩
  have e:b=s1.heap.objs.size:=by simpa using hb
  subst e
  exact I1.sI (Nat.le_refl _) (I1.bK.fresh (Nat.le_refl _))
end
section
end
section
variable{X:Cx}
theorem yI(hc:X.calm=true):eC X (.builtin "sum") (λxs H Q=>∃ (a:Addr) (ns:List Int),xs=[.ref a]/\iw X.K H a (ns.map V.int)/\Q (.int ns.sum) H):=by
 intro L4 s σ H xs us Q I r h
 obtain⟨a,ns,rfl,hq,q⟩:=h
 cases r with
 | cons r1 r2 =>
  cases r2
  cases (show _=Value.ref a from r1)
  obtain⟨L7,rv,p,hz⟩:=I.list hq
  have hi:=intsAre_of rv
  obtain⟨xs',e⟩:=hi.allInts.items
  have e3:numsOf (intItems xs').toList=ns:=by rw[← e];exact hi.numsOf
  rw[nums_intItems] at e3
  refine sum_intListG (I.ok.hd hc) (by rw[← e];exact p.isList) λh' tk t' hk=>⟨.int ns.sum,H,I.kept (t':=tk) hk,⟨t',?_⟩,q⟩
  rw[preSum_eq,List.take_of_length_le (by simp),e3]
end
end L2
namespace L2
open PySem PySem.Spec PyProof.Rows
structure iR (K:PySem.W.Frag) (C:Addr):Prop where
 ga:PySem.W.findIn K (.ref C) "__getattribute__" = some (some (.builtin "BaseException.__getattribute__"))
 gn:PySem.W.findIn K (.ref C) "__getattr__" = some none
 hd:PySem.W.hasDictIn K C=true
 sa:PySem.W.findIn K (.ref C) "__setattr__" = some (some (.builtin "object.__setattr__"))
 mb:PySem.W.mroIn K C (.type "BaseException")=some true
 mo:PySem.W.mroIn K C (.type "object")=some true
 ca:PySem.W.findIn K (.ref C) "__class__" = some (some (.builtin "object.__class__"))
 cg:PySem.W.specialIn K (.builtin "object.__class__") "__get__" = some (some (.builtin "getset_descriptor.__get__"))
 ct:PySem.W.takesIn K (.builtin "object.__class__")=some true
section
variable{prog:Program}{w:World}{A:Around}{E:Value->Shared->Prop}{s:Shared}{K:PySem.W.Frag}{x C:Addr}{ox:Obj}{od:Option Obj}{name:Str}
theorem Bb:builtinKind "BaseException.__getattribute__" = some .slot:=by decide +kernel
theorem yK:splitId "BaseException.__getattribute__" = some ("BaseException", "__getattribute__"):=by decide +kernel
theorem G_{tk:Tok}{fill expr:Bool}{Q:Value->Shared->Prop}(c:iR K C)(X:K.In s.heap)(I:PySem.W.InstAt s.heap x ox C od)
  (h:wpAny (model prog w) A.in1 (Builtin.«object.__getattribute__» ⟨[.ref x,.str name tk],[]⟩)
   (λfin s'=>match fin with | .done (.ret v)=>wpAny (model prog w) A (handedOut v) Q E s' | _=>False) (λ_ _=>False) s) :
  wpAny (model prog w) A (getAttrBy (.ref x) (.str name tk) fill expr) Q E s:=by
 have PB:(Value.builtin "BaseException.__getattribute__" == Value.builtin "object.__getattribute__")=false:=by decide +kernel
 have Pa:(onTheHeap (Value.ref C)&&Value.builtin "BaseException.__getattribute__" == Value.builtin "object.__getattribute__")=false:=by rw[PB];rfl
 have hx0:(expr&&onTheHeap (Value.builtin "BaseException.__getattribute__"))=false:=by cases expr <;> rfl
 have sub:PySem.W.Looks (model prog w) s.heap (isInstance (.ref x) (.type "BaseException")) true:=I.type.andThen (PySem.W.looks_mroIn X c.mb)
 unfold getAttrBy
 refine wpAny_holding (wpAny_bind (I.type.here (wpAny_bind ((PySem.W.looks_findIn X c.ga).here ?_))))
 dsimp only
 rw[Pa,if_neg Bool.false_ne_true]
 unfold getAttrByItsOwn hookBefore
 refine wpAny_bind ?_
 show wpAny _ _ (typeLookup (.ref C) "__getattr__") _ _ _
 refine(PySem.W.looks_findIn X c.gn).here ?_
 refine wpAny_bind (wpAny_attempt (wpAny_holding ?_))
 unfold callGetattribute
 rw[hx0,if_neg Bool.false_ne_true]
 unfold boundAndCalled
 refine wpAny_bind (wpAny_of_eq (PySem.F.attr_ValueError.ga.bind _) ?_)
 refine wpAny_call (codeAny_call_builtin PySem.F.attr_ValueError.ga.plain PySem.F.entry_bexc_ga (@PySem.W.check_slot (model prog w) _ _ s "BaseException.__getattribute__" "BaseException" "__getattribute__" (.ref x) [.str name tk] [] _ Bb yK sub (PySem.F.args_bexc_ga _ _) ?_))
 refine wpAny_mono h (λfin s' z=>?_) (λ_ _ z=>z.elim)
 rcases fin with (v | _ | _ | _) | _ <;> first | exact z | exact z.elim
end
end L2
namespace L2
open PySem PySem.Spec PyProof.Rows
open PySem.Builtin.ObjectAttr (storeInOwnDict storeTaker? setByDescriptor)
abbrev fD:List Value:=[.type "ValueError", .type "Exception", .type "BaseException", .type "object"]
def gC:List Value->Bool
 | .ref _::r=>gC r
 | l=>l==fD
theorem pH(self:Value):refuseLoop self "__setattr__" fD=pure ():=by kernel_rfl
theorem mY(self:Value):∀ {l:List Value},gC l=true->refuseLoop self "__setattr__" l=pure ()
 | .ref c::r,e=>by rw[PySem.refuseLoop_ref];exact mY self e
 | [],e=>by cases (show false=true from e)
 | .type n::r,e=>by rw[show Value.type n::r=fD from beq_iff_eq.mp e];exact pH self
 | .none::r,e=>by rw[show Value.none::r=fD from beq_iff_eq.mp e];exact pH self
section
variable{prog:Program}{w:World}{A:Around}{E:Value->Shared->Prop}{s:Shared}{K:PySem.W.Frag}{x C:Addr}{ox:Obj}{od:Option Obj}{name:Str}
theorem qj{a g:Value}(hc:(PySem.W.clsIn K C).isSome=true)(ha:PySem.W.findIn K (.ref C) name=some (some a))(hg:PySem.W.specialIn K a "__get__" = some (some g))(ht:PySem.W.takesIn K a=some true):PySem.W.findObj K C od name=some (.bind g a):=by
 obtain⟨cd,hc⟩:=Option.isSome_iff_exists.mp hc
 unfold PySem.W.findObj
 rw[hc,Option.bind_some,ha,Option.bind_some]
 simp[hg,ht]
theorem x_{Q:Option Value->Shared->Prop}(c:iR K C)(X:K.In s.heap)(I:PySem.W.InstAt s.heap x ox C od)(h:Q (some (.ref C)) { s with toks:=s.toks+1 }):wpAny (model prog w) A (getAttr? (.ref x) "__class__") Q E s:=by
 have hc:(PySem.W.clsIn K C).isSome=true:=by obtain⟨cd,hc,_⟩:=PySem.W.any_some c.hd;rw[hc];rfl
 have hf:PySem.W.findObj K C od "__class__" = some (.bind (.builtin "getset_descriptor.__get__") (.builtin "object.__class__")):=qj hc c.ca c.cg c.ct
 unfold getAttr? getAttrBy?
 refine wpAny_bind (wpAny_mkText (wpAny_bind (wpAny_attempt ?_)))
 refine G_ (s:={ s with toks:=s.toks+1 }) c X I ?_
 unfold Builtin.«object.__getattribute__»
 refine wpAny_bind (wpAny_pure ?_)
 dsimp only
 refine wpAny_bind (wpAny_pure ?_)
 refine wpAny_bind (I.type.here (s:={ s with toks:=s.toks+1 }) (wpAny_bind ((PySem.W.looks_find X I hf).here (s:={ s with toks:=s.toks+1 }) ?_)))
 show wpAny _ _ (holding [.builtin "object.__class__"] (call (.builtin "getset_descriptor.__get__") [.builtin "object.__class__", .ref x,.ref C]) >>= ret) _ _ _
 refine wpAny_bind (wpAny_holding (wpAny_call (PySem.W.class_get (s:={ s with toks:=s.toks+1 }) (ox:=ox) (od:=od) X I c.mo ?_)))
 refine wpAny_pure ?_
 exact PySem.W.handed_on rfl (wpAny_pure h)
theorem vb(c:iR K C):PySem.W.KitX K (.ref x) (.ref C) (λh=>PySem.W.InstAt h x ox C od) where
 ty:=λ_ _ _ I=>I.type
 it:=λ_ _ X _=>by
  obtain⟨cdD,N_,_⟩:=PySem.W.any_some c.hd
  unfold PySem.W.clsIn at N_
  split at N_
  ·rename_i c' d' cd' sl' ho
   intro A' Q' E' s' k q
   unfold isType loadHead
   exact wpAny_bind (wpAny_loadPart (k _ _ (X _ _ ho)) (wpAny_pure q))
  ·cases N_
 ne:=λh tp dd L7 n sl X htp=>by
  obtain⟨cdD,N_,_⟩:=PySem.W.any_some c.hd
  refine Bool.eq_false_iff.mpr λq=>?_
  have e:C=tp:=Value.ref.inj (beq_iff_eq.mp q)
  subst e
  unfold PySem.W.clsIn at N_
  split at N_
  ·rename_i c' d' cd' sl' ho
   have z:=(X _ _ ho).symm.trans htp
   cases z
  ·cases N_
 ca:=λX I k=>x_ c X I k
theorem Ee{tk:Tok}{v:Value}{R:Result->Shared->Prop}(po:((PySem.W.clsIn K C).any λcd=>gC cd.mro)=true)(c:iR K C)(X:K.In s.heap)(I:PySem.W.InstAt s.heap x ox C od)(ht:PySem.W.takerIn K C name=some none)
  (h:∀ b,wpAny (model prog w) A.in1 (storeInOwnDict (.ref x) (.ref C) (.str name tk) name v b)
   (λfin s'=>match fin with | .done f=>R (.ok f) s' | .again c'=>c'.quiet=true/\codeAny (model prog w) A c' R s') (λe s'=>R (.error e) s') s) :
  codeAny (model prog w) A (.call (.builtin "object.__setattr__") ⟨[.ref x,.str name tk,v],[]⟩) R s:=by
 have SF:=PySem.F.store_object
 obtain⟨cd,hc,ho⟩:=PySem.W.any_some po
 have sub:PySem.W.Looks (model prog w) s.heap (isInstance (.ref x) (.type "object")) true:=I.type.andThen (PySem.W.looks_mroIn X c.mo)
 refine codeAny_call_builtin SF.slot.plain SF.entry (@PySem.W.check_slot (model prog w) _ _ s "object.__setattr__" "object" "__setattr__" (.ref x) [.str name tk,v] [] _ SF.kind SF.split sub (SF.args (.ref x) (.str name tk) v) ?_)
 obtain⟨attr,ha,hr⟩:=Option.bind_eq_some_iff.mp ht
 have hm:PySem.W.Looks (model prog w) s.heap (mroOf (.ref C)) cd.mro:=(PySem.W.looks_clsIn X hc).andThen .now
 have L3:PySem.W.Looks (model prog w) s.heap (storeTaker? attr) none:=by
  cases attr with
  | none=>cases hr;exact .now
  | some a =>
   obtain⟨b,hb,e⟩:=Option.map_eq_some_iff.mp hr
   refine(PySem.W.looks_takesIn X hb).andThen ?_
   cases b with
   | true=>cases e
   | false=>exact .now
 rw[PySem.W.osa_eq,PySem.refuse_eq]
 refine wpAny_bind (wpAny_bind (I.type.here (wpAny_bind (hm.here ?_))))
 rw[mY _ ho]
 refine wpAny_pure (wpAny_bind (I.type.here (wpAny_bind ((PySem.W.looks_findIn X ha).here (wpAny_bind (L3.here ?_))))))
 exact h _
theorem Bn{vs:Array Value}{v:Value}{Q:Unit->Shared->Prop}(po:((PySem.W.clsIn K C).any λcd=>gC cd.mro)=true)(c:iR K C)(X:K.In s.heap)(hx:s.heap.get? x=some ⟨.ref C,none,.fields vs,#[]⟩)(ht:PySem.W.takerIn K C name=some none)
  (h:∀ h' tk d,h'.get? x=some ⟨.ref C,some d,.fields vs,#[]⟩->s.heap.get? d=none->h'.Ns1 d (λy=>if y=name then some v else none)->(∀ b o,b≠x->s.heap.get? b=some o->h'.get? b=some o)->Q () { s with heap:=h',toks:=tk }) :
  wpAny (model prog w) A (setAttr (.ref x) name v) Q E s:=by
 have I:PySem.W.InstAt s.heap x ⟨.ref C,none,.fields vs,#[]⟩ C none:=⟨hx,rfl,rfl,trivial⟩
 refine PySem.W.set_plain X I c.sa (Ee (s:={ s with toks:=s.toks+1 }) po c X I ht λb=>?_)
 obtain⟨cd,hc,Pk⟩:=PySem.W.any_some c.hd
 have MS:=Heap.lt_size hx
 refine wpAny_bind (wpAny_pure (wpAny_bind (wpAny_bind (wpAny_loadPart hx (wpAny_bind (PySem.W.Looks.here (s:={ s with toks:=s.toks+1 }) (PySem.W.looks_clsIn X hc) ?_))))))
 rw[Pk]
 refine wpAny_bind (wpAny_alloc ?_)
 have Pa:(s.heap.push { cls:=.type "dict", data:=.dict #[] }).get? x=some ⟨.ref C,none,.fields vs,#[]⟩:=Heap.get?_push_of_some _ hx
 refine wpAny_bind (wpAny_update Pa ?_)
 refine wpAny_pure (a:=some s.heap.objs.size) (wpAny_bind (wpAny_pure (wpAny_bind ?_)))
 have PB:((s.heap.push { cls:=.type "dict", data:=.dict #[] }).update x λo=>{ o with dict:=some s.heap.objs.size }).get? x=some ⟨.ref C,some s.heap.objs.size,.fields vs,#[]⟩:=Heap.get?_update_self _ Pa rfl
 have e1:(s.heap.push { cls:=.type "dict", data:=.dict #[] }).get? s.heap.objs.size=some { cls:=.type "dict", data:=.dict #[] }:=Heap.get?_push_size s.heap rfl
 have nxd:s.heap.objs.size≠x:=Nat.ne_of_gt MS
 have e2:((s.heap.push { cls:=.type "dict", data:=.dict #[] }).update x λo=>{ o with dict:=some s.heap.objs.size }).get? s.heap.objs.size=some { cls:=.type "dict", data:=.dict #[] }:=by
  rw[Heap.get?_update_other _ _ (Ne.symm nxd)]
  exact e1
 have e3:((s.heap.push { cls:=.type "dict", data:=.dict #[] }).update x λo=>{ o with dict:=some s.heap.objs.size }).Ns s.heap.objs.size (λ_=>none):=⟨_,#[],_,e2,rfl,(λe he=>absurd he (by simp)),λ_=>rfl⟩
 refine wpAny_nsSet1 (s:={ s with heap:=(s.heap.push { cls:=.type "dict", data:=.dict #[] }).update x λo=>{ o with dict:=some s.heap.objs.size },toks:=s.toks+1 }) (Heap.Ns1.of_empty e3) λh' OE Nm=>?_
 obtain⟨oD,esD,epD,hoD,hdD,N_⟩:=OE.count (PySem.Within.cons (ns:=[]) name v (λy hy=>absurd rfl hy))
 refine wpAny_bind (wpAny_lookBehind hoD (by rw[hdD];exact pastItsLine_dict (Nat.le_trans N_ (by show 1<=sizeLine+1;exact Nat.le_add_left _ _))) ?_)
 refine wpAny_pure (h h' _ s.heap.objs.size ((Nm.2 x (Ne.symm nxd)).trans PB) (Heap.get?_none_of_le (Nat.le_refl _)) OE λb o hb e=>?_)
 refine(Nm.2 b (Nat.ne_of_lt (Heap.lt_size e))).trans ?_
 rw[Heap.get?_update_other _ _ (Ne.symm hb)]
 exact Heap.get?_push_of_some _ e
end
def oM(K:PySem.W.Frag)(C:Addr)(newId:String)(f:Addr):Bool:=match K.lookup C with
 | some ⟨.type "type", _,.cls cd,sl⟩=>(match cd.mro,sl.toList with
  | .ref C'::bm,[_,_,_,_,some (.builtin n),_]=>C'==C&&n==newId&&!cd.hasDel&&PySem.W.tailIn K fD bm&&PySem.W.nsOkIn K cd.ns&&PySem.W.nsIn K cd.ns "__init__" == some (some (.ref f))
  | _,_=>false)
 | _=>false
section
variable{prog:Program}{w:World}{A:Around}{E:Value->Shared->Prop}{h:Heap}{g:Array GenState}{d:Drawn}{t:Nat}{os:OsState}
variable{nm q:Str}{C N:Addr}{bs bm:List Value}{NN:Bool}{sn:List Str}{sub:List Value}{ab:Bool}{col:Option Bool}{dd:Option Addr}{k0 k1 k2 k3 k5:Option Value}{newId OY:String}
theorem pI(F:ExcBaseFacts "ValueError" newId OY fD)(T:OwnTail h fD bm){mN:Str->Option Value}{rest:List Value}{f:Addr}{Q:Fin->Shared->Prop}
  (hC:h.get? C=some (excClassObj nm q C N bs bm NN sn sub ab col dd k0 k1 k2 k3 k5 newId)) (hn:h.Ns N mN) (N3:mN "__init__" = some (.ref f))
  (hb:∀ h':Heap,(∀ b o,h.get? b=some o->h'.get? b=some o)->∀ self,PySem.W.Looks (model prog w) h' (bindSpecial (.ref f) self) (.ref f,[self]))
  (hq:∀ h':Heap,(∀ b o,h.get? b=some o->h'.get? b=some o)->h'.get? h.objs.size=some { cls:=.type "tuple", data:=.seq rest.toArray } ->
   h'.get? (h.objs.size+1)=some { cls:=.ref C,data:=.fields #[.ref h.objs.size,.none,.none,.none,.bool false,.none] }->h'.objs.size=h.objs.size+2 ->
   wpAny (model prog w) A (call (.ref f) (.ref (h.objs.size+1)::rest)) (λv s'=>v=.none/\Q (.done (.ret (.ref (h.objs.size+1)))) s') E ⟨h',g,d,t,os⟩) (Ap:rest.length<=sizeLine:=by size_fits) :
  wpAny (model prog w) A (Builtin.«type.__call__» ⟨.ref C::rest,[]⟩) Q E ⟨h,g,d,t,os⟩:=by
 repeat (first | with_reducible refine wpAny_loadPart_at hC ?_ | with_reducible refine wpAny_madeBy_exc hC ?_ | wp_step)
 refine codeAny_call_builtin_code (Code.quiet_builtin _ F.quiet) (wpAny_check_new_subT F T hC ?_)
 refine codeAny_exc_new_subT F T hC ?_ Ap
 show wpAny _ _ _ _ _ _
 have kp:∀ b o,h.get? b=some o->((h.push { cls:=.type "tuple", data:=.seq rest.toArray }).push { cls:=.ref C,data:=.fields #[.ref h.objs.size,.none,.none,.none,.bool false,.none] }).get? b=some o:=λb o e=>Heap.get?_push_of_some _ (Heap.get?_push_of_some _ e)
 have hC1:=kp _ _ hC
 have hn₁:((h.push { cls:=.type "tuple", data:=.seq rest.toArray }).push { cls:=.ref C,data:=.fields #[.ref h.objs.size,.none,.none,.none,.bool false,.none] }).Ns N mN:=hn.keeps kp
 have Po:((h.push { cls:=.type "tuple", data:=.seq rest.toArray }).push
   { cls:=.ref C,data:=.fields #[.ref h.objs.size,.none,.none,.none,.bool false,.none] }).get? (h.objs.size+1)=some
   { cls:=.ref C,data:=.fields #[.ref h.objs.size,.none,.none,.none,.bool false,.none] }:=by heap_get
 have htup:((h.push { cls:=.type "tuple", data:=.seq rest.toArray }).push
   { cls:=.ref C,data:=.fields #[.ref h.objs.size,.none,.none,.none,.bool false,.none] }).get? h.objs.size=some { cls:=.type "tuple", data:=.seq rest.toArray }:=Heap.get?_push_of_some _ (Heap.get?_push_size _ rfl)
 have Nv:((h.push { cls:=.type "tuple", data:=.seq rest.toArray }).push { cls:=.ref C,data:=.fields #[.ref h.objs.size,.none,.none,.none,.bool false,.none] }).objs.size=h.objs.size+2:=by rw[Heap.size_push,Heap.size_push]
 have hcC:(Value.ref C::bm).contains (.ref C)=true:=by simp
 have T₁:=T.keeps kp
 have hb1:=hb _ kp (.ref (h.objs.size+1))
 have fin:=hq _ kp htup Po Nv
 generalize ((h.push { cls:=.type "tuple", data:=.seq rest.toArray }).push { cls:=.ref C,data:=.fields #[.ref h.objs.size,.none,.none,.none,.bool false,.none] })=h1 at *
 unfold isInstance
 repeat (first | with_reducible refine wpAny_loadPart_at Po ?_ | (with_reducible refine wpAny_isSubtype_exc hC1 ?_;rw[hcC]) | wp_step)
 show wpAny _ _ (typeLookup (.ref C) _) _ _ _
 refine wpAny_typeLookup_tail hC1 hn₁ T₁ F.mroIs F.init.lookup ?_
 rw[N3]
 refine wpAny_holding (wpAny_bind (hb1.here ?_))
 refine wpAny_bind (wpAny_mono fin (λv s' z=>?_) λ_ _ z=>z)
 obtain⟨rfl,z⟩:=z
 wp_walk
 exact z
end
end L2
namespace L2
open PySem PySem.Spec PyProof.Rows
def jw(C:Addr)(dd:Option Addr)(e:Addr):HO:=.ext λh=>∃ vs,h.get? e=some ⟨.ref C,dd,.fields vs,#[]⟩
def ExcAt(H:Hp)(e C:Addr)(fo:Option (List (Str×V))):Prop:=match fo with
 | none=>H e=some (jw C none e)
 | some fs=>∃ d,H e=some (jw C (some d) e)/\H d=some (.xd fs)
section
variable{X:Cx}{L4:List (Addr×Obj)}{σ:St}{H:Hp}{s:Shared}
theorem Inv.BU(I:Inv X L4 σ H s){C e:Addr}{dd:Option Addr}(he:H e=some (jw C dd e)):∃ vs,s.heap.get? e=some ⟨.ref C,dd,.fields vs,#[]⟩:=(I.bK e _ he).1
theorem Inv.Cu(I:Inv X L4 σ H s){C e:Addr}{fo:Option (List (Str×V))}(h:ExcAt H e C fo):∃ ox od,PySem.W.InstAt s.heap e ox C od/\(fo=none->od=none) ∧
  ∀ fs,fo=some fs->∃ (o:Obj) (mA:Str->Option Value),od=some o/\(∀ n,PySem.W.lookIn n o=some (mA n))/\∀ f,l7 (fs.lookup f) (mA f):=by
 cases fo with
 | none =>
  obtain⟨vs,q⟩:=I.BU h
  exact⟨_,none,⟨q,rfl,rfl,trivial⟩,λ_=>rfl,λfs z=>(by cases z)⟩
 | some fs =>
  obtain⟨d,h1,h2⟩:=h
  obtain⟨vs,q⟩:=I.BU h1
  obtain⟨mA,n,r⟩:=(show ∃ mA,s.heap.Ns1 d mA/\∀ f,l7 (fs.lookup f) (mA f) from I.bK d _ h2)
  obtain⟨o,ho,hl⟩:=l9 n
  refine⟨_,some o,⟨q,rfl,rfl,ho⟩,λz=>(by cases z),λOK z=>?_⟩
  cases z
  exact⟨o,mA,rfl,hl,r⟩
theorem Inv.sA{a:Addr}(I:Inv X L4 σ H s)(hn:s.heap.get? a=none):H a=none:=by
 cases q:H a with
 | none=>rfl
 | some u =>
  exfalso
  have:∀ (u:HO),cv X.prog X.w H s.heap a u->∃ ob,s.heap.get? a=some ob:=by
   intro u
   induction u with
   | lst xs=>intro ⟨_,_,_,_,e⟩;exact⟨_,e⟩
   | tup xs=>intro ⟨_,_,_,p⟩;obtain⟨ob,e,_⟩:=p;exact⟨ob,e⟩
   | dK MT=>intro ⟨_,_,_,_,p⟩;obtain⟨ob,_,_,e,_⟩:=p;exact⟨ob,e⟩
   | dT MT=>intro ⟨_,_,_,_,ob,_,_,e,_⟩;exact⟨ob,e⟩
   | set S n=>intro p;obtain⟨es,ob,xs,ep,e,_⟩:=p;exact⟨_,e⟩
   | ins C dx fs=>intro ⟨_,_,_,e,_⟩;exact⟨_,e⟩
   | own x=>intro ⟨ob,e⟩;exact⟨ob,e⟩
   | xd fs=>intro ⟨mA,n,_⟩;obtain⟨ob,e,_⟩:=l9 n;exact⟨ob,e⟩
   | met f x=>intro e;exact⟨_,e⟩
   | iO lo hi=>intro ⟨_,_,_,e⟩;exact⟨_,e⟩
   | qo o u _=>intro ⟨e,_⟩;exact⟨_,e⟩
   | ED ps=>intro e;exact⟨_,e⟩
   | ext φ=>intro ⟨_,⟨ob,e⟩,_⟩;exact⟨ob,e⟩
  obtain⟨ob,e⟩:=this u (I.bK a u q)
  rw[hn] at e;cases e
theorem Inv.EB{h':Heap}{t':Nat}{a:Addr}{o:HO}(I:Inv X L4 σ H s)(k:∀ b u,s.heap.get? b=some u->h'.get? b=some u)(hn:s.heap.get? a=none)(new:cv X.prog X.w (upd H a o) h' a o) :
  Inv X L4 σ (upd H a o) { s with heap:=h',toks:=t' }:=by
 have ne:∀ b u,s.heap.get? b=some u->b≠a:=λb u e z=>by rw[z,hn] at e;cases e
 have Oc:H a=none:=I.sA hn
 have Om:∀ b u,H b=some u->b≠a:=λb u e z=>by rw[z,Oc] at e;cases e
 refine I.un ⟨λb u e _ _ _=>k b u e,λb u e _ _ _=>⟨u.slots,k b u e⟩,λb u e n _=>by rw[aw (ne b u e)];exact n,λb u e _=>⟨u,k b u e⟩,
  λb xs e=>by rw[aw (Om b _ e)];exact e,λb ob u e=>by rw[aw (Om b _ e)];exact e,λb ps e=>⟨#[],by rw[aw (Om b _ e),e];simp⟩⟩ λb u e=>?_
 by_cases z:b=a
 ·subst z
  rw[aA] at e
  cases e
  exact new
 ·rw[aw z] at e
  refine(I.bK b u e).nM (λc v _ q=>k c v q) (λc q=>?_) λc ys q=>?_
  ·rw[aw (Om c _ q)];exact q
  ·rw[aw (Om c _ q)];exact q
end
section
variable{X:Cx}{o:Expr}{ta:TE}{f m:Str}{pos apos:Pos}
def Ld(K:PySem.W.Frag):List V->Hp->VK->Prop:=λxs H Q=>∃ e C fo b,iR K C/\ExcAt H e C fo ∧
 ((∃ T,xs=[.ref e,.ty T]/\PySem.W.kitOne K (.ref C) (.type T)=some b)\/(∃ D,xs=[.ref e,.ref D]/\PySem.W.kitOne K (.ref C) (.ref D)=some b))/\Q (.bl b) H
theorem B9:eC X (.builtin "isinstance") (Ld X.K):=by
 intro L4 s σ H xs us Q I r h
 obtain⟨e,C,fo,b,c,ha,hc,q⟩:=h
 obtain⟨ox,od,J,_⟩:=I.Cu ha
 rcases hc with ⟨T,rfl,hk⟩ | ⟨D,rfl,hk⟩
 ·cases r with
  | cons r1 r2 =>
   cases r2 with
   | cons r3 r4 =>
    cases r4
    cases (show _=Value.ref e from r1)
    cases (show _=Value.type T from r3)
    exact PySem.W.kia_one (vb c) I.jV J hk (λz=>nomatch z) λtk=>⟨.bl b,H,I.tok tk,rfl,q⟩
 ·cases r with
  | cons r1 r2 =>
   cases r2 with
   | cons r3 r4 =>
    cases r4
    cases (show _=Value.ref e from r1)
    cases (show _=Value.ref D from r3)
    exact PySem.W.kia_one (vb c) I.jV J hk (λz=>nomatch z) λtk=>⟨.bl b,H,I.tok tk,rfl,q⟩
end
theorem vO{K:PySem.W.Frag}{h:Heap}{N:Addr}{mg:Str->Option Value}{n:Str}{v:Value}(X:K.In h)(G:h.Ns N mg)(e:PySem.W.nsIn K N n=some (some v)):mg n=some v:=by
 obtain⟨o,es,ep,ho,hd,_,hf⟩:=G
 unfold PySem.W.nsIn at e
 split at e
 ·rename_i c d es' n' sl q
  have:=X _ _ q
  rw[ho] at this
  cases this
  cases hd
  split at e
  ·rename_i en he
   cases e
   rw[← hf]
   unfold nsFind findBy
   rw[← Array.find?_toList,he]
   rfl
  ·split at e <;> cases e
 ·cases e
theorem CH{K:PySem.W.Frag}{h:Heap}{C:Addr}{newId:String}(X:K.In h)(q:PySem.W.excIn K C fD newId=true) :
  ∃ bm N nm qn bs NN sn sub ab col dd k0 k1 k2 k3 k5 mN,h.get? C=some (excClassObj nm qn C N bs bm NN sn sub ab col dd k0 k1 k2 k3 k5 newId)/\h.Ns N mN/\mN "__init__" = none/\OwnTail h fD bm:=by
 unfold PySem.W.excIn at q
 split at q
 ·rename_i dd cd sl ho
  split at q
  ·rename_i C' bm k0 k1 k2 k3 n k5 hm hs
   simp only[Bool.and_eq_true,beq_iff_eq,Bool.not_eq_true'] at q
   obtain⟨⟨⟨⟨⟨rfl,rfl⟩,Oa⟩,ht⟩,bK⟩,N3⟩:=q
   obtain⟨nm,bs,mro,ns,qn,hd,sn,sub,ab,col,del⟩:=cd
   dsimp only at hm Oa bK N3
   subst hm Oa
   have hsl:sl=#[k0,k1,k2,k3,some (.builtin n),k5]:=by
    obtain⟨l⟩:=sl
    simp only at hs
    rw[hs]
   subst hsl
   exact⟨bm,ns,nm,qn,bs,hd,sn,sub,ab,col,dd,k0,k1,k2,k3,k5,_,X _ _ ho,.of_isNs (PySem.W.isNs_of_in X bK),PySem.W.nsMap_none_of_in X bK N3,PySem.W.tail_of_in X ht⟩
  ·cases q
 ·cases q
theorem zT{K:PySem.W.Frag}{h:Heap}{C f:Addr}{newId:String}(X:K.In h)(q:oM K C newId f=true) :
  ∃ bm N nm qn bs NN sn sub ab col dd k0 k1 k2 k3 k5 mN,h.get? C=some (excClassObj nm qn C N bs bm NN sn sub ab col dd k0 k1 k2 k3 k5 newId)/\h.Ns N mN/\mN "__init__" = some (.ref f)/\OwnTail h fD bm:=by
 unfold oM at q
 split at q
 ·rename_i dd cd sl ho
  split at q
  ·rename_i C' bm k0 k1 k2 k3 n k5 hm hs
   simp only[Bool.and_eq_true,beq_iff_eq,Bool.not_eq_true'] at q
   obtain⟨⟨⟨⟨⟨rfl,rfl⟩,Oa⟩,ht⟩,bK⟩,N3⟩:=q
   obtain⟨nm,bs,mro,ns,qn,hd,sn,sub,ab,col,del⟩:=cd
   dsimp only at hm Oa bK N3
   subst hm Oa
   have hsl:sl=#[k0,k1,k2,k3,some (.builtin n),k5]:=by
    obtain⟨l⟩:=sl
    simp only at hs
    rw[hs]
   subst hsl
   have hN:=Heap.Ns.of_isNs (PySem.W.isNs_of_in X bK)
   exact⟨bm,ns,nm,qn,bs,hd,sn,sub,ab,col,dd,k0,k1,k2,k3,k5,_,X _ _ ho,hN,vO X hN N3,PySem.W.tail_of_in X ht⟩
  ·cases q
 ·cases q
section
variable{X:Cx}{C f:Addr}{fd:FuncData}{ps:List Str}{sp:Sp}{x:Str}{p pos:Pos}{e:Expr}{es:List Expr}{t:TA}{k:Nat}
end
end L2
namespace L2
open PySem PySem.Spec PyProof.Rows
open PySem.SeqAt (shaped noMix noMixAll)
section
variable{X:Cx}
end
end L2
namespace L2
open PySem PySem.Spec PyProof.Rows
open PySem.SeqAt (shaped noMix noMixAll)
section
variable{X:Cx}{L4:List (Addr×Obj)}{σ:St}{H:Hp}{s:Shared}
theorem DY{x:V}{u t:Value}(I:Inv X L4 σ H s)(rx:RelV x u)(ty:jI X.K H x t):∃ HH:Heap->Prop,PySem.W.KitX X.K u t HH/\HH s.heap/\u≠.builtin "__main__.__loader__#opaque" := by
 cases ty with
 | cp=>cases (show u=Value.none from rx);exact⟨_,PySem.W.kitx_none,True.intro,λz=>nomatch z⟩
 | bl y=>cases (show u=Value.bool y from rx);exact⟨_,PySem.W.kitx_bool,True.intro,λz=>nomatch z⟩
 | int i=>obtain⟨t,q⟩:=(show ∃ t,u=Value.int i t from rx);cases q;exact⟨_,PySem.W.kitx_int,True.intro,λz=>nomatch z⟩
 | str y=>obtain⟨t,q⟩:=(show ∃ t,u=Value.str y t from rx);cases q;exact⟨_,PySem.W.kitx_str,True.intro,λz=>nomatch z⟩
 | EM y=>obtain⟨t,q⟩:=(show ∃ t,u=Value.float y t from rx);cases q;exact⟨_,PySem.W.kitx_float,True.intro,λz=>nomatch z⟩
 | @lst a xs ea =>
  cases (show u=Value.ref a from rx)
  obtain⟨_,_,n,_,h1⟩:=(show cv X.prog X.w H s.heap a (.lst xs) from I.bK a _ ea)
  exact⟨_,PySem.W.kitx_list,⟨_,h1,rfl⟩,λz=>nomatch z⟩
 | @qo a ob xs ea =>
  cases (show u=Value.ref a from rx)
  obtain⟨_,_,_,n,_,h1⟩:=(show cv X.prog X.w H s.heap a (.qo ob (.lst xs)) from I.bK a _ ea)
  exact⟨_,PySem.W.kitx_list,⟨_,h1,rfl⟩,λz=>nomatch z⟩
 | @tup a xs ea =>
  cases (show u=Value.ref a from rx)
  obtain⟨_,_,_,o,h1,h2,_⟩:=(show cv X.prog X.w H s.heap a (.tup xs) from I.bK a _ ea)
  exact⟨_,PySem.W.kitx_tuple,⟨o,h1,h2⟩,λz=>nomatch z⟩
 | @dK a MT ea =>
  cases (show u=Value.ref a from rx)
  obtain⟨_,_,vs,_,o,es,ep,h1,h2,_⟩:=(show cv X.prog X.w H s.heap a (.dK MT) from I.bK a _ ea)
  exact⟨_,PySem.W.kitx_dict,⟨o,h1,h2.1⟩,λz=>nomatch z⟩
 | @dT a MT ea =>
  cases (show u=Value.ref a from rx)
  obtain⟨_,_,xs,_,o,es,ep,h1,h2,_⟩:=(show cv X.prog X.w H s.heap a (.dT MT) from I.bK a _ ea)
  exact⟨_,PySem.W.kitx_dict,⟨o,h1,h2.1⟩,λz=>nomatch z⟩
 | @ins a C dx fs ea cl ha hn HE hm =>
  cases (show u=Value.ref a from rx)
  obtain⟨mA,O,_⟩:=lQ I.bK ea
  obtain⟨od,J,_⟩:=O.look
  exact⟨_,PySem.W.kitx_own (cl.get _) cl.hd ha hn HE hm,J,λz=>nomatch z⟩
end
section
variable{X:Cx}
def HV(K:PySem.W.Frag):List V->Hp->VK->Prop:=λxs H Q=>∃ (x:V) (tp:Addr) (Ts:List String) (t:Value) (b:Bool),xs=[x,.ref tp]/\H tp=some (.tup (Ts.map V.ty))/\jI K H x t/\PySem.W.kitAny K t (Ts.map Value.type)=some b/\Q (.bl b) H
theorem wC:∀ {Ts:List String} {us:List Value},Vals (Ts.map V.ty) us->us=Ts.map Value.type
 | [],us,r=>by rw[List.map_nil] at r;cases r;rfl
 | T::Ts,us,r=>by
  rw[List.map_cons] at r
  cases r with
  | cons r1 r2 =>
   cases (show _=Value.type T from r1)
   rw[wC r2]
   rfl
theorem y_:eC X (.builtin "isinstance") (HV X.K):=by
 intro L4 s σ H xs us Q I r h
 obtain⟨x,tp,Ts,t,b,rfl,htp,ty,e,q⟩:=h
 cases r with
 | cons r1 r2 =>
  cases r2 with
  | cons r3 r4 =>
   cases r4
   cases (show _=Value.ref tp from r3)
   obtain⟨HH,Z,p,ne⟩:=DY I r1 ty
   obtain⟨_,L7,rv,o,h1,h2,n,h3⟩:=(show cv X.prog X.w H s.heap tp (.tup (Ts.map V.ty)) from I.bK tp _ htp)
   have ei:=wC rv
   subst ei
   obtain⟨cls,dd,data,sl⟩:=o
   dsimp only at h2 h3
   subst h2 h3
   exact PySem.W.kia_tup Z I.jV p h1 e ne λtk=>⟨.bl b,H,I.tok tk,rfl,q⟩
theorem xg:∀ {bs:List Bool} {us:List Value},Vals (bs.map V.bl) us->us=bs.map Value.bool
 | [],us,r=>by rw[List.map_nil] at r;cases r;rfl
 | b::bs,us,r=>by
  rw[List.map_cons] at r
  cases r with
  | cons r1 r2 =>
   cases (show _=Value.bool b from r1)
   rw[xg r2]
   rfl
theorem Fp:bootBuiltins "all" = some (.builtin "all"):=by decide +kernel
theorem xE(hc:X.calm=true):eC X (.builtin "all") (λxs H Q=>∃ (a:Addr) (bs:List Bool),xs=[.ref a]/\iw X.K H a (bs.map V.bl)/\Q (.bl (bs.all id)) H):=by
 intro L4 s σ H xs us Q I r h
 obtain⟨a,bs,rfl,hq,q⟩:=h
 cases r with
 | cons r1 r2 =>
  cases r2
  cases (show _=Value.ref a from r1)
  obtain⟨L7,rv,p,hz⟩:=I.list hq
  have ei:=xg rv
  subst ei
  have hl:=p.isList
  have MS:a<s.heap.objs.size:=by obtain⟨_,e,_⟩:=hl;exact Heap.lt_size e
  refine call_all_walk (wpAny_pyIter_list hl ?_)
  refine⟨s.heap.objs.size,[s.heap.objs.size,a],[s.heap.objs.size],(bs.map Value.bool).toArray.size,_,_,λi=>(bs[i]?).getD true,rfl,Walks.list (A:=X.A.in1) (I.ok.hd hc) _ a (Nat.ne_of_lt MS) (bs.map Value.bool).toArray,
   ⟨⟨_,Heap.get?_push_size _ rfl,rfl,rfl⟩,hl.push _⟩,λi v s' Q' E' hP hQ=>?_,λh' tk hk=>?_⟩
  ·have hP':(bs.map Value.bool)[i]?=some v:=by simpa using hP
   rw[List.getElem?_map] at hP'
   obtain⟨b,e1,e2⟩:=Option.map_eq_some_iff.mp hP'
   subst e2
   simp only[e1,Option.getD_some] at hQ
   exact wpAny_truthy_bool hQ
  ·have e:((List.range (bs.map Value.bool).toArray.size).all λi=>(bs[i]?).getD true)=bs.all id:=by
    rw[List.size_toArray,List.length_map]
    rw[Bool.eq_iff_iff,List.all_eq_true,List.all_eq_true]
    constructor
    ·intro h b hb
     obtain⟨i,hi,e⟩:=List.getElem_of_mem hb
     have:=h i (List.mem_range.mpr hi)
     simp only[List.getElem?_eq_getElem hi,Option.getD_some,e] at this
     exact this
    ·intro h i hi
     have O7:=List.mem_range.mp hi
     simp only[List.getElem?_eq_getElem O7,Option.getD_some]
     exact h _ (List.getElem_mem O7)
   rw[e]
   refine⟨.bl _,H,I.kept (t':=tk) (λb x e=>?_),rfl,q⟩
   exact hk b x (λhm=>by rw[List.mem_singleton.mp hm] at e;exact Nat.lt_irrefl _ (Heap.lt_size e)) (Heap.get?_push_of_some _ e)
end
end L2
namespace L2
open PySem PySem.Spec PyProof.Rows
open PySem.MeetsSeq PySem.MeetsSeq2 PySem.MeetsSeq3
theorem mF:fillsNumberSlot (.type "tuple") "mul" = pure false :=
 PySem.fillsNumberSlot_seq (id := "tuple.__mul__") (r:=some (.builtin "tuple.__rmul__")) F.slot_tuple_mul.lookup (by decide +kernel) F.slot_tuple_rmul.lookup (by decide +kernel)
theorem sJ:seqRepeat? (.type "tuple")=pure (some (.builtin "tuple.__mul__")):=by
 unfold seqRepeat?
 rw[PySem.seqSlot_of (T := "tuple") (name := "__mul__") (id := "tuple.__mul__") F.slot_tuple_mul.lookup (by decide +kernel),PySem.seqSlot_of (T := "tuple") (name := "__rmul__") (id := "tuple.__rmul__") F.slot_tuple_rmul.lookup (by decide +kernel)]
 rfl
theorem sD(a:Int)(t:Tok)(l:Addr)(items:Array Value)(n:Nat)(dd:Option Addr)(sl:Array (Option Value)) :
  Meets (Builtin.«int.__rmul__» ⟨[.int a t,.ref l],[]⟩) (λ_ R s=>s.heap.get? l=some ⟨.type "tuple", dd,.seq items n,sl⟩/\R (.ok (.ret Value.notImplemented)) s) :=
 .of_wp λprog w A R s h=>by obtain⟨hp,g,d,tk,os⟩:=s;obtain⟨hl,h⟩:=h;wp_walk;exact⟨_,rfl,h⟩
theorem yS(l:Addr)(items:Array Value)(n:Nat)(dd:Option Addr)(sl:Array (Option Value))(u:Tok) :
  Meets (Builtin.«tuple.__mul__» ⟨[.ref l,.int 1 u],[]⟩) (λ_ R s=>s.heap.get? l=some ⟨.type "tuple", dd,.seq items n,sl⟩/\R (.ok (.ret (.ref l))) s) :=
 .of_wp λprog w A R s h=>by
  obtain⟨hp,g,d,tk,os⟩:=s;obtain⟨hl,h⟩:=h;have f1:=AutoSeq1.idx_int;have f2:=AutoSeq1.sub_tuple_tuple
  wp_walk using AutoSeq1.wpAny_loadPart' hl
  exact⟨_,rfl,h⟩
theorem yt(l:Addr)(items:Array Value)(n:Nat)(dd:Option Addr)(sl:Array (Option Value))(x:Int)(u:Tok)(c0:¬ (decide (x < -2^63)||decide (x>=2^63))=true)(c1:¬ (items.isEmpty||x==1)=true)(c2:¬ (decide (x<=0)||items.isEmpty)=true)
  (c3:¬ (items.size:Int)*x>(2^63-1)/8) (c4:¬ Builtin.Tuple.tupleTooMany ((items.size:Int)*x)=true) (Nv:(List.foldl (λx1 x2=>x1++x2) #[] (List.replicate x.toNat items)).size<=sizeLine) :
  Meets (Builtin.«tuple.__mul__» ⟨[.ref l,.int x u],[]⟩) (λ_ R s=>s.heap.get? l=some ⟨.type "tuple", dd,.seq items n,sl⟩/\R (.ok (.ret (.ref s.heap.objs.size))) { s with heap:=s.heap.push { cls:=.type "tuple", data:=.seq (List.foldl (λx1 x2=>x1++x2) #[] (List.replicate x.toNat items)) },toks:=s.toks }) :=
 .of_wp λprog w A R s h=>by
  obtain⟨hp,g,d,tk,os⟩:=s;obtain⟨hl,h⟩:=h;have f1:=AutoSeq1.idx_int;have f2:=AutoSeq1.sub_tuple_tuple
  wp_walk using AutoSeq1.wpAny_loadPart' hl
  refine wpAny_ite_false (decide_eq_false c0) ?_;wp_walk using AutoSeq1.wpAny_loadPart' hl
  refine wpAny_ite_false (decide_eq_false c3) ?_;wp_walk using AutoSeq1.wpAny_loadPart' hl
  exact⟨_,rfl,h⟩
theorem yL(l:Addr)(items:Array Value)(n:Nat)(dd:Option Addr)(sl:Array (Option Value))(x:Int)(u:Tok)(c0:¬ (decide (x < -2^63)||decide (x>=2^63))=true)(c1:¬ (items.isEmpty||x==1)=true)(c2:(decide (x<=0)||items.isEmpty)=true) :
  Meets (Builtin.«tuple.__mul__» ⟨[.ref l,.int x u],[]⟩) (λ_ R s=>s.heap.get? l=some ⟨.type "tuple", dd,.seq items n,sl⟩/\R (.ok (.ret (.ref s.heap.objs.size))) { s with heap:=s.heap.push { cls:=.type "tuple", data:=.seq #[] },toks:=s.toks }) :=
 .of_wp λprog w A R s h=>by
  obtain⟨hp,g,d,tk,os⟩:=s;obtain⟨hl,h⟩:=h;have f1:=AutoSeq1.idx_int;have f2:=AutoSeq1.sub_tuple_tuple
  wp_walk using AutoSeq1.wpAny_loadPart' hl
  refine wpAny_ite_false (decide_eq_false c0) ?_;wp_walk using AutoSeq1.wpAny_loadPart' hl
  exact⟨_,rfl,h⟩
section
variable{X:Cx}
def ET(K:PySem.W.Frag):R2:=λx y H Q=>∃ a k xs,x=.ref a/\y=.int k/\gB K H a xs/\xs≠[]/\-(2^63)<=k/\k<2^63/\xs.length*k.toNat<=sizeLine/\(k=1->Q (.ref a) H)/\(k≠1->∀ p,H p=none->Q (.ref p) (upd H p (.tup (List.replicate k.toNat xs).flatten)))
theorem CL:h9 X (binaryOp .Mult) (ET X.K):=by
 intro L4 s σ H x y v u Q I rx ry h
 obtain⟨a,k,xs,rfl,rfl,hq,NX,h1,h2,hz,q1,q2⟩:=h
 cases rx
 obtain⟨t,rfl⟩:=ry
 obtain⟨L7,r,⟨o,e,hc,n,hd⟩,_⟩:=I.tuple hq
 obtain⟨cls,dd,data,sl⟩:=o
 dsimp only at hc hd
 subst hc hd
 have hl:=r.length
 refine wpAny_binaryOp_repeat_ref (T := "tuple") (U := "int") (by decide) ⟨_,e,rfl⟩ (λs'=>typeIs_int s' k t) mF F.fills_int_mul F.slot_int_rmul sJ F.slot_int_index.lookup
  (call_meets F.slot_int_rmul (typeIs_int s k t) F.entry_int_rmul (F.args_int_rmul_2 _ _) (sD k t a L7.toArray n dd sl) ⟨e,rfl,⟨_,e,rfl⟩,?_⟩)
 by_cases hk1:k=1
 ·subst hk1
  exact call_meets F.slot_tuple_mul ⟨_,e,rfl⟩ F.entry_tuple_mul (F.args_tuple_mul_2 _ _) (yS a L7.toArray n dd sl t) ⟨e,⟨.ref a,H,I,rfl,q1 rfl⟩⟩
 ·have O4:(k==1)=false:=by simpa using hk1
  have N3:L7≠[]:=λz=>NX (r.lR.mp z)
  have hie:L7.toArray.isEmpty=false:=by cases L7 with | nil=>exact absurd rfl N3 | cons _ _=>rfl
  have c0:¬ (decide (k < -2^63)||decide (k>=2^63))=true:=by simp;omega
  have c1:¬ (L7.toArray.isEmpty||k==1)=true:=by rw[hie,O4];simp
  have fin:∀ ys,ys=(List.replicate k.toNat L7).flatten.toArray->EP X L4 σ Q (.ref s.heap.objs.size) { s with heap:=s.heap.push { cls:=.type "tuple", data:=.seq ys },toks:=s.toks }:=λys ey=>by
   subst ey
   refine⟨.ref s.heap.objs.size,_,I.laid (t':=s.toks) (o:=.tup (List.replicate k.toNat xs).flatten) (λb ob q=>Heap.get?_push_of_some _ q) (Nat.le_refl _) ?_,rfl,q2 hk1 _ (I.bK.fresh (Nat.le_refl _))⟩
   exact⟨by rw[len_rep,Nat.mul_comm];exact hz,_,r.rep k.toNat,IsTup.new _ _⟩
  have Nl:List.foldl (λx1 x2=>x1++x2) #[] (List.replicate k.toNat L7.toArray)=(List.replicate k.toNat L7).flatten.toArray:=by
   have:=foldl_rep L7 k.toNat []
   rw[List.nil_append] at this
   exact this
  by_cases hk0:k<=0
  ·have c2:(decide (k<=0)||L7.toArray.isEmpty)=true:=by rw[decide_eq_true hk0];rfl
   refine call_meets F.slot_tuple_mul ⟨_,e,rfl⟩ F.entry_tuple_mul (F.args_tuple_mul_2 _ _) (yL a L7.toArray n dd sl k t c0 c1 c2) ⟨e,fin _ ?_⟩
   rw[show k.toNat=0 by omega]
   rfl
  ·have c2:¬ (decide (k<=0)||L7.toArray.isEmpty)=true:=by rw[decide_eq_false hk0,hie];simp
   have em:((L7.toArray.size:Nat):Int)*k=((xs.length*k.toNat:Nat):Int):=by
    rw[List.size_toArray,← hl,Int.natCast_mul,Int.toNat_of_nonneg (by omega)]
   have hs:(sizeLine:Int)<=(2^63-1)/8:=by decide
   refine call_meets F.slot_tuple_mul ⟨_,e,rfl⟩ F.entry_tuple_mul (F.args_tuple_mul_2 _ _) (yt a L7.toArray n dd sl k t c0 c1 c2 ?_ ?_ ?_) ⟨e,fin _ Nl⟩
   ·rw[em];omega
   ·rw[em]
    unfold Builtin.Tuple.tupleTooMany
    simp only[decide_eq_true_eq]
    omega
   ·rw[Nl,List.size_toArray,len_rep,Nat.mul_comm,← hl]
    exact hz
end
end L2
namespace L2
open PySem PySem.Spec PyProof.Rows
structure bh (K:PySem.W.Frag) (x qual:Str) (st:Stmt) (dv:Value) (f:Addr) (fd:FuncData):Prop where
 ex:∃ (oc:Value) (od:Option Addr) (kV doc pm:Value) (an:Option Addr) (Mp ct:Value) (N1:Array (Option Value)),
  fd=PySem.W.fnOf x qual (iB st) (fb st) (bc st) dv kV doc pm an Mp ct/\K.lookup f=some ⟨oc,od,.func fd,N1⟩/\PySem.W.codeIn K Mp qual=true
 kp:PySem.W.keepIn K (.ref f)=true
section
variable{P:Program}{w:World}{K:PySem.W.Frag}{mg:Str->Option Value}{base:Heap}
theorem bh.binds{x qual:Str}{st:Stmt}{T:Addr}{o:Obj}{items:Array Value}{n:Nat}{f:Addr}{fd:FuncData}{ps:List Str}{ds:List Value}(F:bh K x qual st (.ref T) f fd)(ho:K.lookup T=some o)(hs:o.data=.seq items n)
  (h:∀ (kV doc pm:Value) (an:Option Addr) (Mp ct:Value) (us:List Value),(us++ds).length=ps.length->∃ k,bindArgs (PySem.W.fnOf x qual (iB st) (fb st) (bc st) (.ref T) kV doc pm an Mp ct) ⟨us,[]⟩=seqItems? (.ref T) >>= k/\k (some items)=pure (ps.zip (us++ds))):Binds K fd ps ds:=by
 obtain⟨oc,od,kV,doc,pm,an,Mp,ct,N1,rfl,lk,Ng⟩:=F.ex
 intro s us X hl
 obtain⟨k,h1,h2⟩:=h kV doc pm an Mp ct us hl
 exact BindsTo.of_defaults rfl (X _ _ ho) hs h1 h2
end
theorem HJ{X:Cx}{x:Str}{v:V}{pos:Pos}(hg:Gl X x)(hm:∃ u,X.mg x=some u/\RelV v u)(hd:autoParam ((x==("__debug__" : Str))=false) aD._auto_1):PE X (.Name x pos) (tC v):=by
 obtain⟨u,h1,h2⟩:=hm
 exact Dz hg h1 h2 hd
theorem zP:bootBuiltins "max" = some (.builtin "max"):=by decide +kernel
end L2
namespace L2
open PySem PySem.Spec PyProof.Rows
theorem CG{X:Cx}{tg elt iter:Expr}{scope:Scope}{cl:List (Str×Addr)}{pos Ov py:Pos}{i:Nat}{y:Str}{wi:TI}{g:TG}{te:TE}{ts fs:List Str}{js:List Nat}(hN:X.N.Nodup)(hiy:X.N[i]?=some y)(hy:Loc X.env.scope y)(Mf:X.calm=true)
  (Mv:closureFor scope X.env=pure cl) (hk:scope.kind=.function) (nc:gm scope.names=true) (lo:ir scope.names=true) (fh:ik cl scope.names=true) (ag:eU X cl) (fr:iZ X scope cl fs js)
  (hi:PI X tg iter wi) (hg:∀ C s₀ H₀ ex L4,PG (pT X scope cl (ts++fs) C s₀ H₀ ex L4) tg g) (he:∀ C s₀ H₀ ex L4,PE (pT X scope cl (ts++fs) C s₀ H₀ ex L4) elt te)
  (hs:autoParam (∀ x,foldedSetIterable iter X.env x=pure x) aI._auto_1) (Py:autoParam (swapsWith (.ListComp elt [⟨tg,iter,[],0⟩] scope pos) (some (.Name y py)) Ov.line X.env=pure true) aR._auto_1)
  (hf:autoParam (X.fn y=true\/X.env.scope.names.lookup y=some .local) aF._auto_1) :
  PS X (.Assign [.Name y py] (.ListComp elt [⟨tg,iter,[],0⟩] scope pos) Ov) (G6 (wA wi g te ts js) (aH i)):=by
 intro L4 s σ H D I h
 rw[exec_Assign_Name_used _ _ _ _ Py]
 refine wpAny_bind (wpAny_standAt (wpAny_bind ?_))
 show wpAny _ X.A (do let _ ← comprehension (.ListComp elt [⟨tg,iter,[],0⟩] scope pos) scope X.env _ (newList []) false (eval iter X.env) (some (assign (.Name y py) X.env))) _ _ s
 refine wpAny_bind (wpAny_mono (uB (tt:=none) Mf Mv hk nc lo fh ag fr hi hg (λ_ _ _ _ _=>trivial) he hs I (show Ae wi g none te ts js σ H (λx H1=>D.nx (σ.set i (some x)) H1) from h) (some (assign (.Name y py) X.env)) (λ_ s'=>SP X L4 D .next s') λDd H' s' C Io q hm f=>?_) (λ_ s' hq=>wpAny_pure (wpAny_pure hq)) λ_ _ e=>e)
 show wpAny _ X.A (assign (.Name y py) X.env (.ref Dd)) _ _ s'
 refine wpAny_assign_Name (qX Io hN hiy hy (v:=.ref Dd) rfl (λs'' I'' ⟨a,sb,ha⟩=>?_) hf)
 obtain⟨m,hn⟩:=hm
 obtain⟨f0,f1,f2,f3,f4,f5⟩:=f
 have naC:a≠C:=by
  rcases ha with z | z
  ·rw[z];exact λw=>f1 w.symm
  ·exact f4 y a z
 refine⟨m,hn.sameBut sb (Ne.symm naC),λh' O9=>?_⟩
 exact⟨_,H',I''.other ⟨f0,f1,f2,f3,f4,f5⟩ O9,q⟩
end L2
namespace L2
open PySem PySem.Spec PyProof.Rows
end L2
namespace L2
open PySem PySem.Spec PyProof.Rows
theorem oq(a b c:Value):checkTypeCall "zip" ⟨[a,b,c],[]⟩=pure ():=by kernel_rfl
theorem pX(a b c:Value):checkBuiltinCall "zip.__new__" ⟨[.type "zip", a,b,c],[]⟩=pure ():=by kernel_rfl
abbrev bL(h:Heap)(T:Addr)(a b c:Value):Prop:=h.get? T=some { cls:=.type "tuple", data:=.seq #[a,b,c] }
structure Z3 (z TI TO i1 i2 i3:Addr):Prop where
 TIz:TI≠z
 TOz:TO≠z
 i1z:i1≠z
 i2z:i2≠z
 HG:i3≠z
 TITO:TI≠TO
 TIi1:TI≠i1
 TIi2:TI≠i2
 JZ:TI≠i3
 TOi1:TO≠i1
 TOi2:TO≠i2
 D7:TO≠i3
 i12:i1≠i2
 Kv:i1≠i3
 Kc:i2≠i3
structure L3 (z TO i1 i2 i3 l:Addr):Prop where
 z:l≠z
 o:l≠TO
 i1:l≠i1
 i2:l≠i2
 i3:l≠i3
section
variable{prog:Program}{w:World}{A:Around}{E:Value->Shared->Prop}{s:Shared}
theorem dC{T:Addr}{a b c x:Value}{k:Nat}{Q:Unit->Shared->Prop}(hT:bL s.heap T a b c)
  (h:∀ h',h'.get? T=some { cls:=.type "tuple", data:=.seq ((#[a,b,c]:Array Value).setIfInBounds k x) }->Heap.SameBut T s.heap h'->Q () { s with heap:=h' }) :
  wpAny (model prog w) A (updateSeq T (·.setIfInBounds k x)) Q E s:=by
 refine wpAny_updateSeq hT rfl (h _ ?_ (Heap.SameBut.update ..))
 rw[Heap.get?_update_self _ hT rfl]
 simp[Obj.mapSeq]
variable{b1 b2 b3:Bool}{z TI TO i1 i2 i3 l1 l2 l3:Addr}{k1 k2 k3:Nat}{xs ys zs:Array Value}{x y v a b c:Value}
theorem xA{Q:Value->Shared->Prop}(D:Z3 z TI TO i1 i2 i3)(D1:L3 z TO i1 i2 i3 l1)(D2:L3 z TO i1 i2 i3 l2)(D3:L3 z TO i1 i2 i3 l3)
  (hz:IsZip s.heap z TI TO .none) (MK:bL s.heap TI (.ref i1) (.ref i2) (.ref i3)) (MN:bL s.heap TO a b c)
  (h1:eN s.heap b1 i1 l1 k1) (h2:eN s.heap b2 i2 l2 k2) (h3:eN s.heap b3 i3 l3 k3) (Nj:gi s.heap b1 l1 xs) (Nk:gi s.heap b2 l2 ys) (Od:gi s.heap b3 l3 zs) (hx:xs[k1]?=some x) (hy:ys[k2]?=some y) (hv:zs[k3]?=some v)
  (hQ:∀ h',IsZip h' z TI TO (rawInt s.heap.objs.size)->bL h' TO x y v->eN h' b1 i1 l1 (k1+1)->eN h' b2 i2 l2 (k2+1)->eN h' b3 i3 l3 (k3+1)->bL h' s.heap.objs.size x y v->h'.objs.size=s.heap.objs.size+1 ->
   (∀ c o,c≠z->c≠TO->c≠i1->c≠i2->c≠i3->s.heap.get? c=some o->h'.get? c=some o)->Q (.ref s.heap.objs.size) { s with heap:=h' }) :
  wpAny (model prog w) A (Builtin.«zip.__next__» ⟨[.ref z],[]⟩) (λfin s'=>∃ v,fin=.done (.ret v)/\Q v s') E s:=by
 show wpAny _ _ (field (.ref z) 2 >>= _) _ _ _
 refine wpAny_bind (wpAny_field hz rfl (x:=.bool false) rfl ?_)
 show wpAny _ _ (field (.ref z) 3 >>= _) _ _ _
 refine wpAny_bind (wpAny_field hz rfl (x:=.ref TI) rfl ?_)
 refine wpAny_bind (wpAny_seqItems MK rfl ?_)
 show wpAny _ _ (Builtin.SmallTypes.ownedTupleIsFree (.ref z) >>= _) _ _ _
 refine wpAny_bind ?_
 unfold Builtin.SmallTypes.ownedTupleIsFree
 refine wpAny_bind (wpAny_field hz rfl (x:=.none) rfl (wpAny_pure ?_))
 simp only[if_true]
 refine wpAny_bind (wpAny_rule ?_)
 refine wpAny_bind (wpAny_field hz rfl (x:=.ref TO) rfl ?_)
 refine wpAny_bind (wpAny_setField_rec hz (by simp) λh₁ hz1 hs1=>?_)
 replace hz1:IsZip h₁ z TI TO .ellipsis:=hz1
 refine wpAny_bind ?_
 simp only[List.zipIdx_cons,List.zipIdx_nil,List.forIn_cons,List.forIn_nil]
 refine wpAny_bind (wpAny_bind (wpAny_onRaise ?_))
 show wpAny _ _ (Builtin.SmallTypes.nextOf (.ref i1) >>= _) _ _ _
 refine wpAny_bind (c8 (h1.at λo e=>hs1.extBut _ _ D.i1z e) (Nj.at λo e=>hs1.extBut _ _ D1.z e) hx λh₂ h1₂ hs2=>wpAny_pure ?_)
 have hTO2:bL h₂ TO a b c:=hs2.extBut _ _ D.TOi1 (hs1.extBut _ _ D.TOz MN)
 refine wpAny_bind (wpAny_seqItems hTO2 rfl ?_)
 refine wpAny_bind (dC hTO2 λh₃ hTO3 hs3=>?_)
 replace hTO3:bL h₃ TO x b c:=hTO3
 refine wpAny_bind (wpAny_letGo (wpAny_pure ?_))
 have Ox:∀ q o,q≠z->q≠TO->q≠i1->s.heap.get? q=some o->h₃.get? q=some o:=λq o c1 c2 c3 e=>hs3.extBut _ _ c2 (hs2.extBut _ _ c3 (hs1.extBut _ _ c1 e))
 refine wpAny_bind (wpAny_bind (wpAny_onRaise ?_))
 show wpAny _ _ (Builtin.SmallTypes.nextOf (.ref i2) >>= _) _ _ _
 refine wpAny_bind (c8 (h2.at λo e=>Ox _ o D.i2z D.TOi2.symm D.i12.symm e) (Nk.at λo e=>Ox _ o D2.z D2.o D2.i1 e) hy λh₄ h2₄ hs4=>wpAny_pure ?_)
 have hTO4:bL h₄ TO x b c:=hs4.extBut _ _ D.TOi2 hTO3
 refine wpAny_bind (wpAny_seqItems hTO4 rfl ?_)
 refine wpAny_bind (dC hTO4 λh₅ hTO5 hs5=>?_)
 replace hTO5:bL h₅ TO x y c:=hTO5
 refine wpAny_bind (wpAny_letGo (wpAny_pure ?_))
 have k5:∀ q o,q≠z->q≠TO->q≠i1->q≠i2->s.heap.get? q=some o->h₅.get? q=some o:=λq o c1 c2 c3 c4 e=>hs5.extBut _ _ c2 (hs4.extBut _ _ c4 (Ox q o c1 c2 c3 e))
 refine wpAny_bind (wpAny_bind (wpAny_onRaise ?_))
 show wpAny _ _ (Builtin.SmallTypes.nextOf (.ref i3) >>= _) _ _ _
 refine wpAny_bind (c8 (h3.at λo e=>k5 _ o D.HG D.D7.symm D.Kv.symm D.Kc.symm e) (Od.at λo e=>k5 _ o D3.z D3.o D3.i1 D3.i2 e) hv λh₆ h3₆ hs6=>wpAny_pure ?_)
 have hTO6:bL h₆ TO x y c:=hs6.extBut _ _ D.D7 hTO5
 refine wpAny_bind (wpAny_seqItems hTO6 rfl ?_)
 refine wpAny_bind (dC hTO6 λh₇ hTO7 hs7=>?_)
 replace hTO7:bL h₇ TO x y v:=hTO7
 refine wpAny_bind (wpAny_letGo (wpAny_pure (wpAny_pure ?_)))
 refine wpAny_bind (wpAny_seqItems hTO7 rfl ?_)
 refine wpAny_bind (wpAny_newTuple ?_)
 have Nv:h₇.objs.size=s.heap.objs.size:=by rw[hs7.1,hs6.1,hs5.1,hs4.1,hs3.1,hs2.1,hs1.1]
 have hz₃:IsZip h₃ z TI TO .ellipsis:=hs3.extBut _ _ D.TOz.symm (hs2.extBut _ _ D.i1z.symm hz1)
 have hz5:IsZip h₅ z TI TO .ellipsis:=hs5.extBut _ _ D.TOz.symm (hs4.extBut _ _ D.i2z.symm hz₃)
 have hz7:IsZip h₇ z TI TO .ellipsis:=hs7.extBut _ _ D.TOz.symm (hs6.extBut _ _ D.HG.symm hz5)
 have k7:∀ q o,q≠z->q≠TO->q≠i1->q≠i2->q≠i3->s.heap.get? q=some o->h₇.get? q=some o:=λq o c1 c2 c3 c4 c5 e=>hs7.extBut _ _ c2 (hs6.extBut _ _ c5 (k5 q o c1 c2 c3 c4 e))
 have h1₇:eN h₇ b1 i1 l1 (k1+1):=h1₂.at λo e=>hs7.extBut _ _ D.TOi1.symm (hs6.extBut _ _ D.Kv (hs5.extBut _ _ D.TOi1.symm (hs4.extBut _ _ D.i12 (hs3.extBut _ _ D.TOi1.symm e))))
 have h2₇:eN h₇ b2 i2 l2 (k2+1):=h2₄.at λo e=>hs7.extBut _ _ D.TOi2.symm (hs6.extBut _ _ D.Kc (hs5.extBut _ _ D.TOi2.symm e))
 have h3₇:eN h₇ b3 i3 l3 (k3+1):=h3₆.at λo e=>hs7.extBut _ _ D.D7.symm e
 have Oh:z<h₇.objs.size:=Heap.lt_size hz7
 show wpAny _ _ (Builtin.SmallTypes.ownedTupleHandOut (.ref z) (.ref h₇.objs.size) >>= _) _ _ _
 refine wpAny_bind ?_
 unfold Builtin.SmallTypes.ownedTupleHandOut
 have hz₈:IsZip (h₇.push { cls:=.type "tuple", data:=.seq #[x,y,v] }) z TI TO .ellipsis:=Heap.get?_push_of_some _ hz7
 refine wpAny_bind (wpAny_setField_rec hz₈ (by simp) λh₉ hz9 hs9=>?_)
 replace hz9:IsZip h₉ z TI TO (rawInt h₇.objs.size):=hz9
 refine wpAny_setField_rec hz9 (by simp) λhA hzA hsA=>?_
 replace hzA:IsZip hA z TI TO (rawInt h₇.objs.size):=hzA
 have up:∀ c o,c≠z->h₇.get? c=some o->hA.get? c=some o:=λc o c1 e=>hsA.extBut _ _ c1 (hs9.extBut _ _ c1 (Heap.get?_push_of_some _ e))
 have hTA:bL hA h₇.objs.size x y v:=hsA.extBut _ _ (Nat.ne_of_gt Oh) (hs9.extBut _ _ (Nat.ne_of_gt Oh) (Heap.get?_push_size _ rfl))
 have PF:hA.objs.size=h₇.objs.size+1:=by rw[hsA.1,hs9.1,Heap.size_push]
 rw[Nv] at hzA hTA PF
 refine wpAny_pure ⟨_,rfl,?_⟩
 show Q (.ref h₇.objs.size) _
 rw[Nv]
 exact hQ hA hzA (up _ _ D.TOz hTO7) (h1₇.at λo e=>up _ o D.i1z e) (h2₇.at λo e=>up _ o D.i2z e) (h3₇.at λo e=>up _ o D.HG e) hTA PF λc o c1 c2 c3 c4 c5 e=>up c o c1 (k7 c o c1 c2 c3 c4 c5 e)
theorem As{Q:Fin->Shared->Prop}(hh:A.handled=none)(D:Z3 z TI TO i1 i2 i3)(D1:L3 z TO i1 i2 i3 l1)(D2:L3 z TO i1 i2 i3 l2)(D3:L3 z TO i1 i2 i3 l3)
  (hz:IsZip s.heap z TI TO .none) (MK:bL s.heap TI (.ref i1) (.ref i2) (.ref i3)) (MN:bL s.heap TO a b c)
  (h1:eN s.heap b1 i1 l1 k1) (h2:eN s.heap b2 i2 l2 k2) (h3:eN s.heap b3 i3 l3 k3) (Nj:gi s.heap b1 l1 xs) (Nk:gi s.heap b2 l2 ys) (Od:gi s.heap b3 l3 zs) (Nu:xs[k1]?=none\/ys[k2]?=none\/zs[k3]?=none)
  (hE:∀ h' e,(∀ c o,c≠z->c≠TO->c≠i1->c≠i2->c≠i3->s.heap.get? c=some o->h'.get? c=some o)->(∃ o,h'.get? e=some o/\o.cls=.type "StopIteration")->E (.ref e) { s with heap:=h' }) :
  wpAny (model prog w) A (Builtin.«zip.__next__» ⟨[.ref z],[]⟩) Q E s:=by
 show wpAny _ _ (field (.ref z) 2 >>= _) _ _ _
 refine wpAny_bind (wpAny_field hz rfl (x:=.bool false) rfl ?_)
 show wpAny _ _ (field (.ref z) 3 >>= _) _ _ _
 refine wpAny_bind (wpAny_field hz rfl (x:=.ref TI) rfl ?_)
 refine wpAny_bind (wpAny_seqItems MK rfl ?_)
 show wpAny _ _ (Builtin.SmallTypes.ownedTupleIsFree (.ref z) >>= _) _ _ _
 refine wpAny_bind ?_
 unfold Builtin.SmallTypes.ownedTupleIsFree
 refine wpAny_bind (wpAny_field hz rfl (x:=.none) rfl (wpAny_pure ?_))
 simp only[if_true]
 refine wpAny_bind (wpAny_rule ?_)
 refine wpAny_bind (wpAny_field hz rfl (x:=.ref TO) rfl ?_)
 refine wpAny_bind (wpAny_setField_rec hz (by simp) λh₁ hz1 hs1=>?_)
 replace hz1:IsZip h₁ z TI TO .ellipsis:=hz1
 refine wpAny_bind ?_
 simp only[List.zipIdx_cons,List.zipIdx_nil,List.forIn_cons,List.forIn_nil]
 refine wpAny_bind (wpAny_bind (wpAny_onRaise ?_))
 show wpAny _ _ (Builtin.SmallTypes.nextOf (.ref i1) >>= _) _ _ _
 cases hx:xs[k1]? with
 | none =>
  refine wpAny_bind (gU hh (h1.at λo e=>hs1.extBut _ _ D.i1z e) (Nj.at λo e=>hs1.extBut _ _ D1.z e) hx λh₂ e hs2 he=>?_)
  obtain⟨oe,NA,NU⟩:=he
  have hz2:IsZip h₂ z TI TO .ellipsis:=hs2 _ _ D.i1z.symm hz1
  have OD:e≠z:=λx=>by subst x;rw[hz2] at NA;cases NA;simp at NU
  refine wpAny_setField_rec hz2 (by simp) λh₃ _ hs3=>hE h₃ e (λc o c1 _ c3 _ _ x=>hs3.extBut _ _ c1 (hs2 _ _ c3 (hs1.extBut _ _ c1 x))) ⟨oe,hs3.extBut _ _ OD NA,NU⟩
 | some x =>
  refine wpAny_bind (c8 (h1.at λo e=>hs1.extBut _ _ D.i1z e) (Nj.at λo e=>hs1.extBut _ _ D1.z e) hx λh₂ h1₂ hs2=>wpAny_pure ?_)
  have hTO2:bL h₂ TO a b c:=hs2.extBut _ _ D.TOi1 (hs1.extBut _ _ D.TOz MN)
  refine wpAny_bind (wpAny_seqItems hTO2 rfl ?_)
  refine wpAny_bind (dC hTO2 λh₃ hTO3 hs3=>?_)
  replace hTO3:bL h₃ TO x b c:=hTO3
  refine wpAny_bind (wpAny_letGo (wpAny_pure ?_))
  have Ox:∀ q o,q≠z->q≠TO->q≠i1->s.heap.get? q=some o->h₃.get? q=some o:=λq o c1 c2 c3 e=>hs3.extBut _ _ c2 (hs2.extBut _ _ c3 (hs1.extBut _ _ c1 e))
  have hz₃:IsZip h₃ z TI TO .ellipsis:=hs3.extBut _ _ D.TOz.symm (hs2.extBut _ _ D.i1z.symm hz1)
  refine wpAny_bind (wpAny_bind (wpAny_onRaise ?_))
  show wpAny _ _ (Builtin.SmallTypes.nextOf (.ref i2) >>= _) _ _ _
  cases hy:ys[k2]? with
  | none =>
   refine wpAny_bind (gU hh (h2.at λo e=>Ox _ o D.i2z D.TOi2.symm D.i12.symm e) (Nk.at λo e=>Ox _ o D2.z D2.o D2.i1 e) hy λh₄ e hs4 he=>?_)
   obtain⟨oe,NA,NU⟩:=he
   have hz4:IsZip h₄ z TI TO .ellipsis:=hs4 _ _ D.i2z.symm hz₃
   have OD:e≠z:=λx=>by subst x;rw[hz4] at NA;cases NA;simp at NU
   refine wpAny_setField_rec hz4 (by simp) λh₅ _ hs5=>hE h₅ e (λc o c1 c2 c3 c4 _ x=>hs5.extBut _ _ c1 (hs4 _ _ c4 (Ox c o c1 c2 c3 x))) ⟨oe,hs5.extBut _ _ OD NA,NU⟩
  | some y =>
   have hv:zs[k3]?=none:=by
    rcases Nu with h | h | h
    ·rw[hx] at h;cases h
    ·rw[hy] at h;cases h
    ·exact h
   refine wpAny_bind (c8 (h2.at λo e=>Ox _ o D.i2z D.TOi2.symm D.i12.symm e) (Nk.at λo e=>Ox _ o D2.z D2.o D2.i1 e) hy λh₄ h2₄ hs4=>wpAny_pure ?_)
   have hTO4:bL h₄ TO x b c:=hs4.extBut _ _ D.TOi2 hTO3
   refine wpAny_bind (wpAny_seqItems hTO4 rfl ?_)
   refine wpAny_bind (dC hTO4 λh₅ hTO5 hs5=>?_)
   refine wpAny_bind (wpAny_letGo (wpAny_pure ?_))
   have k5:∀ q o,q≠z->q≠TO->q≠i1->q≠i2->s.heap.get? q=some o->h₅.get? q=some o:=λq o c1 c2 c3 c4 e=>hs5.extBut _ _ c2 (hs4.extBut _ _ c4 (Ox q o c1 c2 c3 e))
   have hz5:IsZip h₅ z TI TO .ellipsis:=hs5.extBut _ _ D.TOz.symm (hs4.extBut _ _ D.i2z.symm hz₃)
   refine wpAny_bind (wpAny_bind (wpAny_onRaise ?_))
   show wpAny _ _ (Builtin.SmallTypes.nextOf (.ref i3) >>= _) _ _ _
   refine wpAny_bind (gU hh (h3.at λo e=>k5 _ o D.HG D.D7.symm D.Kv.symm D.Kc.symm e) (Od.at λo e=>k5 _ o D3.z D3.o D3.i1 D3.i2 e) hv λh₆ e hs6 he=>?_)
   obtain⟨oe,NA,NU⟩:=he
   have hz6:IsZip h₆ z TI TO .ellipsis:=hs6 _ _ D.HG.symm hz5
   have OD:e≠z:=λx=>by subst x;rw[hz6] at NA;cases NA;simp at NU
   refine wpAny_setField_rec hz6 (by simp) λh₇ _ hs7=>hE h₇ e (λc o c1 c2 c3 c4 c5 x=>hs7.extBut _ _ c1 (hs6 _ _ c5 (k5 c o c1 c2 c3 c4 x))) ⟨oe,hs7.extBut _ _ OD NA,NU⟩
end
end L2
namespace L2
open PySem PySem.Spec PyProof.Rows
section
variable{prog:Program}{w:World}{A:Around}{E:Value->Shared->Prop}{s:Shared}
variable{b1 b2 b3:Bool}{z TI TO i1 i2 i3 l1 l2 l3:Addr}{k1 k2 k3:Nat}{xs ys zs:Array Value}{x y v a b c:Value}
theorem mj{Q:Option Value->Shared->Prop}(D:Z3 z TI TO i1 i2 i3)(D1:L3 z TO i1 i2 i3 l1)(D2:L3 z TO i1 i2 i3 l2)(D3:L3 z TO i1 i2 i3 l3)
  (hz:IsZip s.heap z TI TO .none) (MK:bL s.heap TI (.ref i1) (.ref i2) (.ref i3)) (MN:bL s.heap TO a b c)
  (h1:eN s.heap b1 i1 l1 k1) (h2:eN s.heap b2 i2 l2 k2) (h3:eN s.heap b3 i3 l3 k3) (Nj:gi s.heap b1 l1 xs) (Nk:gi s.heap b2 l2 ys) (Od:gi s.heap b3 l3 zs) (hx:xs[k1]?=some x) (hy:ys[k2]?=some y) (hv:zs[k3]?=some v)
  (hQ:∀ h',IsZip h' z TI TO (rawInt s.heap.objs.size)->bL h' TO x y v->eN h' b1 i1 l1 (k1+1)->eN h' b2 i2 l2 (k2+1)->eN h' b3 i3 l3 (k3+1)->bL h' s.heap.objs.size x y v->h'.objs.size=s.heap.objs.size+1 ->
   (∀ c o,c≠z->c≠TO->c≠i1->c≠i2->c≠i3->s.heap.get? c=some o->h'.get? c=some o)->Q (some (.ref s.heap.objs.size)) { s with heap:=h' }) :
  wpAny (model prog w) A (pyNext (.ref z)) Q E s:=by
 have hT:s.TypeIs (.ref z) "zip" := ⟨_,hz,rfl⟩
 unfold pyNext
 exact wpAny_bind (wpAny_attempt (wpAny_callSpecial?_slot (name:=Str.ofString "__next__") hT F.slot_zip_next
  (wpAny_call_entry F.slot_zip_next hT F.entry_zip_next
   (xA D D1 D2 D3 hz MK MN h1 h2 h3 Nj Nk Od hx hy hv λh' a1 a2 a3 a4 a5 a6 a7 a8=>wpAny_pure (hQ h' a1 a2 a3 a4 a5 a6 a7 a8)) (F.args_zip_next_1 _))))
theorem nK{Q:Option Value->Shared->Prop}(hh:A.handled=none)(D:Z3 z TI TO i1 i2 i3)(D1:L3 z TO i1 i2 i3 l1)(D2:L3 z TO i1 i2 i3 l2)(D3:L3 z TO i1 i2 i3 l3)
  (hz:IsZip s.heap z TI TO .none) (MK:bL s.heap TI (.ref i1) (.ref i2) (.ref i3)) (MN:bL s.heap TO a b c)
  (h1:eN s.heap b1 i1 l1 k1) (h2:eN s.heap b2 i2 l2 k2) (h3:eN s.heap b3 i3 l3 k3) (Nj:gi s.heap b1 l1 xs) (Nk:gi s.heap b2 l2 ys) (Od:gi s.heap b3 l3 zs) (Nu:xs[k1]?=none\/ys[k2]?=none\/zs[k3]?=none)
  (hQ:∀ h',(∀ c o,c≠z->c≠TO->c≠i1->c≠i2->c≠i3->s.heap.get? c=some o->h'.get? c=some o)->Q none { s with heap:=h' }):wpAny (model prog w) A (pyNext (.ref z)) Q E s:=by
 have hT:s.TypeIs (.ref z) "zip" := ⟨_,hz,rfl⟩
 unfold pyNext
 refine wpAny_bind (wpAny_attempt (wpAny_callSpecial?_slot (name:=Str.ofString "__next__") hT F.slot_zip_next
  (wpAny_call_entry F.slot_zip_next hT F.entry_zip_next (As hh D D1 D2 D3 hz MK MN h1 h2 h3 Nj Nk Od Nu λh' e hk he=>?_) (F.args_zip_next_1 _))))
 obtain⟨o,ho,hc⟩:=he
 refine wpAny_bind (wpAny_isInstance (T := "StopIteration") (b:=true) ⟨o,ho,hc⟩ isSubtype_stop ?_)
 exact wpAny_pure (hQ _ hk)
end
abbrev JJ(h:Heap)(b1 b2 b3:Bool)(l1 l2 l3:Addr):Heap:=(EK h b1 b2 l1 l2).push (CA b3 l3)
abbrev JD(h:Heap)(b1 b2 b3:Bool)(l1 l2 l3:Addr):Heap:=(JJ h b1 b2 b3 l1 l2 l3).push { cls:=.type "tuple", data:=.seq #[.ref h.objs.size,.ref (F_ h b1 l1).objs.size,.ref (EK h b1 b2 l1 l2).objs.size] }
abbrev JL(h:Heap)(b1 b2 b3:Bool)(l1 l2 l3:Addr):Heap:=(JD h b1 b2 b3 l1 l2 l3).push { cls:=.type "tuple", data:=.seq #[.none,.none,.none] }
abbrev GN(h:Heap)(b1 b2 b3:Bool)(l1 l2 l3:Addr):Heap:=(JL h b1 b2 b3 l1 l2 l3).push { cls:=.type "zip", data:=.fields #[.none,.bool false,.bool false,.ref (JJ h b1 b2 b3 l1 l2 l3).objs.size,.ref (JD h b1 b2 b3 l1 l2 l3).objs.size] }
theorem oY(b1 b2 b3:Bool)(l1 l2 l3:Addr)(xs ys zs:Array Value) :
  Meets (Builtin.«zip.__new__» ⟨[.type "zip", .ref l1,.ref l2,.ref l3],[]⟩) (λ_ R s=>gi s.heap b1 l1 xs/\gi s.heap b2 l2 ys/\gi s.heap b3 l3 zs ∧
   R (.ok (.ret (.ref (JL s.heap b1 b2 b3 l1 l2 l3).objs.size))) { s with heap:=GN s.heap b1 b2 b3 l1 l2 l3 }) :=
 .of_wp λprog w A R s h=>by
  obtain⟨hp,g,d,tk,os⟩:=s;obtain⟨Nj,Nk,Od,h⟩:=h
  have Px:=sub_zip
  have hL1:gi (Shared.heap ⟨hp,g,d,tk,os⟩) b1 l1 xs:=Nj
  have hL2:gi (Shared.heap ⟨hp.push (CA b1 l1),g,d,tk,os⟩) b2 l2 ys:=gi.push Nk _
  have hL3:gi (Shared.heap ⟨(hp.push (CA b1 l1)).push (CA b2 l2),g,d,tk,os⟩) b3 l3 zs:=gi.push (gi.push Od _) _
  wp_walk using gg hL1,gg hL2,gg hL3
  exact⟨_,rfl,h⟩
section
variable{prog:Program}{w:World}{A:Around}{E:Value->Shared->Prop}{s:Shared}
theorem yU{b1 b2 b3:Bool}{l1 l2 l3:Addr}{xs ys zs:Array Value}{Q:Value->Shared->Prop}(Nj:gi s.heap b1 l1 xs)(Nk:gi s.heap b2 l2 ys)(Od:gi s.heap b3 l3 zs)
  (h:∀ h',IsZip h' (s.heap.objs.size+5) (s.heap.objs.size+3) (s.heap.objs.size+4) .none->bL h' (s.heap.objs.size+3) (.ref s.heap.objs.size) (.ref (s.heap.objs.size+1)) (.ref (s.heap.objs.size+2)) ->
   bL h' (s.heap.objs.size+4) .none .none .none->eN h' b1 s.heap.objs.size l1 0->eN h' b2 (s.heap.objs.size+1) l2 0->eN h' b3 (s.heap.objs.size+2) l3 0 ->
   (∀ c o,s.heap.get? c=some o->h'.get? c=some o)->Q (.ref (s.heap.objs.size+5)) { s with heap:=h' }) :
  wpAny (model prog w) A (call (.type "zip") [.ref l1,.ref l2,.ref l3]) Q E s:=by
 refine callType_new F.called_zip (by decide) (oq _ _ _) (pX _ _ _) (λobj=>F.initArgs_range_3 obj _ _ _) F.entry_zip_new
  (oY b1 b2 b3 l1 l2 l3 xs ys zs) ⟨Nj,Nk,Od,?_⟩
 have z1:(F_ s.heap b1 l1).objs.size=s.heap.objs.size+1:=Heap.size_push ..
 have z2:(EK s.heap b1 b2 l1 l2).objs.size=s.heap.objs.size+2:=by rw[Heap.size_push,z1]
 have z3:(JJ s.heap b1 b2 b3 l1 l2 l3).objs.size=s.heap.objs.size+3:=by rw[Heap.size_push,z2]
 have z4:(JD s.heap b1 b2 b3 l1 l2 l3).objs.size=s.heap.objs.size+4:=by rw[Heap.size_push,z3]
 have z5:(JL s.heap b1 b2 b3 l1 l2 l3).objs.size=s.heap.objs.size+5:=by rw[Heap.size_push,z4]
 have g6:(GN s.heap b1 b2 b3 l1 l2 l3).get? (JL s.heap b1 b2 b3 l1 l2 l3).objs.size=some _:=Heap.get?_push_size _ rfl
 have g5:(GN s.heap b1 b2 b3 l1 l2 l3).get? (JD s.heap b1 b2 b3 l1 l2 l3).objs.size=some _:=Heap.get?_push_of_some _ (Heap.get?_push_size _ rfl)
 have g4:(GN s.heap b1 b2 b3 l1 l2 l3).get? (JJ s.heap b1 b2 b3 l1 l2 l3).objs.size=some _:=Heap.get?_push_of_some _ (Heap.get?_push_of_some _ (Heap.get?_push_size _ rfl))
 have g3:(GN s.heap b1 b2 b3 l1 l2 l3).get? (EK s.heap b1 b2 l1 l2).objs.size=some _:=Heap.get?_push_of_some _ (Heap.get?_push_of_some _ (Heap.get?_push_of_some _ (Heap.get?_push_size _ rfl)))
 have g2:(GN s.heap b1 b2 b3 l1 l2 l3).get? (F_ s.heap b1 l1).objs.size=some _:=Heap.get?_push_of_some _ (Heap.get?_push_of_some _ (Heap.get?_push_of_some _ (Heap.get?_push_of_some _ (Heap.get?_push_size _ rfl))))
 have g1:(GN s.heap b1 b2 b3 l1 l2 l3).get? s.heap.objs.size=some _:=Heap.get?_push_of_some _ (Heap.get?_push_of_some _ (Heap.get?_push_of_some _ (Heap.get?_push_of_some _ (Heap.get?_push_of_some _ (Heap.get?_push_size _ rfl)))))
 show _/\_
 rw[z3,z4,z5] at g6
 rw[z1,z2,z3] at g4
 rw[z4] at g5
 rw[z2] at g3
 rw[z1] at g2
 rw[z5]
 exact⟨⟨_,g6,rfl⟩,h _ g6 g4 g5 (eN.new _ b1 _ _ g1) (eN.new _ b2 _ _ g2) (eN.new _ b3 _ _ g3) λc o x =>
  Heap.get?_push_of_some _ (Heap.get?_push_of_some _ (Heap.get?_push_of_some _ (Heap.get?_push_of_some _ (Heap.get?_push_of_some _ (Heap.get?_push_of_some _ x)))))⟩
end
def Kt (K : PySem.W.Frag) (b1 b2 b3 : Bool) (a1 a2 a3 : Addr) : It :=
  ⟨λi H => ∃ xs ys zs x y v, kC K H b1 a1 xs /\ kC K H b2 a2 ys /\ kC K H b3 a3 zs /\ xs[i]? = some x /\ ys[i]? = some y /\ zs[i]? = some v,
   λi H r H' => ∃ p x y v, H p = none /\ r = .ref p /\ H' = upd H p (.tup [x, y, v]) /\ (∀ xs, kC K H b1 a1 xs -> xs[i]? = some x) /\ (∀ ys, kC K H b2 a2 ys -> ys[i]? = some y) /\ (∀ zs, kC K H b3 a3 zs -> zs[i]? = some v),
   λi H => ∃ xs ys zs, kC K H b1 a1 xs /\ kC K H b2 a2 ys /\ kC K H b3 a3 zs /\ (xs.length <= i \/ ys.length <= i \/ zs.length <= i)⟩
theorem qF{X:Cx}{L4:List (Addr×Obj)}{σ:St}{H:Hp}{s:Shared}{b:Bool}{z TI TO i1 i2 i3 a:Addr}{xs:List V}(I:Inv X L4 σ H s)(h:kC X.K H b a xs)(hf:∀ b∈[z,TO,i1,i2,i3,TI],lD X L4 H b):L3 z TO i1 i2 i3 a :=
 ⟨cK I h (hf z (by simp)),cK I h (hf TO (by simp)),cK I h (hf i1 (by simp)),cK I h (hf i2 (by simp)),cK I h (hf i3 (by simp))⟩
theorem yx{P:Program}{w:World}{K:PySem.W.Frag}{elts:List Expr}{x1:Nat}{tp:Pos}(b1 b2 b3:Bool)(a1 a2 a3 z TI TO i1 i2 i3:Addr)(D:Z3 z TI TO i1 i2 i3) :
  Turn P w K (.Tuple elts x1 tp) (Kt K b1 b2 b3 a1 a2 a3) [z,TO,i1,i2,i3,TI] z (λi h=>IsZip h z TI TO .none/\bL h TI (.ref i1) (.ref i2) (.ref i3)/\(∃ a b c,bL h TO a b c)/\eN h b1 i1 a1 i/\eN h b2 i2 a2 i/\eN h b3 i3 a3 i) where
 mem:=by simp
 obj:=λi h st b hb=>by
  obtain⟨hz,MK,⟨a,c,d,MN⟩,h1,h2,h3⟩:=st
  simp only[List.mem_cons,List.mem_nil_iff,or_false] at hb
  rcases hb with q | q | q | q | q | q <;> subst q
  ·exact⟨_,hz,λv z=>by cases z⟩
  ·exact⟨_,MN,λv z=>by cases z⟩
  ·obtain⟨o,vs,e,d⟩:=h1.obj
   exact⟨o,e,λv z=>by rw[d] at z;cases z⟩
  ·obtain⟨o,vs,e,d⟩:=h2.obj
   exact⟨o,e,λv z=>by rw[d] at z;cases z⟩
  ·obtain⟨o,vs,e,d⟩:=h3.obj
   exact⟨o,e,λv z=>by rw[d] at z;cases z⟩
  ·exact⟨_,MK,λv z=>by cases z⟩
 keep:=λi h h' st k=>by
  obtain⟨hz,MK,⟨a,c,d,MN⟩,h1,h2,h3⟩:=st
  exact⟨k z (by simp) _ hz,k TI (by simp) _ MK,⟨a,c,d,k TO (by simp) _ MN⟩,h1.at λo e=>k i1 (by simp) o e,h2.at λo e=>k i2 (by simp) o e,h3.at λo e=>k i3 (by simp) o e⟩
 item:=by
  intro X hP hw hK hc i L4 s σ H E I hf st hg
  subst hP hw hK
  obtain⟨xs,ys,zs,x,y,v,ML,MF,NR,hx,hy,hv⟩:=hg
  obtain⟨Oi,OG,p1,PC⟩:=I.row ML
  obtain⟨NC,OH,p2,PD⟩:=I.row MF
  obtain⟨PH,rv3,p3,hz3'⟩:=I.row NR
  obtain⟨u1,hu1,ru1⟩:=OG.get hx
  obtain⟨u2,hu2,ru2⟩:=OH.get hy
  obtain⟨u3,hu3,ru3⟩:=rv3.get hv
  obtain⟨hz,MK,⟨a,c,d,MN⟩,h1,h2,h3⟩:=st
  obtain⟨oi1,vs1,Pf,di1⟩:=h1.obj
  obtain⟨oi2,vs2,Pg,di2⟩:=h2.obj
  obtain⟨oi3,vs3,ei3,di3⟩:=h3.obj
  refine mj D (qF I ML hf) (qF I MF hf) (qF I NR hf) hz MK MN h1 h2 h3 p1 p2 p3 (x:=u1) (y:=u2) (v:=u3) (by simpa using hu1) (by simpa using hu2) (by simpa using hu3) λh' g1 g2 g3 g4 g4' g5 g6 g7=>⟨_,rfl,?_⟩
  refine wpAny_letOwnedTupleGo_zip (s:={ s with heap:=h' }) g1 λhN hz3 NY=>?_
  have Nl:H s.heap.objs.size=none:=I.bK.fresh (Nat.le_refl _)
  have lt:∀ {c:Addr} {o:Obj},s.heap.get? c=some o->c≠s.heap.objs.size:=λe=>Nat.ne_of_lt (Heap.lt_size e)
  have Ol:∀ b o,b ∉ [z,TO,i1,i2,i3,TI]->s.heap.get? b=some o->hN.get? b=some o:=λb o hb q=>by
   simp only[List.mem_cons,List.mem_nil_iff,or_false,not_or] at hb
   exact(NY.2 b hb.1).trans (g7 b o hb.1 hb.2.1 hb.2.2.1 hb.2.2.2.1 hb.2.2.2.2.1 q)
  have hT3:hN.get? s.heap.objs.size=some { cls:=.type "tuple", data:=.seq #[u1,u2,u3] }:=(NY.2 _ (lt hz).symm).trans g5
  have I3:Inv X L4 σ (upd H s.heap.objs.size (.tup [x,y,v])) { s with heap:=hN,toks:=s.toks } :=
   I.j3 (ch:=[z,TO,i1,i2,i3,TI]) Ol hf (Nat.le_refl _) (λb hb=>by
    simp only[List.mem_cons,List.mem_nil_iff,or_false] at hb
    rcases hb with q | q | q | q | q | q <;> subst q
    ·exact⟨_,hz⟩
    ·exact⟨_,MN⟩
    ·exact⟨_,Pf⟩
    ·exact⟨_,Pg⟩
    ·exact⟨_,ei3⟩
    ·exact⟨_,MK⟩)
    ⟨by show 3<=sizeLine;decide,[u1,u2,u3],.cons ru1 (.cons ru2 (.cons ru3 .nil)),⟨_,hT3,rfl,_,rfl⟩⟩
  refine⟨.ref s.heap.objs.size,_,I3,rfl,⟨_,x,y,v,Nl,rfl,rfl,λzs' OF=>by rw[I.lN OF ML];exact hx,λzs' OF=>by rw[I.lN OF MF];exact hy,λzs' OF=>by rw[I.lN OF NR];exact hv⟩,
   ⟨hz3,(NY.2 TI D.TIz).trans (g7 TI _ D.TIz D.TITO D.TIi1 D.TIi2 D.JZ MK),⟨_,_,_,(NY.2 TO D.TOz).trans g2⟩,g3.at λo e=>(NY.2 i1 D.i1z).trans e,g4.at λo e=>(NY.2 i2 D.i2z).trans e,g4'.at λo e=>(NY.2 i3 D.HG).trans e⟩,λb hb=>?_⟩
  have nb:b≠s.heap.objs.size:=by
   simp only[List.mem_cons,List.mem_nil_iff,or_false] at hb
   rcases hb with q | q | q | q | q | q <;> subst q
   ·exact lt hz
   ·exact lt MN
   ·exact lt Pf
   ·exact lt Pg
   ·exact lt ei3
   ·exact lt MK
  rw[aw nb]
  exact(hf b hb).1
 done:=by
  intro X hP hw hK hc i L4 s σ H E I hf st hg
  subst hP hw hK
  obtain⟨xs,ys,zs,ML,MF,NR,Nu⟩:=hg
  obtain⟨Oi,OG,p1,PC⟩:=I.row ML
  obtain⟨NC,OH,p2,PD⟩:=I.row MF
  obtain⟨PH,rv3,p3,hz3'⟩:=I.row NR
  obtain⟨hz,MK,⟨a,c,d,MN⟩,h1,h2,h3⟩:=st
  have l1:=OG.length
  have l2:=OH.length
  have l3:=rv3.length
  refine nK (I.ok.hd hc) D (qF I ML hf) (qF I MF hf) (qF I NR hf) hz MK MN h1 h2 h3 p1 p2 p3 ?_ λh' k=>⟨rfl,?_⟩
  ·rcases Nu with q | q | q
   ·exact .inl (by simp;omega)
   ·exact .inr (.inl (by simp;omega))
   ·exact .inr (.inr (by simp;omega))
  ·exact I.xt (t':=s.toks) (ch:=[z,TO,i1,i2,i3,TI]) (λb u hb e=>by
    simp only[List.mem_cons,List.mem_nil_iff,or_false,not_or] at hb
    exact k b u hb.1 hb.2.1 hb.2.2.1 hb.2.2.2.1 hb.2.2.2.2.1 e) hf
 self:=λ_ _ _ _ _ st h=>by
  obtain⟨hz,_⟩:=st
  exact wpAny_pyIter_zip hz h
theorem DQ(n:Nat):Z3 (n+5) (n+3) (n+4) n (n+1) (n+2):=by
 refine⟨?_,?_,?_,?_,?_,?_,?_,?_,?_,?_,?_,?_,?_,?_,?_⟩ <;> (show @Ne Nat _ _;omega)
section
variable{X:Cx}
def EJ(K:PySem.W.Frag)(tl:TA):TI:=fun σ H R=>tl σ H λvs H1=>∃ b1 b2 b3 a1 a2 a3,vs=[.ref a1,.ref a2,.ref a3]/\(∃ xs,kC K H1 b1 a1 xs)/\(∃ ys,kC K H1 b2 a2 ys)/\(∃ zs,kC K H1 b3 a3 zs)/\R (Kt K b1 b2 b3 a1 a2 a3) H1
theorem CM{elts:List Expr}{x1:Nat}{tp:Pos}{l1 l2 l3:Expr}{tl:TA}{p pos:Pos}(hg:Gl X "zip")(hm:X.mg "zip" = none)(hl:PA X [l1,l2,l3] tl)(hs:autoParam (starEach [l1,l2,l3] X.env=[(false,eval l1 X.env),(false,eval l2 X.env),(false,eval l3 X.env)]) aR._auto_1)(Nm:autoParam (starEach [l2,l3] X.env=[(false,eval l2 X.env),(false,eval l3 X.env)]) aR._auto_1) :
  PI X (.Tuple elts x1 tp) (.Call (.Name "zip" p) [l1,l2,l3] [] pos) (EJ X.K tl):=by
 intro L4 s σ H R I h
 refine Call_ (jn I hg hm PyProof.Rows.boot_zip (PyProof.Rows.callWith_type1 (c7 (hl pos L4 s σ H _ I h) λus s1 ⟨vs,H1,I1,r1,q1⟩=>?_) (by rw[hs,Nm]) (by rw[Nm];rfl)))
 obtain⟨b1,b2,b3,a1,a2,a3,e,⟨xs,ML⟩,⟨ys,MF⟩,⟨zs,NR⟩,q⟩:=q1
 subst e
 cases r1 with
 | cons r rr =>
  cases rr with
  | cons r' rr =>
   cases rr with
   | cons PL rr =>
    cases rr
    cases (show _=Value.ref a1 from r)
    cases (show _=Value.ref a2 from r')
    cases (show _=Value.ref a3 from PL)
    obtain⟨Oi,OG,p1,PC⟩:=I1.row ML
    obtain⟨NC,OH,p2,PD⟩:=I1.row MF
    obtain⟨PH,rv3,p3,hz3⟩:=I1.row NR
    refine yU p1 p2 p3 λh' g1 g2 g3 g4 g5 g6 g7=>?_
    have I2:Inv X L4 σ H1 { s1 with heap:=h' }:=I1.kept (t':=s1.toks) g7
    refine wpAny_pyIter_zip (s:={ s1 with heap:=h' }) g1 ?_
    refine⟨s1.heap.objs.size+5,[s1.heap.objs.size+5,s1.heap.objs.size+4,s1.heap.objs.size,s1.heap.objs.size+1,s1.heap.objs.size+2,s1.heap.objs.size+3],_,_,H1,rfl,I2,
     yx b1 b2 b3 a1 a2 a3 _ _ _ _ _ _ (DQ s1.heap.objs.size),⟨g1,g2,⟨_,_,_,g3⟩,g4,g5,g6⟩,λb hb=>?_,q⟩
    have hle:s1.heap.objs.size<=b:=by
     simp only[List.mem_cons,List.mem_nil_iff,or_false] at hb
     rcases hb with q | q | q | q | q | q
     ·rw[q];exact Nat.le_add_right _ 5
     ·rw[q];exact Nat.le_add_right _ 4
     ·rw[q];exact Nat.le_refl _
     ·rw[q];exact Nat.le_add_right _ 1
     ·rw[q];exact Nat.le_add_right _ 2
     ·rw[q];exact Nat.le_add_right _ 3
    exact I1.sI hle (I1.bK.fresh hle)
end
end L2
namespace L2
open PySem PySem.Spec PyProof.Rows
section
variable{M:Model}{A:Around}{E:Value->Shared->Prop}{s:Shared}
theorem qZ{base:Heap}{env:Env}{outer:List Env}{L e:Addr}{oe:Obj}{vs:Array Value}{head:Value}{OA:Bool}{Q:Unit->Shared->Prop}
  (Oc:A.frames=some (env::outer)) (hl:s.heap.FunFrames base (env::outer)) (hf:env.frame=some L)
  (he:s.heap.get? e=some oe) (hd:oe.data=.fields vs) (Nv:1<vs.size)
  (h:∀ h' T oT ts,h'.get? e=some (Obj.mapFields (·.setIfInBounds 1 (.ref T)) oe)->s.heap.objs.size<=T->T≠e->h'.get? T=some oT->oT.data=.fields ts->ts[3]?=some (rawInt L) ->
   (∀ b o,b≠e->b ∉ vi (env::outer)->s.heap.get? b=some o->h'.get? b=some o)->(∀ b o,b≠e->s.heap.get? b=some o->∃ sl,h'.get? b=some { o with slots:=sl })->Q () { s with heap:=h' }) :
  wpAny M A (do let a ← frameOf env;let pl ← entryPlaceOf L OA;let b ← EntryCells.newEntry head a .none (rawInt L) .none pl;setField (.ref e) 1 b) Q E s:=by
 have hene:e ∉ (env::outer).filterMap (·.frame):=λhm=>by
  obtain⟨_,o,ho,Pr⟩:=hl.mem hm
  rw[he] at ho;injection ho with ho;subst ho;exact Pr vs hd
 refine wpAny_bind (wpAny_frameOf_fun Oc hl hf λh₁ hs1=>?_)
 refine wpAny_bind (wpAny_entryPlaceOf λpl Mz=>?_)
 unfold EntryCells.newEntry newFields
 refine wpAny_bind (wpAny_newObj_type ?_ (Mz.sizeOk5 _ _ _ _ _))
 have he1:h₁.get? e=some oe:=(hs1.2.1 e hene).trans he
 have he₂:=Heap.get?_push_of_some (h:=h₁) { cls:=.type "traceback", dict:=none,data:=.fields ([head,.ref L,.none,rawInt L,.none]++(if pl.isEmpty then List.replicate 6 Value.none else pl)).toArray } he1
 have hTe:h₁.objs.size≠e:=Nat.ne_of_gt (Heap.lt_size he1)
 have hd3:=Obj.data_mapFields hd (·.setIfInBounds 1 (Value.ref h₁.objs.size))
 have he3:=Heap.get?_update_self (Obj.mapFields (·.setIfInBounds 1 (Value.ref h₁.objs.size))) he₂ (Obj.isFreed_of_fields hd3)
 have hT₃:=(Heap.get?_update_other (h₁.push { cls:=.type "traceback", dict:=none,data:=.fields ([head,.ref L,.none,rawInt L,.none]++(if pl.isEmpty then List.replicate 6 Value.none else pl)).toArray })
  (Obj.mapFields (·.setIfInBounds 1 (Value.ref h₁.objs.size))) (Ne.symm hTe)).trans (Heap.get?_push_size h₁ rfl)
 have keep:∀ b o,b≠e->h₁.get? b=some o ->
   ((h₁.push { cls:=.type "traceback", dict:=none,data:=.fields ([head,.ref L,.none,rawInt L,.none]++(if pl.isEmpty then List.replicate 6 Value.none else pl)).toArray }).update e (Obj.mapFields (·.setIfInBounds 1 (Value.ref h₁.objs.size)))).get? b=some o:=λb o N2 hb=>by
  rw[Heap.get?_update_other _ _ (Ne.symm N2)]
  exact Heap.get?_push_of_some _ hb
 refine wpAny_setField he₂ hd Nv (h _ h₁.objs.size _ _ he3 ?_ hTe hT₃ rfl (by first | (simp;done) | (rcases Mz with rfl | ⟨_,_,_,_,_,_,_,rfl⟩ <;> simp)) ?_ ?_)
 ·exact Nat.le_of_eq hs1.1.symm
 ·intro b o N2 hbf hb
  exact keep b o N2 ((hs1.2.1 b hbf).trans hb)
 ·intro b o N2 hb
  obtain⟨sl,hs⟩:=hs1.2.2 b o hb
  exact⟨sl,keep b _ N2 hs⟩
def Lies(h:Heap)(e:Addr)(vs:Array Value)(to:Option Addr):Prop:=match to with
 | none=>vs[1]?=some .none
 | some T=>vs[1]?=some (.ref T)/\T≠e/\∃ oT ts,h.get? T=some oT/\oT.data=.fields ts/\ts[3]?=some .none
theorem xB{base:Heap}{env:Env}{outer:List Env}{L e:Addr}{oe:Obj}{vs:Array Value}{to:Option Addr}{Q:Unit->Shared->Prop}
  (Oc:A.frames=some (env::outer)) (hl:s.heap.FunFrames base (env::outer)) (hf:env.frame=some L)
  (he:s.heap.get? e=some oe) (hd:oe.data=.fields vs) (hto:Lies s.heap e vs to)
  (h:∀ h' T oT ts,h'.get? e=some (Obj.mapFields (·.setIfInBounds 1 (.ref T)) oe)->s.heap.objs.size<=T->T≠e->h'.get? T=some oT->oT.data=.fields ts->ts[3]?=some (rawInt L) ->
   (∀ b o,b≠e->(∀ T,to=some T->b≠T)->b ∉ vi (env::outer)->s.heap.get? b=some o->h'.get? b=some o) ->
   (∀ b o,b≠e->(∀ T,to=some T->b≠T)->s.heap.get? b=some o->∃ sl,h'.get? b=some { o with slots:=sl })->(∀ b o,s.heap.get? b=some o->∃ o',h'.get? b=some o')->Q () { s with heap:=h' }) :
  wpAny M A (noteFrame (.ref e) env) Q E s:=by
 unfold noteFrame
 simp only[hf]
 cases to with
 | none =>
  have h1:vs[1]?=some .none:=hto
  refine wpAny_bind (wpAny_field he hd h1 ?_)
  rw[if_neg (by decide)]
  refine qZ Oc hl hf he hd (Array.getElem?_eq_some_iff.mp h1).1 λh' T oT ts a1 a2 a3 a4 a5 a6 a7 a8=>?_
  refine h h' T oT ts a1 a2 a3 a4 a5 a6 (λb o n1 _ n2 q=>a7 b o n1 n2 q) (λb o n1 _ q=>a8 b o n1 q) λb o q=>?_
  by_cases z:b=e
  ·subst z;exact⟨_,a1⟩
  ·obtain⟨sl,r⟩:=a8 b o z q;exact⟨_,r⟩
 | some T0 =>
  obtain⟨h1,hTe,oT,ts,hT,hdT,h3⟩:=hto
  refine wpAny_bind (wpAny_field he hd h1 ?_)
  rw[if_pos (show (Value.ref T0 != Value.none)=true from by simp)]
  refine wpAny_bind (wpAny_field hT hdT h3 ?_)
  rw[if_neg (show ¬ ((Value.none==rawInt L)=true) from by simp[rawInt])]
  refine wpAny_bind (wpAny_setField hT hdT (Array.getElem?_eq_some_iff.mp h3).1 ?_)
  have other:∀ b,b≠T0->(s.heap.update T0 (Obj.mapFields (·.setIfInBounds 3 Value.none))).get? b=s.heap.get? b:=λb hb=>Heap.get?_update_other _ _ (Ne.symm hb)
  have Oq:∀ b o,s.heap.get? b=some o->(∀ vs,o.data≠.fields vs)->b≠T0:=λb o hb Pr q=>by
   rw[q,hT] at hb;injection hb with hb;subst hb;exact Pr ts hdT
  have Oz:=Heap.get?_update_self (Obj.mapFields (·.setIfInBounds 3 Value.none)) hT (Obj.isFreed_of_fields (Obj.data_mapFields hdT _))
  refine qZ Oc (hl.of_keeps λb o hb Pr=>⟨o,(other b (Oq b o hb Pr)).trans hb,rfl⟩) hf ((other e (Ne.symm hTe)).trans he) hd (Array.getElem?_eq_some_iff.mp h1).1 λh' T oT' ts' a1 a2 a3 a4 a5 a6 a7 a8=>?_
  refine h h' T oT' ts' a1 (by simpa [Heap.update] using a2) a3 a4 a5 a6 (λb o n1 n2 n3 q=>a7 b o n1 n3 ((other b (n2 T0 rfl)).trans q)) (λb o n1 n2 q=>a8 b o n1 ((other b (n2 T0 rfl)).trans q)) λb o q=>?_
  by_cases z:b=e
  ·subst z;exact⟨_,a1⟩
  ·by_cases z2:b=T0
   ·subst z2
    obtain⟨sl,r⟩:=a8 b _ z Oz;exact⟨_,r⟩
   ·obtain⟨sl,r⟩:=a8 b o z ((other b z2).trans q);exact⟨_,r⟩
end
end L2
namespace L2
open PySem PySem.Spec PyProof.Rows
def ky(C:Addr)(dd:Option Addr)(e:Addr):HO:=.ext λh=>∃ t,h.get? e=some ⟨.ref C,dd,.fields #[.ref t,.none,.none,.none,.bool false,.none],#[]⟩
def Iv(C:Addr)(dd:Option Addr)(e T:Addr):HO:=.ext λh=>∃ vs,h.get? e=some ⟨.ref C,dd,.fields vs,#[]⟩/\vs[1]?=some (.ref T)
def Lo(fl:Value)(T:Addr):HO:=.ext λh=>∃ oT ts,h.get? T=some oT/\oT.data=.fields ts/\ts[3]?=some fl
def n6(Hc:Hp)(e T C:Addr)(dd:Option Addr)(fl:Value):Hp:=upd (upd Hc T (Lo fl T)) e (Iv C dd e T)
theorem ui{Hc:Hp}{e T C:Addr}{dd:Option Addr}{fl:Value}:n6 Hc e T C dd fl e=some (Iv C dd e T):=aA
theorem qz{Hc:Hp}{e T C:Addr}{dd:Option Addr}{fl:Value}(n:T≠e):n6 Hc e T C dd fl T=some (Lo fl T):=by unfold n6;rw[aw n,aA]
theorem l8{Hc:Hp}{e T C b:Addr}{dd:Option Addr}{fl:Value}(n:b≠e)(n2:b≠T):n6 Hc e T C dd fl b=Hc b:=by unfold n6;rw[aw n,aw n2]
section
variable{X:Cx}{L4:List (Addr×Obj)}{σ:St}{H:Hp}{s:Shared}
theorem Inv.note{Hc:Hp}{e C:Addr}{dd:Option Addr}{to:Option Addr}{vs:Array Value}{φ:Heap->Prop}{Q:Unit->Shared->Prop}{E:Value->Shared->Prop}(I:Inv X L4 σ H s)(Mu:X.stack=X.env::X.outer)(hf:X.env.frame=some X.env.locals)
  (he:H e=some (.ext φ)) (hx:s.heap.get? e=some ⟨.ref C,dd,.fields vs,#[]⟩) (lies:Lies s.heap e vs to) (hT:∀ T,to=some T->(∃ ψ,H T=some (.ext ψ))/\Hc T=none) (hc:∀ b,b≠e->(∀ T,to=some T->b≠T)->Hc b=H b)
  (h:∀ h' T,Hc T=none->T≠e->Inv X L4 σ (n6 Hc e T C dd (rawInt X.env.locals)) { s with heap:=h' }->Q () { s with heap:=h' }) :
  wpAny (model X.prog X.w) X.A (noteFrame (.ref e) X.env) Q E s:=by
 have hl:=I.stack
 have Oc:=I.ok.frames
 have sf:=I.rR
 rw[Mu] at hl Oc sf
 refine xB (base:=X.base) Oc hl hf hx rfl lies λh' T oT ts a1 a2 a3 a4 a5 a6 a7 a8 a9=>?_
 have hTn:H T=none:=I.bK.fresh a2
 have nT:∀ b u,H b=some u->b≠T:=λb u q z=>by rw[z,hTn] at q;cases q
 have N7:∀ b u,H b=some u->(∀ ψ,u≠.ext ψ)->b≠e/\∀ T0,to=some T0->b≠T0:=by
  intro b u q hu
  refine⟨λz=>?_,λT0 z w=>?_⟩
  ·rw[z,he] at q;exact hu _ (Option.some.inj q).symm
  ·obtain⟨⟨ψ,q2⟩,_⟩:=hT T0 z
   rw[w,q2] at q;exact hu _ (Option.some.inj q).symm
 have old:∀ b u,H b=some u->(∀ ψ,u≠.ext ψ)->n6 Hc e T C dd (rawInt X.env.locals) b=some u:=λb u q hu=>by
  obtain⟨n1,n2⟩:=N7 b u q hu
  rw[l8 n1 (nT b u q),hc b n1 n2];exact q
 have hcT:Hc T=none:=by
  by_cases z:∃ T0,to=some T0/\T=T0
  ·obtain⟨T0,z1,z2⟩:=z;rw[z2];exact(hT T0 z1).2
  ·rw[hc T a3 λT0 z1 z2=>z ⟨T0,z1,z2⟩];exact hTn
 have un:∀ b o,s.heap.get? b=some o->H b=none->b≠e/\(∀ T0,to=some T0->b≠T0)/\b≠T:=by
  intro b o q n
  refine⟨λz=>?_,λT0 z w=>?_,Nat.ne_of_lt (Nat.lt_of_lt_of_le (Heap.lt_size q) a2)⟩
  ·rw[z,he] at n;cases n
  ·obtain⟨⟨ψ,q2⟩,_⟩:=hT T0 z
   rw[w,q2] at n;cases n
 refine h h' T hcT a3 ?_
 have U:Un (vi X.stack) [] H (n6 Hc e T C dd (rawInt X.env.locals)) s.heap h':=by
  rw[Mu]
  refine⟨λb o q n nf _=>?_,λb o q n _ _=>?_,λb o q n _=>?_,λb o q _=>a9 b o q,λb xs q=>old b _ q (λ_ z=>nomatch z),λb ob u q=>old b _ q (λ_ z=>nomatch z),λb ps q=>⟨#[],?_⟩⟩
  ·obtain⟨n1,n2,_⟩:=un b o q n;exact a7 b o n1 n2 nf q
  ·obtain⟨n1,n2,_⟩:=un b o q n;exact a8 b o n1 n2 q
  ·obtain⟨n1,n2,n3⟩:=un b o q n
   rw[l8 n1 n3,hc b n1 n2];exact n
  ·rw[old b _ q (λ_ z=>nomatch z)];simp
 have ok:mK X.prog X.w (n6 Hc e T C dd (rawInt X.env.locals)) h':=λb u q=>by
  by_cases z:b=e
  ·subst z
   rw[ui] at q;cases q
   refine⟨⟨_,a1,?_⟩,⟨_,a1⟩,λh1 h2 ⟨ws,q1,q2⟩ k=>⟨ws,k _ q1,q2⟩⟩
   have Nv:1<vs.size:=by
    cases to with
    | none=>exact(Array.getElem?_eq_some_iff.mp (show vs[1]?=some .none from lies)).1
    | some T0=>exact(Array.getElem?_eq_some_iff.mp lies.1).1
   simp[Nv]
  ·by_cases z2:b=T
   ·subst z2
    rw[qz a3] at q;cases q
    exact⟨⟨oT,ts,a4,a5,a6⟩,⟨_,a4⟩,λh1 h2 ⟨o1,t1,q1,q2,q3⟩ k=>⟨o1,t1,k _ q1,q2,q3⟩⟩
   ·rw[l8 z z2] at q
    have z3:∀ T0,to=some T0->b≠T0:=λT0 w w2=>by rw[w2,(hT T0 w).2] at q;cases q
    rw[hc b z z3] at q
    have nf:∀ c u',H c=some u'->c ∉ vi (X.env::X.outer):=λc u' q' hm=>by have:=sf c hm;rw[q'] at this;cases this
    refine(I.bK b u q).nM (λc v OB q'=>?_) (λc q'=>old c _ q' (λ_ z=>nomatch z)) λc xs q'=>old c _ q' (λ_ z=>nomatch z)
    rcases OB with rfl | OB
    ·exact a7 c v z z3 (nf c u q) q'
    ·obtain⟨n1,n2⟩:=N7 c _ OB (λ_ z=>nomatch z)
     exact a7 c v n1 n2 (nf c _ OB) q'
 exact I.call (ch:=[]) U ok I.bare (λb z=>absurd z (by simp))
theorem Inv.Hb{Hc:Hp}{e T C:Addr}{dd:Option Addr}{fl:Value}(I:Inv X L4 σ (n6 Hc e T C dd fl) s)(n:T≠e):∃ vs oT ts,s.heap.get? e=some ⟨.ref C,dd,.fields vs,#[]⟩/\vs[1]?=some (.ref T)/\s.heap.get? T=some oT/\oT.data=.fields ts/\ts[3]?=some fl:=by
 obtain⟨vs,h1,h2⟩:=(I.bK e _ ui).1
 obtain⟨oT,ts,q⟩:=(I.bK T _ (qz n)).1
 exact⟨vs,oT,ts,h1,h2,q⟩
theorem Inv.Ih{Hc:Hp}{e T C:Addr}{dd:Option Addr}{fl:Value}{Q:Unit->Shared->Prop}{E:Value->Shared->Prop}(I:Inv X L4 σ (n6 Hc e T C dd fl) s)(hfl:fl=.none\/fl=rawInt X.env.locals)(n:T≠e)(hcT:Hc T=none)(Mu:X.stack=X.env::X.outer)(hf:X.env.frame=some X.env.locals)
  (h:∀ h' T,Hc T=none->T≠e->Inv X L4 σ (n6 Hc e T C dd (rawInt X.env.locals)) { s with heap:=h' }->Q () { s with heap:=h' }) :
  wpAny (model X.prog X.w) X.A (noteFrame (.ref e) X.env) Q E s:=by
 obtain⟨vs,oT,ts,hx,h1,hT,hd,h3⟩:=I.Hb n
 rcases hfl with rfl | rfl
 ·refine I.note (Hc:=Hc) (to:=some T) Mu hf ui hx ⟨h1,n,oT,ts,hT,hd,h3⟩ (λT0 z=>?_) (λb n1 n2=>(l8 n1 (n2 T rfl)).symm) h
  cases z
  exact⟨⟨_,qz n⟩,hcT⟩
 ·unfold noteFrame
  simp only[hf]
  refine wpAny_bind (wpAny_field hx rfl h1 ?_)
  rw[if_pos (show (Value.ref T != Value.none)=true from by simp)]
  refine wpAny_bind (wpAny_field hT hd h3 ?_)
  rw[if_pos (show (rawInt X.env.locals==rawInt X.env.locals)=true from by simp)]
  exact wpAny_pure (h s.heap T hcT n I)
theorem Inv.Ii{e C:Addr}{dd:Option Addr}{Q:Unit->Shared->Prop}{E:Value->Shared->Prop}(I:Inv X L4 σ H s)(he:H e=some (ky C dd e))(Mu:X.stack=X.env::X.outer)(hf:X.env.frame=some X.env.locals)
  (h:∀ h' T,upd H e (jw C dd e) T=none->T≠e->Inv X L4 σ (n6 (upd H e (jw C dd e)) e T C dd (rawInt X.env.locals)) { s with heap:=h' }->Q () { s with heap:=h' }) :
  wpAny (model X.prog X.w) X.A (noteFrame (.ref e) X.env) Q E s:=by
 obtain⟨t,hx⟩:=(I.bK e _ he).1
 exact I.note (Hc:=upd H e (jw C dd e)) (to:=none) Mu hf he hx rfl (λ_ z=>by cases z) (λb n1 _=>aw n1) h
theorem Inv.Au{Hc:Hp}{e T C:Addr}{dd:Option Addr}{fl:Value}{fr:Option Addr}{Q:Unit->Shared->Prop}{E:Value->Shared->Prop}(I:Inv X L4 σ (n6 Hc e T C dd fl) s)(n:T≠e)
  (h:∀ h',Inv X L4 σ (n6 Hc e T C dd (fr.elim .none λf=>rawInt f)) { s with heap:=h' }->Q () { s with heap:=h' }) :
  wpAny (model X.prog X.w) X.A (setFlight (.ref e) fr) Q E s:=by
 obtain⟨vs,oT,ts,hx,h1,hT,hd,h3⟩:=I.Hb n
 unfold setFlight
 refine wpAny_bind (wpAny_field hx rfl h1 ?_)
 rw[if_pos (show (Value.ref T != Value.none)=true from by simp)]
 have Nv:3<ts.size:=(Array.getElem?_eq_some_iff.mp h3).1
 refine wpAny_setField hT hd Nv (h _ ?_)
 have other:∀ b,b≠T->(s.heap.update T (Obj.mapFields (·.setIfInBounds 3 (fr.elim Value.none λf=>rawInt f)))).get? b=s.heap.get? b:=λb hb=>Heap.get?_update_other _ _ (Ne.symm hb)
 have Oz:=Heap.get?_update_self (Obj.mapFields (·.setIfInBounds 3 (fr.elim Value.none λf=>rawInt f))) hT (Obj.isFreed_of_fields (Obj.data_mapFields hd _))
 have nT:∀ b,n6 Hc e T C dd fl b=none->b≠T:=λb q z=>by rw[z,qz n] at q;cases q
 have same:∀ b,b≠T->n6 Hc e T C dd (fr.elim .none λf=>rawInt f) b=n6 Hc e T C dd fl b:=λb z=>by
  by_cases w:b=e
  ·subst w;rw[ui,ui]
  ·rw[l8 w z,l8 w z]
 have ne:∀ b u,n6 Hc e T C dd fl b=some u->(∀ ψ,u≠.ext ψ)->b≠T:=λb u q hu z=>by rw[z,qz n] at q;exact hu _ (Option.some.inj q).symm
 refine I.un (t':=s.toks) ⟨λb o q z _ _=>(other b (nT b z)).trans q,λb o q z _ _=>⟨o.slots,(other b (nT b z)).trans q⟩,λb o q z _=>by rw[same b (nT b z)];exact z,λb o q _=>?_,λb xs q=>?_,λb ob u q=>?_,λb ps q=>⟨#[],?_⟩⟩ λb u q=>?_
 ·by_cases z:b=T
  ·subst z;exact⟨_,Oz⟩
  ·exact⟨o,(other b z).trans q⟩
 ·rw[same b (ne b _ q λ_ z=>nomatch z)];exact q
 ·rw[same b (ne b _ q λ_ z=>nomatch z)];exact q
 ·rw[same b (ne b _ q λ_ z=>nomatch z),q];simp
 ·by_cases z:b=T
  ·subst z
   rw[qz n] at q;cases q
   refine⟨⟨_,_,Oz,Obj.data_mapFields hd _,?_⟩,⟨_,Oz⟩,λh1 h2 ⟨o1,t1,q1,q2,q3⟩ k=>⟨o1,t1,k _ q1,q2,q3⟩⟩
   simp[Nv]
  ·rw[same b z] at q
   refine(I.bK b u q).nM (λc v hc q'=>(other c ?_).trans q') (λc q'=>?_) λc xs q'=>?_
   ·rcases hc with rfl | hc
    ·exact z
    ·exact ne c _ hc λ_ z=>nomatch z
   ·rw[same c (ne c _ q' λ_ z=>nomatch z)];exact q'
   ·rw[same c (ne c _ q' λ_ z=>nomatch z)];exact q'
end
def bS(P:Program)(w:World):CJ:=λouter H s E e s'=>∃ (ea T C:Addr) (dd:Option Addr) (Hc:Hp),e=.ref ea/\s'.os=s.os/\AllBare s'.gens/\Un (vi outer) [] H (n6 Hc ea T C dd .none) s.heap s'.heap/\mK P w (n6 Hc ea T C dd .none) s'.heap ∧
 Hc ea=some (jw C dd ea)/\Hc T=none/\T≠ea/\E (.ref ea) none Hc
def Zx (X : Cx) (E : St -> XK) (e : Value) (s : Shared) : Prop := ∃ (ea C : Addr) (dd : Option Addr) (L4 : List (Addr × Obj)) (σ : St), e = .ref ea ∧
  ((∃ H, Inv X L4 σ H s /\ H ea = some (ky C dd ea) /\ E σ (.ref ea) none (upd H ea (jw C dd ea))) ∨
   (∃ Hc T fl, Inv X L4 σ (n6 Hc ea T C dd fl) s /\ (fl = .none \/ fl = rawInt X.env.locals) /\ Hc ea = some (jw C dd ea) /\ Hc T = none /\ T ≠ ea /\ E σ (.ref ea) none Hc))
theorem Zx.note{X:Cx}{E:St->XK}{e:Value}{s:Shared}{Q:Unit->Shared->Prop}{F:Value->Shared->Prop}(z:Zx X E e s)(Mu:X.stack=X.env::X.outer)(hf:X.env.frame=some X.env.locals)
  (h:∀ s' ea C dd L4 σ Hc T,e=.ref ea->Inv X L4 σ (n6 Hc ea T C dd (rawInt X.env.locals)) s'->Hc ea=some (jw C dd ea)->Hc T=none->T≠ea->E σ (.ref ea) none Hc->Q () s') :
  wpAny (model X.prog X.w) X.A (noteFrame e X.env) Q F s:=by
 obtain⟨ea,C,dd,L4,σ,rfl,⟨H,I,h1,h2⟩ | ⟨Hc,T,fl,I,h1,h2,h3,h4,h5⟩⟩:=z
 ·exact I.Ii h1 Mu hf λh' T q1 q2 I2=>h _ ea C dd L4 σ _ T rfl I2 aA q1 q2 h2
 ·exact I.Ih h1 h4 h3 Mu hf λh' T q1 q2 I2=>h _ ea C dd L4 σ _ T rfl I2 h2 q1 q2 h5
theorem Zx.Fm{X:Cx}{E:XK}{e:Value}{s:Shared}{F:Value->Shared->Prop}(z:Zx X (λ_=>E) e s)(Mu:X.stack=X.env::X.outer)(hf:X.env.frame=some X.env.locals)(hex:X.ex=[]) :
  wpAny (model X.prog X.w) X.A (leaving X.env e) (λ_ s'=>bS X.prog X.w X.outer X.H₀ X.s₀ E e s') F s:=by
 unfold leaving
 refine wpAny_bind (z.note Mu hf λs' ea C dd L4 σ Hc T he I h1 h2 h3 h4=>?_)
 subst he
 refine I.Au h3 λh' I2=>⟨ea,T,C,dd,Hc,rfl,I2.os,I2.bare,?_,I2.bK,h1,h2,h3,h4⟩
 have:=I2.base
 rw[hex] at this
 exact this
theorem Zx.own{X:Cx}{E:St->XK}(Mu:X.stack=X.env::X.outer)(hf:X.env.frame=some X.env.locals):PassesOwn (model X.prog X.w) X.A X.env (Zx X E):=by
 intro e s z
 refine z.note Mu hf λs' ea C dd L4 σ Hc T he I h1 h2 h3 h4=>?_
 subst he
 obtain⟨vs,oT,ts,hx,q1,_⟩:=I.Hb h3
 show wpAny _ _ _ _ _ _
 refine wpAny_bind (wpAny_field hx rfl q1 ?_)
 rw[if_neg (show ¬ ((Value.ref T==Value.none)=true) from by simp)]
 rw[hf]
 refine I.Au h3 λh' I2=>⟨ea,C,dd,L4,σ,rfl,.inr ⟨Hc,T,_,I2,.inr rfl,h1,h2,h3,h4⟩⟩
structure fw (X:Cx) (E:St->XK):Prop where
 pass:∀ (L4:List (Addr×Obj)) (σ:St) (H:Hp) (s:Shared) (e:Value) (s':Shared),Inv X L4 σ H s->bS X.prog X.w X.stack H s (E σ) e s'->X.xe e s'
 new:∀ (L4:List (Addr×Obj)) (σ:St) (H:Hp) (s:Shared) (e C:Addr) (dd:Option Addr),Inv X L4 σ H s->H e=some (ky C dd e)->E σ (.ref e) none (upd H e (jw C dd e))->X.xe (.ref e) s
 own:PassesOwn (model X.prog X.w) X.A X.env X.xe
abbrev Cx.out(X:Cx)(E:St->XK):Cx:=X.qf (Zx X E)
theorem Eo{X:Cx}{E:St->XK}(Mu:X.stack=X.env::X.outer)(hf:X.env.frame=some X.env.locals):fw (X.out E) E where
 pass:=by
  intro L4 σ H s e s' I h
  obtain⟨ea,T,C,dd,Hc,rfl,os,bare,un,bK,h1,h2,h3,hE⟩:=h
  have I':=I.iG.A9 (ch:=[]) os un bK bare (λb z=>absurd z (by simp))
  exact⟨ea,C,dd,L4,σ,rfl,.inr ⟨Hc,T,.none,I',.inl rfl,h1,h2,h3,hE⟩⟩
 new:=λL4 σ H s e C dd I he hE=>⟨e,C,dd,L4,σ,rfl,.inl ⟨H,I.iG,he,hE⟩⟩
 own:=Zx.own Mu hf
theorem wb{P:Program}{w:World}{K:PySem.W.Frag}{mg:Str->Option Value}{base:Heap}{k:Nat}{f:Addr}{name qual:Str}{params:Arguments}{body:List Stmt}{scope:Scope}{dV kV doc pm Mp ct oc:Value}{an od:Option Addr}
  {N1:Array (Option Value)} {N ps:List Str} {sp:Sp} (lk:K.lookup f=some ⟨oc,od,.func (PySem.W.fnOf name qual params body scope dV kV doc pm an Mp ct),N1⟩) (Ng:PySem.W.codeIn K Mp qual=true) (S:cO N ps scope)
  (len:∀ vs H Q E,sp vs H Q E->vs.length=ps.length)
  (N9:∀ (A:Around) (outer:List Env) (s:Shared) (H:Hp) (vs:List V) (Q:VK) (E:XK),cD k (A.deeper (envOfC qual scope s.heap.objs.size f Mp))->sp vs H Q E ->
   ∃ t,lW ((lF (bS P w) P w K mg base N qual scope f Mp A outer s H E).out λ_=>E) body t/\t { nx:=λ_ H'=>Q .cp H',rt:=Q } (start N vs) H) :
  aP P w K mg base (bS P w) (k+1) f (PySem.W.fnOf name qual params body scope dV kV doc pm an Mp ct) ps sp:=by
 refine HR lk Ng S len λA outer s H vs Q E hr hs=>?_
 obtain⟨t,h1,h2⟩:=N9 A outer s H vs Q E hr hs
 refine⟨t,λL4 s1 σ H1 D I q=>?_,h2⟩
 refine wpAny_mono (h1 L4 s1 σ H1 D (I.qf _) q) (λf s' z=>z.iG) λe s' z=>?_
 exact z.Fm rfl rfl rfl
end L2
namespace L2
open PySem PySem.Spec PyProof.Rows
open PySem.Builtin.ObjectAttr (storeInOwnDict storeTaker? setByDescriptor)
theorem rK{P:Program}{w:World}{H:Hp}{h:Heap}{C e t:Addr}{dd:Option Addr}(he:h.get? e=some ⟨.ref C,dd,.fields #[.ref t,.none,.none,.none,.bool false,.none],#[]⟩):cv P w H h e (ky C dd e) :=
 ⟨⟨t,he⟩,⟨_,he⟩,λ_ _ ⟨t,q⟩ k=>⟨t,k _ q⟩⟩
section
variable{X:Cx}{C f:Addr}{fd:FuncData}{ps:List Str}{sp:Sp}{x:Str}{p pos:Pos}{e:Expr}{es:List Expr}{t:TA}{k:Nat}
def IG(C:Addr)(t:TA):TE:=fun σ H Q=>t σ H λvs H1=>vs.length<=sizeLine/\∀ a,H1 a=none->Q (.ref a) (upd H1 a (ky C none a))
theorem Cy(hc:PySem.W.excIn X.K C fD "ValueError.__new__" = true)(kp:PySem.W.keepIn X.K (.ref C)=true)(hg:Gl X x)(hm:X.mg x=some (.ref C))
  (ha:PA X (e::es) t) (M0:autoParam ((x==("__debug__" : Str))=false) aD._auto_1) (he:autoParam (starEach (e::es) X.env=(false,eval e X.env)::starEach es X.env) aR._auto_1) (Mz:autoParam ((backTo pos (starEach es X.env)).any (·.1)=false) aR._auto_1) :
  PE X (.Call (.Name x p) (e::es) [] pos) (IG C t):=by
 intro L4 s σ H Q I h
 refine wpAny_Call_Name_kw (lS I hg hm ?_ M0)
 refine PySem.W.callWith_K (h₀:=X.base) I.ok.mod.EO kp (c7 (ha pos L4 s σ H _ I h) λus s1 ⟨vs,H1,I1,r,hl,q⟩=>⟨I1.jV,?_⟩) he Mz
 obtain⟨bm,N,nm,qn,bs,NN,sn,sub,ab,col,dd,k0,k1,k2,k3,k5,mN,hC,hN,N3,T⟩:=CH I1.jV hc
 obtain⟨hp,g,d,tk,os⟩:=s1
 refine wpAny_call_exc_subT PySem.F.excBase_ValueError T hC hN N3 (λh' a M=>?_) (by show us.length<=sizeLine;rw[← r.length];exact hl)
 obtain⟨t',e1,_,_⟩:=M.there
 have I2:Inv X L4 σ (upd H1 a (ky C none a)) ⟨h',g,d,tk,os⟩:=I1.EB (t':=tk) M.keeps M.new (rK e1)
 have hn:H1 a=none:=I1.sA M.new
 exact⟨.ref a,_,I2,rfl,q a hn⟩
def GB(C:Addr)(sp:Sp)(t:TA):TE:=fun σ H Q=>t σ H λvs H1=>vs.length<=sizeLine/\∀ a,H1 a=none->sp (.ref a::vs) (upd H1 a (ky C none a)) (λv H2=>v=.cp/\Q (.ref a) H2) E0
theorem zL(hc:oM X.K C "ValueError.__new__" f=true)(hf:PySem.W.isFn X.K (.ref f)=true)(kp:PySem.W.keepIn X.K (.ref C)=true)(F:aP X.prog X.w X.K X.mg X.base (bS X.prog X.w) k f fd ps sp)(hr:cD (k+1) X.A)(hb:Binds X.K fd ps [])(hg:Gl X x)(hm:X.mg x=some (.ref C))
  (ha:PA X (e::es) t) (M0:autoParam ((x==("__debug__" : Str))=false) aD._auto_1) (he:autoParam (starEach (e::es) X.env=(false,eval e X.env)::starEach es X.env) aR._auto_1) (Mz:autoParam ((backTo pos (starEach es X.env)).any (·.1)=false) aR._auto_1) :
  PE X (.Call (.Name x p) (e::es) [] pos) (GB C sp t):=by
 intro L4 s σ H Q I h
 refine wpAny_Call_Name_kw (lS I hg hm ?_ M0)
 refine PySem.W.callWith_K (h₀:=X.base) I.ok.mod.EO kp (c7 (ha pos L4 s σ H _ I h) λus s1 ⟨vs,H1,I1,r,hl,q⟩=>⟨I1.jV,?_⟩) he Mz
 have X1:=I1.jV
 obtain⟨bm,N,nm,qn,bs,NN,sn,sub,ab,col,dd,k0,k1,k2,k3,k5,mN,hC,hN,N3,T⟩:=zT X1 hc
 obtain⟨hp,g,d,tk,os⟩:=s1
 have f1:=tc_lookup
 have f2:=tc_bind (.ref C)
 have hT:(⟨hp,g,d,tk,os⟩:Shared).TypeIs (.ref C) "type" := ⟨_,hC,rfl⟩
 refine wpAny_call (codeAny_of_tree ?_)
 show wpAny _ _ (callAny (.ref C) _) _ _ _
 repeat (any_goals (first | assumption | with_reducible refine wpAny_loadPart_at hC ?_ | wp_step))
 refine⟨rfl,?_⟩
 refine codeAny_call_builtin_at (Code.quiet_builtin _ (by decide +kernel)) entry_typeCall (wpAny_check_type_call_sub hC (pI PySem.F.excBase_ValueError T hC hN N3
  (λh' kk self=>PySem.W.bind_fn (λb o z=>kk b o (X1 b o z)) self (beq_iff_eq.mp hf)) (λh' kk ht hx hz=>?_) (by show us.length<=sizeLine;rw[← r.length];exact hl)))
 have I2:Inv X L4 σ (upd H1 (hp.objs.size+1) (ky C none (hp.objs.size+1))) ⟨h',g,d,tk,os⟩:=I1.EB (t':=tk) kk (Heap.get?_none_of_le (Nat.le_succ _)) (rK hx)
 have hq:=q (hp.objs.size+1) (I1.sA (Heap.get?_none_of_le (Nat.le_succ _)))
 have r2:Vals (V.ref (hp.objs.size+1)::vs) (Value.ref (hp.objs.size+1)::us):=.cons rfl r
 have hlen:(Value.ref (hp.objs.size+1)::us++[]).length=ps.length:=by
  rw[List.append_nil,← r2.length]
  exact F.len _ _ _ _ hq
 refine wpAny_call (codeAny_mono (F.run _ X.stack _ _ ⟨Value.ref (hp.objs.size+1)::us,[]⟩ (Value.ref (hp.objs.size+1)::us) _ _ E0 (hr.make C us []) (I2.k8.make C us []) (by have:=hb _ (Value.ref (hp.objs.size+1)::us) I2.jV hlen;rwa [List.append_nil] at this) r2 hq) λr s' NQ=>?_)
 cases r with
 | error e =>
  obtain⟨_,_,_,_,_,_,_,_,_,_,_,_,_,z⟩:=NQ
  exact z.elim
 | ok fl =>
  cases fl with
  | ret u =>
   obtain⟨v,H',I3,rv,ev,q3⟩:=I2.after NQ
   subst ev
   exact⟨rv,⟨V.ref (hp.objs.size+1),H',I3,rfl,q3⟩⟩
  | next=>exact False.elim NQ
  | brk=>exact False.elim NQ
  | cont=>exact False.elim NQ
def Hu(K:PySem.W.Frag)(ta tv:TE)(f:Str):TS:=λD σ H=>tv σ H λy H1=>ta σ H1 λx H2=>∃ a C,x=.ref a/\H2 a=some (ky C none a)/\iR K C/\((PySem.W.clsIn K C).any λcd=>gC cd.mro)=true/\bZ K C f ∧
 ∀ d,H2 d=none->d≠a->D.nx σ (upd (upd H2 d (.xd [(f,y)])) a (ky C (some d) a))
theorem AD{o value:Expr}{ta tv:TE}{n:Str}{pos':Pos}(ha:PE X o ta)(hv:PE X value tv)(hs:swapsWith value (some (.Attribute o n pos')) pos.line X.env=pure false):PS X (.Assign [.Attribute o n pos'] value pos) (Hu X.K ta tv n):=by
 intro L4 s σ H D I h
 refine plainObj_wpAny_Assign_Attribute (c7 (hv L4 s σ H _ I h) λu s1 ⟨y,H1,I1,ry,q⟩=>c7 (ha L4 s1 σ H1 _ I1 q) λov s2 ⟨x,H2,I2,rx,a,C,ex,ea,c,po,na,q2⟩=>?_) hs
 subst ex
 obtain rfl:ov=Value.ref a:=rx
 obtain⟨tt,hx⟩:=(I2.bK a _ ea).1
 refine Bn po c I2.jV hx na.Er λh' tk d e1 e2 e3 e4=>?_
 have hd:H2 d=none:=I2.sA e2
 have nda:d≠a:=λz=>by rw[z,ea] at hd;cases hd
 refine⟨σ,_,?_,q2 d hd nda⟩
 have up:∀ b,b≠a->b≠d->upd (upd H2 d (.xd [(n,y)])) a (ky C (some d) a) b=H2 b:=λb h1 h2=>by rw[aw h1,aw h2]
 have nd:∀ b u,s2.heap.get? b=some u->b≠d:=λb u e z=>by rw[z,e2] at e;cases e
 have nH:∀ b u,H2 b=some u->b≠d:=λb u e z=>by rw[z,hd] at e;cases e
 have nE:∀ b u,H2 b=some u->(∀ C dd,u≠ky C dd a)->b≠a:=λb u e hu z=>by
  rw[z,ea] at e
  exact hu C none (Option.some.inj e).symm
 refine I2.un (t':=tk) ⟨λb u e z _ _=>e4 b u (λw=>by rw[w,ea] at z;cases z) e,λb u e z _ _=>⟨u.slots,e4 b u (λw=>by rw[w,ea] at z;cases z) e⟩,λb u e z _=>?_,λb u e _=>?_,λb xs e=>?_,λb ob u e=>?_,λb ps e=>?_⟩ λb u e=>?_
 ·rw[up b (λw=>by rw[w,ea] at z;cases z) (nd b u e)];exact z
 ·by_cases w:b=a
  ·rw[w];exact⟨_,e1⟩
  ·exact⟨u,e4 b u w e⟩
 ·rw[up b (nE b _ e λ_ _ z=>by cases z) (nH b _ e)];exact e
 ·rw[up b (nE b _ e λ_ _ z=>by cases z) (nH b _ e)];exact e
 ·exact⟨#[],by rw[up b (nE b _ e λ_ _ z=>by cases z) (nH b _ e),e];simp⟩
 ·by_cases w:b=a
  ·subst w
   rw[aA] at e
   cases e
   exact rK e1
  ·rw[aw w] at e
   by_cases w2:b=d
   ·subst w2
    rw[aA] at e
    cases e
    refine⟨_,e3,λg=>?_⟩
    show l7 (List.lookup g [(n,y)]) (if g=n then some _ else none)
    rw[List.lookup_cons]
    by_cases z:g=n
    ·rw[if_pos z,show (g==n)=true from by simp[z]];exact ry
    ·rw[if_neg z,show (g==n)=false from by simp[z]];exact True.intro
   ·rw[aw w2] at e
    refine(I2.bK b u e).nM (λc v hc z=>e4 c v ?_ z) (λc z=>?_) λc ys z=>?_
    ·rcases hc with z' | z'
     ·rw[z'];exact w
     ·exact nE c _ z' λ_ _ z=>by cases z
    ·rw[up c (nE c _ z λ_ _ z=>by cases z) (nH c _ z)];exact z
    ·rw[up c (nE c _ z λ_ _ z=>by cases z) (nH c _ z)];exact z
end
end L2
namespace L2
open PySem PySem.Spec PyProof.Rows
section
variable{M:Model}{A:Around}{E:Value->Shared->Prop}{s:Shared}
theorem EH{e:Addr}{o:Obj}{Q:Value->Shared->Prop}(hx:s.heap.get? e=some o)(h:Q o.cls s):wpAny M A (typeOf (.ref e)) Q E s:=by
 unfold typeOf
 exact wpAny_bind (wpAny_loadPart hx (wpAny_pure h))
theorem wN{e:Addr}{o:Obj}{vs:Array Value}{Q:Bool->Shared->Prop}(hx:s.heap.get? e=some o)(hd:o.data=.fields vs)(h:Q false s):wpAny M A (isType (.ref e)) Q E s:=by
 unfold isType loadHead
 refine wpAny_bind (wpAny_loadPart hx (wpAny_pure ?_))
 rw[hd];exact h
end
section
variable{X:Cx}{L4:List (Addr×Obj)}{σ:St}{H:Hp}{s:Shared}
def Fc(K:PySem.W.Frag)(E:St->XK)(te:TE):TS:=λD σ H=>te σ H λv H1=>∃ e C dd,v=.ref e/\H1 e=some (ky C dd e)/\iR K C/\PySem.W.typeIn K (.ref C)=some (.type "type")/\E σ (.ref e) none (upd H1 e (jw C dd e))
theorem ua{exc:Expr}{te:TE}{pos:Pos}{E:St->XK}(O:fw X E)(Mf:X.calm=true)(he:PE X exc te):PS X (.Raise (some exc) none pos) (Fc X.K E te):=by
 intro L4 s σ H D I h
 rw[arm_exec_Raise]
 refine wpAny_bind (wpAny_standAt ?_)
 unfold raiseStmt
 dsimp only [evalOpt,Option.map]
 refine wpAny_bind (wpAny_bind (c7 (he L4 s σ H _ I h) λu s1 hq=>wpAny_bind (wpAny_standAt (wpAny_pure ?_))))
 obtain⟨v,H1,I1,rv,e,C,dd,ev,hN,c,ht,hE⟩:=hq
 subst ev
 obtain rfl:u=Value.ref e:=rv
 obtain⟨t,hx⟩:=(I1.bK e _ hN).1
 have X1:=I1.jV
 refine wpAny_bind (wpAny_pure ?_)
 refine wpAny_bind (wpAny_holding ?_)
 unfold excFromValue isExcClass
 refine wpAny_bind (wpAny_bind (wN hx rfl ?_))
 refine wpAny_pure ?_
 refine wpAny_bind ?_
 unfold isInstance
 refine wpAny_bind (EH hx ((PySem.W.looks_mroIn X1 c.mb).here ?_))
 refine wpAny_pure ?_
 dsimp only
 refine wpAny_bind (wN hx rfl ?_)
 unfold raisedInstance
 refine wpAny_bind (wpAny_bind (EH hx (wpAny_bind ((PySem.W.looks_typeIn X1 ht).here ?_))))
 refine wpAny_pure ?_
 unfold setFlight
 refine wpAny_bind (wpAny_bind (wpAny_field hx rfl (x:=.none) rfl ?_))
 refine wpAny_pure ?_
 exact wpAny_raiseNew_none (I1.ok.hd Mf) (O.new L4 σ H1 s1 e C dd I1 hN hE)
end
end L2
namespace L2
open PySem PySem.Spec PyProof.Rows
inductive PV where
 | cp | bl (b:Bool) | int (i:Int) | str (x:Str)
 | tup (xs:List PV) | lst (xs:List PV)
 | jD (xs:List PV)
 | obj (C:Addr) (fs:List (Str×PV))
 | exc (C:Addr) (fo:Option (List (Str×PV)))
 | emp
 deriving Inhabited
mutual
inductive Rep (H:Hp):PV->V->Prop where
 | cp:Rep H .cp .cp
 | bl (b:Bool):Rep H (.bl b) (.bl b)
 | int (i:Int):Rep H (.int i) (.int i)
 | str (x:Str):Rep H (.str x) (.str x)
 | tup {a:Addr} {xs:List PV} {vs:List V}:H a=some (.tup vs)->aS H xs vs->Rep H (.tup xs) (.ref a)
 | lst {a:Addr} {xs:List PV} {vs:List V}:H a=some (.lst vs)->aS H xs vs->Rep H (.lst xs) (.ref a)
 | jD {a:Addr} {o:Obj} {xs:List PV} {vs:List V}:H a=some (.qo o (.lst vs))->aS H xs vs->Rep H (.jD xs) (.ref a)
 | obj {a C dx:Addr} {fs:List (Str×PV)} {vs:List (Str×V)}:H a=some (.ins C dx vs)->iP H fs vs->Rep H (.obj C fs) (.ref a)
 | xN {a C:Addr}:H a=some (jw C none a)->Rep H (.exc C none) (.ref a)
 | xO {a C d:Addr} {fs:List (Str×PV)} {vs:List (Str×V)}:H a=some (jw C (some d) a)->H d=some (.xd vs)->iP H fs vs->Rep H (.exc C (some fs)) (.ref a)
 | emp {a:Addr}:H a=some (.dK [])->Rep H .emp (.ref a)
inductive aS (H:Hp):List PV->List V->Prop where
 | nil:aS H [] []
 | cons {p:PV} {v:V} {ps:List PV} {vs:List V}:Rep H p v->aS H ps vs->aS H (p::ps) (v::vs)
inductive iP (H:Hp):List (Str×PV)->List (Str×V)->Prop where
 | nil:iP H [] []
 | cons {n:Str} {p:PV} {v:V} {ps:List (Str×PV)} {vs:List (Str×V)}:Rep H p v->iP H ps vs->iP H ((n,p)::ps) ((n,v)::vs)
end
mutual
theorem Rep.mono{H H':Hp}(s:bC H H'):∀ {p:PV} {v:V},Rep H p v->Rep H' p v
 | _,_,.cp=>.cp
 | _,_,.bl b=>.bl b
 | _,_,.int i=>.int i
 | _,_,.str x=>.str x
 | _,_,.tup h r=>.tup (s _ _ h) (r.mono s)
 | _,_,.lst h r=>.lst (s _ _ h) (r.mono s)
 | _,_,.jD h r=>.jD (s _ _ h) (r.mono s)
 | _,_,.obj h r=>.obj (s _ _ h) (r.mono s)
 | _,_,.xN h=>.xN (s _ _ h)
 | _,_,.xO h h2 r=>.xO (s _ _ h) (s _ _ h2) (r.mono s)
 | _,_,.emp h=>.emp (s _ _ h)
theorem aS.mono{H H':Hp}(s:bC H H'):∀ {p:List PV} {v:List V},aS H p v->aS H' p v
 | _,_,.nil=>.nil
 | _,_,.cons h r=>.cons (h.mono s) (r.mono s)
theorem iP.mono{H H':Hp}(s:bC H H'):∀ {p:List (Str×PV)} {v:List (Str×V)},iP H p v->iP H' p v
 | _,_,.nil=>.nil
 | _,_,.cons h r=>.cons (h.mono s) (r.mono s)
end
theorem aS.length{H:Hp}:∀ {p:List PV} {v:List V},aS H p v->p.length=v.length
 | _,_,.nil=>rfl
 | _,_,.cons _ r=>by simp[r.length]
theorem aS.get{H:Hp}:∀ {p:List PV} {v:List V} {i:Nat} {x:PV},aS H p v->p[i]?=some x->∃ u,v[i]?=some u/\Rep H x u
 | _,_,_,_,.nil,e=>by simp at e
 | _,_,0,_,.cons h _,e=>by simp at e;subst e;exact⟨_,rfl,h⟩
 | _,_,i+1,x,.cons _ r,e=>by
  obtain⟨u,h1,h2⟩:=aS.get (i:=i) (x:=x) r (by simpa using e)
  exact⟨u,by simpa using h1,h2⟩
theorem aS.append{H:Hp}:∀ {p q:List PV} {v u:List V},aS H p v->aS H q u->aS H (p++q) (v++u)
 | _,_,_,_,.nil,s=>s
 | _,_,_,_,.cons h r,s=>.cons h (r.append s)
theorem aS.take{H:Hp}:∀ {p:List PV} {v:List V} (n:Nat),aS H p v->aS H (p.take n) (v.take n)
 | _,_,0,_=>.nil
 | _,_,_+1,.nil=>.nil
 | _,_,n+1,.cons h r=>.cons h (r.take n)
theorem aS.drop{H:Hp}:∀ {p:List PV} {v:List V} (n:Nat),aS H p v->aS H (p.drop n) (v.drop n)
 | _,_,0,r=>r
 | _,_,_+1,.nil=>.nil
 | _,_,n+1,.cons _ r=>r.drop n
theorem aS.set{H:Hp}{x:PV}{u:V}(h:Rep H x u):∀ {p:List PV} {v:List V} (i:Nat),aS H p v->aS H (p.set i x) (v.set i u)
 | _,_,_,.nil=>.nil
 | _,_,0,.cons _ r=>.cons h r
 | _,_,i+1,.cons q r=>.cons q (r.set h i)
theorem aS.snoc{H:Hp}{p:List PV}{v:List V}{x:PV}{u:V}(r:aS H p v)(h:Rep H x u):aS H (p++[x]) (v++[u]):=r.append (.cons h .nil)
theorem iP.look{H:Hp}{f:Str}:∀ {p:List (Str×PV)} {v:List (Str×V)} {x:PV},iP H p v->p.lookup f=some x->∃ u,v.lookup f=some u/\Rep H x u
 | _,_,_,.nil,e=>by simp at e
 | (n,_)::_,_,x,.cons h r,e=>by
  rw[List.lookup_cons] at e ⊢
  cases q:f==n with
  | true=>rw[q] at e;cases e;exact⟨_,rfl,h⟩
  | false=>rw[q] at e;exact r.look e
theorem iP.none{H:Hp}{f:Str}:∀ {p:List (Str×PV)} {v:List (Str×V)},iP H p v->p.lookup f=none->v.lookup f=none
 | _,_,.nil,_=>rfl
 | (n,_)::_,_,.cons h r,e=>by
  rw[List.lookup_cons] at e ⊢
  cases q:f==n with
  | true=>rw[q] at e;cases e
  | false=>rw[q] at e;exact r.none e
theorem aS.ints{H:Hp}:∀ {ns:List Int} {v:List V},aS H (ns.map PV.int) v->v=ns.map V.int
 | [],_,.nil=>rfl
 | _::_,_,.cons (.int i) r=>by rw[r.ints];rfl
theorem aS.Lj{H:Hp}:∀ {ns:List Bool} {v:List V},aS H (ns.map PV.bl) v->v=ns.map V.bl
 | [],_,.nil=>rfl
 | _::_,_,.cons (.bl i) r=>by rw[r.Lj];rfl
structure bP (Hs H L9 H':Hp):Prop where
 st:bC Hs L9
 al:bC H H'
 sub:bC L9 H'
 nw:∀ a o,Hs a=none->H a=some o->L9 a=none
theorem bP.refl{Hs H:Hp}(s:bC Hs H):bP Hs H Hs H:=⟨λ_ _ e=>e,λ_ _ e=>e,s,λ_ _ e _=>e⟩
theorem bP.trans{Hs H Md H1 Mg H2:Hp}(a:bP Hs H Md H1)(b:bP Md H1 Mg H2):bP Hs H Mg H2 :=
 ⟨λc o e=>b.st c o (a.st c o e),λc o e=>b.al c o (a.al c o e),b.sub,λc o e q=>b.nw c o (a.nw c o e q) (a.al c o q)⟩
theorem bP.new{Hs H:Hp}{p:Addr}{o:HO}(s:bC Hs H)(n:H p=none):bP Hs H (upd Hs p o) (upd H p o):=by
 have ne:∀ c u,H c=some u->c≠p:=λc u e z=>by rw[z,n] at e;cases e
 refine⟨λc u e=>?_,λc u e=>?_,λc u e=>?_,λc u e q=>?_⟩
 ·rw[aw (ne c u (s c u e))];exact e
 ·rw[aw (ne c u e)];exact e
 ·by_cases z:c=p
  ·subst z;rw[aA] at e ⊢;exact e
  ·rw[aw z] at e ⊢;exact s c u e
 ·rw[aw (ne c u q)];exact e
inductive SV where
 | sh (p:PV)
 | ow (xs:List PV)
 | bd (a C:Addr) (fs:List (Str×PV))
abbrev ai:=List (Option SV)
structure SR (B H₀ Hs H:Hp) (σ:St) (env:ai):Prop where
 gr:bP B H₀ Hs H
 len:σ.length=env.length
 sh:∀ (i:Nat) (p:PV),env[i]?=some (some (.sh p))->∃ v,σ[i]?=some (some v)/\Rep Hs p v
 ow:∀ (i:Nat) (xs:List PV),env[i]?=some (some (.ow xs))->∃ a vs,σ[i]?=some (some (.ref a))/\H a=some (.lst vs)/\Hs a=none/\H₀ a=none/\aS Hs xs vs
 sep:∀ (i j:Nat) (xs ys:List PV) (a:Addr),i≠j->env[i]?=some (some (.ow xs))->env[j]?=some (some (.ow ys))->σ[i]?=some (some (.ref a))->σ[j]?≠some (some (.ref a))
 bd:∀ (i:Nat) (a C:Addr) (fs:List (Str×PV)),env[i]?=some (some (.bd a C fs))->∃ dx vs,σ[i]?=some (some (.ref a))/\H a=some (.ins C dx vs)/\Hs a=none/\H₀ a=none/\iP Hs fs vs
 one:∀ (i j:Nat) (a b C D:Addr) (fs gs:List (Str×PV)),env[i]?=some (some (.bd a C fs))->env[j]?=some (some (.bd b D gs))->i=j
theorem SR.grow{B H₀ Hs H L9 H':Hp}{σ:St}{env:ai}(r:SR B H₀ Hs H σ env)(g:bP Hs H L9 H'):SR B H₀ L9 H' σ env where
 gr:=r.gr.trans g
 len:=r.len
 sh:=λi p e=>let ⟨v,h1,h2⟩:=r.sh i p e;⟨v,h1,h2.mono g.st⟩
 ow:=λi xs e=>let ⟨a,vs,h1,h2,h3,h4,h5⟩:=r.ow i xs e;⟨a,vs,h1,g.al _ _ h2,g.nw _ _ h3 h2,h4,h5.mono g.st⟩
 sep:=r.sep
 bd:=λi a C fs e=>let ⟨dx,vs,h1,h2,h3,h4,h5⟩:=r.bd i a C fs e;⟨dx,vs,h1,g.al _ _ h2,g.nw _ _ h3 h2,h4,h5.mono g.st⟩
 one:=r.one
abbrev EX:=Addr×Option (List (Str×PV))
abbrev M(α:Type):=Option (Except EX α)
def M.ok{α:Type}(a:α):M α:=some (.ok a)
noncomputable def M.bind{α β:Type}(x:M α)(f:α->M β):M β:=match x with
 | some (.ok a)=>f a
 | some (.error e)=>some (.error e)
 | none=>none
instance:Monad M where
 pure:=M.ok
 bind:=M.bind
def ay{α:Type}(r:M α)(Q:α->Prop)(E:EX->Prop):Prop:=match r with
 | some (.ok a)=>Q a
 | some (.error e)=>E e
 | none=>False
theorem ay.imp{α:Type}{r:M α}{Q Q':α->Prop}{E E':EX->Prop}(h:ay r Q E)(hq:∀ a,Q a->Q' a)(he:∀ e,E e->E' e):ay r Q' E':=by
 cases r with
 | none=>exact h
 | some x=>cases x with
  | ok a=>exact hq a h
  | error e=>exact he e h
theorem ay.bind{α β:Type}{x:M α}{f:α->M β}{Q:β->Prop}{E:EX->Prop}(h:ay (x.bind f) Q E):ay x (λa=>ay (f a) Q E) E:=by
 cases x with
 | none=>exact h
 | some x=>cases x with
  | ok a=>exact h
  | error e=>exact h
def XW(E:XK)(Hs H:Hp)(x:EX):Prop:=∀ ea L9 H',bP Hs H L9 H'->Rep L9 (.exc x.1 x.2) (.ref ea)->E (.ref ea) none H'
theorem XW.grow{E:XK}{Hs H L9 H':Hp}{x:EX}(h:XW E Hs H x)(g:bP Hs H L9 H'):XW E L9 H' x:=λea Mg H2 g2 r=>h ea Mg H2 (g.trans g2) r
def tE(E:St->XK)(f:ai->M PV):TE:=fun σ H Q=>∃ B H₀ Hs env,SR B H₀ Hs H σ env/\ay (f env) (λp=>∀ v L9 H',bP Hs H L9 H'->Rep L9 p v->Q v H') (XW (E σ) Hs H)
theorem PE.imp{X:Cx}{e:Expr}{t t':TE}(h:PE X e t)(i:∀ σ H Q,t' σ H Q->t σ H Q):PE X e t':=λL4 s σ H Q I q=>h L4 s σ H Q I (i σ H Q q)
theorem xm{E:St->XK}{f:ai->M PV}{g:ai->PV->M PV}{σ:St}{H:Hp}{Q R:VK}(h:tE E (λenv=>(f env).bind (g env)) σ H Q)
  (k:∀ B H₀ Hs H1 env p v,SR B H₀ Hs H1 σ env->Rep Hs p v->ay (g env p) (λq=>∀ u L9 H',bP Hs H1 L9 H'->Rep L9 q u->Q u H') (XW (E σ) Hs H1)->R v H1):tE E f σ H R:=by
 obtain⟨B,H₀,Hs,env,sr,h⟩:=h
 refine⟨B,H₀,Hs,env,sr,(ay.bind h).imp (λp hp v L9 H' g r=>?_) λe he=>he⟩
 exact k B H₀ L9 H' env p v (sr.grow g) r (hp.imp (λq hq u Mg H2 g2 r2=>hq u Mg H2 (g.trans g2) r2) λe he=>he.grow g)
theorem xx{E:St->XK}{f g:ai->M PV}{op:PV->PV->M PV}{r:R2}{σ:St}{H:Hp}{Q:VK}(h:tE E (λenv=>(f env).bind λp=>(g env).bind λq=>op p q) σ H Q)
  (k:∀ Hs H1 p q v u,bC Hs H1->Rep Hs p v->Rep Hs q u->ay (op p q) (λz=>∀ w L9 H',bP Hs H1 L9 H'->Rep L9 z w->Q w H') (XW (E σ) Hs H1)->r v u H1 Q):IB r (tE E f) (tE E g) σ H Q:=by
 refine xm h λB H₀ Hs H1 env p v sr rp hp=>?_
 refine⟨B,H₀,Hs,env,sr,(ay.bind hp).imp (λq hq u L9 H' g ru=>?_) λe he=>he⟩
 exact k L9 H' p q v u (sr.grow g).gr.sub (rp.mono g.st) ru (hq.imp (λz hz w Mg H2 g2 r2=>hz w Mg H2 (g.trans g2) r2) λe he=>he.grow g)
theorem Jq{E:St->XK}{f:ai->M PV}{op:PV->M PV}{r:V->Hp->VK->Prop}{σ:St}{H:Hp}{Q:VK}(h:tE E (λenv=>(f env).bind op) σ H Q)
  (k:∀ Hs H1 p v,bC Hs H1->Rep Hs p v->ay (op p) (λz=>∀ w L9 H',bP Hs H1 L9 H'->Rep L9 z w->Q w H') (XW (E σ) Hs H1)->r v H1 Q):Lk r (tE E f) σ H Q :=
 xm h λB H₀ Hs H1 env p v sr rp hp=>k Hs H1 p v sr.gr.sub rp hp
end L2
namespace L2
open PySem PySem.Spec PyProof.Rows
def GR(sp:Sp)(MM:List V)(E:St->XK)(t:TA):TE:=fun σ H Q=>t σ H λvs H1=>sp (vs++MM) H1 Q (E σ)
def Ai(C:Addr)(m:Str)(sp:Sp)(MM:List V)(E:St->XK)(ta:TE)(t:TA):TE:=fun σ H Q=>ta σ H λx H1=>∃ a dx fs,x=.ref a/\H1 a=some (.ins C dx fs)/\fs.lookup m=none ∧
 t σ H1 λvs H2=>sp (x::(vs++MM)) H2 Q (E σ)
def Ho(C:Addr)(sp:Sp)(MM:List V)(E:St->XK)(t:TA):TE:=fun σ H Q=>t σ H λvs H1=>∀ x dx,H1 x=none->H1 dx=none->dx≠x ->
 sp (.ref x::(vs++MM)) (upd (upd H1 dx (.own x)) x (.ins C dx [])) (λv H2=>v=.cp/\Q (.ref x) H2) (E σ)
section
variable{X:Cx}{k:Nat}{f C:Addr}{fd:FuncData}{ps:List Str}{sp:Sp}{MM:List V}{ds:List Value}{E:St->XK}{x m:Str}{p pos apos:Pos}{e o:Expr}{es:List Expr}{ta:TE}{t:TA}
theorem rN{L4:List (Addr×Obj)}{σ:St}{H:Hp}{s:Shared}{Q:VK}{us:List Value}{vs:List V}(F:aP X.prog X.w X.K X.mg X.base (bS X.prog X.w) k f fd ps sp)(hr:cD k X.A)(hb:Binds X.K fd ps ds)(hd:Vals MM ds)(hx:fw X E)
  (I:Inv X L4 σ H s) (r:Vals vs us) (h:sp (vs++MM) H Q (E σ)):wpAny (model X.prog X.w) X.A (call (.ref f) us) (EP X L4 σ Q) X.xe s:=by
 have r2:Vals (vs++MM) (us++ds):=r.append hd
 have hl:(us++ds).length=ps.length:=by rw[← r2.length];exact F.len _ _ _ _ h
 refine wpAny_call (codeAny_mono (F.run X.A X.stack s H ⟨us,[]⟩ (us++ds) (vs++MM) Q (E σ) hr I.k8 (hb s us I.jV hl) r2 h) λr s' hq=>?_)
 cases r with
 | error e=>exact hx.pass L4 σ H s e s' I hq
 | ok fl =>
  cases fl with
  | ret u=>exact I.after hq
  | next=>exact False.elim hq
  | brk=>exact False.elim hq
  | cont=>exact False.elim hq
theorem BF(F:aP X.prog X.w X.K X.mg X.base (bS X.prog X.w) k f fd ps sp)(hr:cD k X.A)(hg:Gl X x)(hm:X.mg x=some (.ref f))(hk:PySem.W.keepIn X.K (.ref f)=true)(hb:Binds X.K fd ps ds)(hd:Vals MM ds)(hx:fw X E)
  (ha:PA X (e::es) t) (M0:autoParam ((x==("__debug__" : Str))=false) aD._auto_1) (he:autoParam (starEach (e::es) X.env=(false,eval e X.env)::starEach es X.env) aR._auto_1) (Mz:autoParam ((backTo pos (starEach es X.env)).any (·.1)=false) aR._auto_1) :
  PE X (.Call (.Name x p) (e::es) [] pos) (GR sp MM E t):=by
 intro L4 s σ H Q I h
 refine wpAny_Call_Name_kw (lS I hg hm ?_ M0)
 refine PySem.W.callWith_K (h₀:=X.base) I.ok.mod.EO hk (c7 (ha pos L4 s σ H _ I h) λus s1 ⟨vs,H1,I1,r,q⟩=>⟨I1.jV,?_⟩) he Mz
 exact rN F hr hb hd hx I1 r q
theorem Ak{pl:Sem Bool}(he:PE X o ta)(c:lU X.K C)(hm:Meth X.K C m f)(F:aP X.prog X.w X.K X.mg X.base (bS X.prog X.w) k f fd ps sp)(hr:cD k X.A)(hb:Binds X.K fd ps ds)(hd:Vals MM ds)(hx:fw X E)(ha:PA X (e::es) t)
  (Mu:autoParam (starEach (e::es) X.env=(false,eval e X.env)::starEach es X.env) aR._auto_1) (Mz:autoParam ((backTo pos (starEach es X.env)).any (·.1)=false) aR._auto_1)
  (ht:autoParam (eval (.Call (.Attribute o m apos) (e::es) [] pos) X.env=(do
   let ov ← eval o X.env
   standAt apos.atName
   let (f,first) ← holding [ov] (getMethod ov m pl)
   callWith pos f first (backTo pos (starEach (e::es) X.env)) (backToKw pos (keywordEach [] X.env)))) aR._auto_1) :
  PE X (.Call (.Attribute o m apos) (e::es) [] pos) (Ai C m sp MM E ta t):=by
 intro L4 s σ H Q I h
 refine PySem.W.methodCall_KW (pl:=pl) (c7 (he L4 s σ H _ I h) λu s1 ⟨x,H1,I1,rx,a,dx,fs,ex,ea,l,q⟩=>?_) ht
 subst ex
 obtain rfl:u=Value.ref a:=rx
 refine pF I1 ea c hm l ?_
 refine PySem.W.callWith_K (first:=[.ref a]) (h₀:=X.base) I.ok.mod.EO hm.kp (c7 (ha pos L4 s1 σ H1 _ I1 q) λus s2 ⟨vs,H2,I2,r,q2⟩=>⟨I2.jV,?_⟩) Mu Mz
 exact rN (us:=.ref a::us) (vs:=.ref a::vs) F hr hb hd hx I2 (.cons rfl r) q2
theorem yV{pl:Sem Bool}(he:PE X o ta)(c:lU X.K C)(hm:Meth X.K C m f)(F:aP X.prog X.w X.K X.mg X.base (bS X.prog X.w) k f fd ps sp)(hr:cD k X.A)(hb:Binds X.K fd ps ds)(hd:Vals MM ds)(hx:fw X E)
  (ht:autoParam (eval (.Call (.Attribute o m apos) [] [] pos) X.env=(do
   let ov ← eval o X.env
   standAt apos.atName
   let (f,first) ← holding [ov] (getMethod ov m pl)
   callWith pos f first (backTo pos (starEach [] X.env)) (backToKw pos (keywordEach [] X.env)))) aR._auto_1) :
  PE X (.Call (.Attribute o m apos) [] [] pos) (Ai C m sp MM E ta IQ):=by
 intro L4 s σ H Q I h
 refine PySem.W.methodCall_KW (pl:=pl) (c7 (he L4 s σ H _ I h) λu s1 ⟨x,H1,I1,rx,a,dx,fs,ex,ea,l,q⟩=>?_) ht
 subst ex
 obtain rfl:u=Value.ref a:=rx
 refine pF I1 ea c hm l ?_
 exact PySem.W.callWith_K0 (first:=[.ref a]) I1.jV hm.kp (rN (us:=[.ref a]) (vs:=[.ref a]) F hr hb hd hx I1 (.cons rfl .nil) q)
theorem xF{L4:List (Addr×Obj)}{σ:St}{H:Hp}{s:Shared}{Q:VK}{us:List Value}{vs:List V}(M:Mk X.K C f)(F:aP X.prog X.w X.K X.mg X.base (bS X.prog X.w) k f fd ps sp)(hr:cD (k+1) X.A)(hb:Binds X.K fd ps ds)(hd:Vals MM ds)
  (hx:fw X E) (I:Inv X L4 σ H s) (r:Vals vs us)
  (h:∀ x dx,H x=none->H dx=none->dx≠x->sp (.ref x::(vs++MM)) (upd (upd H dx (.own x)) x (.ins C dx [])) (λv H2=>v=.cp/\Q (.ref x) H2) (E σ)) :
  wpAny (model X.prog X.w) X.A (call (.ref C) us) (EP X L4 σ Q) X.xe s:=by
 have hq:=h (s.heap.objs.size+1) s.heap.objs.size (I.bK.fresh (Nat.le_succ _)) (I.bK.fresh (Nat.le_refl _)) (Nat.ne_of_lt (Nat.lt_succ_self _))
 have I2:=Inv.made (C:=C) I
 have r2:Vals (V.ref (s.heap.objs.size+1)::(vs++MM)) (Value.ref (s.heap.objs.size+1)::(us++ds)):=.cons rfl (r.append hd)
 have hl:(Value.ref (s.heap.objs.size+1)::us++ds).length=ps.length:=by
  have e:=r2.length
  rw[F.len _ _ _ _ hq] at e
  exact e.symm
 refine wpAny_call (Ax (f:=f) I.jV M.makes M.init (beq_iff_eq.mp M.fn) (codeAny_mono (F.run _ X.stack _ _ ⟨Value.ref (s.heap.objs.size+1)::us,[]⟩ (Value.ref (s.heap.objs.size+1)::(us++ds)) _ _ (E σ) (hr.make C us [])
  (I2.k8.make C us []) (hb _ (Value.ref (s.heap.objs.size+1)::us) I2.jV hl) r2 hq) λr s' NQ=>?_))
 cases r with
 | error e=>exact hx.pass L4 σ _ _ e s' I2 NQ
 | ok fl =>
  cases fl with
  | ret u =>
   obtain⟨v,H',I3,rv,ev,q3⟩:=I2.after NQ
   subst ev
   exact⟨rv,⟨V.ref (s.heap.objs.size+1),H',I3,rfl,q3⟩⟩
  | next=>exact False.elim NQ
  | brk=>exact False.elim NQ
  | cont=>exact False.elim NQ
theorem BL(M:Mk X.K C f)(F:aP X.prog X.w X.K X.mg X.base (bS X.prog X.w) k f fd ps sp)(hr:cD (k+1) X.A)(hg:Gl X x)(hm:X.mg x=some (.ref C))(hb:Binds X.K fd ps ds)(hd:Vals MM ds)(hx:fw X E)
  (ha:PA X (e::es) t) (M0:autoParam ((x==("__debug__" : Str))=false) aD._auto_1) (he:autoParam (starEach (e::es) X.env=(false,eval e X.env)::starEach es X.env) aR._auto_1) (Mz:autoParam ((backTo pos (starEach es X.env)).any (·.1)=false) aR._auto_1) :
  PE X (.Call (.Name x p) (e::es) [] pos) (Ho C sp MM E t):=by
 intro L4 s σ H Q I h
 refine wpAny_Call_Name_kw (lS I hg hm ?_ M0)
 refine PySem.W.callWith_K (h₀:=X.base) I.ok.mod.EO M.kp (c7 (ha pos L4 s σ H _ I h) λus s1 ⟨vs,H1,I1,r,q⟩=>⟨I1.jV,?_⟩) he Mz
 exact xF M F hr hb hd hx I1 r q
end
end L2
namespace L2
open PySem PySem.Spec PyProof.Rows
abbrev eG(Hs H:Hp)(Q:VK):PV->Prop:=λz=>∀ w L9 H',bP Hs H L9 H'->Rep L9 z w->Q w H'
theorem eG.flat{Hs H:Hp}{Q:VK}{p:PV}{v:V}(h:eG Hs H Q p)(s:bC Hs H)(r:Rep Hs p v):Q v H:=h v Hs H (.refl s) r
theorem eG.tup{Hs H:Hp}{Q:VK}{xs:List PV}{vs:List V}(h:eG Hs H Q (.tup xs))(s:bC Hs H)(r:aS Hs xs vs):∀ p,H p=none->Q (.ref p) (upd H p (.tup vs)) :=
 λp n=>h _ (upd Hs p (.tup vs)) _ (bP.new s n) (.tup aA (r.mono (bP.new s n).st))
theorem eG.lst{Hs H:Hp}{Q:VK}{xs:List PV}{vs:List V}(h:eG Hs H Q (.lst xs))(s:bC Hs H)(r:aS Hs xs vs):∀ p,H p=none->Q (.ref p) (upd H p (.lst vs)) :=
 λp n=>h _ (upd Hs p (.lst vs)) _ (bP.new s n) (.lst aA (r.mono (bP.new s n).st))
namespace HT
theorem Bv{prog:Program}{w:World}{A:Around}{E:Value->Shared->Prop}{s:Shared}{t b:Addr}{ws:List Value}{Q:Value->Shared->Prop}(ht:IsTup s.heap t #[])(hb:IsTup s.heap b ws.toArray)
  (h1:Q (.ref b) s):wpAny (model prog w) A (binaryOp .Add (.ref t) (.ref b)) Q E s:=by
 obtain⟨⟨cls,dd,data,sl⟩,ho,hc,n,hd⟩:=id ht
 obtain⟨⟨cls2,Pd,data2,sl2⟩,N4,OC,n2,hd2⟩:=id hb
 simp only at hc hd OC hd2
 subst hc hd OC hd2
 exact concat_meets ⟨_,ho,rfl⟩ ⟨_,N4,rfl⟩ noFill_tuple_add seq_tuple_add PySem.F.slot_tuple_add PySem.F.entry_tuple_add (PySem.F.args_tuple_add_2 _ _)
   (tuple_addW0 t b #[] ws.toArray n n2 dd Pd sl sl2 rfl) ⟨ho,N4,h1⟩
end HT
def zt(K:PySem.W.Frag):R2:=λx y H Q=>∃ a b ys,x=.ref a/\y=.ref b/\gB K H a []/\gB K H b ys/\Q (.ref b) H
theorem BM{X:Cx}:h9 X (binaryOp .Add) (zt X.K):=by
 intro L4 s σ H x y v u Q I rx ry h
 obtain⟨a,b,ys,rfl,rfl,ha,hb,q1⟩:=h
 cases rx
 cases ry
 obtain⟨L7,r1,p1,_⟩:=I.tuple ha
 obtain⟨NC,r2,p2,_⟩:=I.tuple hb
 have e:L7=[]:=r1.lR.mpr rfl
 subst e
 exact HT.Bv p1 p2 ⟨.ref b,H,I,rfl,q1⟩
def cV{α:Type}(c:Prop)[Decidable c](x:M α):M α:=if c then x else none
theorem ay.cV{α:Type}{c:Prop}[Decidable c]{x:M α}{Q:α->Prop}{E:EX->Prop}(h:ay (L2.cV c x) Q E):c/\ay x Q E:=by
 unfold L2.cV at h
 by_cases hc:c
 ·rw[if_pos hc] at h;exact⟨hc,h⟩
 ·rw[if_neg hc] at h;exact h.elim
def fg(o:Option PV):M PV:=match o with
 | some x=>M.ok x
 | none=>none
theorem ay.opt{o:Option PV}{Q:PV->Prop}{E:EX->Prop}(h:ay (fg o) Q E):∃ x,o=some x/\Q x:=by
 cases o with
 | none=>exact h.elim
 | some x=>exact⟨x,rfl,h⟩
section
variable{X:Cx}{E:St->XK}{a b c e:Expr}{pos:Pos}{f g h:ai->M PV}
def ae(i:Nat)(env:ai):M PV:=match env[i]? with
 | some (some (.sh p))=>M.ok p
 | _=>none
theorem Hg{i:Nat}{x:Str}(hN:X.N[i]?=some x)(hv:Ce X.env.scope x)(hd:autoParam ((x==("__debug__" : Str))=false) aD._auto_1)(Ng:autoParam ((x==("__classdict__" : Str))=false) aD._auto_1):PE X (.Name x pos) (tE E (ae i)):=by
 refine(mf hN hv hd Ng).imp fun σ H Q q=>?_
 obtain⟨B,H₀,Hs,env,sr,q⟩:=q
 unfold ae at q
 split at q
 ·rename_i p e
  obtain⟨v,h1,h2⟩:=sr.sh i p e
  exact⟨v,h1,eG.flat q sr.gr.sub h2⟩
 ·exact q.elim
theorem lE{p:PV}{v:V}(he:PE X e (tC v))(r:∀ H,Rep H p v):PE X e (tE E λ_=>M.ok p):=by
 refine he.imp fun σ H Q q=>?_
 obtain⟨B,H₀,Hs,env,sr,q⟩:=q
 exact eG.flat q sr.gr.sub (r Hs)
theorem Az{i:Int}{j:Nat}:PE X (.Constant (.int i) j pos) (tE E λ_=>M.ok (.int i)):=lE FR λ_=>.int i
theorem Ji{i:Bool}{j:Nat}:PE X (.Constant (.bool i) j pos) (tE E λ_=>M.ok (.bl i)):=lE Ib λ_=>.bl i
theorem F4{j:Nat}:PE X (.Constant .none j pos) (tE E λ_=>M.ok .cp):=lE EY λ_=>.cp
theorem FQ{i:Str}{j:Nat}:PE X (.Constant (.str i) j pos) (tE E λ_=>M.ok (.str i)):=lE FH λ_=>.str i
def ak(op:PV->PV->M PV)(f g:ai->M PV):ai->M PV:=λenv=>(f env).bind λp=>(g env).bind λq=>op p q
def lV(E:St->XK)(r:R2)(op:PV->PV->M PV):Prop:=∀ (σ:St) (Hs H:Hp) (p q:PV) (v u:V) (Q:VK),bC Hs H->Rep Hs p v->Rep Hs q u->ay (op p q) (eG Hs H Q) (XW (E σ) Hs H)->r v u H Q
theorem mn{op:Operator}{r:R2}{o:PV->PV->M PV}(ho:h9 X (binaryOp op) r)(hv:lV E r o)(ha:PE X a (tE E f))(hb:PE X b (tE E g)):PE X (.BinOp a op b pos) (tE E (ak o f g)) :=
 (EN ho ha hb).imp fun σ H Q q=>xx q λHs H1 p q v u s rp rq h=>hv σ Hs H1 p q v u Q s rp rq h
theorem kU{op:CmpOp}{r:R2}{o:PV->PV->M PV}(ho:h9 X (compareOp op) r)(hv:lV E r o)(ha:PE X a (tE E f))(hb:PE X b (tE E g))(hm:behindInMarks op b=false):PE X (.Compare a [op] [b] pos) (tE E (ak o f g)) :=
 (C_ ho ha hb hm).imp fun σ H Q q=>xx q λHs H1 p q v u s rp rq h=>hv σ Hs H1 p q v u Q s rp rq h
def dQ:PV->PV->M PV
 | .int i,.int j=>M.ok (.int (i+j))
 | .str x,.str y=>cV (x.length+y.length<=sizeLine) (M.ok (.str (x++y)))
 | .tup xs,.tup ys=>cV (xs.length+ys.length<=sizeLine) (M.ok (.tup (xs++ys)))
 | .lst xs,.lst ys=>cV (xs.length+ys.length<=sizeLine) (M.ok (.lst (xs++ys)))
 | _,_=>none
def ES(K:PySem.W.Frag):R2:=λx y H Q=>(∃ i j,x=.int i/\y=.int j/\Q (.int (i+j)) H)\/(∃ i j,x=.str i/\y=.str j/\i.length+j.length<=sizeLine/\Q (.str (i++j)) H)\/Et K x y H Q\/HK x y H Q\/zt K x y H Q
theorem Ed:h9 X (binaryOp .Add) (ES X.K):=h9.or GU (h9.or vM (h9.or Dp (h9.or Ff BM)))
theorem Gp{K:PySem.W.Frag}:lV E (ES K) dQ:=by
 intro σ Hs H p q v u Q s rp rq h
 cases rp with
 | int i=>cases rq with
  | int j=>exact .inl ⟨i,j,rfl,rfl,eG.flat h s (.int _)⟩
  | _=>exact h.elim
 | str i=>cases rq with
  | str j =>
   obtain⟨hz,h⟩:=ay.cV h
   exact .inr (.inl ⟨i,j,rfl,rfl,hz,eG.flat h s (.str _)⟩)
  | _=>exact h.elim
 | @tup a xs vs ha hx=>cases rq with
  | @tup b ys us hb hy =>
   obtain⟨hz,h⟩:=ay.cV h
   cases hx with
   | nil=>exact .inr (.inr (.inr (.inr ⟨a,b,us,rfl,rfl,gB.of (s _ _ ha),gB.of (s _ _ hb),eG.flat h s (.tup hb hy)⟩)))
   | cons Pa PB =>
    have hx:=aS.cons Pa PB
    refine .inr (.inr (.inl ⟨a,b,_,us,rfl,rfl,gB.of (s _ _ ha),gB.of (s _ _ hb),(λz=>nomatch z),by rw[← hx.length,← hy.length];exact hz,λz=>?_,λz=>eG.tup h s (hx.append hy)⟩))
    have e:ys=[]:=by cases hy with | nil=>rfl | cons _ _=>cases z
    subst e
    rw[List.append_nil] at h
    exact eG.flat h s (.tup ha hx)
  | _=>exact h.elim
 | @lst a xs vs ha hx=>cases rq with
  | @lst b ys us hb hy =>
   obtain⟨hz,h⟩:=ay.cV h
   exact .inr (.inr (.inr (.inl ⟨a,b,vs,us,rfl,rfl,s _ _ ha,s _ _ hb,by rw[← hx.length,← hy.length];exact hz,eG.lst h s (hx.append hy)⟩)))
  | _=>exact h.elim
 | _=>exact h.elim
def vE(c:Int->Int->Bool)(o:Int->Int->Int):PV->PV->M PV
 | .int i,.int j=>cV (c i j=true) (M.ok (.int (o i j)))
 | _,_=>none
theorem wz{C:Int->Int->Prop}{c:Int->Int->Bool}{o:Int->Int->Int}(hc:∀ i j,c i j=true->C i j):lV E (rI C λi j=>.int (o i j)) (vE c o):=by
 intro σ Hs H p q v u Q s rp rq h
 cases rp with
 | int i=>cases rq with
  | int j =>
   obtain⟨hz,h⟩:=ay.cV h
   exact⟨i,j,rfl,rfl,hc i j hz,eG.flat h s (.int _)⟩
  | _=>exact h.elim
 | _=>exact h.elim
def kN:PV->PV->M PV
 | .int i,.int j=>M.ok (.int (i-j))
 | _,_=>none
theorem G8:lV E (wK λi j=>.int (i-j)) kN:=by
 intro σ Hs H p q v u Q s rp rq h
 cases rp with
 | int i=>cases rq with
  | int j=>exact⟨i,j,rfl,rfl,eG.flat h s (.int _)⟩
  | _=>exact h.elim
 | _=>exact h.elim
def BO(o:Int->Int->Bool):PV->PV->M PV
 | .int i,.int j=>M.ok (.bl (o i j))
 | _,_=>none
theorem sS{o:Int->Int->Bool}:lV E (wK λi j=>.bl (o i j)) (BO o):=by
 intro σ Hs H p q v u Q s rp rq h
 cases rp with
 | int i=>cases rq with
  | int j=>exact⟨i,j,rfl,rfl,eG.flat h s (.bl _)⟩
  | _=>exact h.elim
 | _=>exact h.elim
def aB:PV->PV->M PV
 | .tup xs,.int i=>fg (tm xs i)
 | .lst xs,.int i=>fg (tm xs i)
 | .jD xs,.int i=>fg (tm xs i)
 | .str z,.int i=>cV (z.length<=sizeLine) (fg ((tm z.cps.toList i).map λc=>.str ⟨#[c]⟩))
 | _,_=>none
theorem aS.tm{H:Hp}{xs:List PV}{vs:List V}{i:Int}{x:PV}(r:aS H xs vs)(e:L2.tm xs i=some x):∃ v,L2.tm vs i=some v/\Rep H x v:=by
 unfold L2.tm at e ⊢
 rw[← r.length]
 obtain⟨j,h1,h2⟩:=Option.bind_eq_some_iff.mp e
 obtain⟨v,h3,h4⟩:=r.get h2
 exact⟨v,by rw[h1];exact h3,h4⟩
theorem He{K:PySem.W.Frag}:lV E (Lh K) aB:=by
 intro σ Hs H p q v u Q s rp rq h
 cases rp with
 | @tup a xs vs ha hx=>cases rq with
  | int i =>
   obtain⟨x,ex,h⟩:=ay.opt h
   obtain⟨v,h1,h2⟩:=hx.tm ex
   exact .inr (.inl ⟨a,vs,i,v,rfl,rfl,gB.of (s _ _ ha),h1,eG.flat h s h2⟩)
  | _=>exact h.elim
 | @lst a xs vs ha hx=>cases rq with
  | int i =>
   obtain⟨x,ex,h⟩:=ay.opt h
   obtain⟨v,h1,h2⟩:=hx.tm ex
   exact .inl ⟨a,vs,i,v,rfl,rfl,iw.of (s _ _ ha),h1,eG.flat h s h2⟩
  | _=>exact h.elim
 | @jD a o xs vs ha hx=>cases rq with
  | int i =>
   obtain⟨x,ex,h⟩:=ay.opt h
   obtain⟨v,h1,h2⟩:=hx.tm ex
   exact .inl ⟨a,vs,i,v,rfl,rfl,.inl (.inr ⟨o,s _ _ ha⟩),h1,eG.flat h s h2⟩
  | _=>exact h.elim
 | str z=>cases rq with
  | int i =>
   obtain⟨hz,h⟩:=ay.cV h
   obtain⟨x,ex,h⟩:=ay.opt h
   obtain⟨c,ec,rfl⟩:=Option.map_eq_some_iff.mp ex
   exact .inr (.inr ⟨z,i,c,rfl,rfl,hz,ec,eG.flat h s (.str _)⟩)
  | _=>exact h.elim
 | _=>exact h.elim
theorem Fv(ha:PE X a (tE E f))(hb:PE X b (tE E g))(hs:sC b):PE X (.Subscript a b pos) (tE E (ak aB f g)) :=
 (Iz Gh ha hb hs).imp fun σ H Q q=>xx q λHs H1 p q v u s rp rq h=>He σ Hs H1 p q v u Q s rp rq h
end
end L2
namespace L2
open PySem PySem.Spec PyProof.Rows
def tG{α:Type}(E:St->XK)(f:ai->M α)(K:Hp->Hp->α->Prop):St->Hp->Prop:=fun σ H=>∃ B H₀ Hs env,SR B H₀ Hs H σ env/\ay (f env) (K Hs H) (XW (E σ) Hs H)
def KG{α:Type}(K:Hp->Hp->α->Prop):Prop:=∀ Hs H L9 H' b,K Hs H b->bP Hs H L9 H'->K L9 H' b
abbrev KB(Q:Bool->Hp->Prop):Hp->Hp->Bool->Prop:=λHs H k=>∀ L9 H',bP Hs H L9 H'->Q k H'
abbrev ku(Q:VK):Hp->Hp->PV->Prop:=λHs H p=>eG Hs H Q p
abbrev KL(Q:List V->Hp->Prop):Hp->Hp->List PV->Prop:=λHs H ps=>∀ vs L9 H',bP Hs H L9 H'->aS L9 ps vs->Q vs H'
theorem KB.g{Q:Bool->Hp->Prop}:KG (KB Q):=λHs H L9 H' b k g Mg H2 g2=>k Mg H2 (g.trans g2)
theorem ku.g{Q:VK}:KG (ku Q):=λHs H L9 H' b k g w Mg H2 g2 r=>k w Mg H2 (g.trans g2) r
theorem KL.g{Q:List V->Hp->Prop}:KG (KL Q):=λHs H L9 H' b k g w Mg H2 g2 r=>k w Mg H2 (g.trans g2) r
def tT(E:St->XK)(f:ai->M Bool):TT:=fun σ H Q=>tG E f (KB Q) σ H
def tL(E:St->XK)(f:ai->M (List PV)):TA:=fun σ H Q=>tG E f (KL Q) σ H
theorem PT.imp{X:Cx}{e:Expr}{t t':TT}(h:PT X e t)(i:∀ σ H Q,t' σ H Q->t σ H Q):PT X e t':=λL4 s σ H Q I q=>h L4 s σ H Q I (i σ H Q q)
theorem PW.imp{X:Cx}{e:Expr}{t t':TT}(h:PW X e t)(i:∀ σ H Q,t' σ H Q->t σ H Q):PW X e t':=λw L4 s σ H Q I q=>h w L4 s σ H Q I (i σ H Q q)
theorem PA.imp{X:Cx}{e:List Expr}{t t':TA}(h:PA X e t)(i:∀ σ H Q,t' σ H Q->t σ H Q):PA X e t':=λw L4 s σ H Q I q=>h w L4 s σ H Q I (i σ H Q q)
section
variable{β:Type}{E:St->XK}{K:Hp->Hp->β->Prop}{σ:St}{H:Hp}
theorem cC{f:ai->M PV}{g:ai->PV->M β}{R:VK}(kg:KG K)(h:tG E (λenv=>(f env).bind (g env)) K σ H)
  (k:∀ B H₀ Hs H1 env p v,SR B H₀ Hs H1 σ env->Rep Hs p v->ay (g env p) (K Hs H1) (XW (E σ) Hs H1)->R v H1):tE E f σ H R:=by
 obtain⟨B,H₀,Hs,env,sr,h⟩:=h
 refine⟨B,H₀,Hs,env,sr,(ay.bind h).imp (λp hp v L9 H' g r=>?_) λe he=>he⟩
 exact k B H₀ L9 H' env p v (sr.grow g) r (hp.imp (λq hq=>kg _ _ _ _ q hq g) λe he=>he.grow g)
theorem lO{f:ai->M Bool}{g:ai->Bool->M β}{R:Bool->Hp->Prop}(kg:KG K)(h:tG E (λenv=>(f env).bind (g env)) K σ H)
  (k:∀ B H₀ Hs H1 env p,SR B H₀ Hs H1 σ env->ay (g env p) (K Hs H1) (XW (E σ) Hs H1)->R p H1):tT E f σ H R:=by
 obtain⟨B,H₀,Hs,env,sr,h⟩:=h
 refine⟨B,H₀,Hs,env,sr,(ay.bind h).imp (λp hp L9 H' g=>?_) λe he=>he⟩
 exact k B H₀ L9 H' env p (sr.grow g) (hp.imp (λq hq=>kg _ _ _ _ q hq g) λe he=>he.grow g)
theorem dP{f:ai->M (List PV)}{g:ai->List PV->M β}{R:List V->Hp->Prop}(kg:KG K)(h:tG E (λenv=>(f env).bind (g env)) K σ H)
  (k:∀ B H₀ Hs H1 env p v,SR B H₀ Hs H1 σ env->aS Hs p v->ay (g env p) (K Hs H1) (XW (E σ) Hs H1)->R v H1):tL E f σ H R:=by
 obtain⟨B,H₀,Hs,env,sr,h⟩:=h
 refine⟨B,H₀,Hs,env,sr,(ay.bind h).imp (λp hp v L9 H' g r=>?_) λe he=>he⟩
 exact k B H₀ L9 H' env p v (sr.grow g) r (hp.imp (λq hq=>kg _ _ _ _ q hq g) λe he=>he.grow g)
end
def vo:PV->M Bool
 | .bl b=>M.ok b
 | _=>none
def ee(f:ai->M PV):ai->M Bool:=λenv=>(f env).bind vo
theorem ay.JK{p:PV}{Q:Bool->Prop}{E:EX->Prop}(h:ay (vo p) Q E):∃ b,p=.bl b/\Q b:=by
 cases p with
 | bl b=>exact⟨b,rfl,h⟩
 | _=>exact h.elim
section
variable{X:Cx}{E:St->XK}{a b c e:Expr}{pos:Pos}{f g h:ai->M PV}{u v:ai->M Bool}{rest:List Expr}
theorem vh{σ:St}{H:Hp}{Q:Bool->Hp->Prop}(q:tT E (ee f) σ H Q):tB (tE E f) σ H Q:=by
 refine cC KB.g q λB H₀ Hs H1 env p v sr rp hp=>?_
 obtain⟨k,rfl,hp⟩:=ay.JK hp
 cases rp
 exact⟨k,rfl,hp Hs H1 (.refl sr.gr.sub)⟩
theorem sk(he:PE X e (tE E f))(hw:autoParam (∀ whole,isTrue e X.env whole=(do let v ← whole;standAt e.pos;holding [v] (truthy v))) aI._auto_1):PT X e (tT E (ee f)) :=
 (E6 he hw).imp fun σ H Q q=>vh q
theorem jX{op:CmpOp}{r:R2}{o:PV->PV->M PV}(ho:h9 X (compareOp op) r)(hv:lV E r o)(ha:PE X a (tE E f))(hb:PE X b (tE E g))(hm:behindInMarks op b=false):PT X (.Compare a [op] [b] pos) (tT E (ee (ak o f g))):=by
 refine(DV ho ha hb hm).imp fun σ H Q q=>?_
 have q':=vh q
 exact xx q' λHs H1 p q v u s rp rq h=>hv σ Hs H1 p q v u _ s rp rq h
def hZ(u:ai->M Bool):ai->M Bool:=λenv=>(u env).bind λb=>M.ok (!b)
def Hv(u v:ai->M Bool):ai->M Bool:=λenv=>(u env).bind λb=>if b=true then v env else M.ok false
def Ci(u v:ai->M Bool):ai->M Bool:=λenv=>(u env).bind λb=>if b=true then M.ok true else v env
theorem Hn(ha:PT X a (tT E u)):PT X (.UnaryOp .Not a pos) (tT E (hZ u)) :=
 (Ge ha).imp fun σ H Q q=>lO KB.g q λB H₀ Hs H1 env p sr hp=>hp Hs H1 (.refl sr.gr.sub)
theorem DJ(ha:PT X a (tT E u)):PW X (.BoolOp .And [a] pos) (tT E u):=pw_and1 ha
theorem kP(ha:PT X a (tT E u)):PW X (.BoolOp .Or [a] pos) (tT E u):=pw_or1 ha
theorem E_(ha:PT X a (tT E u))(hb:PW X (.BoolOp .And (b::rest) pos) (tT E v)):PW X (.BoolOp .And (a::b::rest) pos) (tT E (Hv u v)):=by
 refine(pw_and ha hb).imp fun σ H Q q=>lO KB.g q λB H₀ Hs H1 env p sr hp=>?_
 cases p with
 | true=>exact⟨B,H₀,Hs,env,sr,hp⟩
 | false=>exact hp Hs H1 (.refl sr.gr.sub)
theorem mU(ha:PT X a (tT E u))(hb:PW X (.BoolOp .Or (b::rest) pos) (tT E v)):PW X (.BoolOp .Or (a::b::rest) pos) (tT E (Ci u v)):=by
 refine(pw_or ha hb).imp fun σ H Q q=>lO KB.g q λB H₀ Hs H1 env p sr hp=>?_
 cases p with
 | true=>exact hp Hs H1 (.refl sr.gr.sub)
 | false=>exact⟨B,H₀,Hs,env,sr,hp⟩
def GW(f:ai->M PV):ai->M PV:=λenv=>(f env).bind λp=>(vo p).bind λb=>M.ok (.bl (!b))
def B5(f g:ai->M PV):ai->M PV:=λenv=>(f env).bind λp=>(vo p).bind λb=>if b=true then g env else M.ok (.bl false)
def LJ(f g:ai->M PV):ai->M PV:=λenv=>(f env).bind λp=>(vo p).bind λb=>if b=true then M.ok (.bl true) else g env
theorem GP(ha:PE X a (tE E f)):PE X (.UnaryOp .Not a pos) (tE E (GW f)):=by
 refine(Fl ha).imp fun σ H Q q=>cC (K:=ku Q) ku.g q λB H₀ Hs H1 env p v sr rp hp=>?_
 obtain⟨k,rfl,hp⟩:=ay.JK (ay.bind hp)
 cases rp
 exact⟨k,rfl,eG.flat hp sr.gr.sub (.bl _)⟩
theorem v7(ha:PE X a (tE E f))(hb:PE X (.BoolOp .And (b::rest) pos) (tE E g)):PE X (.BoolOp .And (a::b::rest) pos) (tE E (B5 f g)):=by
 refine(Hm ha hb).imp fun σ H Q q=>cC (K:=ku Q) ku.g q λB H₀ Hs H1 env p v sr rp hp=>?_
 obtain⟨k,rfl,hp⟩:=ay.JK (ay.bind hp)
 cases rp
 refine⟨k,rfl,?_⟩
 cases k with
 | true=>exact⟨B,H₀,Hs,env,sr,hp⟩
 | false=>exact eG.flat hp sr.gr.sub (.bl _)
def yn(u:ai->M Bool)(f g:ai->M PV):ai->M PV:=λenv=>(u env).bind λb=>if b=true then f env else g env
theorem Gi(hc:PT X c (tT E u))(ha:PE X a (tE E f))(hb:PE X b (tE E g)):PE X (.IfExp c a b pos) (tE E (yn u f g)):=by
 refine(B_ hc ha hb).imp fun σ H Q q=>lO (K:=ku Q) ku.g q λB H₀ Hs H1 env p sr hp=>?_
 cases p with
 | true=>exact⟨B,H₀,Hs,env,sr,hp⟩
 | false=>exact⟨B,H₀,Hs,env,sr,hp⟩
def aj:ai->M (List PV):=λ_=>M.ok []
def aa(f:ai->M PV)(fs:ai->M (List PV)):ai->M (List PV):=λenv=>(f env).bind λp=>(fs env).bind λps=>M.ok (p::ps)
variable{fs:ai->M (List PV)}{es:List Expr}
theorem Bk:PA X [] (tL E aj):=by
 refine pE.imp fun σ H Q q=>?_
 obtain⟨B,H₀,Hs,env,sr,q⟩:=q
 exact q [] Hs H (.refl sr.gr.sub) .nil
theorem xk(ha:PE X e (tE E f))(hr:PA X es (tL E fs))(hs:autoParam (starEach (e::es) X.env=(false,eval e X.env)::starEach es X.env) aR._auto_1):PA X (e::es) (tL E (aa f fs)):=by
 refine(iu ha hr hs).imp fun σ H Q q=>cC (K:=KL Q) KL.g q λB H₀ Hs H1 env p v sr rp hp=>?_
 refine⟨B,H₀,Hs,env,sr,(ay.bind hp).imp (λps Pu vs L9 H' g r=>?_) λe he=>he⟩
 exact Pu (v::vs) L9 H' g (.cons (rp.mono g.st) r)
def jO(fs:ai->M (List PV)):ai->M PV:=λenv=>(fs env).bind λps=>cV (ps.length<=sizeLine) (M.ok (.tup ps))
def pB(fs:ai->M (List PV)):ai->M PV:=λenv=>(fs env).bind λps=>cV (ps.length<=sizeLine) (M.ok (.lst ps))
theorem GZ{x1:Nat}(hr:PA X es (tL E fs)):PE X (.Tuple es x1 pos) (tE E (jO fs)):=by
 refine(Ao hr).imp fun σ H Q q=>dP (K:=ku Q) ku.g q λB H₀ Hs H1 env p v sr rp hp=>?_
 obtain⟨hz,hp⟩:=ay.cV hp
 exact⟨by rw[← rp.length];exact hz,eG.tup hp sr.gr.sub rp⟩
theorem BK(hr:PA X es (tL E fs)):PE X (.List es pos) (tE E (pB fs)):=by
 refine(zk hr).imp fun σ H Q q=>dP (K:=ku Q) ku.g q λB H₀ Hs H1 env p v sr rp hp=>?_
 obtain⟨hz,hp⟩:=ay.cV hp
 exact⟨by rw[← rp.length];exact hz,eG.lst hp sr.gr.sub rp⟩
def af(o:List PV->M PV)(fs:ai->M (List PV)):ai->M PV:=λenv=>(fs env).bind o
def k_(E:St->XK)(r:List V->Hp->VK->Prop)(o:List PV->M PV):Prop:=∀ (σ:St) (Hs H:Hp) (ps:List PV) (vs:List V) (Q:VK),bC Hs H->aS Hs ps vs->ay (o ps) (eG Hs H Q) (XW (E σ) Hs H)->r vs H Q
theorem BA{r:List V->Hp->VK->Prop}{o:List PV->M PV}{σ:St}{H:Hp}{Q:VK}(hv:k_ E r o)(q:tE E (af o fs) σ H Q):KU r (tL E fs) σ H Q :=
 dP (K:=ku Q) ku.g q λB H₀ Hs H1 env p v sr rp hp=>hv σ Hs H1 p v Q sr.gr.sub rp hp
variable{x:Str}{p:Pos}{id T:String}
theorem jK{r:List V->Hp->VK->Prop}{o:List PV->M PV}(hc:eC X (.builtin id) r)(hv:k_ E r o)(hg:Gl X x)(hm:X.mg x=none)(hx:bootBuiltins x=some (.builtin id))(ha:PA X (e::es) (tL E fs))(hn:autoParam (x ≠ "__name__") aD._auto_1)(M0:autoParam ((x==("__debug__" : Str))=false) aD._auto_1)
  (he:autoParam (starEach (e::es) X.env=(false,eval e X.env)::starEach es X.env) aR._auto_1) (Mz:autoParam ((backTo pos (starEach es X.env)).any (·.1)=false) aR._auto_1):PE X (.Call (.Name x p) (e::es) [] pos) (tE E (af o fs)) :=
 (pR hc hg hm hx ha hn M0 he Mz).imp fun σ H Q q=>BA hv q
theorem qH{r:List V->Hp->VK->Prop}{o:List PV->M PV}(hc:eC X (.type T) r)(hv:k_ E r o)(hg:Gl X x)(hm:X.mg x=none)(hx:bootBuiltins x=some (.type T))(ha:PA X (e::es) (tL E fs))(hn:autoParam (x ≠ "__name__") aD._auto_1)(M0:autoParam ((x==("__debug__" : Str))=false) aD._auto_1)
  (he:autoParam (starEach (e::es) X.env=(false,eval e X.env)::starEach es X.env) aR._auto_1) (Mz:autoParam ((backTo pos (starEach es X.env)).any (·.1)=false) aR._auto_1):PE X (.Call (.Name x p) (e::es) [] pos) (tE E (af o fs)) :=
 (yy hc hg hm hx ha hn M0 he Mz).imp fun σ H Q q=>BA hv q
end
end L2
namespace L2
open PySem PySem.Spec PyProof.Rows
section
variable{E:St->XK}
def bO:PV->Option (List PV)
 | .tup xs=>some xs
 | .lst xs=>some xs
 | .jD xs=>some xs
 | _=>none
theorem AQ{K:PySem.W.Frag}{Hs H:Hp}{p:PV}{v:V}{xs:List PV}(s:bC Hs H)(r:Rep Hs p v)(e:bO p=some xs):∃ a vs,v=.ref a/\(iw K H a vs\/gB K H a vs)/\aS Hs xs vs:=by
 cases r with
 | tup h r=>cases e;exact⟨_,_,rfl,.inr (gB.of (s _ _ h)),r⟩
 | lst h r=>cases e;exact⟨_,_,rfl,.inl (iw.of (s _ _ h)),r⟩
 | jD h r=>cases e;exact⟨_,_,rfl,.inl (.inl (.inr ⟨_,s _ _ h⟩)),r⟩
 | _=>cases e
def rM:PV->M PV
 | .str z=>cV (z.length<=sizeLine) (M.ok (.int z.length))
 | p=>fg ((bO p).map λxs=>.int xs.length)
def dy:List PV->M PV
 | [p]=>rM p
 | _=>none
theorem aS.one{H:Hp}{p:PV}{vs:List V}(r:aS H [p] vs):∃ v,vs=[v]/\Rep H p v:=by
 cases r with
 | cons h r=>cases r;exact⟨_,rfl,h⟩
theorem aS.two{H:Hp}{p q:PV}{vs:List V}(r:aS H [p,q] vs):∃ v u,vs=[v,u]/\Rep H p v/\Rep H q u:=by
 cases r with
 | cons h r=>obtain⟨u,rfl,h2⟩:=r.one;exact⟨_,_,rfl,h,h2⟩
def Ep(K:PySem.W.Frag):List V->Hp->VK->Prop:=λxs H Q=>(∃ p ys,xs=[.ref p]/\(iw K H p ys\/gB K H p ys)/\Q (.int ys.length) H)\/∃ z,xs=[.str z]/\z.length<=sizeLine/\Q (.int z.length) H
theorem xX{X:Cx}:eC X (.builtin "len") (Ep X.K):=eC.or rO rL
theorem FA{K:PySem.W.Frag}:k_ E (Ep K) dy:=by
 intro σ Hs H ps vs Q s r h
 match ps,r with
 | [],_=>exact h.elim
 | _::_::_,_=>exact h.elim
 | [p],r =>
  obtain⟨v,rfl,rp⟩:=r.one
  cases hp:bO p with
  | none =>
   cases p with
   | str z =>
    cases rp
    obtain⟨hz,h⟩:=ay.cV h
    exact .inr ⟨z,rfl,hz,eG.flat h s (.int _)⟩
   | tup _=>cases hp
   | lst _=>cases hp
   | jD _=>cases hp
   | _=>exact h.elim
  | some xs =>
   obtain⟨a,us,rfl,hq,hx⟩:=AQ (K:=K) s rp hp
   have h':ay (fg ((bO p).map λxs=>PV.int xs.length)) (eG Hs H Q) (XW (E σ) Hs H):=by
    cases p with
    | str z=>cases hp
    | _=>exact h
   rw[hp] at h'
   refine .inl ⟨a,us,rfl,hq,?_⟩
   rw[← hx.length]
   exact eG.flat h' s (.int _)
def xu:List PV->M PV
 | [p]=>fg ((bO p).map .lst)
 | _=>none
theorem De{K:PySem.W.Frag}:k_ E (λxs H Q=>∃ p ys,xs=[.ref p]/\(iw K H p ys\/gB K H p ys)/\∀ l,H l=none->Q (.ref l) (upd H l (.lst ys))) xu:=by
 intro σ Hs H ps vs Q s r h
 match ps,r with
 | [],_=>exact h.elim
 | _::_::_,_=>exact h.elim
 | [p],r =>
  obtain⟨v,rfl,rp⟩:=r.one
  obtain⟨x,ex,h⟩:=ay.opt h
  obtain⟨xs,hp,rfl⟩:=Option.map_eq_some_iff.mp ex
  obtain⟨a,us,rfl,hq,hx⟩:=AQ (K:=K) s rp hp
  exact⟨a,us,rfl,hq,eG.lst h s hx⟩
def dq:List PV->M PV
 | [p]=>fg ((bO p).map .tup)
 | _=>none
theorem zV{K:PySem.W.Frag}:k_ E (λxs H Q=>∃ p ys,xs=[.ref p]/\((iw K H p ys/\∀ l,H l=none->Q (.ref l) (upd H l (.tup ys)))\/(gB K H p ys/\Q (.ref p) H))) dq:=by
 intro σ Hs H ps vs Q s r h
 match ps,r with
 | [],_=>exact h.elim
 | _::_::_,_=>exact h.elim
 | [p],r =>
  obtain⟨v,rfl,rp⟩:=r.one
  obtain⟨x,ex,h⟩:=ay.opt h
  obtain⟨xs,hp,rfl⟩:=Option.map_eq_some_iff.mp ex
  cases rp with
  | tup ha hx=>cases hp;exact⟨_,_,rfl,.inr ⟨gB.of (s _ _ ha),eG.flat h s (.tup ha hx)⟩⟩
  | lst ha hx=>cases hp;exact⟨_,_,rfl,.inl ⟨iw.of (s _ _ ha),eG.tup h s hx⟩⟩
  | jD ha hx=>cases hp;exact⟨_,_,rfl,.inl ⟨.inl (.inr ⟨_,s _ _ ha⟩),eG.tup h s hx⟩⟩
  | _=>cases hp
def ve:List PV->Option (List Int)
 | []=>some []
 | .int i::r=>(ve r).map (i::·)
 | _=>none
def BN:List PV->Option (List Bool)
 | []=>some []
 | .bl i::r=>(BN r).map (i::·)
 | _=>none
theorem w9:∀ {ps:List PV} {ns:List Int},ve ps=some ns->ps=ns.map PV.int
 | [],_,e=>by cases e;rfl
 | .int i::r,_,e=>by
  obtain⟨ms,h1,rfl⟩:=Option.map_eq_some_iff.mp e
  rw[w9 h1];rfl
theorem BS:∀ {ps:List PV} {ns:List Bool},BN ps=some ns->ps=ns.map PV.bl
 | [],_,e=>by cases e;rfl
 | .bl i::r,_,e=>by
  obtain⟨ms,h1,rfl⟩:=Option.map_eq_some_iff.mp e
  rw[BS h1];rfl
theorem qP:∀ (ns:List Int),ve (ns.map PV.int)=some ns
 | []=>rfl
 | n::r=>by show (ve (r.map PV.int)).map (n::·)=_;rw[qP r];rfl
theorem t8:∀ (ns:List Bool),BN (ns.map PV.bl)=some ns
 | []=>rfl
 | n::r=>by show (BN (r.map PV.bl)).map (n::·)=_;rw[t8 r];rfl
def Jn:PV->M PV
 | .lst xs=>fg ((ve xs).map λns=>.int ns.sum)
 | _=>none
def yM:List PV->M PV
 | [p]=>Jn p
 | _=>none
theorem Gg{K:PySem.W.Frag}:k_ E (λxs H Q=>∃ (a:Addr) (ns:List Int),xs=[.ref a]/\iw K H a (ns.map V.int)/\Q (.int ns.sum) H) yM:=by
 intro σ Hs H ps vs Q s r h
 match ps,r with
 | [],_=>exact h.elim
 | _::_::_,_=>exact h.elim
 | [p],r =>
  obtain⟨v,rfl,rp⟩:=r.one
  cases rp with
  | lst ha hx =>
   obtain⟨x,ex,h⟩:=ay.opt h
   obtain⟨ns,hn,rfl⟩:=Option.map_eq_some_iff.mp ex
   rw[w9 hn] at hx
   exact⟨_,ns,rfl,hx.ints▸iw.of (s _ _ ha),eG.flat h s (.int _)⟩
  | _=>exact h.elim
def all1:PV->M PV
 | .lst xs=>fg ((BN xs).map λns=>.bl (ns.all id))
 | _=>none
def tW:List PV->M PV
 | [p]=>all1 p
 | _=>none
theorem GS{K:PySem.W.Frag}:k_ E (λxs H Q=>∃ (a:Addr) (bs:List Bool),xs=[.ref a]/\iw K H a (bs.map V.bl)/\Q (.bl (bs.all id)) H) tW:=by
 intro σ Hs H ps vs Q s r h
 match ps,r with
 | [],_=>exact h.elim
 | _::_::_,_=>exact h.elim
 | [p],r =>
  obtain⟨v,rfl,rp⟩:=r.one
  cases rp with
  | lst ha hx =>
   obtain⟨x,ex,h⟩:=ay.opt h
   obtain⟨ns,hn,rfl⟩:=Option.map_eq_some_iff.mp ex
   rw[BS hn] at hx
   exact⟨_,ns,rfl,hx.Lj▸iw.of (s _ _ ha),eG.flat h s (.bl _)⟩
  | _=>exact h.elim
def K_(o:Int->Int->Int):PV->PV->M PV
 | .int i,.int j=>M.ok (.int (o i j))
 | _,_=>none
def wO(o:Int->Int->Int):List PV->M PV
 | [p,q]=>K_ o p q
 | _=>none
theorem wR{o:Int->Int->Int}:k_ E (λxs H Q=>∃ i j,xs=[.int i,.int j]/\Q (.int (o i j)) H) (wO o):=by
 intro σ Hs H ps vs Q s r h
 match ps,r with
 | [],_=>exact h.elim
 | [_],_=>exact h.elim
 | _::_::_::_,_=>exact h.elim
 | [p,q],r =>
  obtain⟨v,u,rfl,rp,rq⟩:=r.two
  cases rp with
  | int i=>cases rq with
   | int j=>exact⟨i,j,rfl,eG.flat h s (.int _)⟩
   | _=>exact h.elim
  | _=>exact h.elim
end
def dz(n:Nat)(sem:List PV->M PV):Sp:=λvs H Q E=>vs.length=n/\∃ Hs ps,bC Hs H/\aS Hs ps vs/\ay (sem ps) (eG Hs H Q) (XW E Hs H)
section
variable{X:Cx}{E:St->XK}{k n:Nat}{f C:Addr}{fd:FuncData}{ps:List Str}{sem:List PV->M PV}{x m:Str}{p pos apos:Pos}{e o:Expr}{es:List Expr}{fs:ai->M (List PV)}{g:ai->M PV}
theorem CN{ds:List Value}{MM:List V}{Nt:List PV}(F:aP X.prog X.w X.K X.mg X.base (bS X.prog X.w) k f fd ps (dz n sem))(hr:cD k X.A)(hg:Gl X x)(hm:X.mg x=some (.ref f))(hk:PySem.W.keepIn X.K (.ref f)=true)(hb:Binds X.K fd ps ds)(hd:Vals MM ds)(hdp:∀ H,aS H Nt MM)(O:fw X E)
  (hl:∀ ps,sem (ps++Nt)≠none->ps.length+Nt.length=n)
  (ha:PA X (e::es) (tL E fs)) (M0:autoParam ((x==("__debug__" : Str))=false) aD._auto_1) (he:autoParam (starEach (e::es) X.env=(false,eval e X.env)::starEach es X.env) aR._auto_1) (Mz:autoParam ((backTo pos (starEach es X.env)).any (·.1)=false) aR._auto_1) :
  PE X (.Call (.Name x p) (e::es) [] pos) (tE E (af (λps=>sem (ps++Nt)) fs)):=by
 refine(BF F hr hg hm hk hb hd O ha M0 he Mz).imp fun σ H Q q=>dP (K:=ku Q) ku.g q λB H₀ Hs H1 env ND v sr rp hp=>?_
 have r2:aS Hs (ND++Nt) (v++MM):=rp.append (hdp Hs)
 have hn:sem (ND++Nt)≠none:=λz=>by rw[z] at hp;exact hp
 refine⟨?_,Hs,ND++Nt,sr.gr.sub,r2,hp⟩
 rw[← r2.length,List.length_append]
 exact hl ND hn
def eB(ok:Addr->Bool)(f:Str)(g:ai->M PV):ai->M PV:=λenv=>(g env).bind λp=>match p with
 | .obj C fs=>cV (ok C=true) (fg (fs.lookup f))
 | _=>none
theorem E7{ok:Addr->Bool}{fl:Str}(he:PE X e (tE E g))(bK:∀ C,ok C=true->lU X.K C/\bZ X.K C fl)(hb:attributeBase e fl X.env (eval e X.env)=eval e X.env):PE X (.Attribute e fl pos) (tE E (eB ok fl g)):=by
 refine(EZ he hb).imp fun σ H Q q=>cC (K:=ku Q) ku.g q λB H₀ Hs H1 env p v sr rp hp=>?_
 cases rp with
 | obj ha hx =>
  obtain⟨hc,hp⟩:=ay.cV hp
  obtain⟨x,ex,hp⟩:=ay.opt hp
  obtain⟨u,h1,h2⟩:=hx.look ex
  exact⟨_,_,_,_,u,rfl,sr.gr.sub _ _ ha,(bK _ hc).1,(bK _ hc).2,h1,eG.flat hp sr.gr.sub h2⟩
 | _=>exact hp.elim
def bp(C:Addr)(m:Str)(sem:List PV->M PV)(g:ai->M PV)(fs:ai->M (List PV)):ai->M PV:=λenv=>(g env).bind λp=>match p with
 | .obj C' fl=>cV (C'=C/\fl.lookup m=none) ((fs env).bind λps=>sem (.obj C' fl::ps))
 | _=>none
theorem Cz{pl:Sem Bool}(he:PE X o (tE E g))(c:lU X.K C)(hm:Meth X.K C m f)(F:aP X.prog X.w X.K X.mg X.base (bS X.prog X.w) k f fd ps (dz n sem))(hr:cD k X.A)(hb:Binds X.K fd ps [])(O:fw X E)(hl:∀ ps,sem ps≠none->ps.length=n)(ha:PA X (e::es) (tL E fs))
  (Mu:autoParam (starEach (e::es) X.env=(false,eval e X.env)::starEach es X.env) aR._auto_1) (Mz:autoParam ((backTo pos (starEach es X.env)).any (·.1)=false) aR._auto_1)
  (ht:autoParam (eval (.Call (.Attribute o m apos) (e::es) [] pos) X.env=(do
   let ov ← eval o X.env
   standAt apos.atName
   let (f,first) ← holding [ov] (getMethod ov m pl)
   callWith pos f first (backTo pos (starEach (e::es) X.env)) (backToKw pos (keywordEach [] X.env)))) aR._auto_1) :
  PE X (.Call (.Attribute o m apos) (e::es) [] pos) (tE E (bp C m sem g fs)):=by
 refine(Ak he c hm F hr hb .nil O ha Mu Mz ht).imp fun σ H Q q=>cC (K:=ku Q) ku.g q λB H₀ Hs H1 env p v sr rp hp=>?_
 cases rp with
 | @obj a C' dx fl fvs ho hx =>
  obtain⟨⟨e1,hn⟩,EG⟩:=ay.cV hp
  subst e1
  refine⟨a,dx,fvs,rfl,sr.gr.sub _ _ ho,hx.none hn,B,H₀,Hs,env,sr,(ay.bind EG).imp (λND Pu vs L9 H' g' r=>?_) λe he=>he⟩
  have r2:aS L9 (.obj C' fl::ND) (V.ref a::(vs++[])):=by rw[List.append_nil];exact .cons ((Rep.obj ho hx).mono g'.st) r
  have hn:sem (.obj C' fl::ND)≠none:=λz=>by rw[z] at Pu;exact Pu
  refine⟨by rw[← r2.length];exact hl _ hn,L9,_,g'.sub,r2,Pu.imp (λz hz w Mg H2 g2 r2=>hz w Mg H2 (g'.trans g2) r2) λe he=>he.grow g'⟩
 | _=>exact hp.elim
theorem AU{pl:Sem Bool}(he:PE X o (tE E g))(c:lU X.K C)(hm:Meth X.K C m f)(F:aP X.prog X.w X.K X.mg X.base (bS X.prog X.w) k f fd ps (dz n sem))(hr:cD k X.A)(hb:Binds X.K fd ps [])(O:fw X E)(hl:∀ ps,sem ps≠none->ps.length=n)
  (ht:autoParam (eval (.Call (.Attribute o m apos) [] [] pos) X.env=(do
   let ov ← eval o X.env
   standAt apos.atName
   let (f,first) ← holding [ov] (getMethod ov m pl)
   callWith pos f first (backTo pos (starEach [] X.env)) (backToKw pos (keywordEach [] X.env)))) aR._auto_1) :
  PE X (.Call (.Attribute o m apos) [] [] pos) (tE E (bp C m sem g aj)):=by
 refine(yV he c hm F hr hb .nil O ht).imp fun σ H Q q=>cC (K:=ku Q) ku.g q λB H₀ Hs H1 env p v sr rp hp=>?_
 cases rp with
 | @obj a C' dx fl fvs ho hx =>
  obtain⟨⟨e1,hn⟩,EG⟩:=ay.cV hp
  subst e1
  have r2:aS Hs [.obj C' fl] [V.ref a]:=.cons (Rep.obj ho hx) .nil
  have hn':sem [.obj C' fl]≠none:=λz=>by
   have OO:ay (sem [.obj C' fl]) (eG Hs H1 Q) (XW (E σ) Hs H1):=EG
   rw[z] at OO;exact OO
  exact⟨a,dx,fvs,rfl,sr.gr.sub _ _ ho,hx.none hn,by rw[show ([]:List V)++[]=[] from rfl];exact r2.length▸hl _ hn',Hs,_,sr.gr.sub,r2,EG⟩
 | _=>exact hp.elim
end
end L2
namespace L2
open PySem PySem.Spec PyProof.Rows
inductive Out where
 | nx (env:ai) | rt (p:PV) | bk (env:ai) | ct (env:ai)
def KS(D:Ends)(B H₀:Hp):Out->Prop
 | .nx env=>∀ σ Hs H,SR B H₀ Hs H σ env->D.nx σ H
 | .rt p=>∀ v Hs H,bP B H₀ Hs H->Rep Hs p v->D.rt v H
 | .bk env=>∀ σ Hs H,SR B H₀ Hs H σ env->D.bk σ H
 | .ct env=>∀ σ Hs H,SR B H₀ Hs H σ env->D.ct σ H
def tS(E:XK)(f:ai->M Out):TS:=λD σ H=>∃ B H₀ Hs env,SR B H₀ Hs H σ env/\ay (f env) (KS D B H₀) (XW E B H₀)
theorem PS.imp{X:Cx}{st:Stmt}{t t':TS}(h:PS X st t)(i:∀ D σ H,t' D σ H->t D σ H):PS X st t':=λL4 s σ H D I q=>h L4 s σ H D I (i D σ H q)
theorem lW.imp{X:Cx}{st:List Stmt}{t t':TS}(h:lW X st t)(i:∀ D σ H,t' D σ H->t D σ H):lW X st t':=λL4 s σ H D I q=>h L4 s σ H D I (i D σ H q)
def aq:ai->M Out:=λenv=>M.ok (.nx env)
def AW(g:ai->M Out):Out->M Out
 | .nx env=>g env
 | o=>M.ok o
noncomputable def ao(f g:ai->M Out):ai->M Out:=λenv=>(f env).bind (AW g)
theorem jM{E:XK}{f:ai->M PV}{g:ai->PV->M Out}{D:Ends}{σ:St}{H:Hp}{R:VK}(h:tS E (λenv=>(f env).bind (g env)) D σ H)
  (k:∀ B H₀ Hs H1 env p v,SR B H₀ Hs H1 σ env->Rep Hs p v->ay (g env p) (KS D B H₀) (XW E B H₀)->R v H1):tE (λ_=>E) f σ H R:=by
 obtain⟨B,H₀,Hs,env,sr,h⟩:=h
 refine⟨B,H₀,Hs,env,sr,(ay.bind h).imp (λp hp v L9 H' g r=>?_) λe he=>he.grow sr.gr⟩
 exact k B H₀ L9 H' env p v (sr.grow g) r hp
theorem z9{E:XK}{f:ai->M Bool}{g:ai->Bool->M Out}{D:Ends}{σ:St}{H:Hp}{R:Bool->Hp->Prop}(h:tS E (λenv=>(f env).bind (g env)) D σ H)
  (k:∀ B H₀ Hs H1 env p,SR B H₀ Hs H1 σ env->ay (g env p) (KS D B H₀) (XW E B H₀)->R p H1):tT (λ_=>E) f σ H R:=by
 obtain⟨B,H₀,Hs,env,sr,h⟩:=h
 refine⟨B,H₀,Hs,env,sr,(ay.bind h).imp (λp hp L9 H' g=>?_) λe he=>he.grow sr.gr⟩
 exact k B H₀ L9 H' env p (sr.grow g) hp
theorem ur{E:XK}{f:ai->M (List PV)}{g:ai->List PV->M Out}{D:Ends}{σ:St}{H:Hp}{R:List V->Hp->Prop}(h:tS E (λenv=>(f env).bind (g env)) D σ H)
  (k:∀ B H₀ Hs H1 env p v,SR B H₀ Hs H1 σ env->aS Hs p v->ay (g env p) (KS D B H₀) (XW E B H₀)->R v H1):tL (λ_=>E) f σ H R:=by
 obtain⟨B,H₀,Hs,env,sr,h⟩:=h
 refine⟨B,H₀,Hs,env,sr,(ay.bind h).imp (λp hp v L9 H' g r=>?_) λe he=>he.grow sr.gr⟩
 exact k B H₀ L9 H' env p v (sr.grow g) r hp
theorem SR.set{B H₀ Hs H:Hp}{σ:St}{env:ai}{p:PV}{v:V}{i:Nat}(r:SR B H₀ Hs H σ env)(h:Rep Hs p v):SR B H₀ Hs H (σ.set i (some v)) (env.set i (some (.sh p))) where
 gr:=r.gr
 len:=by rw[List.length_set,List.length_set];exact r.len
 sh:=λj q e=>by
  rw[List.getElem?_set] at e ⊢
  by_cases z:i=j
  ·subst z
   rw[if_pos rfl] at e ⊢
   split at e
   ·cases e
    rw[if_pos (by rw[r.len];assumption)]
    exact⟨v,rfl,h⟩
   ·cases e
  ·rw[if_neg z] at e ⊢
   exact r.sh j q e
 ow:=λj xs e=>by
  rw[List.getElem?_set] at e ⊢
  by_cases z:i=j
  ·subst z
   rw[if_pos rfl] at e
   split at e <;> cases e
  ·rw[if_neg z] at e ⊢
   exact r.ow j xs e
 sep:=λj k xs ys a n e1 e2 e3 e4=>by
  rw[List.getElem?_set] at e1 e2 e3 e4
  by_cases z:i=j
  ·subst z
   rw[if_pos rfl] at e1
   split at e1 <;> cases e1
  ·by_cases z2:i=k
   ·subst z2
    rw[if_pos rfl] at e2
    split at e2 <;> cases e2
   ·rw[if_neg z] at e1 e3
    rw[if_neg z2] at e2 e4
    exact r.sep j k xs ys a n e1 e2 e3 e4
 bd:=λj a C fs e=>by
  rw[List.getElem?_set] at e ⊢
  by_cases z:i=j
  ·subst z
   rw[if_pos rfl] at e
   split at e <;> cases e
  ·rw[if_neg z] at e ⊢
   exact r.bd j a C fs e
 one:=λj k a b C D fs gs e1 e2=>by
  rw[List.getElem?_set] at e1 e2
  by_cases z:i=j
  ·subst z
   rw[if_pos rfl] at e1
   split at e1 <;> cases e1
  ·by_cases z2:i=k
   ·subst z2
    rw[if_pos rfl] at e2
    split at e2 <;> cases e2
   ·rw[if_neg z] at e1
    rw[if_neg z2] at e2
    exact r.one j k _ _ C D fs gs e1 e2
theorem SR.own{B H₀ Hs H:Hp}{σ:St}{env:ai}{xs:List PV}{vs:List V}{i:Nat}{p:Addr}(r:SR B H₀ Hs H σ env)(h:aS Hs xs vs)(n:H p=none):SR B H₀ Hs (upd H p (.lst vs)) (σ.set i (some (.ref p))) (env.set i (some (.ow xs))):=by
 have ne:∀ c u,H c=some u->c≠p:=λc u e z=>by rw[z,n] at e;cases e
 have hs:Hs p=none:=by
  cases q:Hs p with
  | none=>rfl
  | some o=>have:=r.gr.sub _ _ q;rw[n] at this;cases this
 have h0:H₀ p=none:=by
  cases q:H₀ p with
  | none=>rfl
  | some o=>have:=r.gr.al _ _ q;rw[n] at this;cases this
 refine⟨⟨r.gr.st,λc u e=>by rw[aw (ne c u (r.gr.al c u e))];exact r.gr.al c u e,λc u e=>by rw[aw (ne c u (r.gr.sub c u e))];exact r.gr.sub c u e,r.gr.nw⟩,by rw[List.length_set,List.length_set];exact r.len,λj q e=>?_,λj ys e=>?_,λj k ys zs a nj e1 e2 e3 e4=>?_,λj ba C fs e=>?_,λj k _ _ C D fs gs e1 e2=>?_⟩
 ·rw[List.getElem?_set] at e ⊢
  by_cases z:i=j
  ·subst z
   rw[if_pos rfl] at e
   split at e <;> cases e
  ·rw[if_neg z] at e ⊢
   exact r.sh j q e
 ·rw[List.getElem?_set] at e ⊢
  by_cases z:i=j
  ·subst z
   rw[if_pos rfl] at e ⊢
   split at e
   ·cases e
    rw[if_pos (by rw[r.len];assumption)]
    exact⟨p,vs,rfl,aA,hs,h0,h⟩
   ·cases e
  ·rw[if_neg z] at e ⊢
   obtain⟨a,us,h1,h2,h3,h4,h5⟩:=r.ow j ys e
   exact⟨a,us,h1,by rw[aw (ne a _ h2)];exact h2,h3,h4,h5⟩
 ·rw[List.getElem?_set] at e1 e2 e3 e4
  by_cases z:i=j
  ·subst z
   rw[if_pos rfl] at e3
   split at e3
   ·cases e3
    rw[if_neg nj] at e2 e4
    obtain⟨a',us,h1,h2,_⟩:=r.ow k zs e2
    rw[e4] at h1;cases h1
    rw[n] at h2;cases h2
   ·cases e3
  ·rw[if_neg z] at e1 e3
   by_cases z2:i=k
   ·subst z2
    rw[if_pos rfl] at e4
    split at e4
    ·cases e4
     obtain⟨a',us,h1,h2,_⟩:=r.ow j ys e1
     rw[e3] at h1;cases h1
     rw[n] at h2;cases h2
    ·cases e4
   ·rw[if_neg z2] at e2 e4
    exact r.sep j k ys zs a nj e1 e2 e3 e4
 ·rw[List.getElem?_set] at e ⊢
  by_cases z:i=j
  ·subst z
   rw[if_pos rfl] at e
   split at e <;> cases e
  ·rw[if_neg z] at e ⊢
   obtain⟨dx,us,h1,h2,h3,h4,h5⟩:=r.bd j ba C fs e
   exact⟨dx,us,h1,by rw[aw (ne ba _ h2)];exact h2,h3,h4,h5⟩
 ·rw[List.getElem?_set] at e1 e2
  by_cases z:i=j
  ·subst z
   rw[if_pos rfl] at e1
   split at e1 <;> cases e1
  ·by_cases z2:i=k
   ·subst z2
    rw[if_pos rfl] at e2
    split at e2 <;> cases e2
   ·rw[if_neg z] at e1
    rw[if_neg z2] at e2
    exact r.one j k _ _ C D fs gs e1 e2
def sR(i:Nat)(env:ai):ai:=match env[i]? with
 | some (some (.ow xs))=>env.set i (some (.sh (.lst xs)))
 | _=>env
theorem SR.qo{B H₀ Hs H:Hp}{σ:St}{env:ai}(i:Nat)(r:SR B H₀ Hs H σ env):∃ L9,SR B H₀ L9 H σ (sR i env)/\bC Hs L9:=by
 unfold sR
 split
 ·rename_i xs e
  obtain⟨a,vs,h1,h2,h3,h4,h5⟩:=r.ow i xs e
  have ne:∀ c u,Hs c=some u->c≠a:=λc u q z=>by rw[z,h3] at q;cases q
  have Mu:bC Hs (upd Hs a (.lst vs)):=λc u q=>by rw[aw (ne c u q)];exact q
  refine⟨upd Hs a (.lst vs),⟨⟨λc u q=>Mu c u (r.gr.st c u q),r.gr.al,λc u q=>?_,λc u q1 q2=>?_⟩,by rw[List.length_set];exact r.len,λj q ej=>?_,λj ys ej=>?_,λj k ys zs b nj e1 e2 e3 e4=>?_,λj ba C fs ej=>?_,λj k _ _ C D fs gs e1 e2=>?_⟩,Mu⟩
  ·by_cases z:c=a
   ·subst z;rw[aA] at q;cases q;exact h2
   ·rw[aw z] at q;exact r.gr.sub c u q
  ·have z:c≠a:=λz=>by rw[z,h4] at q2;cases q2
   rw[aw z];exact r.gr.nw c u q1 q2
  ·rw[List.getElem?_set] at ej
   by_cases z:i=j
   ·subst z
    rw[if_pos rfl] at ej
    split at ej
    ·cases ej
     exact⟨.ref a,h1,.lst aA (h5.mono Mu)⟩
    ·cases ej
   ·rw[if_neg z] at ej
    obtain⟨v,q1,q2⟩:=r.sh j q ej
    exact⟨v,q1,q2.mono Mu⟩
  ·rw[List.getElem?_set] at ej
   by_cases z:i=j
   ·subst z
    rw[if_pos rfl] at ej
    split at ej <;> cases ej
   ·rw[if_neg z] at ej
    obtain⟨b,us,q1,q2,q3,q4,q5⟩:=r.ow j ys ej
    have nb:b≠a:=λw=>by subst w;exact r.sep i j xs ys b z e ej h1 q1
    exact⟨b,us,q1,q2,by rw[aw nb];exact q3,q4,q5.mono Mu⟩
  ·rw[List.getElem?_set] at e1 e2
   by_cases z:i=j
   ·subst z
    rw[if_pos rfl] at e1
    split at e1 <;> cases e1
   ·by_cases z2:i=k
    ·subst z2
     rw[if_pos rfl] at e2
     split at e2 <;> cases e2
    ·rw[if_neg z] at e1
     rw[if_neg z2] at e2
     exact r.sep j k ys zs b nj e1 e2 e3 e4
  ·rw[List.getElem?_set] at ej
   by_cases z:i=j
   ·subst z
    rw[if_pos rfl] at ej
    split at ej <;> cases ej
   ·rw[if_neg z] at ej
    obtain⟨dx,us,q1,q2,q3,q4,q5⟩:=r.bd j ba C fs ej
    have nb:ba≠a:=λw=>by subst w;rw[h2] at q2;cases q2
    exact⟨dx,us,q1,q2,by rw[aw nb];exact q3,q4,q5.mono Mu⟩
  ·rw[List.getElem?_set] at e1 e2
   by_cases z:i=j
   ·subst z
    rw[if_pos rfl] at e1
    split at e1 <;> cases e1
   ·by_cases z2:i=k
    ·subst z2
     rw[if_pos rfl] at e2
     split at e2 <;> cases e2
    ·rw[if_neg z] at e1
     rw[if_neg z2] at e2
     exact r.one j k _ _ C D fs gs e1 e2
 ·exact⟨Hs,r,λ_ _ q=>q⟩
def qg(is:List Nat)(f:ai->M Out):ai->M Out:=λenv=>f (is.foldl (λe i=>sR i e) env)
theorem SR.mD{B H₀ H:Hp}{σ:St}:∀ {is:List Nat} {Hs:Hp} {env:ai},SR B H₀ Hs H σ env->∃ L9,SR B H₀ L9 H σ (is.foldl (λe i=>sR i e) env)/\bC Hs L9
 | [],Hs,_,r=>⟨Hs,r,λ_ _ q=>q⟩
 | i::is,_,_,r=>by
  obtain⟨Md,r1,s1⟩:=r.qo i
  obtain⟨Mg,r2,s2⟩:=SR.mD (is:=is) r1
  exact⟨Mg,r2,λc u q=>s2 c u (s1 c u q)⟩
section
variable{X:Cx}{E:XK}{e:Expr}{pos pos':Pos}{f:ai->M PV}{st:Stmt}{sts rest:List Stmt}{u:ai->M Bool}{g h:ai->M Out}{i:Nat}{x:Str}
theorem G4(is:List Nat)(hs:PS X st (tS E g)):PS X st (tS E (qg is g)):=hs.imp λD σ H q=>by
 obtain⟨B,H₀,Hs,env,sr,q⟩:=q
 obtain⟨L9,r,_⟩:=sr.mD (is:=is)
 exact⟨B,H₀,L9,_,r,q⟩
theorem DC:lW X [] (tS E aq):=CI.imp λD σ H q=>by
 obtain⟨B,H₀,Hs,env,sr,q⟩:=q
 exact q σ Hs H sr
theorem Aj(h1:PS X st (tS E g))(h2:lW X rest (tS E h)):lW X (st::rest) (tS E (ao g h)):=by
 refine(Bg h1 h2).imp λD σ H q=>?_
 obtain⟨B,H₀,Hs,env,sr,q⟩:=q
 refine⟨B,H₀,Hs,env,sr,(ay.bind q).imp (λo ho=>?_) λe he=>he⟩
 cases o with
 | nx L8=>exact fun σ' L9 H' NK=>⟨B,H₀,L9,L8,NK,ho⟩
 | rt p=>exact ho
 | bk L8=>exact ho
 | ct L8=>exact ho
def br(i:Nat)(f:ai->M PV):ai->M Out:=λenv=>(f env).bind λp=>M.ok (.nx (env.set i (some (.sh p))))
theorem FU{pos':Pos}(hN:X.N.Nodup)(hi:X.N[i]?=some x)(hx:Loc X.env.scope x)(he:PE X e (tE (λ_=>E) f))(hs:autoParam (swapsWith e (some (.Name x pos')) pos.line X.env=pure false) aR._auto_1)(hf:autoParam (X.fn x=true\/X.env.scope.names.lookup x=some .local) aF._auto_1) :
  PS X (.Assign [.Name x pos'] e pos) (tS E (br i f)) :=
 (AM hN hi hx he hs hf).imp λD σ H q=>jM q λB H₀ Hs H1 env p v sr rp hp=>hp _ Hs H1 (sr.set rp)
def retS(f:ai->M PV):ai->M Out:=λenv=>(f env).bind λp=>M.ok (.rt p)
theorem GQ(he:PE X e (tE (λ_=>E) f)):PS X (.Return (some e) pos) (tS E (retS f)) :=
 (Fx he).imp λD σ H q=>jM q λB H₀ Hs H1 env p v sr rp hp=>hp v Hs H1 sr.gr rp
def kJ(f:ai->M PV):ai->M Out:=λenv=>(f env).bind λ_=>M.ok (.nx env)
theorem Dv(he:PE X e (tE (λ_=>E) f))(hs:autoParam (swapsWith e none pos.line X.env=pure false) aR._auto_1):PS X (.Expr e pos) (tS E (kJ f)) :=
 (xc he hs).imp λD σ H q=>jM q λB H₀ Hs H1 env p v sr rp hp=>hp σ Hs H1 sr
def jo(u:ai->M Bool)(g h:ai->M Out):ai->M Out:=λenv=>(u env).bind λb=>if b=true then g env else h env
theorem IX{c:Expr}{a b:List Stmt}(hc:PT X c (tT (λ_=>E) u))(ha:lW X a (tS E g))(hb:lW X b (tS E h)):PS X (.If c a b pos) (tS E (jo u g h)):=by
 refine(HI hc ha hb).imp λD σ H q=>z9 q λB H₀ Hs H1 env p sr hp=>?_
 cases p with
 | true=>exact⟨B,H₀,Hs,env,sr,hp⟩
 | false=>exact⟨B,H₀,Hs,env,sr,hp⟩
end
end L2
namespace L2
open PySem PySem.Spec PyProof.Rows
def ov(Hs H₀:Hp):Hp:=λa=>match Hs a with
 | some o=>some o
 | none=>H₀ a
theorem nU{Hs H₀:Hp}{a:Addr}{o:HO}(h:Hs a=some o):ov Hs H₀ a=some o:=by unfold ov;rw[h]
theorem jl{Hs H₀:Hp}{a:Addr}(h:Hs a=none):ov Hs H₀ a=H₀ a:=by unfold ov;rw[h]
theorem Df{Hs H₀ H:Hp}(s:bC Hs H)(t:bC H₀ H):bC (ov Hs H₀) H:=λa o e=>by
 cases q:Hs a with
 | some o'=>rw[nU q] at e;cases e;exact s _ _ q
 | none=>rw[jl q] at e;exact t _ _ e
theorem SR.rebase{B H₀ Hs H:Hp}{σ:St}{env:ai}(r:SR B H₀ Hs H σ env):SR Hs (ov Hs H₀) Hs H σ env where
 gr:=⟨λ_ _ e=>e,Df r.gr.sub r.gr.al,r.gr.sub,λ_ _ e _=>e⟩
 len:=r.len
 sh:=r.sh
 ow:=λi xs e=>let ⟨a,vs,h1,h2,h3,h4,h5⟩:=r.ow i xs e;⟨a,vs,h1,h2,h3,by rw[jl h3];exact h4,h5⟩
 sep:=r.sep
 bd:=λi a C fs e=>let ⟨dx,vs,h1,h2,h3,h4,h5⟩:=r.bd i a C fs e;⟨dx,vs,h1,h2,h3,by rw[jl h3];exact h4,h5⟩
 one:=r.one
theorem bP.kR{B H₀ Hs H Mg H2:Hp}(g:bP B H₀ Hs H)(g2:bP Hs (ov Hs H₀) Mg H2):bP B H₀ Mg H2 where
 st:=λa o e=>g2.st a o (g.st a o e)
 al:=λa o e=>by
  cases q:Hs a with
  | some o' =>
   have h1:=g.sub a o' q
   have h2:=g.al a o e
   rw[h1] at h2;cases h2
   exact g2.al a _ (nU q)
  | none=>exact g2.al a o (by rw[jl q];exact e)
 sub:=g2.sub
 nw:=λa o e q=>by
  have h1:=g.nw a o e q
  exact g2.nw a o h1 (by rw[jl h1];exact q)
theorem SR.kR{B H₀ Hs H Mg H2:Hp}{σ:St}{env:ai}(g:bP B H₀ Hs H)(r:SR Hs (ov Hs H₀) Mg H2 σ env):SR B H₀ Mg H2 σ env where
 gr:=g.kR r.gr
 len:=r.len
 sh:=r.sh
 ow:=λi xs e=>by
  obtain⟨a,vs,h1,h2,h3,h4,h5⟩:=r.ow i xs e
  refine⟨a,vs,h1,h2,h3,?_,h5⟩
  cases q:Hs a with
  | some o=>rw[nU q] at h4;cases h4
  | none=>rw[jl q] at h4;exact h4
 sep:=r.sep
 bd:=λi a C fs e=>by
  obtain⟨dx,vs,h1,h2,h3,h4,h5⟩:=r.bd i a C fs e
  refine⟨dx,vs,h1,h2,h3,?_,h5⟩
  cases q:Hs a with
  | some o=>rw[nU q] at h4;cases h4
  | none=>rw[jl q] at h4;exact h4
 one:=r.one
theorem XW.rebase{E:XK}{B H₀ Hs H:Hp}(g:bP B H₀ Hs H){x:EX}(h:XW E B H₀ x):XW E Hs (ov Hs H₀) x:=λea Mg H2 r q=>h ea Mg H2 (g.kR r) q
def IC(k:ai->M Out):Out->M Out
 | .nx env=>k env
 | .ct env=>k env
 | .bk env=>M.ok (.nx env)
 | .rt p=>M.ok (.rt p)
def ja(set:PV->ai->M ai)(body:ai->M Out):List PV->ai->M Out
 | [],env=>M.ok (.nx env)
 | x::xs,env=>(set x env).bind λL8=>(body L8).bind (IC (ja set body xs))
def Eb(E:XK)(g:TG)(set:PV->ai->M ai):Prop:=∀ (B H₀ Hs H:Hp) (σ:St) (env:ai) (p:PV) (v:V) (Q:St->Hp->Prop) (Z:EX->Prop),SR B H₀ Hs H σ env->Rep Hs p v->ay (set p env) (λL8=>∀ σ',SR B H₀ Hs H σ' L8->Q σ' H) Z->g v σ H Q
def bX(i:Nat)(p:PV)(env:ai):M ai:=M.ok (env.set i (some (.sh p)))
theorem bA{E:XK}{i:Nat}:Eb E (aH i) (bX i):=λB H₀ Hs H σ env p v Q Z sr r h=>h _ (sr.set r)
def bV(i j:Nat):PV->ai->M ai
 | .tup [p,q],env=>M.ok ((env.set i (some (.sh p))).set j (some (.sh q)))
 | _,_=>none
theorem cN{E:XK}{K:PySem.W.Frag}{i j:Nat}:Eb E (iQ K 2 (bG (aH i) (bG (aH j) iW))) (bV i j):=by
 intro B H₀ Hs H σ env p v Q Z sr r h
 cases r with
 | @tup a xs vs ha hx =>
  match xs,hx with
  | [p,q],hx =>
   obtain⟨v,u,rfl,rp,rq⟩:=hx.two
   exact⟨a,[v,u],rfl,gB.of (sr.gr.sub _ _ ha),rfl,v,[u],rfl,u,[],rfl,rfl,h _ ((sr.set rp).set rq)⟩
  | [],_=>exact h.elim
  | [_],_=>exact h.elim
  | _::_::_::_,_=>exact h.elim
 | _=>exact h.elim
section
variable{E:XK}{g:TG}{set:PV->ai->M ai}{body:ai->M Out}{D:Ends}{B H₀ Md:Hp}{xs:List PV}
def Jv(E:XK)(set:PV->ai->M ai)(body:ai->M Out)(D:Ends)(B H₀ Md:Hp)(xs:List PV)(i:Nat)(σ:St)(H:Hp):Prop:=∃ Hs env,SR B H₀ Hs H σ env/\bC Md Hs/\ay (ja set body (xs.drop i) env) (KS D B H₀) (XW E B H₀)
theorem Jv.done{n:Nat}{σ:St}{H:Hp}(j:Jv E set body D B H₀ Md xs n σ H)(hn:xs.length<=n):D.nx σ H:=by
 obtain⟨Hs,env,sr,_,h⟩:=j
 rw[List.drop_eq_nil_of_le hn] at h
 exact h σ Hs H sr
theorem Jv.turn{i:Nat}{σ:St}{H H1 Hx:Hp}{x:PV}{v:V}(tg:Eb E g set)(hx:xs[i]?=some x){Hs:Hp}{env:ai}(sr:SR B H₀ Hs H σ env)(s1:bC Md Hs)(h:ay (ja set body (xs.drop i) env) (KS D B H₀) (XW E B H₀)){Mg H2:Hp}(gr:bP Hs H Mg H2)(rv:Rep Mg x v) :
  g v σ H2 fun σ2 H3=>tS E body { D with nx:=Jv E set body D B H₀ Md xs (i+1),ct:=Jv E set body D B H₀ Md xs (i+1),bk:=D.nx } σ2 H3:=by
 have MS:i<xs.length:=(List.getElem?_eq_some_iff.mp hx).1
 have hd:xs.drop i=x::xs.drop (i+1):=by
  rw[List.drop_eq_getElem_cons MS]
  rw[List.getElem?_eq_getElem MS] at hx
  rw[Option.some.inj hx]
 rw[hd] at h
 have My:=sr.grow gr
 refine tg B H₀ Mg H2 σ env x v _ _ My rv ((ay.bind h).imp (λL8 h' σ' NK=>?_) λ_ z=>z)
 refine⟨Mg,ov Mg H₀,Mg,L8,NK.rebase,(ay.bind h').imp (λo ho=>?_) λe he=>he.rebase NK.gr⟩
 cases o with
 | nx e2=>exact fun σ3 Nr H3 r=>⟨Nr,e2,r.kR NK.gr,λa o z=>r.gr.st a o (gr.st a o (s1 a o z)),ho⟩
 | ct e2=>exact fun σ3 Nr H3 r=>⟨Nr,e2,r.kR NK.gr,λa o z=>r.gr.st a o (gr.st a o (s1 a o z)),ho⟩
 | bk e2=>exact fun σ3 Nr H3 r=>ho σ3 Nr H3 (r.kR NK.gr)
 | rt p=>exact λv3 Nr H3 r q=>ho v3 Nr H3 (NK.gr.kR r) q
end
def i_(it:ai->M (List PV))(set:PV->ai->M ai)(body:ai->M Out):ai->M Out:=λenv=>(it env).bind λxs=>ja set body xs env
def itemsOf(f:ai->M PV):ai->M (List PV):=λenv=>(f env).bind λp=>match bO p with | some xs=>M.ok xs | none=>none
theorem kd{K:PySem.W.Frag}{Hs H:Hp}{p:PV}{v:V}{xs:List PV}(s:bC Hs H)(r:Rep Hs p v)(e:bO p=some xs):∃ b a vs,v=.ref a/\(∀ L9 H',bC Hs L9->bC L9 H'->kC K H' b a vs)/\aS Hs xs vs:=by
 cases r with
 | tup h r=>cases e;exact⟨false,_,_,rfl,λL9 H' s1 s2=>gB.of (s2 _ _ (s1 _ _ h)),r⟩
 | lst h r=>cases e;exact⟨true,_,_,rfl,λL9 H' s1 s2=>iw.of (s2 _ _ (s1 _ _ h)),r⟩
 | jD h r=>cases e;exact⟨true,_,_,rfl,λL9 H' s1 s2=>.inl (.inr ⟨_,s2 _ _ (s1 _ _ h)⟩),r⟩
 | _=>cases e
section
variable{X:Cx}{E:XK}{tg iter:Expr}{pos p:Pos}{f f2:ai->M PV}{g:TG}{set:PV->ai->M ai}{body:ai->M Out}{bd:List Stmt}
end
end L2
namespace L2
open PySem PySem.Spec PyProof.Rows
def La:PV->M (List PV)
 | .int n=>cV (-(2^62)<=n/\n<2^62) (M.ok ((List.range n.toNat).map λ(i:Nat)=>.int (0+(i:Int))))
 | _=>none
def Ki:PV->PV->M (List PV)
 | .int a,.int b=>cV (-(2^62)<=a/\a<2^62/\-(2^62)<=b/\b<2^62) (M.ok ((List.range (b-a).toNat).map λ(i:Nat)=>.int (a+(i:Int))))
 | _,_=>none
def mI:List PV->M (List PV)
 | [p]=>La p
 | _=>none
def xJ:List PV->M (List PV)
 | [p,q]=>Ki p q
 | _=>none
theorem yJ{ps:List PV}{α:Type}{k:List PV->M α}{Q:α->Prop}{Z:EX->Prop}(h:ay ((mI ps).bind k) Q Z):∃ n:Int,ps=[.int n]/\-(2^62)<=n/\n<2^62/\ay (k ((List.range n.toNat).map λ(i:Nat)=>.int (0+(i:Int)))) Q Z:=by
 match ps with
 | []=>exact h.elim
 | _::_::_=>exact h.elim
 | [p] =>
  cases p with
  | int n =>
   obtain⟨hc,h⟩:=ay.cV (ay.bind h)
   exact⟨n,rfl,hc.1,hc.2,h⟩
  | _=>exact h.elim
theorem xC{ps:List PV}{α:Type}{k:List PV->M α}{Q:α->Prop}{Z:EX->Prop}(h:ay ((xJ ps).bind k) Q Z):∃ a b:Int,ps=[.int a,.int b]/\(-(2^62)<=a/\a<2^62/\-(2^62)<=b/\b<2^62)/\ay (k ((List.range (b-a).toNat).map λ(i:Nat)=>.int (a+(i:Int)))) Q Z:=by
 match ps with
 | []=>exact h.elim
 | [_]=>exact h.elim
 | _::_::_::_=>exact h.elim
 | [p,q] =>
  cases p with
  | int a=>cases q with
   | int b =>
    obtain⟨hc,h⟩:=ay.cV (ay.bind h)
    exact⟨a,b,rfl,hc,h⟩
   | _=>exact h.elim
  | _=>exact h.elim
def zip2:List PV->M (List PV)
 | [p,q]=>match bO p,bO q with
  | some xs,some ys=>M.ok (List.zipWith (λa b=>.tup [a,b]) xs ys)
  | _,_=>none
 | _=>none
theorem yk{ps:List PV}{α:Type}{k:List PV->M α}{Q:α->Prop}{Z:EX->Prop}(h:ay ((zip2 ps).bind k) Q Z):∃ p q xs ys,ps=[p,q]/\bO p=some xs/\bO q=some ys/\ay (k (List.zipWith (λa b=>.tup [a,b]) xs ys)) Q Z:=by
 match ps with
 | []=>exact h.elim
 | [_]=>exact h.elim
 | _::_::_::_=>exact h.elim
 | [p,q] =>
  unfold zip2 at h
  dsimp only at h
  cases e1:bO p with
  | none=>rw[e1] at h;exact h.elim
  | some xs =>
   cases e2:bO q with
   | none=>rw[e1,e2] at h;exact h.elim
   | some ys=>rw[e1,e2] at h;exact⟨p,q,xs,ys,rfl,e1,e2,h⟩
theorem ye{n i:Nat}{f:Nat->PV}(h:i<n):((List.range n).map f)[i]?=some (f i):=by
 rw[List.getElem?_map,List.getElem?_range h];rfl
section
variable{X:Cx}{E:XK}{tg a b l l1 l2:Expr}{pos p tp:Pos}{fs:ai->M (List PV)}{g:TG}{set:PV->ai->M ai}{body:ai->M Out}{bd:List Stmt}
end
def KO(Q:VK):Hp->Hp->List PV->Prop:=λHs H ps=>∀ vs p L9 H',bP Hs H L9 H'->aS L9 ps vs->H' p=none->Q (.ref p) (upd H' p (.lst vs))
def tO(E:St->XK)(f:ai->M (List PV)):TE:=fun σ H Q=>tG E f (KO Q) σ H
section
variable{X:Cx}{E:XK}{e:Expr}{es:List Expr}{pos pos':Pos}{fs:ai->M (List PV)}{f:ai->M PV}{i:Nat}{x:Str}
def qa(i:Nat)(f:ai->M (List PV)):ai->M Out:=λenv=>(f env).bind λps=>M.ok (.nx (env.set i (some (.ow ps))))
theorem DK{pos':Pos}(hN:X.N.Nodup)(hi:X.N[i]?=some x)(hx:Loc X.env.scope x)(he:PE X e (tO (λ_=>E) fs))(hs:autoParam (swapsWith e (some (.Name x pos')) pos.line X.env=pure false) aR._auto_1)(hf:autoParam (X.fn x=true\/X.env.scope.names.lookup x=some .local) aF._auto_1) :
  PS X (.Assign [.Name x pos'] e pos) (tS E (qa i fs)):=by
 refine(AM hN hi hx he hs hf).imp λD σ H q=>?_
 obtain⟨B,H₀,Hs,env,sr,q⟩:=q
 refine⟨B,H₀,Hs,env,sr,(ay.bind q).imp (λps hp vs p L9 H' g r n=>?_) λe he=>he.grow sr.gr⟩
 exact hp _ L9 _ ((sr.grow g).own r n)
def kM(fs:ai->M (List PV)):ai->M (List PV):=λenv=>(fs env).bind λps=>if ps.length<=sizeLine then M.ok ps else none
theorem G2{E:St->XK}(hr:PA X es (tL E fs)):PE X (.List es pos) (tO E (kM fs)):=by
 refine(zk hr).imp fun σ H Q q=>?_
 obtain⟨B,H₀,Hs,env,sr,q⟩:=q
 refine⟨B,H₀,Hs,env,sr,(ay.bind q).imp (λps hp vs L9 H' g r=>?_) λe he=>he⟩
 by_cases hz:ps.length<=sizeLine
 ·rw[if_pos hz] at hp
  exact⟨by rw[← r.length];exact hz,λp n=>hp vs p L9 H' g r n⟩
 ·rw[if_neg hz] at hp;exact hp.elim
def jQ(i:Nat)(f:ai->M PV):ai->M Out:=λenv=>match env[i]? with
 | some (some (.ow xs))=>(f env).bind λp=>if xs.length<sizeLine then M.ok (.nx (env.set i (some (.ow (xs++[p]))))) else none
 | _=>none
theorem SR.put{B H₀ Hs H:Hp}{σ:St}{env:ai}{i:Nat}{a:Addr}{xs ys:List PV}{us:List V}(r:SR B H₀ Hs H σ env)(e:env[i]?=some (some (.ow xs)))(hi:σ[i]?=some (some (.ref a)))(h:aS Hs ys us):SR B H₀ Hs (upd H a (.lst us)) σ (env.set i (some (.ow ys))):=by
 obtain⟨a',vs,h1,h2,h3,h4,h5⟩:=r.ow i xs e
 rw[hi] at h1;cases h1
 have nS:∀ c u,Hs c=some u->c≠a:=λc u q z=>by rw[z,h3] at q;cases q
 have n0:∀ c u,H₀ c=some u->c≠a:=λc u q z=>by rw[z,h4] at q;cases q
 refine⟨⟨r.gr.st,λc u q=>by rw[aw (n0 c u q)];exact r.gr.al c u q,λc u q=>by rw[aw (nS c u q)];exact r.gr.sub c u q,r.gr.nw⟩,by rw[List.length_set];exact r.len,λj q ej=>?_,λj zs ej=>?_,λj k y1 y2 b nj e1 e2 e3 e4=>?_,λj ba C fs ej=>?_,λj k _ _ C D fs gs e1 e2=>?_⟩
 ·rw[List.getElem?_set] at ej
  by_cases z:i=j
  ·subst z
   rw[if_pos rfl] at ej
   split at ej <;> cases ej
  ·rw[if_neg z] at ej;exact r.sh j q ej
 ·rw[List.getElem?_set] at ej
  by_cases z:i=j
  ·subst z
   rw[if_pos rfl] at ej
   split at ej
   ·cases ej;exact⟨a,us,hi,aA,h3,h4,h⟩
   ·cases ej
  ·rw[if_neg z] at ej
   obtain⟨b,ws,q1,q2,q3,q4,q5⟩:=r.ow j zs ej
   have nb:b≠a:=λw=>by subst w;exact r.sep i j xs zs b z e ej hi q1
   exact⟨b,ws,q1,by rw[aw nb];exact q2,q3,q4,q5⟩
 ·have o1:∃ w,env[j]?=some (some (.ow w)):=by
   rw[List.getElem?_set] at e1
   by_cases z:i=j
   ·subst z;exact⟨xs,e⟩
   ·rw[if_neg z] at e1;exact⟨_,e1⟩
  have o2:∃ w,env[k]?=some (some (.ow w)):=by
   rw[List.getElem?_set] at e2
   by_cases z:i=k
   ·subst z;exact⟨xs,e⟩
   ·rw[if_neg z] at e2;exact⟨_,e2⟩
  obtain⟨w1,o1⟩:=o1
  obtain⟨w2,o2⟩:=o2
  exact r.sep j k w1 w2 b nj o1 o2 e3 e4
 ·rw[List.getElem?_set] at ej
  by_cases z:i=j
  ·subst z
   rw[if_pos rfl] at ej
   split at ej <;> cases ej
  ·rw[if_neg z] at ej
   obtain⟨dx,ws,q1,q2,q3,q4,q5⟩:=r.bd j ba C fs ej
   have nb:ba≠a:=λw=>by subst w;rw[h2] at q2;cases q2
   exact⟨dx,ws,q1,by rw[aw nb];exact q2,q3,q4,q5⟩
 ·rw[List.getElem?_set] at e1 e2
  by_cases z:i=j
  ·subst z
   rw[if_pos rfl] at e1
   split at e1 <;> cases e1
  ·by_cases z2:i=k
   ·subst z2
    rw[if_pos rfl] at e2
    split at e2 <;> cases e2
   ·rw[if_neg z] at e1
    rw[if_neg z2] at e2
    exact r.one j k _ _ C D fs gs e1 e2
theorem yR{apos Mm px:Pos}(hi:X.N[i]?=some x)(hv:Ce X.env.scope x)(he:PE X e (tE (λ_=>E) f))(hd:autoParam ((x==("__debug__" : Str))=false) aD._auto_1)(Ng:autoParam ((x==("__classdict__" : Str))=false) aD._auto_1)
  (N8:autoParam (attributeBase (.Name x px) "append" X.env (eval (.Name x px) X.env)=eval (.Name x px) X.env) aR._auto_1)
  (OS:autoParam (((backTo Mm (starEach [e] X.env)).all (λx=>!x.1)&&(backToKw Mm (keywordEach [] X.env)).all (λx=>x.1.isSome)
   && decide (([e]:List Expr).length+([]:List Keyword).length+(if ([]:List Keyword).isEmpty then 0 else 1)<30))=true) aR._auto_1)
  (Oe:autoParam ((apos.endLine==Mm.line)=true) aR._auto_1) (Mu:autoParam (starEach [e] X.env=(false,eval e X.env)::starEach [] X.env) aR._auto_1) (NP:autoParam ((backTo Mm (starEach [] X.env)).any (·.1)=false) aR._auto_1)
  (hs:autoParam (swapsWith (.Call (.Attribute (.Name x px) "append" apos) [e] [] Mm) none pos.line X.env=pure false) aR._auto_1) :
  PS X (.Expr (.Call (.Attribute (.Name x px) "append" apos) [e] [] Mm) pos) (tS E (jQ i f)):=by
 refine(xc (Iu PySem.F.plainAttrs_list PySem.F.slot_list_append PySem.F.type_list_append qC (mf hi hv hd Ng) (iu he pE Mu) N8 OS Oe Mu NP) hs).imp λD σ H q=>?_
 obtain⟨B,H₀,Hs,env,sr,q⟩:=q
 unfold jQ at q
 split at q
 ·rename_i xs ex
  obtain⟨a,vs,h1,h2,h3,h4,h5⟩:=sr.ow i xs ex
  refine⟨.ref a,h1,.inl ⟨rfl,vs,iw.of h2⟩,B,H₀,Hs,env,sr,(ay.bind q).imp (λp hp v L9 H' g r=>?_) λe he=>he.grow sr.gr⟩
  by_cases hz:xs.length<sizeLine
  ·rw[if_pos hz] at hp
   have NK:=sr.grow g
   have r5:aS L9 (xs++[p]) (vs++[v]):=(h5.mono g.st).snoc r
   exact⟨a,vs,v,rfl,rfl,g.al _ _ h2,by rw[← h5.length];exact hz,hp σ L9 _ (NK.put ex h1 r5)⟩
  ·rw[if_neg hz] at hp;exact hp.elim
 ·exact q.elim
end
end L2
namespace L2
open PySem PySem.Spec PyProof.Rows
def Fb:Out->M PV
 | .rt p=>M.ok p
 | .nx _=>M.ok .cp
 | _=>none
def k8(m:Nat)(ps:List PV):ai:=ps.map (λp=>some (.sh p))++List.replicate (m-ps.length) none
def ax(m:Nat)(g:ai->M Out)(ps:List PV):M PV:=(g (k8 m ps)).bind Fb
theorem SR.start{Hs H:Hp}{N:List Str}{ps:List PV}{vs:List V}(s:bC Hs H)(r:aS Hs ps vs):SR Hs H Hs H (start N vs) (k8 N.length ps) where
 gr:=.refl s
 len:=by unfold L2.start k8;simp[r.length]
 sh:=λi p e=>by
  unfold k8 at e
  unfold L2.start
  by_cases hi:i<ps.length
  ·rw[List.getElem?_append_left (by simpa using hi),List.getElem?_map,List.getElem?_eq_getElem hi] at e
   cases e
   obtain⟨v,h1,h2⟩:=r.get (List.getElem?_eq_getElem hi)
   exact⟨v,by rw[List.getElem?_append_left (by simpa using (r.length▸hi)),List.getElem?_map,h1];rfl,h2⟩
  ·rw[List.getElem?_append_right (by simpa using hi),List.getElem?_replicate] at e
   split at e <;> cases e
 ow:=λi xs e=>by
  unfold k8 at e
  by_cases hi:i<ps.length
  ·rw[List.getElem?_append_left (by simpa using hi),List.getElem?_map,List.getElem?_eq_getElem hi] at e
   cases e
  ·rw[List.getElem?_append_right (by simpa using hi),List.getElem?_replicate] at e
   split at e <;> cases e
 sep:=λi j xs ys a _ e=>by
  unfold k8 at e
  by_cases hi:i<ps.length
  ·rw[List.getElem?_append_left (by simpa using hi),List.getElem?_map,List.getElem?_eq_getElem hi] at e
   cases e
  ·rw[List.getElem?_append_right (by simpa using hi),List.getElem?_replicate] at e
   split at e <;> cases e
 bd:=λi a C fs e=>by
  unfold k8 at e
  by_cases hi:i<ps.length
  ·rw[List.getElem?_append_left (by simpa using hi),List.getElem?_map,List.getElem?_eq_getElem hi] at e
   cases e
  ·rw[List.getElem?_append_right (by simpa using hi),List.getElem?_replicate] at e
   split at e <;> cases e
 one:=λi j a b C D fs gs e=>by
  unfold k8 at e
  by_cases hi:i<ps.length
  ·rw[List.getElem?_append_left (by simpa using hi),List.getElem?_map,List.getElem?_eq_getElem hi] at e
   cases e
  ·rw[List.getElem?_append_right (by simpa using hi),List.getElem?_replicate] at e
   split at e <;> cases e
theorem Fe{P:Program}{w:World}{K:PySem.W.Frag}{mg:Str->Option Value}{base:Heap}{k:Nat}{f:Addr}{name qual:Str}{params:Arguments}{body:List Stmt}{scope:Scope}{dV kV doc pm Mp ct oc:Value}{an od:Option Addr}
  {N1:Array (Option Value)} {N ps:List Str} {g:ai->M Out} (lk:K.lookup f=some ⟨oc,od,.func (PySem.W.fnOf name qual params body scope dV kV doc pm an Mp ct),N1⟩) (Ng:PySem.W.codeIn K Mp qual=true) (S:cO N ps scope)
  (hb:∀ (A:Around) (outer:List Env) (s:Shared) (H:Hp) (E:XK),cD k (A.deeper (envOfC qual scope s.heap.objs.size f Mp))->lW ((lF (bS P w) P w K mg base N qual scope f Mp A outer s H E).out λ_=>E) body (tS E g)) :
  aP P w K mg base (bS P w) (k+1) f (PySem.W.fnOf name qual params body scope dV kV doc pm an Mp ct) ps (dz ps.length (ax N.length g)):=by
 refine wb lk Ng S (λvs H Q E h=>h.1) λA outer s H vs Q E hr hs=>⟨_,hb A outer s H E hr,?_⟩
 obtain⟨_,Hs,ND,sm,r,h⟩:=hs
 refine⟨Hs,H,Hs,_,SR.start sm r,(ay.bind h).imp (λo ho=>?_) λe he=>he⟩
 cases o with
 | rt p=>exact λv L9 H' gr rv=>ho v L9 H' gr rv
 | nx env=>exact fun σ L9 H' sr=>ho .cp L9 H' sr.gr .cp
 | bk env=>exact ho.elim
 | ct env=>exact ho.elim
section
variable{X:Cx}{E:XK}{e:Expr}{es:List Expr}{pos p Mm:Pos}{x:Str}{C f:Addr}{k:Nat}{fd:FuncData}{ps:List Str}{fs:ai->M (List PV)}
def k6(C:Addr)(fs:ai->M (List PV)):ai->M Out:=λenv=>(fs env).bind λps=>cV (ps.length<=sizeLine) (some (.error (C,none)))
theorem yN(O:fw X λ_=>E)(Mf:X.calm=true)(hc:PySem.W.excIn X.K C fD "ValueError.__new__" = true)(c:iR X.K C)(ht:PySem.W.typeIn X.K (.ref C)=some (.type "type"))(kp:PySem.W.keepIn X.K (.ref C)=true)(hg:Gl X x)(hm:X.mg x=some (.ref C))(ha:PA X (e::es) (tL (λ_=>E) fs))
  (M0:autoParam ((x==("__debug__" : Str))=false) aD._auto_1) (he:autoParam (starEach (e::es) X.env=(false,eval e X.env)::starEach es X.env) aR._auto_1) (Mz:autoParam ((backTo Mm (starEach es X.env)).any (·.1)=false) aR._auto_1) :
  PS X (.Raise (some (.Call (.Name x p) (e::es) [] Mm)) none pos) (tS E (k6 C fs)):=by
 refine(ua O Mf (Cy hc kp hg hm ha M0 he Mz)).imp λD σ H q=>ur q λB H₀ Hs H1 env ND v sr rp hp=>?_
 obtain⟨hz,hp⟩:=ay.cV hp
 refine⟨by rw[← rp.length];exact hz,λa n=>⟨a,C,none,rfl,aA,c,ht,?_⟩⟩
 rw[xp]
 exact hp a (upd Hs a (jw C none a)) _ (sr.gr.trans (bP.new sr.gr.sub n)) (.xN aA)
def xS(K:PySem.W.Frag)(C:Addr)(fl:Str):Sp:=λvs H Q _=>∃ a y,vs=[.ref a,y]/\H a=some (ky C none a)/\∀ d,H d=none->d≠a->Q .cp (upd (upd H d (.xd [(fl,y)])) a (ky C (some d) a))
def jh(C:Addr)(fl:Str)(fs:ai->M (List PV)):ai->M Out:=λenv=>(fs env).bind λps=>match ps with
 | [p]=>some (.error (C,some [(fl,p)]))
 | _=>none
theorem yb{fl:Str}(O:fw X λ_=>E)(Mf:X.calm=true)(hc:oM X.K C "ValueError.__new__" f=true)(hf:PySem.W.isFn X.K (.ref f)=true)(c:iR X.K C)(ht:PySem.W.typeIn X.K (.ref C)=some (.type "type"))(kp:PySem.W.keepIn X.K (.ref C)=true)(F:aP X.prog X.w X.K X.mg X.base (bS X.prog X.w) k f fd ps (xS X.K C fl))(hr:cD (k+1) X.A)(hb:Binds X.K fd ps [])
  (hg:Gl X x) (hm:X.mg x=some (.ref C)) (ha:PA X [e] (tL (λ_=>E) fs))
  (M0:autoParam ((x==("__debug__" : Str))=false) aD._auto_1) (he:autoParam (starEach [e] X.env=(false,eval e X.env)::starEach [] X.env) aR._auto_1) (Mz:autoParam ((backTo Mm (starEach [] X.env)).any (·.1)=false) aR._auto_1) :
  PS X (.Raise (some (.Call (.Name x p) [e] [] Mm)) none pos) (tS E (jh C fl fs)):=by
 refine(ua O Mf (zL hc hf kp F hr hb hg hm ha M0 he Mz)).imp λD σ H q=>ur q λB H₀ Hs H1 env ND v sr rp hp=>?_
 match ND,rp,hp with
 | [],_,hp=>exact hp.elim
 | _::_::_,_,hp=>exact hp.elim
 | [y],rp,hp =>
  obtain⟨v,rfl,ry⟩:=rp.one
  refine⟨by show 1<=sizeLine;decide,λa n=>⟨a,v,rfl,aA,λd hd hda=>⟨rfl,a,C,some d,rfl,aA,c,ht,?_⟩⟩⟩
  rw[xp]
  have hd1:H1 d=none:=by rw[aw hda] at hd;exact hd
  have g1:=bP.new (o:=.xd [(fl,v)]) sr.gr.sub hd1
  have OE:upd H1 d (.xd [(fl,v)]) a=none:=by rw[aw (Ne.symm hda)];exact n
  have g2:=bP.new (o:=jw C (some d) a) g1.sub OE
  have hH:upd (upd (upd H1 a (ky C none a)) d (.xd [(fl,v)])) a (jw C (some d) a)=upd (upd H1 d (.xd [(fl,v)])) a (jw C (some d) a):=by
   funext b
   by_cases z:b=a
   ·subst z;rw[aA,aA]
   ·rw[aw z,aw z]
    by_cases z2:b=d
    ·subst z2;rw[aA,aA]
    ·rw[aw z2,aw z2,aw z]
  rw[hH]
  refine hp a (upd (upd Hs d (.xd [(fl,v)])) a (jw C (some d) a)) _ ((sr.gr.trans g1).trans g2) ?_
  exact .xO aA (by rw[aw hda];exact aA) (.cons ((ry.mono g1.st).mono g2.st) .nil)
theorem oj{P:Program}{w:World}{K:PySem.W.Frag}{mg:Str->Option Value}{base:Heap}{f:Addr}{name qual:Str}{params:Arguments}{scope:Scope}{dV kV doc pm Mp ct oc:Value}{an od:Option Addr}
  {N1:Array (Option Value)} {n0 n1 fl:Str} {p0 p1 p2 p3:Pos} (lk:K.lookup f=some ⟨oc,od,.func (PySem.W.fnOf name qual params [.Assign [.Attribute (.Name n0 p0) fl p1] (.Name n1 p2) p3] scope dV kV doc pm an Mp ct),N1⟩) (Ng:PySem.W.codeIn K Mp qual=true) (S:cO [n0,n1] [n0,n1] scope)
  (c:iR K C) (ho:((PySem.W.clsIn K C).any λcd=>gC cd.mro)=true) (na:bZ K C fl) (v0:Ce scope n0) (v1:Ce scope n1) (d0:(n0==("__debug__" : Str))=false) (d1:(n1==("__debug__" : Str))=false) (c0:(n0==("__classdict__" : Str))=false) (c1:(n1==("__classdict__" : Str))=false)
  (hs:∀ env,swapsWith (.Name n1 p2) (some (.Attribute (.Name n0 p0) fl p1)) p3.line env=pure false) :
  aP P w K mg base (bS P w) 1 f (PySem.W.fnOf name qual params [.Assign [.Attribute (.Name n0 p0) fl p1] (.Name n1 p2) p3] scope dV kV doc pm an Mp ct) [n0,n1] (xS K C fl):=by
 refine wb (k:=0) lk Ng S (λvs H Q E h=>by obtain⟨a,y,rfl,_⟩:=h;rfl) λA outer s H vs Q E hr h=>?_
 obtain⟨a,y,rfl,ha,hq⟩:=h
 refine⟨_,Cq (AD (mf (i:=0) rfl v0 d0 c0) (mf (i:=1) rfl v1 d1 c1) (hs _)),?_⟩
 exact⟨y,rfl,.ref a,rfl,a,C,rfl,ha,c,ho,na,hq⟩
end
end L2
namespace L2
open PySem PySem.Spec PyProof.Rows
structure jL (J:It) (Md:Hp) (xs:List PV):Prop where
 stop:∀ (i:Nat) (Hs H:Hp),bC Md Hs->bC Hs H->xs.length<=i->J.stop i H
 go:∀ (i:Nat) (Hs H:Hp),bC Md Hs->bC Hs H->i<xs.length->J.go i H
 tq:∀ (i:Nat) (Hs H:Hp) (x:V) (H2:Hp),bC Md Hs->bC Hs H->i<xs.length->J.tq i H x H2->∃ p Mg,xs[i]?=some p/\bP Hs H Mg H2/\Rep Mg p x
def KI(R:It->Hp->Prop):Hp->Hp->List PV->Prop:=λHs H xs=>∀ J L9 H',bP Hs H L9 H'->jL J L9 xs->R J H'
def zg(E:St->XK)(wi:TI)(it:ai->M (List PV)):Prop:=∀ (σ:St) (H:Hp) (R:It->Hp->Prop),tG E it (KI R) σ H->wi σ H R
theorem KI.g{R:It->Hp->Prop}:KG (KI R):=λHs H L9 H' b k g J Mg H2 g2 o=>k J Mg H2 (g.trans g2) o
section
variable{E:St->XK}{K:PySem.W.Frag}{f:ai->M PV}{fs:ai->M (List PV)}
theorem zA{b:Bool}{a:Addr}{Md:Hp}{xs:List PV}{vs:List V}(hq:∀ L9 H',bC Md L9->bC L9 H'->kC K H' b a vs)(hr:aS Md xs vs):jL (JY K b a) Md xs where
 stop:=λi Hs H s1 s2 hi=>by
  have q:=hq Hs H s1 s2
  cases b with
  | true=>exact⟨vs,q,by rw[← hr.length];exact hi⟩
  | false=>exact⟨vs,q,by rw[← hr.length];exact hi⟩
 go:=λi Hs H s1 s2 hi=>by
  have q:=hq Hs H s1 s2
  obtain⟨v,e,_⟩:=hr.get (List.getElem?_eq_getElem hi)
  cases b with
  | true=>exact⟨vs,v,q,e⟩
  | false=>exact⟨vs,v,q,e⟩
 tq:=λi Hs H x H2 s1 s2 hi y=>by
  have q:=hq Hs H s1 s2
  obtain⟨v,e,r⟩:=hr.get (List.getElem?_eq_getElem hi)
  have z:H2=H/\vs[i]?=some x:=by
   cases b with
   | true=>exact⟨y.1,y.2 vs q⟩
   | false=>exact⟨y.1,y.2 vs q⟩
  obtain⟨rfl,z⟩:=z
  rw[e] at z;cases z
  exact⟨xs[i],Hs,List.getElem?_eq_getElem hi,.refl s2,r.mono s1⟩
theorem du:zg E (HM K (tE E f)) (itemsOf f):=by
 intro σ H R q
 refine cC (K:=KI R) KI.g q λB H₀ Hs H1 env p v sr rp hp=>?_
 cases e:bO p with
 | none=>rw[e] at hp;exact hp.elim
 | some xs =>
  rw[e] at hp
  obtain⟨b,a,vs,rfl,hq,hr⟩:=kd (K:=K) sr.gr.sub rp e
  exact⟨b,a,rfl,⟨vs,hq Hs H1 (λ_ _ z=>z) sr.gr.sub⟩,hp (JY K b a) Hs H1 (.refl sr.gr.sub) (zA hq hr)⟩
def jH(o:List PV->M (List PV))(fs:ai->M (List PV)):ai->M (List PV):=λenv=>(fs env).bind o
theorem u9{lo:Int}{n:Nat}{Md:Hp}:jL (Jw lo n) Md ((List.range n).map λ(i:Nat)=>PV.int (lo+(i:Int))) where
 stop:=λi Hs H s1 s2 hi=>show n<=i by simpa using hi
 go:=λi Hs H s1 s2 hi=>show i<n by simpa using hi
 tq:=λi Hs H x H2 s1 s2 hi y=>by
  obtain⟨rfl,rfl⟩:=y
  exact⟨_,Hs,ye (by simpa using hi),.refl s2,.int _⟩
theorem aO{α:Type}(x:M α):x.bind M.ok=x:=by
 cases x with
 | none=>rfl
 | some x=>cases x <;> rfl
theorem eR:zg E (ER (tL E fs)) (jH mI fs):=by
 intro σ H R q
 refine dP (K:=KI R) KI.g q λB H₀ Hs H1 env ps v sr rp hp=>?_
 rw[← aO (mI ps)] at hp
 obtain⟨n,rfl,h1,h2,hp⟩:=yJ hp
 obtain⟨w,rfl,NI⟩:=rp.one
 cases NI
 exact⟨n,rfl,h1,h2,hp _ Hs H1 (.refl sr.gr.sub) u9⟩
theorem zv:zg E (Es (tL E fs)) (jH xJ fs):=by
 intro σ H R q
 refine dP (K:=KI R) KI.g q λB H₀ Hs H1 env ps v sr rp hp=>?_
 rw[← aO (xJ ps)] at hp
 obtain⟨n,m,rfl,h1,hp⟩:=xC hp
 obtain⟨w,u,rfl,NI,ru⟩:=rp.two
 cases NI
 cases ru
 exact⟨n,m,rfl,h1,hp _ Hs H1 (.refl sr.gr.sub) u9⟩
theorem zJ{xs ys:List PV}{i:Nat}(h1:i<xs.length)(h2:i<ys.length):(List.zipWith (λa b=>PV.tup [a,b]) xs ys)[i]?=some (.tup [xs[i],ys[i]]):=by
 rw[List.getElem?_zipWith,List.getElem?_eq_getElem h1,List.getElem?_eq_getElem h2]
theorem Af{b1 b2:Bool}{a1 a2:Addr}{Md:Hp}{xs ys:List PV}{vs us:List V}(ML:∀ L9 H',bC Md L9->bC L9 H'->kC K H' b1 a1 vs)(Of:aS Md xs vs)(MF:∀ L9 H',bC Md L9->bC L9 H'->kC K H' b2 a2 us)(Og:aS Md ys us) :
  jL (Ku K b1 b2 a1 a2) Md (List.zipWith (λa b=>PV.tup [a,b]) xs ys) where
 stop:=λi Hs H s1 s2 hi=>by
  rw[List.length_zipWith,Of.length,Og.length] at hi
  exact⟨vs,us,ML Hs H s1 s2,MF Hs H s1 s2,by omega⟩
 go:=λi Hs H s1 s2 hi=>by
  rw[List.length_zipWith] at hi
  obtain⟨v,e,_⟩:=Of.get (List.getElem?_eq_getElem (show i<xs.length by omega))
  obtain⟨u,e',_⟩:=Og.get (List.getElem?_eq_getElem (show i<ys.length by omega))
  exact⟨vs,us,v,u,ML Hs H s1 s2,MF Hs H s1 s2,e,e'⟩
 tq:=λi Hs H x H2 s1 s2 hi y=>by
  rw[List.length_zipWith] at hi
  have l1:i<xs.length:=by omega
  have l2:i<ys.length:=by omega
  obtain⟨v,e,r⟩:=Of.get (List.getElem?_eq_getElem l1)
  obtain⟨u,e',r'⟩:=Og.get (List.getElem?_eq_getElem l2)
  obtain⟨pa,v',u',hn,rfl,rfl,y1,y2⟩:=y
  have z1:=y1 vs (ML Hs H s1 s2)
  have z2:=y2 us (MF Hs H s1 s2)
  rw[e] at z1;cases z1
  rw[e'] at z2;cases z2
  have gr:=bP.new (o:=.tup [v,u]) s2 hn
  exact⟨_,_,zJ l1 l2,gr,.tup aA (.cons ((r.mono s1).mono gr.st) (.cons ((r'.mono s1).mono gr.st) .nil))⟩
theorem fP:zg E (Iq K (tL E fs)) (jH zip2 fs):=by
 intro σ H R q
 refine dP (K:=KI R) KI.g q λB H₀ Hs H1 env ps v sr rp hp=>?_
 rw[← aO (zip2 ps)] at hp
 obtain⟨p,q,xs,ys,rfl,e1,e2,hp⟩:=yk hp
 obtain⟨w,u,rfl,NI,ru⟩:=rp.two
 obtain⟨b1,a1,vs,rfl,ML,Of⟩:=kd (K:=K) sr.gr.sub NI e1
 obtain⟨b2,a2,us,rfl,MF,Og⟩:=kd (K:=K) sr.gr.sub ru e2
 exact⟨b1,b2,a1,a2,rfl,⟨vs,ML Hs H1 (λ_ _ z=>z) sr.gr.sub⟩,⟨us,MF Hs H1 (λ_ _ z=>z) sr.gr.sub⟩,hp _ Hs H1 (.refl sr.gr.sub) (Af ML Of MF Og)⟩
end
theorem cq{X:Cx}{E:XK}{tg iter:Expr}{pos:Pos}{g:TG}{set:PV->ai->M ai}{body:ai->M Out}{bd:List Stmt}{wi:TI}{it:ai->M (List PV)}(O:fw X λ_=>E)(hc:X.calm=true)(hi:PI X tg iter wi)(hv:zg (λ_=>E) wi it)(hg:PG X tg g)(OJ:Eb E g set)(hb:lW X bd (tS E body))(hs:autoParam (∀ x,foldedSetIterable iter X.env x=pure x) aI._auto_1) :
  PS X (.For tg iter bd [] pos) (tS E (i_ it set body)):=by
 refine(Gz O.own hc hi hg hb hs).imp λD σ H q=>hv σ H _ ?_
 obtain⟨B,H₀,Hs,env,sr,q⟩:=q
 refine⟨B,H₀,Hs,env,sr,(ay.bind q).imp (λxs hp J L9 H' gr ok=>?_) λe he=>he.grow sr.gr⟩
 have NK:=sr.grow gr
 refine⟨λi m σ H=>m=xs.length-i/\i<=xs.length/\Jv E set body D B H₀ L9 xs i σ H,⟨xs.length,by simp,Nat.zero_le _,L9,env,NK,λ_ _ z=>z,hp⟩,?_⟩
 rintro i m σ' H2 ⟨rfl,hi,Mg,env2,My,s2,h2⟩
 by_cases MS:i<xs.length
 ·refine .inr ⟨ok.go i Mg H2 s2 My.gr.sub MS,Jv E set body D B H₀ L9 xs (i+1),fun σ3 H3 j=>⟨xs.length-(i+1),by omega,rfl,MS,j⟩,λx H3 y=>?_⟩
  obtain⟨p,Nr,ep,g3,r3⟩:=ok.tq i Mg H2 x H3 s2 My.gr.sub MS y
  exact Jv.turn (Hx:=H2) (H1:=H2) OJ ep My s2 h2 g3 r3
 ·have e:i=xs.length:=by omega
  refine .inl ⟨ok.stop i Mg H2 s2 My.gr.sub (by omega),?_⟩
  exact Jv.done (E:=E) (set:=set) (body:=body) (xs:=xs) (B:=B) (H₀:=H₀) (Md:=L9) (n:=i) ⟨Mg,env2,My,s2,h2⟩ (by omega)
end L2
namespace L2
open PySem PySem.Spec PyProof.Rows
abbrev EF:St->XK:=λ_ _ _ _=>False
def nI(env:ai):Prop:=∀ (i:Nat) (x:SV),env[i]?=some (some x)->∃ p,x=.sh p
theorem nI.ow{env:ai}(n:nI env){i:Nat}{xs:List PV}(e:env[i]?=some (some (.ow xs))):False:=by obtain⟨p,z⟩:=n i _ e;cases z
theorem nI.bd{env:ai}(n:nI env){i:Nat}{a C:Addr}{fs:List (Str×PV)}(e:env[i]?=some (some (.bd a C fs))):False:=by obtain⟨p,z⟩:=n i _ e;cases z
def Hd{α:Type}:M α->M α
 | some (.ok a)=>some (.ok a)
 | _=>none
theorem ay.Hd{α:Type}{x:M α}{Q:α->Prop}{E:EX->Prop}(h:ay (L2.Hd x) Q E):ay x Q (λ_=>False):=by
 cases x with
 | none=>exact h
 | some x=>cases x with
  | ok a=>exact h
  | error e=>exact h
def kY(n:Nat)(js:List Nat)(env:ai):ai:=List.replicate n none++js.map λj=>match env[j]? with
 | some (some (.sh p))=>some (.sh p)
 | _=>none
theorem qR{n:Nat}{js:List Nat}{env:ai}{i:Nat}{x:SV}(h:(kY n js env)[i]?=some (some x)):∃ j p,n<=i/\js[i-n]?=some j/\env[j]?=some (some (.sh p))/\x=.sh p:=by
 unfold kY at h
 by_cases hi:i<n
 ·rw[List.getElem?_append_left (by simpa using hi),List.getElem?_replicate] at h
  split at h <;> cases h
 ·rw[List.getElem?_append_right (by simpa using hi),List.getElem?_map,List.length_replicate] at h
  cases hj:js[i-n]? with
  | none=>rw[hj] at h;cases h
  | some j =>
   rw[hj] at h
   have h':(match env[j]? with | some (some (.sh p))=>some (SV.sh p) | _=>none)=some x:=Option.some.inj h
   split at h'
   ·rename_i p e
    cases h'
    exact⟨j,p,by omega,rfl,e,rfl⟩
   ·cases h'
theorem eE{n:Nat}{js:List Nat}{env:ai}:nI (kY n js env):=λi xs e=>by
 obtain⟨_,p,_,_,_,z⟩:=qR e
 exact⟨p,z⟩
theorem SR.block{B H₀ Hs H:Hp}{σ:St}{env:ai}{ts:List Str}{js:List Nat}{D:Addr}(r:SR B H₀ Hs H σ env)(hD:H D=none):SR Hs H Hs (upd H D (.lst [])) (fS ts js σ) (kY ts.length js env) where
 gr:=by
  have ne:∀ c u,H c=some u->c≠D:=λc u q z=>by rw[z,hD] at q;cases q
  exact⟨λ_ _ e=>e,λc u e=>by rw[aw (ne c u e)];exact e,λc u e=>by rw[aw (ne c u (r.gr.sub c u e))];exact r.gr.sub c u e,λ_ _ e _=>e⟩
 len:=by unfold fS kY;simp
 sh:=λi p e=>by
  obtain⟨j,q,hn,hj,he,z⟩:=qR e
  cases z
  obtain⟨v,h1,h2⟩:=r.sh j p he
  refine⟨v,?_,h2⟩
  unfold fS
  rw[List.getElem?_append_right (by simpa using hn),List.getElem?_map,List.length_map,hj]
  show some (σ[j]?).join=_
  rw[h1];rfl
 ow:=λi xs e=>(eE.ow e).elim
 sep:=λi j xs ys a _ e=>(eE.ow e).elim
 bd:=λi a C fs e=>(eE.bd e).elim
 one:=λi j a b C D fs gs e=>(eE.bd e).elim
theorem SR.FO{B H₀ Hs H:Hp}{σ:St}{env:ai}{D:Addr}{o:HO}(r:SR B H₀ Hs H σ env)(n:nI env)(h1:Hs D=none)(h2:H₀ D=none):SR B H₀ Hs (upd H D o) σ env where
 gr:=⟨r.gr.st,λc u q=>by rw[aw (λz=>by rw[z,h2] at q;cases q)];exact r.gr.al c u q,λc u q=>by rw[aw (λz=>by rw[z,h1] at q;cases q)];exact r.gr.sub c u q,r.gr.nw⟩
 len:=r.len
 sh:=r.sh
 ow:=λi xs e=>(n.ow e).elim
 sep:=λi j xs ys a _ e=>(n.ow e).elim
 bd:=λi a C fs e=>(n.bd e).elim
 one:=λi j a b C D fs gs e=>(n.bd e).elim
def bJ(set:PV->ai->M ai)(t:Option (ai->M Bool))(f:ai->M PV):List PV->ai->M (List PV)
 | [],_=>M.ok []
 | x::xs,env=>(set x env).bind λe=>match t with
  | none=>(f e).bind λy=>(bJ set t f xs e).bind λys=>M.ok (y::ys)
  | some t'=>(t' e).bind λb=>if b=true then (f e).bind λy=>(bJ set t f xs e).bind λys=>M.ok (y::ys) else bJ set t f xs e
def cw(it:ai->M (List PV))(set:PV->ai->M ai)(t:Option (ai->M Bool))(f:ai->M PV)(n:Nat)(js:List Nat):ai->M (List PV):=λenv=>(it env).bind λxs=>cV (xs.length<=sizeLine) (Hd (bJ set t f xs (kY n js env)))
def pL(set:PV->ai->M ai):Prop:=∀ p env e,set p env=some (.ok e)->nI env->nI e
theorem kf{i:Nat}{env:ai}{p:PV}(n:nI env):nI (env.set i (some (.sh p))):=λj xs e=>by
 rw[List.getElem?_set] at e
 by_cases z:i=j
 ·rw[if_pos z] at e
  split at e
  ·cases e;exact⟨p,rfl⟩
  ·cases e
 ·rw[if_neg z] at e;exact n j xs e
theorem bI{i:Nat}:pL (bX i):=λp env e h n=>by
 cases h
 exact kf n
theorem cG{i j:Nat}:pL (bV i j):=λp env e h n=>by
 unfold bV at h
 split at h
 ·cases h;exact kf (kf n)
 ·cases h
section
variable{set:PV->ai->M ai}{t:Option (ai->M Bool)}{f:ai->M PV}{Q:VK}{Md H1:Hp}{D:Addr}{xs:List PV}
def Jc(set:PV->ai->M ai)(t:Option (ai->M Bool))(f:ai->M PV)(Q:VK)(Md H1:Hp)(D:Addr)(xs:List PV)(i:Nat)(σ:St)(H:Hp):Prop:=∃ Hs env ys vs,SR Md H1 Hs H σ env/\nI env/\H D=some (.lst vs)/\Hs D=none/\aS Hs ys vs/\ys.length<=i ∧
 ay (bJ set t f (xs.drop i) env) (λzs=>KO Q Md H1 (ys++zs)) (λ_=>False)
def rem(H:Hp)(D:Addr):Hp:=λa=>if a=D then none else H a
theorem AV{H:Hp}{D:Addr}:rem H D D=none:=by unfold rem;rw[if_pos rfl]
theorem wa{H:Hp}{D a:Addr}(n:a≠D):rem H D a=H a:=by unfold rem;rw[if_neg n]
theorem DI{H:Hp}{D:Addr}{o:HO}(h:H D=some o):upd (rem H D) D o=H:=by
 funext a
 by_cases z:a=D
 ·subst z;rw[aA,h]
 ·rw[aw z,wa z]
theorem Jc.done{i:Nat}{σ:St}{H:Hp}(hD:H1 D=none)(j:Jc set t f Q Md H1 D xs i σ H)(hi:xs.length<=i):Q (.ref D) H:=by
 obtain⟨Hs,env,ys,vs,sr,n,h1,h2,r,_,h⟩:=j
 rw[List.drop_eq_nil_of_le hi] at h
 have h':KO Q Md H1 (ys++[]):=h
 rw[List.append_nil] at h'
 have gr:bP Md H1 Hs (rem H D):=by
  refine⟨sr.gr.st,λc u q=>?_,λc u q=>?_,sr.gr.nw⟩
  ·rw[wa (λz=>by rw[z,hD] at q;cases q)];exact sr.gr.al c u q
  ·rw[wa (λz=>by rw[z,h2] at q;cases q)];exact sr.gr.sub c u q
 have:=h' vs D Hs (rem H D) gr r AV
 rw[DI h1] at this
 exact this
theorem Jc.put{i:Nat}{σ:St}{Hs H:Hp}{env:ai}{ys:List PV}{vs:List V}{y:PV}{v:V}(hD:H1 D=none)(sr:SR Md H1 Hs H σ env)(n:nI env)(h1:H D=some (.lst vs))(h2:Hs D=none)(r:aS Hs ys vs)(hy:ys.length<=i)(hi:i<sizeLine)(rv:Rep Hs y v)
  (h:ay ((bJ set t f (xs.drop (i+1)) env).bind λzs=>M.ok (y::zs)) (λzs=>KO Q Md H1 (ys++zs)) (λ_=>False)) :
  ∃ us,H D=some (.lst us)/\us.length<sizeLine/\Jc set t f Q Md H1 D xs (i+1) σ (upd H D (.lst (us++[v]))):=by
 refine⟨vs,h1,by rw[← r.length];omega,Hs,env,ys++[y],vs++[v],sr.FO n h2 hD,n,aA,h2,r.snoc rv,by rw[List.length_append];show ys.length+1<=i+1;omega,(ay.bind h).imp (λzs hz=>?_) λ_ z=>z⟩
 have N5:KO Q Md H1 (ys++(y::zs)):=hz
 rw[List.append_assoc]
 exact N5
end
section
variable{X:Cx}{E:St->XK}{tg elt iter c:Expr}{scope:Scope}{cl:List (Str×Addr)}{pos:Pos}{wi:TI}{it:ai->M (List PV)}{g:TG}{set:PV->ai->M ai}{f:ai->M PV}{u:ai->M Bool}{ts fs:List Str}{js:List Nat}
theorem wW{C:Addr}{s₀:Shared}{H₀:Hp}{ex:List Addr}{L4:List (Addr×Obj)}{N:List Str}:fw (pT X scope cl N C s₀ H₀ ex L4) EF where
 pass:=λ_ _ _ _ _ _ _ h=>by
  obtain⟨_,_,_,_,_,_,_,_,_,_,_,_,_,z⟩:=h
  exact z.elim
 new:=λ_ _ _ _ _ _ _ _ _ z=>z.elim
 own:=PassesOwn.never
theorem bH(Mf:X.calm=true)
  (Mv:closureFor scope X.env=pure cl) (hk:scope.kind=.function) (nc:gm scope.names=true) (lo:ir scope.names=true) (fh:ik cl scope.names=true) (ag:eU X cl) (fr:iZ X scope cl fs js)
  (hi:PI X tg iter wi) (hv:zg E wi it) (hg:∀ C s₀ H₀ ex L4,PG (pT X scope cl (ts++fs) C s₀ H₀ ex L4) tg g) (OJ:∀ E,Eb E g set) (so:pL set) (he:∀ C s₀ H₀ ex L4,PE (pT X scope cl (ts++fs) C s₀ H₀ ex L4) elt (tE EF f))
  (hs:autoParam (∀ x,foldedSetIterable iter X.env x=pure x) aI._auto_1):PE X (.ListComp elt [⟨tg,iter,[],0⟩] scope pos) (tO E (cw it set none f ts.length js)):=by
 refine(Ba Mf Mv hk nc lo fh ag fr hi hg he hs).imp fun σ H Q q=>hv σ H _ ?_
 obtain⟨B,H₀,Hs,env,sr,q⟩:=q
 refine⟨B,H₀,Hs,env,sr,(ay.bind q).imp (λxs hp J Md H1 gr ok D hD=>?_) λe he=>he⟩
 obtain⟨hz,hp⟩:=ay.cV hp
 have hp:=ay.Hd hp
 have OI:=sr.grow gr
 refine⟨λi m σ H=>m=xs.length-i/\i<=xs.length/\Jc set none f Q Md H1 D xs i σ H,⟨xs.length,by simp,Nat.zero_le _,Md,_,[],[],OI.block hD,eE,aA,?_,.nil,Nat.le_refl _,hp.imp (λzs hz vs p Mg H2 g2 r n=>hz vs p Mg H2 (gr.trans g2) r n) λ_ z=>z⟩,?_⟩
 ·cases z:Md D with
  | none=>rfl
  | some o=>have:=gr.sub _ _ z;rw[hD] at this;cases this
 rintro i m σ' H2 ⟨rfl,hi,Mg,env2,ys,vs,My,n2,d1,d2,r2,l2,h2⟩
 by_cases MS:i<xs.length
 ·refine .inr ⟨ok.go i Mg H2 My.gr.st My.gr.sub MS,Jc set none f Q Md H1 D xs (i+1),fun σ3 H3 j=>⟨xs.length-(i+1),by omega,rfl,MS,j⟩,λx H3 y=>?_⟩
  obtain⟨p,Nr,ep,g3,r3⟩:=ok.tq i Mg H2 x H3 My.gr.st My.gr.sub MS y
  have hd:xs.drop i=p::xs.drop (i+1):=by
   rw[List.drop_eq_getElem_cons MS]
   rw[List.getElem?_eq_getElem MS] at ep
   rw[Option.some.inj ep]
  rw[hd] at h2
  have h3:=ay.bind h2
  have NL:=My.grow g3
  refine OJ (λ_ _ _=>False) Md H1 Nr H3 σ' env2 p x _ (λ_=>False) NL r3 ?_
  cases hset:set p env2 with
  | none=>rw[hset] at h3;exact h3
  | some z=>cases z with
   | error e=>rw[hset] at h3;exact h3
   | ok e3 =>
    rw[hset] at h3
    intro σ4 sr4
    have n4:=so p env2 e3 hset n2
    refine⟨Md,H1,Nr,e3,sr4,(ay.bind h3).imp (λy hy v O2 H5 g5 r5=>?_) λ_ z=>z.elim⟩
    exact Jc.put (set:=set) (t:=none) (f:=f) hD (sr4.grow g5) n4 (g5.al _ _ (g3.al _ _ d1)) (g5.nw _ _ (g3.nw _ _ d2 d1) (g3.al _ _ d1)) ((r2.mono g3.st).mono g5.st) l2 (by omega) r5 hy
 ·refine .inl ⟨ok.stop i Mg H2 My.gr.st My.gr.sub (by omega),?_⟩
  exact Jc.done (set:=set) (t:=none) (f:=f) (xs:=xs) (Md:=Md) (H1:=H1) (i:=i) hD ⟨Mg,env2,ys,vs,My,n2,d1,d2,r2,l2,h2⟩ (by omega)
theorem zI(Mf:X.calm=true)
  (Mv:closureFor scope X.env=pure cl) (hk:scope.kind=.function) (nc:gm scope.names=true) (lo:ir scope.names=true) (fh:ik cl scope.names=true) (ag:eU X cl) (fr:iZ X scope cl fs js)
  (hi:PI X tg iter wi) (hv:zg E wi it) (hg:∀ C s₀ H₀ ex L4,PG (pT X scope cl (ts++fs) C s₀ H₀ ex L4) tg g) (OJ:∀ E,Eb E g set) (so:pL set) (ht:∀ C s₀ H₀ ex L4,PT (pT X scope cl (ts++fs) C s₀ H₀ ex L4) c (tT EF u)) (he:∀ C s₀ H₀ ex L4,PE (pT X scope cl (ts++fs) C s₀ H₀ ex L4) elt (tE EF f))
  (hs:autoParam (∀ x,foldedSetIterable iter X.env x=pure x) aI._auto_1):PE X (.ListComp elt [⟨tg,iter,[c],0⟩] scope pos) (tO E (cw it set (some u) f ts.length js)):=by
 refine(A_ Mf Mv hk nc lo fh ag fr hi hg ht he hs).imp fun σ H Q q=>hv σ H _ ?_
 obtain⟨B,H₀,Hs,env,sr,q⟩:=q
 refine⟨B,H₀,Hs,env,sr,(ay.bind q).imp (λxs hp J Md H1 gr ok D hD=>?_) λe he=>he⟩
 obtain⟨hz,hp⟩:=ay.cV hp
 have hp:=ay.Hd hp
 have OI:=sr.grow gr
 refine⟨λi m σ H=>m=xs.length-i/\i<=xs.length/\Jc set (some u) f Q Md H1 D xs i σ H,⟨xs.length,by simp,Nat.zero_le _,Md,_,[],[],OI.block hD,eE,aA,?_,.nil,Nat.le_refl _,hp.imp (λzs hz vs p Mg H2 g2 r n=>hz vs p Mg H2 (gr.trans g2) r n) λ_ z=>z⟩,?_⟩
 ·cases z:Md D with
  | none=>rfl
  | some o=>have:=gr.sub _ _ z;rw[hD] at this;cases this
 rintro i m σ' H2 ⟨rfl,hi,Mg,env2,ys,vs,My,n2,d1,d2,r2,l2,h2⟩
 by_cases MS:i<xs.length
 ·refine .inr ⟨ok.go i Mg H2 My.gr.st My.gr.sub MS,Jc set (some u) f Q Md H1 D xs (i+1),fun σ3 H3 j=>⟨xs.length-(i+1),by omega,rfl,MS,j⟩,λx H3 y=>?_⟩
  obtain⟨p,Nr,ep,g3,r3⟩:=ok.tq i Mg H2 x H3 My.gr.st My.gr.sub MS y
  have hd:xs.drop i=p::xs.drop (i+1):=by
   rw[List.drop_eq_getElem_cons MS]
   rw[List.getElem?_eq_getElem MS] at ep
   rw[Option.some.inj ep]
  rw[hd] at h2
  have h3:=ay.bind h2
  have NL:=My.grow g3
  refine OJ (λ_ _ _=>False) Md H1 Nr H3 σ' env2 p x _ (λ_=>False) NL r3 ?_
  cases hset:set p env2 with
  | none=>rw[hset] at h3;exact h3
  | some z=>cases z with
   | error e=>rw[hset] at h3;exact h3
   | ok e3 =>
    rw[hset] at h3
    intro σ4 sr4
    have n4:=so p env2 e3 hset n2
    refine⟨Md,H1,Nr,e3,sr4,(ay.bind h3).imp (λb hb O2 H5 g5=>?_) λ_ z=>z.elim⟩
    have d5:=g5.al _ _ (g3.al _ _ d1)
    have e5:=g5.nw _ _ (g3.nw _ _ d2 d1) (g3.al _ _ d1)
    cases b with
    | true =>
     refine⟨Md,H1,O2,e3,sr4.grow g5,(ay.bind hb).imp (λy hy v Hs6 H6 g6 r6=>?_) λ_ z=>z.elim⟩
     exact Jc.put (set:=set) (t:=some u) (f:=f) hD ((sr4.grow g5).grow g6) n4 (g6.al _ _ d5) (g6.nw _ _ e5 d5) (((r2.mono g3.st).mono g5.st).mono g6.st) l2 (by omega) r6 hy
    | false=>exact⟨O2,e3,ys,vs,sr4.grow g5,n4,d5,e5,(r2.mono g3.st).mono g5.st,by omega,hb⟩
 ·refine .inl ⟨ok.stop i Mg H2 My.gr.st My.gr.sub (by omega),?_⟩
  exact Jc.done (set:=set) (t:=some u) (f:=f) (xs:=xs) (Md:=Md) (H1:=H1) (i:=i) hD ⟨Mg,env2,ys,vs,My,n2,d1,d2,r2,l2,h2⟩ (by omega)
def cM(fo:ai->M (List PV)):ai->M PV:=λenv=>(fo env).bind λps=>M.ok (.lst ps)
theorem cW{fo:ai->M (List PV)}{e:Expr}(he:PE X e (tO E fo)):PE X e (tE E (cM fo)):=he.imp fun σ H Q q=>by
 obtain⟨B,H₀,Hs,env,sr,q⟩:=q
 refine⟨B,H₀,Hs,env,sr,(ay.bind q).imp (λps hp vs p L9 H' g r n=>?_) λe he=>he⟩
 have gn:=bP.new (o:=.lst vs) g.sub n
 exact hp _ _ _ (g.trans gn) (.lst aA (r.mono gn.st))
end
end L2
namespace L2
open PySem PySem.Spec PyProof.Rows
def sU(f:Str)(v:PV):List (Str×PV)->List (Str×PV)
 | []=>[(f,v)]
 | (g,x)::r=>if g=f then (g,v)::r else (g,x)::sU f v r
theorem iP.put{H:Hp}{f:Str}{p:PV}{v:V}(h:Rep H p v):∀ {fs:List (Str×PV)} {vs:List (Str×V)},iP H fs vs->iP H (sU f p fs) (jE f v vs)
 | _,_,.nil=>.cons h .nil
 | (g,x)::r,_,.cons hx hr=>by
  unfold sU jE
  by_cases z:g=f
  ·rw[if_pos z,if_pos z];exact .cons h hr
  ·rw[if_neg z,if_neg z];exact .cons hx (hr.put h)
theorem iP.length{H:Hp}:∀ {fs:List (Str×PV)} {vs:List (Str×V)},iP H fs vs->fs.length=vs.length
 | _,_,.nil=>rfl
 | _,_,.cons _ r=>by simp[r.length]
theorem SR.KP{B H₀ Hs H:Hp}{σ:St}{env:ai}{i:Nat}{a C dx:Addr}{fs gs:List (Str×PV)}{us:List (Str×V)}(r:SR B H₀ Hs H σ env)(e:env[i]?=some (some (.bd a C fs)))(h:iP Hs gs us):SR B H₀ Hs (upd H a (.ins C dx us)) σ (env.set i (some (.bd a C gs))):=by
 obtain⟨dx0,vs,h1,h2,h3,h4,h5⟩:=r.bd i a C fs e
 have nS:∀ c u,Hs c=some u->c≠a:=λc u q z=>by rw[z,h3] at q;cases q
 have n0:∀ c u,H₀ c=some u->c≠a:=λc u q z=>by rw[z,h4] at q;cases q
 refine⟨⟨r.gr.st,λc u q=>by rw[aw (n0 c u q)];exact r.gr.al c u q,λc u q=>by rw[aw (nS c u q)];exact r.gr.sub c u q,r.gr.nw⟩,by rw[List.length_set];exact r.len,λj q ej=>?_,λj zs ej=>?_,λj k y1 y2 b nj e1 e2 e3 e4=>?_,λj ba D OK ej=>?_,λj k _ _ C' D OK gs' e1 e2=>?_⟩
 ·rw[List.getElem?_set] at ej
  by_cases z:i=j
  ·subst z
   rw[if_pos rfl] at ej
   split at ej <;> cases ej
  ·rw[if_neg z] at ej;exact r.sh j q ej
 ·rw[List.getElem?_set] at ej
  by_cases z:i=j
  ·subst z
   rw[if_pos rfl] at ej
   split at ej <;> cases ej
  ·rw[if_neg z] at ej
   obtain⟨b,ws,q1,q2,q3,q4,q5⟩:=r.ow j zs ej
   have nb:b≠a:=λw=>by subst w;rw[h2] at q2;cases q2
   exact⟨b,ws,q1,by rw[aw nb];exact q2,q3,q4,q5⟩
 ·rw[List.getElem?_set] at e1 e2
  by_cases z:i=j
  ·subst z
   rw[if_pos rfl] at e1
   split at e1 <;> cases e1
  ·by_cases z2:i=k
   ·subst z2
    rw[if_pos rfl] at e2
    split at e2 <;> cases e2
   ·rw[if_neg z] at e1
    rw[if_neg z2] at e2
    exact r.sep j k y1 y2 b nj e1 e2 e3 e4
 ·rw[List.getElem?_set] at ej
  by_cases z:i=j
  ·subst z
   rw[if_pos rfl] at ej
   split at ej
   ·cases ej;exact⟨dx,us,h1,aA,h3,h4,h⟩
   ·cases ej
  ·rw[if_neg z] at ej
   exact absurd (r.one i j _ _ _ _ _ _ e ej) z
 ·have o1:∃ b D w,env[j]?=some (some (.bd b D w)):=by
   rw[List.getElem?_set] at e1
   by_cases z:i=j
   ·subst z;exact⟨_,_,_,e⟩
   ·rw[if_neg z] at e1;exact⟨_,_,_,e1⟩
  have o2:∃ b D w,env[k]?=some (some (.bd b D w)):=by
   rw[List.getElem?_set] at e2
   by_cases z:i=k
   ·subst z;exact⟨_,_,_,e⟩
   ·rw[if_neg z] at e2;exact⟨_,_,_,e2⟩
  obtain⟨_,_,w1,o1⟩:=o1
  obtain⟨_,_,w2,o2⟩:=o2
  exact r.one j k _ _ _ _ _ _ o1 o2
def AZ(i:Nat)(C:Addr)(f:Str)(p:PV)(env:ai):M Out:=match env[i]? with
 | some (some (.bd a C' fs))=>cV (C'=C/\fs.length<1000) (M.ok (.nx (env.set i (some (.bd a C (sU f p fs))))))
 | _=>none
def k4(i:Nat)(C:Addr)(fl:Str)(f:ai->M PV):ai->M Out:=λenv=>(f env).bind λp=>AZ i C fl p env
section
variable{X:Cx}{E:XK}{e:Expr}{pos pos' px:Pos}{f:ai->M PV}{i:Nat}{x fl:Str}{C:Addr}
theorem kW(hi:X.N[i]?=some x)(hv:Ce X.env.scope x)(c:lU X.K C)(na:bZ X.K C fl)(he:PE X e (tE (λ_=>E) f))(hd:autoParam ((x==("__debug__" : Str))=false) aD._auto_1)(Ng:autoParam ((x==("__classdict__" : Str))=false) aD._auto_1)
  (hs:autoParam (swapsWith e (some (.Attribute (.Name x px) fl pos')) pos.line X.env=pure false) aR._auto_1):PS X (.Assign [.Attribute (.Name x px) fl pos'] e pos) (tS E (k4 i C fl f)):=by
 refine(Hl (mf hi hv hd Ng) he hs).imp λD σ H q=>jM q λB H₀ Hs H1 env p v sr rp hp=>?_
 unfold AZ at hp
 split at hp
 ·rename_i a C' fs ex
  obtain⟨⟨rfl,hz⟩,hp⟩:=ay.cV hp
  obtain⟨dx,vs,h1,h2,h3,h4,h5⟩:=sr.bd i a _ fs ex
  exact⟨.ref a,h1,a,_,dx,vs,rfl,h2,c,na,by rw[← h5.length];exact hz,hp σ Hs _ (sr.KP ex (h5.put rp))⟩
 ·exact hp.elim
end
def yW(m:Nat)(a C:Addr)(ps:List PV):ai:=some (.bd a C [])::k8 (m-1) ps
def A8(a C:Addr)(env:ai):M (List (Str×PV)):=match (env[0]?:Option (Option SV)) with
 | some (some (.bd b D fs))=>cV (b=a/\D=C) (M.ok fs)
 | _=>none
def outI(a C:Addr):Out->M (List (Str×PV))
 | .nx env=>A8 a C env
 | _=>none
def yQ(m:Nat)(g:ai->M Out)(C a:Addr)(ps:List PV):M (List (Str×PV)):=(g (yW m a C ps)).bind (outI a C)
def E5{α:Type}(s:Addr->M α):M α:=open Classical in if h:∃ r,∀ a,s a=r then h.choose else none
theorem A6{α:Type}{s:Addr->M α}{r:M α}(h:∀ a,s a=r):E5 s=r:=by
 have hx:∃ r,∀ a,s a=r:=⟨r,h⟩
 unfold E5
 rw[dif_pos hx,← hx.choose_spec 0,h 0]
theorem ay.E5{α:Type}{s:Addr->M α}{Q:α->Prop}{E:EX->Prop}(h:ay (L2.E5 s) Q E)(a:Addr):ay (s a) Q E:=by
 unfold L2.E5 at h
 split at h
 ·rename_i hx
  rw[hx.choose_spec a];exact h
 ·exact h.elim
def EE(n:Nat)(C:Addr)(sem:Addr->List PV->M (List (Str×PV))):Sp:=λvs H Q E=>vs.length=n/\∃ a dx us Hs H1 ps,vs=.ref a::us/\H1 a=none/\H1 dx=none/\dx≠a/\H=upd (upd H1 dx (.own a)) a (.ins C dx [])/\bC Hs H1/\aS Hs ps us ∧
 ay (sem a ps) (λfs=>∀ O3 ws L9 H',bP Hs H1 L9 H'->H' a=some (.ins C O3 ws)->L9 a=none->iP L9 fs ws->Q .cp H') (XW E Hs H1)
theorem SR.E3{Hs H₀ H:Hp}{N:List Str}{a C dx:Addr}{ps:List PV}{vs:List V}(s:bC Hs H₀)(hN:0<N.length)(ha:H₀ a=none)(r:aS Hs ps vs)(hH:H=upd H₀ a (.ins C dx [])):SR Hs H₀ Hs H (L2.start N (.ref a::vs)) (yW N.length a C ps):=by
 have hs:Hs a=none:=by
  cases q:Hs a with
  | none=>rfl
  | some o=>have:=s _ _ q;rw[ha] at this;cases this
 have ne:∀ c u,H₀ c=some u->c≠a:=λc u e z=>by rw[z,ha] at e;cases e
 have s0:=SR.start (N:=N.tail) s r
 have e1:L2.start N (.ref a::vs)=some (.ref a)::L2.start N.tail vs:=by
  unfold L2.start
  simp only[List.map_cons,List.cons_append,List.length_cons,List.length_tail]
  rw[Nat.sub_sub,Nat.add_comm]
 have e2:yW N.length a C ps=some (.bd a C [])::k8 N.tail.length ps:=by unfold yW;rw[List.length_tail]
 have al:bC H₀ H:=λc u q=>by rw[hH,aw (ne c u q)];exact q
 rw[e1,e2]
 refine⟨⟨λ_ _ e=>e,al,λc u q=>al c u (s c u q),λc u q _=>q⟩,by simp[s0.len],λj q ej=>?_,λj zs ej=>?_,λj k y1 y2 b nj e1 e2 e3 e4=>?_,λj ba D OK ej=>?_,λj k a1 a2 C' D OK gs' e1 e2=>?_⟩
 ·cases j with
  | zero=>cases ej
  | succ j=>exact s0.sh j q (by simpa using ej)
 ·cases j with
  | zero=>cases ej
  | succ j=>exact absurd (s0.ow j zs (by simpa using ej)) (λ⟨b,ws,q1,q2,q3,q4,q5⟩=>by rw[q4] at q2;cases q2)
 ·cases j with
  | zero=>cases e1
  | succ j=>exact absurd (s0.ow j y1 (by simpa using e1)) (λ⟨b,ws,q1,q2,q3,q4,q5⟩=>by rw[q4] at q2;cases q2)
 ·cases j with
  | zero=>cases ej;exact⟨dx,[],rfl,by rw[hH];exact aA,hs,ha,.nil⟩
  | succ j=>exact absurd (s0.bd j ba D OK (by simpa using ej)) (λ⟨b,ws,q1,q2,q3,q4,q5⟩=>by rw[q4] at q2;cases q2)
 ·cases j with
  | zero=>cases k with
   | zero=>rfl
   | succ k=>exact absurd (s0.bd k a2 D gs' (by simpa using e2)) (λ⟨b,ws,q1,q2,q3,q4,q5⟩=>by rw[q4] at q2;cases q2)
  | succ j=>exact absurd (s0.bd j a1 C' OK (by simpa using e1)) (λ⟨b,ws,q1,q2,q3,q4,q5⟩=>by rw[q4] at q2;cases q2)
theorem Dj{P:Program}{w:World}{K:PySem.W.Frag}{mg:Str->Option Value}{base:Heap}{k:Nat}{f C:Addr}{name qual:Str}{params:Arguments}{body:List Stmt}{scope:Scope}{dV kV doc pm Mp ct oc:Value}{an od:Option Addr}
  {N1:Array (Option Value)} {N ps:List Str} {g:ai->M Out} (lk:K.lookup f=some ⟨oc,od,.func (PySem.W.fnOf name qual params body scope dV kV doc pm an Mp ct),N1⟩) (Ng:PySem.W.codeIn K Mp qual=true) (S:cO N ps scope) (hN:0<N.length)
  (hb:∀ (A:Around) (outer:List Env) (s:Shared) (H:Hp) (E:XK),cD k (A.deeper (envOfC qual scope s.heap.objs.size f Mp))->lW ((lF (bS P w) P w K mg base N qual scope f Mp A outer s H E).out λ_=>E) body (tS E g)) :
  aP P w K mg base (bS P w) (k+1) f (PySem.W.fnOf name qual params body scope dV kV doc pm an Mp ct) ps (EE ps.length C (yQ N.length g C)):=by
 refine wb lk Ng S (λvs H Q E h=>h.1) λA outer s H vs Q E hr hs=>⟨_,hb A outer s H E hr,?_⟩
 obtain⟨_,a,dx,us,Hs,H1,ND,rfl,ha,hdx,NX,hH,sm,r,h⟩:=hs
 have ne:∀ c u,H1 c=some u->c≠dx:=λc u e z=>by rw[z,hdx] at e;cases e
 have s0:bC H1 (upd H1 dx (.own a)):=λc u q=>by rw[aw (ne c u q)];exact q
 have g0:bP Hs H1 Hs (upd H1 dx (.own a)):=⟨λ_ _ e=>e,s0,λc u q=>s0 c u (sm c u q),λ_ _ e _=>e⟩
 refine⟨Hs,_,Hs,_,SR.E3 (dx:=dx) g0.sub hN (by rw[aw (Ne.symm NX)];exact ha) r hH,(ay.bind h).imp (λo ho=>?_) λe he=>he.grow g0⟩
 cases o with
 | rt p=>exact ho.elim
 | bk env=>exact ho.elim
 | ct env=>exact ho.elim
 | nx env =>
  intro σ L9 H' sr
  have NM:ay (A8 a C env) _ _:=ho
  unfold A8 at NM
  split at NM
  ·rename_i b D fs ex
   obtain⟨⟨rfl,rfl⟩,hp⟩:=ay.cV NM
   obtain⟨O3,ws,h1,h2,h3,h4,h5⟩:=sr.bd 0 _ _ fs ex
   exact hp O3 ws L9 H' (g0.trans sr.gr) h2 h3 h5
  ·exact NM.elim
def c6(C:Addr)(sem:Addr->List PV->M (List (Str×PV)))(Nt:List PV)(ps:List PV):M PV:=(E5 λa=>sem a (ps++Nt)).bind λfs=>M.ok (.obj C fs)
section
variable{X:Cx}{E:St->XK}{k n:Nat}{f C:Addr}{fd:FuncData}{ns:List Str}{sem:Addr->List PV->M (List (Str×PV))}{x:Str}{p pos:Pos}{e:Expr}{es:List Expr}{fs:ai->M (List PV)}
theorem Cn{ds:List Value}{MM:List V}{Nt:List PV}(Mk:Mk X.K C f)(F:aP X.prog X.w X.K X.mg X.base (bS X.prog X.w) k f fd ns (EE n C sem))(hr:cD (k+1) X.A)(hg:Gl X x)(hm:X.mg x=some (.ref C))(hb:Binds X.K fd ns ds)(hd:Vals MM ds)(hdp:∀ H,aS H Nt MM)(O:fw X E)
  (hl:∀ a ps,sem a (ps++Nt)≠none->ps.length+Nt.length+1=n)
  (ha:PA X (e::es) (tL E fs)) (M0:autoParam ((x==("__debug__" : Str))=false) aD._auto_1) (he:autoParam (starEach (e::es) X.env=(false,eval e X.env)::starEach es X.env) aR._auto_1) (Mz:autoParam ((backTo pos (starEach es X.env)).any (·.1)=false) aR._auto_1) :
  PE X (.Call (.Name x p) (e::es) [] pos) (tE E (af (c6 C sem Nt) fs)):=by
 refine(BL Mk F hr hg hm hb hd O ha M0 he Mz).imp fun σ H Q q=>dP (K:=ku Q) ku.g q λB H₀ Hs H1 env ND v sr rp hp=>?_
 intro a dx ha hdx NX
 have r2:aS Hs (ND++Nt) (v++MM):=rp.append (hdp Hs)
 have OO:=(ay.bind hp).E5 a
 have hn:sem a (ND++Nt)≠none:=λz=>by
  rw[z] at OO;exact OO
 refine⟨?_,a,dx,v++MM,Hs,H1,ND++Nt,rfl,ha,hdx,NX,rfl,sr.gr.sub,r2,OO.imp (λfl hfl O3 ws L9 H' g hw Py NI=>⟨rfl,?_⟩) λe he=>he⟩
 ·show (v++MM).length+1=n
  rw[← r2.length,List.length_append]
  exact hl a ND hn
 ·have ne:∀ c u,L9 c=some u->c≠a:=λc u q z=>by rw[z,Py] at q;cases q
  have Mu:bC L9 (upd L9 a (.ins C O3 ws)):=λc u q=>by rw[aw (ne c u q)];exact q
  refine hfl (.ref a) (upd L9 a (.ins C O3 ws)) H' ⟨λc u q=>Mu c u (g.st c u q),g.al,λc u q=>?_,λc u q1 q2=>?_⟩ (.obj aA (NI.mono Mu))
  ·by_cases z:c=a
   ·subst z;rw[aA] at q;cases q;exact hw
   ·rw[aw z] at q;exact g.sub c u q
  ·have z:c≠a:=λz=>by rw[z,ha] at q2;cases q2
   rw[aw z];exact g.nw c u q1 q2
end
end L2
namespace L2
open PySem PySem.Spec PyProof.Rows
section
variable{X:Cx}{E:St->XK}{a b c e:Expr}{pos:Pos}{f g h:ai->M PV}
theorem mQ{n m:Nat}(h:n.log2<m):n<2^m:=by
 by_cases z:n=0
 ·subst z;exact Nat.two_pow_pos m
 ·exact(Nat.log2_lt z).mp h
theorem aS.rep{H:Hp}{xs:List PV}{vs:List V}(r:aS H xs vs):∀ k:Nat,aS H (List.replicate k xs).flatten (List.replicate k vs).flatten
 | 0=>.nil
 | k+1=>by rw[List.replicate_succ,List.replicate_succ,List.flatten_cons,List.flatten_cons];exact r.append (r.rep k)
def bR:PV->PV->M PV
 | .int i,.int j=>cV (i.natAbs.log2<67108864/\j.natAbs.log2<67108864) (M.ok (.int (i*j)))
 | .tup xs,.int k=>cV (xs.isEmpty=false/\-(2^63)<=k/\k<2^63/\xs.length*k.toNat<=sizeLine) (M.ok (.tup (List.replicate k.toNat xs).flatten))
 | .lst xs,.int k=>cV (-(2^63)<=k/\k<2^63/\xs.length*k.toNat<=sizeLine) (M.ok (.lst (List.replicate k.toNat xs).flatten))
 | _,_=>none
def EC(K:PySem.W.Frag):R2:=λx y H Q=>(rI (λi j=>IntMulOk i j) λi j=>.int (i*j)) x y H Q\/ET K x y H Q\/Il x y H Q
theorem CS:h9 X (binaryOp .Mult) (EC X.K):=h9.or C7 (h9.or CL z8)
theorem FF{K:PySem.W.Frag}:lV E (EC K) bR:=by
 intro σ Hs H p q v u Q s rp rq h
 cases rp with
 | int i=>cases rq with
  | int j =>
   obtain⟨hz,h⟩:=ay.cV h
   exact .inl ⟨i,j,rfl,rfl,Aa (mQ hz.1) (mQ hz.2) (Nat.le_refl _),eG.flat h s (.int _)⟩
  | _=>exact h.elim
 | @tup a xs vs ha hx=>cases rq with
  | int k =>
   obtain⟨⟨h0,h1,h2,h3⟩,h⟩:=ay.cV h
   have n1:vs≠[]:=λz=>by
    have:=hx.length
    rw[z] at this
    cases xs with
    | nil=>cases h0
    | cons _ _=>cases this
   refine .inr (.inl ⟨a,k,vs,rfl,rfl,gB.of (s _ _ ha),n1,h1,h2,by rw[← hx.length];exact h3,λz=>?_,λz=>eG.tup h s (hx.rep _)⟩)
   subst z
   rw[show (1:Int).toNat=1 from rfl,List.replicate_succ,List.replicate_zero,List.flatten_cons,List.flatten_nil,List.append_nil] at h
   exact eG.flat h s (.tup ha hx)
  | _=>exact h.elim
 | @lst a xs vs ha hx=>cases rq with
  | int k =>
   obtain⟨⟨h1,h2,h3⟩,h⟩:=ay.cV h
   exact .inr (.inr ⟨a,k,vs,rfl,rfl,s _ _ ha,h1,h2,by rw[← hx.length];exact h3,eG.lst h s (hx.rep _)⟩)
  | _=>exact h.elim
 | _=>exact h.elim
theorem Dt:lV E (rI AX λi j=>.int (i.fdiv j)) (vE (λ_ j=>decide (j≠0/\j.natAbs.log2<9000)) λi j=>i.fdiv j):=wz λi j z=>(of_decide_eq_true z:j≠0/\j.natAbs.log2<9000)
theorem Gb:lV E (rI (λ_ j=>j≠0) λi j=>.int (i.fmod j)) (vE (λ_ j=>decide (j≠0)) λi j=>i.fmod j):=wz λi j z=>of_decide_eq_true z
theorem EW:lV E (rI GI λi j=>.int (i^j.toNat)) (vE (λi j=>decide (0<=j/\j<=1000000/\i.natAbs<2^64)) λi j=>i^j.toNat):=wz λi j z=>(of_decide_eq_true z:0<=j/\j<=1000000/\i.natAbs<2^64)
def IL:PV->M PV
 | .int i=>M.ok (.int (-i))
 | _=>none
def kB(f:ai->M PV):ai->M PV:=λenv=>(f env).bind IL
theorem Hr(ha:PE X a (tE E f)):PE X (.UnaryOp .USub a pos) (tE E (kB f)) :=
 (Jl FN ha).imp fun σ H Q q=>Jq q λHs H1 p v s rp h=>by
  cases rp with
  | int i=>exact⟨i,rfl,eG.flat h s (.int _)⟩
  | _=>exact h.elim
def w8:PV->Bool
 | .cp=>true
 | _=>false
theorem Bf{H:Hp}{p:PV}{v:V}(r:Rep H p v):decide (v=.cp)=w8 p:=by
 cases r <;> rfl
def u5:PV->PV->M PV
 | p,.cp=>M.ok (.bl (w8 p))
 | _,_=>none
theorem Am:lV E (λx y H Q=>y=.cp/\Q (.bl (decide (x=.cp))) H) u5:=by
 intro σ Hs H p q v u Q s rp rq h
 cases rq with
 | cp =>
  have h':ay (M.ok (PV.bl (w8 p))) (eG Hs H Q) (XW (E σ) Hs H):=by cases p <;> exact h
  exact⟨rfl,by rw[Bf rp];exact eG.flat h' s (.bl _)⟩
 | _=>cases p <;> exact h.elim
def kS(o o':PV->PV->M PV)(f g h:ai->M PV):ai->M PV:=λenv=>(f env).bind λp=>(g env).bind λq=>(o p q).bind λz=>(vo z).bind λk=>if k=true then (h env).bind λr=>o' q r else M.ok (.bl false)
theorem Ab{r r':R2}{o o':PV->PV->M PV}(hv:lV E r o)(O_:lV E r' o'){σ:St}{H:Hp}{Q:VK}(q:tE E (kS o o' f g h) σ H Q):zN r r' (tE E f) (tE E g) (tE E h) σ H Q:=by
 refine cC (K:=ku Q) ku.g q λB H₀ Hs H1 env p v sr rp hp=>?_
 refine⟨B,H₀,Hs,env,sr,(ay.bind hp).imp (λq hq u Mg H2 g2 ru=>?_) λe he=>he⟩
 have My:=sr.grow g2
 refine hv σ Mg H2 p q v u _ My.gr.sub (rp.mono g2.st) ru ((ay.bind hq).imp (λz hz w Nr H3 g3 NI=>?_) λe he=>he.grow g2)
 obtain⟨k,ek,hk⟩:=ay.JK (ay.bind hz)
 subst ek
 cases NI
 refine⟨k,rfl,?_⟩
 have NL:=My.grow g3
 cases k with
 | false=>exact hk _ _ _ (g2.trans g3) (.bl _)
 | true =>
  have ON:ay ((h env).bind λr=>o' q r) (ku Q Hs H1) (XW (E σ) Hs H1):=hk
  refine⟨B,H₀,Nr,env,NL,(ay.bind ON).imp (λr hr w Hs4 H4 g4 rw4=>?_) λe he=>he.grow (g2.trans g3)⟩
  exact O_ σ Hs4 H4 q r u w Q (NL.grow g4).gr.sub ((ru.mono g3.st).mono g4.st) rw4 (hr.imp (λz hz w' O2 H5 g5 r5=>hz w' O2 H5 ((g2.trans g3).trans (g4.trans g5)) r5) λe he=>he.grow ((g2.trans g3).trans g4))
theorem uf{op OZ:CmpOp}{r r':R2}{o o':PV->PV->M PV}(ho:h9 X (compareOp op) r)(hv:lV E r o)(NM:h9 X (compareOp OZ) r')(O_:lV E r' o')(ha:PE X a (tE E f))(hb:PE X b (tE E g))(hc:PE X c (tE E h))
  (hm:autoParam (lastMarks [op,OZ] [b,c]=false) aU._auto_1):PE X (.Compare a [op,OZ] [b,c] pos) (tE E (kS o o' f g h)) :=
 (A1 ho NM ha hb hc hm).imp fun σ H Q q=>Ab hv O_ q
def cQ(u:ai->M Bool)(b:ai->M Out):Nat->ai->M Out
 | 0,_=>none
 | n+1,env=>(u env).bind λt=>if t=true then (b env).bind λo=>match o with
   | .nx L8=>cQ u b n L8
   | .ct L8=>cQ u b n L8
   | .bk L8=>M.ok (.nx L8)
   | .rt p=>M.ok (.rt p)
  else M.ok (.nx env)
theorem yp{E:XK}{u:ai->M Bool}{g:ai->M Out}{body:List Stmt}(n:ai->Nat)(O:fw X λ_=>E)(hc:PT X c (tT (λ_=>E) u))(hb:lW X body (tS E g)):PS X (.While c body [] pos) (tS E λenv=>cQ u g (n env) env):=by
 refine(zm O.own hc hb).imp λD σ H q=>?_
 obtain⟨B,H₀,Hs,env,sr,q⟩:=q
 refine⟨λm σ H=>∃ Hs env,SR B H₀ Hs H σ env/\ay (cQ u g m env) (KS D B H₀) (XW E B H₀),⟨n env,Hs,env,sr,q⟩,?_⟩
 rintro m σ1 H1 ⟨Md,env1,OI,q1⟩
 cases m with
 | zero=>exact q1.elim
 | succ m =>
  refine⟨B,H₀,Md,env1,OI,(ay.bind q1).imp (λt ht Mg H2 g2=>?_) λe he=>he.grow OI.gr⟩
  have My:=OI.grow g2
  cases t with
  | false=>exact ht σ1 Mg H2 My
  | true =>
   refine⟨fun σ' H'=>∃ L9 L8,SR B H₀ L9 H' σ' L8/\ay (cQ u g m L8) (KS D B H₀) (XW E B H₀),fun σ' H' z=>⟨m,Nat.lt_succ_self m,z⟩,B,H₀,Mg,env1,My,(ay.bind ht).imp (λo ho=>?_) λe he=>he⟩
   cases o with
   | nx L8=>exact fun σ' L9 H' NK=>⟨L9,L8,NK,ho⟩
   | ct L8=>exact fun σ' L9 H' NK=>⟨L9,L8,NK,ho⟩
   | bk L8=>exact ho
   | rt p=>exact ho
theorem jc{u:ai->M Bool}{g:ai->M Out}:∀ (n k:Nat) (env:ai),cQ u g n env≠none->cQ u g (n+k) env=cQ u g n env
 | 0,_,_,h=>(h rfl).elim
 | n+1,k,env,h=>by
  rw[show n+1+k=(n+k)+1 by omega]
  unfold cQ at h ⊢
  cases hu:u env with
  | none=>rfl
  | some z =>
   cases z with
   | error e=>rfl
   | ok t =>
    rw[hu] at h
    cases t with
    | false=>rfl
    | true =>
     show M.bind (g env) _=M.bind (g env) _
     have h':M.bind (g env) (λo=>match o with
      | .nx L8=>cQ u g n L8
      | .ct L8=>cQ u g n L8
      | .bk L8=>M.ok (.nx L8)
      | .rt p=>M.ok (.rt p))≠none:=h
     cases hg:g env with
     | none=>rfl
     | some z =>
      cases z with
      | error e=>rfl
      | ok o =>
       rw[hg] at h'
       cases o with
       | nx L8=>exact jc n k L8 h'
       | ct L8=>exact jc n k L8 h'
       | bk L8=>rfl
       | rt p=>rfl
def oX(u:ai->M Bool)(b:ai->M Out)(env:ai):M Out:=open Classical in cQ u b (if h:∃ n,cQ u b n env≠none then h.choose else 0) env
theorem ya{u:ai->M Bool}{b:ai->M Out}{n:Nat}{env:ai}(h:cQ u b n env≠none):oX u b env=cQ u b n env:=by
 have hx:∃ n,cQ u b n env≠none:=⟨n,h⟩
 unfold oX
 rw[dif_pos hx]
 have h1:=hx.choose_spec
 rw[← jc _ n env h1,← jc n hx.choose env h,Nat.add_comm]
theorem A5{E:XK}{u:ai->M Bool}{g:ai->M Out}{body:List Stmt}(O:fw X λ_=>E)(hc:PT X c (tT (λ_=>E) u))(hb:lW X body (tS E g)):PS X (.While c body [] pos) (tS E (oX u g)) :=
 yp (λenv=>open Classical in if h:∃ n,cQ u g n env≠none then h.choose else 0) O hc hb
end
end L2
namespace L2
open PySem PySem.Spec PyProof.Rows
def Ir:PV->Option String
 | .cp=>some "NoneType"
 | .bl _=>some "bool"
 | .int _=>some "int"
 | .str _=>some "str"
 | .lst _=>some "list"
 | .jD _=>some "list"
 | .tup _=>some "tuple"
 | .emp=>some "dict"
 | _=>none
def qp(a t:String):Bool:=a==t||(a == "bool" && t == "int")
theorem m_(K:PySem.W.Frag):PySem.W.kitOne K (.type "NoneType") (.type "int")=some false:=by with_unfolding_all kernel_rfl
theorem uG(K:PySem.W.Frag):PySem.W.kitOne K (.type "bool") (.type "int")=some true:=by with_unfolding_all kernel_rfl
def tys:List String:=["int", "bool", "str", "list", "tuple"]
theorem Ip(K:PySem.W.Frag){p:PV}{a t:String}(ha:Ir p=some a)(ht:t∈tys):PySem.W.kitOne K (.type a) (.type t)=some (qp a t):=by
 have ht2:t = "int" \/ t = "bool" \/ t = "str" \/ t = "list" \/ t = "tuple" := by simpa [tys] using ht
 cases p <;> cases ha <;> rcases ht2 with rfl | rfl | rfl | rfl | rfl <;> first
  | exact m_ K
  | exact kt_NoneType_bool K
  | exact kt_NoneType_str K
  | exact kt_NoneType_list K
  | exact kt_NoneType_tuple K
  | exact uG K
  | exact kt_bool_bool K
  | exact kt_bool_str K
  | exact kt_bool_list K
  | exact kt_bool_tuple K
  | exact kt_int_int K
  | exact kt_int_bool K
  | exact kt_int_str K
  | exact kt_int_list K
  | exact kt_int_tuple K
  | exact kt_str_int K
  | exact kt_str_bool K
  | exact kt_str_str K
  | exact kt_str_list K
  | exact kt_str_tuple K
  | exact kt_list_int K
  | exact kt_list_bool K
  | exact kt_list_str K
  | exact kt_list_list K
  | exact kt_list_tuple K
  | exact kt_tuple_int K
  | exact kt_tuple_bool K
  | exact kt_tuple_str K
  | exact kt_tuple_list K
  | exact kt_tuple_tuple K
  | exact kt_dict_int K
  | exact kt_dict_bool K
  | exact kt_dict_str K
  | exact kt_dict_list K
  | exact kt_dict_tuple K
theorem zO{K:PySem.W.Frag}{Hs H:Hp}{p:PV}{v:V}{a:String}(s:bC Hs H)(r:Rep Hs p v)(ha:Ir p=some a):jI K H v (.type a):=by
 cases r with
 | cp=>cases ha;exact .cp
 | bl b=>cases ha;exact .bl b
 | int i=>cases ha;exact .int i
 | str x=>cases ha;exact .str x
 | tup h _=>cases ha;exact .tup (s _ _ h)
 | lst h _=>cases ha;exact .lst (s _ _ h)
 | jD h _=>cases ha;exact .qo (s _ _ h)
 | emp h=>cases ha;exact .dK (s _ _ h)
 | _=>cases ha
theorem wF(K:PySem.W.Frag){p:PV}{a:String}(ha:Ir p=some a):∀ {Ts:List String},(∀ t∈Ts,t∈tys)->PySem.W.kitAny K (.type a) (Ts.map Value.type)=some (Ts.any λt=>qp a t)
 | [],_=>rfl
 | t::r,h=>by
  have h1:=Ip K ha (h t List.mem_cons_self)
  have h2:=wF K ha (Ts:=r) λt q=>h t (List.mem_cons_of_mem _ q)
  simp only[List.map_cons,PySem.W.kitAny,h1,List.any_cons]
  cases qp a t with
  | true=>rfl
  | false=>exact h2
structure Gm (K:PySem.W.Frag) (C:Addr):Prop where
 cls:lU K C
 ha:PySem.W.findIn K (.ref C) "__class__" = some (some (.builtin "object.__class__"))
 hn:PySem.W.specialIn K (.builtin "object.__class__") "__get__" = some (some (.builtin "getset_descriptor.__get__"))
 HE:PySem.W.takesIn K (.builtin "object.__class__")=some true
 hm:PySem.W.mroIn K C (.type "object")=some true
def B0(b:String->Bool)(ob oe:Addr->Option Bool):PV->M PV
 | .obj C _=>fg ((ob C).map .bl)
 | .exc C _=>fg ((oe C).map .bl)
 | p=>fg ((Ir p).map λa=>.bl (b a))
section
variable{X:Cx}{E:St->XK}{e:Expr}{pos p px pt:Pos}{f:ai->M PV}{T:String}{x:Str}{C:Addr}{ob oe:Addr->Option Bool}
theorem Hk{H:Hp}{C:Addr}{fo:Option (List (Str×PV))}{Hs:Hp}{v:V}(s:bC Hs H)(r:Rep Hs (.exc C fo) v):∃ a fo',v=.ref a/\ExcAt H a C fo':=by
 cases r with
 | @xN a _ h=>exact⟨a,none,rfl,s _ _ h⟩
 | @xO a _ d _ vs h h2 _=>exact⟨a,some vs,rfl,d,s _ _ h,s _ _ h2⟩
def EI(b:String->Bool)(ob oe:Addr->Option Bool)(f:ai->M PV):ai->M PV:=λenv=>(f env).bind (B0 b ob oe)
theorem ub{b:String->Bool}{p:PV}{Q:PV->Prop}{F:EX->Prop}(h:ay (B0 b ob oe p) Q F):(∃ a,Ir p=some a/\Q (.bl (b a)))\/(∃ C fs k,p=.obj C fs/\ob C=some k/\Q (.bl k))\/∃ C fo k,p=.exc C fo/\oe C=some k/\Q (.bl k):=by
 cases p with
 | obj C fs =>
  obtain⟨z,e,q⟩:=ay.opt h
  obtain⟨k,e2,rfl⟩:=Option.map_eq_some_iff.mp e
  exact .inr (.inl ⟨C,fs,k,rfl,e2,q⟩)
 | exc C fo =>
  obtain⟨z,e,q⟩:=ay.opt h
  obtain⟨k,e2,rfl⟩:=Option.map_eq_some_iff.mp e
  exact .inr (.inr ⟨C,fo,k,rfl,e2,q⟩)
 | cp=>exact .inl ⟨_,rfl,h⟩
 | bl _=>exact .inl ⟨_,rfl,h⟩
 | int _=>exact .inl ⟨_,rfl,h⟩
 | str _=>exact .inl ⟨_,rfl,h⟩
 | tup _=>exact .inl ⟨_,rfl,h⟩
 | lst _=>exact .inl ⟨_,rfl,h⟩
 | jD _=>exact .inl ⟨_,rfl,h⟩
 | emp=>exact .inl ⟨_,rfl,h⟩
theorem AB{K:PySem.W.Frag}{Hs H:Hp}{C:Addr}{fs:List (Str×PV)}{v:V}(s:bC Hs H)(r:Rep Hs (.obj C fs) v)(c:Gm K C):jI K H v (.ref C):=by
 cases r with
 | obj h _=>exact .ins (s _ _ h) c.cls c.ha c.hn c.HE c.hm
theorem vt(hg:Gl X "isinstance")(hm:X.mg "isinstance" = none)(hT:PE X (.Name x pt) (tC (.ty T)))(ht:T∈tys)(Pt:∀ C b,ob C=some b->Gm X.K C/\PySem.W.kitOne X.K (.ref C) (.type T)=some b)(NA:∀ C b,oe C=some b->iR X.K C/\PySem.W.kitOne X.K (.ref C) (.type T)=some b)(he:PE X e (tE E f))
  (h1:autoParam (starEach [e,.Name x pt] X.env=(false,eval e X.env)::starEach [.Name x pt] X.env) aR._auto_1) (h2:autoParam (starEach [.Name x pt] X.env=(false,eval (.Name x pt) X.env)::starEach [] X.env) aR._auto_1) (Mz:autoParam ((backTo pos (starEach [.Name x pt] X.env)).any (·.1)=false) aR._auto_1) :
  PE X (.Call (.Name "isinstance" p) [e,.Name x pt] [] pos) (tE E (EI (λa=>qp a T) ob oe f)):=by
 refine(pR (eC.or Be B9) hg hm B8 (iu he (iu hT pE h2) h1) (by decide) (by decide) h1 Mz).imp fun σ H Q q=>cC (K:=ku Q) ku.g q λB H₀ Hs H1 env p v sr rp hp=>?_
 rcases ub hp with ⟨a,ha,q⟩ | ⟨C,fs,k,rfl,e,q⟩ | ⟨C,fo,k,rfl,e,q⟩
 ·exact .inl ⟨v,T,_,_,rfl,zO sr.gr.sub rp ha,Ip X.K ha ht,eG.flat q sr.gr.sub (.bl _)⟩
 ·exact .inl ⟨v,T,_,_,rfl,AB sr.gr.sub rp (Pt C k e).1,(Pt C k e).2,eG.flat q sr.gr.sub (.bl _)⟩
 ·obtain⟨a,fo',rfl,hx⟩:=Hk sr.gr.sub rp
  exact .inr ⟨a,C,fo',k,(NA C k e).1,hx,.inl ⟨T,rfl,(NA C k e).2⟩,eG.flat q sr.gr.sub (.bl _)⟩
theorem DE{e2:Expr}{t2:TE}{Ts:List String}(hg:Gl X "isinstance")(hm:X.mg "isinstance" = none)(hT:PE X e2 t2)(ht2:∀ σ H R,(∀ p,H p=none->R (.ref p) (upd H p (.tup (Ts.map V.ty))))->t2 σ H R)(ht:∀ t∈Ts,t∈tys)(Pt:∀ C b,ob C=some b->Gm X.K C/\PySem.W.kitAny X.K (.ref C) (Ts.map Value.type)=some b)(he:PE X e (tE E f))
  (h1:autoParam (starEach [e,e2] X.env=(false,eval e X.env)::starEach [e2] X.env) aR._auto_1) (h2:autoParam (starEach [e2] X.env=(false,eval e2 X.env)::starEach [] X.env) aR._auto_1) (Mz:autoParam ((backTo pos (starEach [e2] X.env)).any (·.1)=false) aR._auto_1) :
  PE X (.Call (.Name "isinstance" p) [e,e2] [] pos) (tE E (EI (λa=>Ts.any λt=>qp a t) ob (λ_=>none) f)):=by
 refine(pR y_ hg hm B8 (iu he (iu hT pE h2) h1) (by decide) (by decide) h1 Mz).imp fun σ H Q q=>cC (K:=ku Q) ku.g q λB H₀ Hs H1 env p v sr rp hp=>?_
 refine ht2 σ H1 _ λtp hn=>?_
 have g:=bP.new (o:=.tup (Ts.map V.ty)) sr.gr.sub hn
 rcases ub hp with ⟨a,ha,q⟩ | ⟨C,fs,k,rfl,e,q⟩ | ⟨C,fo,k,rfl,e,q⟩
 ·exact⟨v,tp,Ts,_,_,rfl,aA,zO g.sub (rp.mono g.st) ha,wF X.K ha ht,q _ _ _ g (.bl _)⟩
 ·exact⟨v,tp,Ts,_,_,rfl,aA,AB g.sub (rp.mono g.st) (Pt C k e).1,(Pt C k e).2,q _ _ _ g (.bl _)⟩
 ·cases e
end
end L2
namespace L2
open PySem PySem.Spec PyProof.Rows
open PySem.SeqAt (shaped noMix noMixAll)
mutual
def dat:PV->Option PyData
 | .cp=>some .none
 | .bl b=>some (.bool b)
 | .int i=>some (.int i)
 | .str x=>some (.str x)
 | .tup xs=>(me xs).map .tuple
 | .lst xs=>(me xs).map .list
 | .jD xs=>(me xs).map .list
 | .obj _ _=>none
 | .exc _ _=>none
 | .emp=>none
def me:List PV->Option (List PyData)
 | []=>some []
 | p::r=>(dat p).bind λd=>(me r).map (d::·)
end
section
variable{X:Cx}{L4:List (Addr×Obj)}{σ:St}{H:Hp}{s:Shared}
mutual
theorem Rep.reads{Hs:Hp}(I:Inv X L4 σ H s)(sm:bC Hs H):∀ {p:PV} {v:V} {u:Value} {d:PyData},Rep Hs p v->RelV v u->dat p=some d->∃ as,Reads s.heap u d as
 | _,_,u,d,.cp,r,e=>by
  cases e;cases (show u=Value.none from r);exact⟨_,.none⟩
 | _,_,u,d,.bl b,r,e=>by
  cases e;cases (show u=Value.bool b from r);exact⟨_,.bool b⟩
 | _,_,u,d,.int i,r,e=>by
  cases e;obtain⟨t,rfl⟩:=(show ∃ t,u=Value.int i t from r);exact⟨_,.int i t⟩
 | _,_,u,d,.str i,r,e=>by
  cases e;obtain⟨t,rfl⟩:=(show ∃ t,u=Value.str i t from r);exact⟨_,.str i t⟩
 | _,_,u,d,.tup (a:=a) ha hx,r,e=>by
  obtain⟨ds,e2,rfl⟩:=Option.map_eq_some_iff.mp (show (me _).map PyData.tuple=some d from e)
  cases (show u=Value.ref a from r)
  obtain⟨L7,r1,⟨o,ho,hc,n,hd⟩,_⟩:=I.tuple (gB.of (sm _ _ ha))
  obtain⟨as,ra⟩:=aS.reads I sm hx r1 e2
  exact⟨_,.tuple ho hc hd (by simpa using ra)⟩
 | _,_,u,d,.lst (a:=a) ha hx,r,e=>by
  obtain⟨ds,e2,rfl⟩:=Option.map_eq_some_iff.mp (show (me _).map PyData.list=some d from e)
  cases (show u=Value.ref a from r)
  obtain⟨L7,r1,⟨o,n,ho,hc,_,hd⟩,_⟩:=I.list (iw.of (sm _ _ ha))
  obtain⟨as,ra⟩:=aS.reads I sm hx r1 e2
  exact⟨_,.list ho hc hd (by simpa using ra)⟩
 | _,_,u,d,.jD (a:=a) (o:=ob) ha hx,r,e=>by
  obtain⟨ds,e2,rfl⟩:=Option.map_eq_some_iff.mp (show (me _).map PyData.list=some d from e)
  cases (show u=Value.ref a from r)
  obtain⟨L7,r1,⟨o,n,ho,hc,_,hd⟩,_⟩:=I.list (.inl (.inr ⟨ob,sm _ _ ha⟩))
  obtain⟨as,ra⟩:=aS.reads I sm hx r1 e2
  exact⟨_,.list ho hc hd (by simpa using ra)⟩
 | _,_,u,d,.obj _ _,r,e=>by cases e
 | _,_,u,d,.xN _,r,e=>by cases e
 | _,_,u,d,.xO _ _ _,r,e=>by cases e
 | _,_,u,d,.emp _,r,e=>by cases e
theorem aS.reads{Hs:Hp}(I:Inv X L4 σ H s)(sm:bC Hs H):∀ {p:List PV} {v:List V} {u:List Value} {d:List PyData},aS Hs p v->Vals v u->me p=some d->∃ as,ReadsAll s.heap u d as
 | _,_,_,_,.nil,.nil,e=>by cases e;exact⟨_,.nil⟩
 | _,_,_,d,.cons (p:=p) (ps:=ps) h hr,.cons r rr,e=>by
  obtain⟨d1,e1,e2⟩:=Option.bind_eq_some_iff.mp (show (dat p).bind (λd=>(me ps).map (d::·))=some d from e)
  obtain⟨ds,e3,rfl⟩:=Option.map_eq_some_iff.mp e2
  obtain⟨as,ra⟩:=Rep.reads I sm h r e1
  obtain⟨bs,rb⟩:=aS.reads I sm hr rr e3
  exact⟨_,.cons ra rb⟩
end
end
def FP(d e:PyData):M Bool:=cV (shaped d=true/\shaped e=true/\noMix d e=true) (M.ok (same d e))
def p9(o:Bool->PV)(p q:PV):M PV:=match dat p,dat q with
 | some d,some e=>(FP d e).bind λb=>M.ok (o b)
 | _,_=>none
def pU:PV->PV->M PV:=p9 λb=>.bl b
def p6:PV->PV->M PV:=p9 λb=>.bl (!b)
def AG(o:Bool->Bool):R2:=λx y H Q=>∃ Hs p q d e,bC Hs H/\Rep Hs p x/\Rep Hs q y/\dat p=some d/\dat q=some e/\shaped d=true/\shaped e=true/\noMix d e=true/\Q (.bl (o (same d e))) H
section
variable{X:Cx}{E:St->XK}
theorem By(hu:X.A.units+64<cLine):h9 X (compareOp .Eq) (AG id):=by
 intro L4 s σ H x y v u Q I rx ry h
 obtain⟨Hs,p,q,d,e,sm,rp,rq,hd,he,h1,h2,h3,hq⟩:=h
 obtain⟨as,ra⟩:=Rep.reads I sm rp rx hd
 obtain⟨bs,rb⟩:=Rep.reads I sm rq ry he
 exact eq_dataH_same ra rb h1 h2 hu h3 (vH I hq rfl)
theorem zM(hu:X.A.units+64<cLine):h9 X (compareOp .NotEq) (AG not):=by
 intro L4 s σ H x y v u Q I rx ry h
 obtain⟨Hs,p,q,d,e,sm,rp,rq,hd,he,h1,h2,h3,hq⟩:=h
 obtain⟨as,ra⟩:=Rep.reads I sm rp rx hd
 obtain⟨bs,rb⟩:=Rep.reads I sm rq ry he
 exact ne_dataH_same ra rb h1 h2 hu h3 (vH I hq rfl)
theorem BH{o:Bool->Bool}:lV E (AG o) (p9 λb=>.bl (o b)):=by
 intro σ Hs H p q v u Q s rp rq h
 unfold p9 at h
 split at h
 ·rename_i d e hd he
  have h':=ay.bind h
  obtain⟨⟨h1,h2,h3⟩,h⟩:=ay.cV h'
  exact⟨Hs,p,q,d,e,s,rp,rq,hd,he,h1,h2,h3,eG.flat h s (.bl _)⟩
 ·exact h.elim
theorem EA:lV E (AG id) pU:=BH
theorem Ex:lV E (AG not) p6:=BH
end
def lx(xs:List PV)(lo hi:Option Int):List PV:=(xs.drop (HT.dw xs.length 0 lo)).take (HT.dw xs.length xs.length hi-HT.dw xs.length 0 lo)
theorem aS.cut{H:Hp}{xs:List PV}{vs:List V}(r:aS H xs vs)(lo hi:Option Int):aS H (lx xs lo hi) (tX vs lo hi):=by
 unfold lx tX
 rw[r.length]
 exact(r.drop _).take _
abbrev Jg(Q:Option Int->Hp->Prop):Hp->Hp->Option Int->Prop:=λHs H k=>∀ L9 H',bP Hs H L9 H'->Q k H'
def Jx(E:St->XK)(g:ai->M (Option Int)):TO:=fun σ H Q=>tG E g (Jg Q) σ H
theorem PO.imp{X:Cx}{e:Option Expr}{t t':TO}(h:PO X e t)(i:∀ σ H Q,t' σ H Q->t σ H Q):PO X e t':=λL4 s σ H Q I q=>h L4 s σ H Q I (i σ H Q q)
def Hy:PV->M (Option Int)
 | .int i=>M.ok (some i)
 | _=>none
def Fw:ai->M (Option Int):=λ_=>M.ok none
def iJ(f:ai->M PV):ai->M (Option Int):=λenv=>(f env).bind Hy
section
variable{X:Cx}{E:St->XK}{e:Expr}{lo hi:Option Expr}{pos p2:Pos}{f:ai->M PV}{gl gh:ai->M (Option Int)}
theorem Jg.g{Q:Option Int->Hp->Prop}:KG (Jg Q):=λHs H L9 H' b k g Mg H2 g2=>k Mg H2 (g.trans g2)
theorem Cv:PO X none (Jx E Fw):=D6.imp fun σ H Q q=>by
 obtain⟨B,H₀,Hs,env,sr,q⟩:=q
 exact q Hs H (.refl sr.gr.sub)
theorem k9(he:PE X e (tE E f)):PO X (some e) (Jx E (iJ f)):=(DS he).imp fun σ H Q q=>cC (K:=Jg Q) Jg.g q λB H₀ Hs H1 env p v sr rp hp=>by
 cases rp with
 | int i=>exact⟨i,rfl,hp Hs H1 (.refl sr.gr.sub)⟩
 | _=>exact hp.elim
end
def h_(xs:List PV):List PV:=xs.mapIdx λi x=>.tup [.int (i:Nat),x]
section
variable{E:St->XK}{K:PySem.W.Frag}{fs:ai->M (List PV)}
theorem rf{a:Addr}{Md:Hp}{xs:List PV}{vs:List V}(hq:∀ L9 H',bC Md L9->bC L9 H'->iw K H' a vs)(hr:aS Md xs vs):jL (G5 K a) Md (h_ xs) where
 stop:=λi Hs H s1 s2 hi=>by
  unfold h_ at hi
  rw[List.length_mapIdx,hr.length] at hi
  exact⟨vs,hq Hs H s1 s2,hi⟩
 go:=λi Hs H s1 s2 hi=>by
  unfold h_ at hi
  rw[List.length_mapIdx] at hi
  obtain⟨v,e,_⟩:=hr.get (List.getElem?_eq_getElem hi)
  exact⟨vs,v,hq Hs H s1 s2,e⟩
 tq:=λi Hs H x H2 s1 s2 hi y=>by
  unfold h_ at hi
  rw[List.length_mapIdx] at hi
  obtain⟨v,e,r⟩:=hr.get (List.getElem?_eq_getElem hi)
  obtain⟨pa,v',hn,rfl,rfl,y1⟩:=y
  have z1:=y1 vs (hq Hs H s1 s2)
  rw[e] at z1;cases z1
  have gr:=bP.new (o:=.tup [.int (i:Nat),v]) s2 hn
  refine⟨.tup [.int (i:Nat),xs[i]],_,?_,gr,.tup aA (.cons (.int _) (.cons ((r.mono s1).mono gr.st) .nil))⟩
  unfold h_
  rw[List.getElem?_mapIdx,List.getElem?_eq_getElem hi]
  rfl
end
end L2
namespace L2
open PySem PySem.Spec PyProof.Rows
def Cr(lo st:Int)(n:Nat):It:=⟨λi _=>i<n,λi H x H'=>H'=H/\x=.int (lo+(i:Nat)*st),λi _=>n<=i⟩
theorem uH{P:Program}{w:World}{K:PySem.W.Frag}{tg:Expr}(it:Addr)(lo st:Int)(n:Nat):Turn P w K tg (Cr lo st n) [it] it (λi h=>IsRangeIter h it (lo+(i:Nat)*st) ((n:Int)-(i:Nat)) st) where
 mem:=by simp
 obj:=λi h st b hb=>by
  have e:b=it:=by simpa using hb
  subst e
  exact⟨_,st,λv z=>by
   have z':Data.fields _=Data.cell v:=z
   cases z'⟩
 keep:=λi h h' st k=>k it (by simp) _ st
 item:=by
  intro X hP hw hK hc i L4 s σ H E I hf M3 hg
  subst hP hw hK
  obtain⟨f0,f1,f2,f3,f4,f5⟩:=hf it (by simp)
  have W:=Walks.range (prog:=X.prog) (w:=X.w) (I.ok.hd hc) it lo st n
  refine W.item i s _ _ hg M3 λv h' tk hv PM kk=>?_
  obtain⟨t,rfl⟩:=hv
  have I1:Inv X L4 σ H { s with heap:=h',toks:=tk }:=I.turned (λb o hb e=>kk b o (by simpa using hb) e) f0 f1 f3 f4 f5
  exact⟨_,rfl,wZ (s:={ s with heap:=h',toks:=tk }) (n := "range_iterator") PM rfl rfl (by decide) ⟨.int (lo+(i:Nat)*st),H,I1,⟨t,rfl⟩,⟨rfl,rfl⟩,PM,λb hb=>(hf b hb).1⟩⟩
 done:=by
  intro X hP hw hK hc i L4 s σ H E I hf M3 hg
  subst hP hw hK
  obtain⟨f0,f1,f2,f3,f4,f5⟩:=hf it (by simp)
  exact wpAny_pyNext_range_end (I.ok.hd hc) M3 (by have:n<=i:=hg;omega) λh' eb=>⟨rfl,I.turned (t':=s.toks) (λb o hb e=>eb b o hb e) f0 f1 f3 f4 f5⟩
 self:=λ_ _ _ _ _ st h=>wpAny_pyIter_rangeiter st h
theorem rG(a b c:Int):0<=Builtin.Range.rangeSize a b c:=by
 unfold Builtin.Range.rangeSize
 split
 ·split
  ·have:=Int.ediv_nonneg (a:=b-a-1) (b:=c) (by omega) (by omega);omega
  ·omega
 ·split
  ·have:=Int.ediv_nonneg (a:=a-b-1) (b:=-c) (by omega) (by omega);omega
  ·omega
section
variable{X:Cx}{tg:Expr}
theorem yP{L4:List (Addr×Obj)}{σ:St}{H:Hp}{s:Shared}{R:It->Hp->Prop}{E:Value->Shared->Prop}{lo hi st:Int}{t u v:Tok}{tk:Nat}(I:Inv X L4 σ H s)(hsm:Builtin.Range.small lo hi st=true)
  (q:R (Cr lo st (Builtin.Range.rangeSize lo hi st).toNat) H):wpAny (model X.prog X.w) X.A (pyIter (.ref s.heap.objs.size)) (J9 X L4 σ tg R) E { s with heap:=s.heap.push { cls:=.type "range", data:=.fields #[.int lo t,.int hi u,.int st v] },toks:=tk }:=by
 refine wpAny_pyIter_range (IsRange.new ..) hsm ?_
 have I1:Inv X L4 σ H { s with heap:=s.heap.push { cls:=.type "range", data:=.fields #[.int lo t,.int hi u,.int st v] },toks:=tk }:=I.kept λb o e=>Heap.get?_push_of_some _ e
 refine⟨(s.heap.push { cls:=.type "range", data:=.fields #[.int lo t,.int hi u,.int st v] }).objs.size,[(s.heap.push { cls:=.type "range", data:=.fields #[.int lo t,.int hi u,.int st v] }).objs.size],_,_,H,rfl,
  I1.kept (t':=tk) λb o e=>Heap.get?_push_of_some _ e,uH _ lo st (Builtin.Range.rangeSize lo hi st).toNat,?_,λb hb=>?_,q⟩
 ·have e1:lo+((0:Nat):Int)*st=lo:=by simp
  have e2:(((Builtin.Range.rangeSize lo hi st).toNat:Nat):Int)-((0:Nat):Int)=Builtin.Range.rangeSize lo hi st:=by have:=rG lo hi st;omega
  show IsRangeIter _ _ (lo+((0:Nat):Int)*st) ((((Builtin.Range.rangeSize lo hi st).toNat:Nat):Int)-((0:Nat):Int)) st
  rw[e1,e2]
  exact Heap.get?_push_size _ rfl
 ·have e:b=(s.heap.push { cls:=.type "range", data:=.fields #[.int lo t,.int hi u,.int st v] }).objs.size:=by simpa using hb
  subst e
  exact I1.sI (Nat.le_refl _) (I1.bK.fresh (Nat.le_refl _))
def C3(i j k:Int):Bool:=decide (k≠0)&&decide (k.natAbs<1073741824)&&Builtin.Range.small i j k
def Ek(ta:TA):TI:=fun σ H R=>ta σ H λvs H1=>∃ i j k:Int,vs=[.int i,.int j,.int k]/\C3 i j k=true/\R (Cr i k (Builtin.Range.rangeSize i j k).toNat) H1
theorem qS{a b c:Expr}{ta:TA}{p pos:Pos}(hg:Gl X "range")(hm:X.mg "range" = none)(ha:PA X [a,b,c] ta)(hs:autoParam (starEach [a,b,c] X.env=[(false,eval a X.env),(false,eval b X.env),(false,eval c X.env)]) aR._auto_1)(Nm:autoParam (starEach [b,c] X.env=[(false,eval b X.env),(false,eval c X.env)]) aR._auto_1) :
  PI X tg (.Call (.Name "range" p) [a,b,c] [] pos) (Ek ta):=by
 intro L4 s σ H R I h
 refine Call_ (jn I hg hm boot_range (PyProof.Rows.callWith_type1 (c7 (ha pos L4 s σ H _ I h) λus s1 ⟨vs,H1,I1,r1,q1⟩=>?_) (by rw[hs,Nm]) (by rw[Nm];rfl)))
 obtain⟨i,j,k,e,hc,q⟩:=q1
 subst e
 cases r1 with
 | cons r rr =>
  cases rr with
  | cons r' rr =>
   cases rr with
   | cons PL rr =>
    cases rr
    obtain⟨t,rfl⟩:=r
    obtain⟨t',rfl⟩:=r'
    obtain⟨t'',rfl⟩:=PL
    unfold C3 at hc
    rw[Bool.and_eq_true,Bool.and_eq_true] at hc
    exact call_range_3 (of_decide_eq_true hc.1.1) (yP I1 hc.2 q) (.inl (PyProof.noPylong_small (of_decide_eq_true hc.1.2)))
end
def yZ:List PV->M (List PV)
 | [.int i,.int j,.int k]=>cV (C3 i j k=true) (M.ok ((List.range (Builtin.Range.rangeSize i j k).toNat).map λ(n:Nat)=>.int (i+n*k)))
 | _=>none
section
variable{E:St->XK}{K:PySem.W.Frag}{fs:ai->M (List PV)}
theorem xU{lo st:Int}{n:Nat}{Md:Hp}:jL (Cr lo st n) Md ((List.range n).map λ(i:Nat)=>PV.int (lo+(i:Int)*st)) where
 stop:=λi Hs H s1 s2 hi=>show n<=i by simpa using hi
 go:=λi Hs H s1 s2 hi=>show i<n by simpa using hi
 tq:=λi Hs H x H2 s1 s2 hi y=>by
  obtain⟨rfl,rfl⟩:=y
  have O7:i<n:=by simpa using hi
  exact⟨.int (lo+(i:Int)*st),Hs,by simp[O7],.refl s2,.int _⟩
theorem xH{ps:List PV}{Q:List PV->Prop}{F:EX->Prop}(h:ay (yZ ps) Q F):∃ i j k,ps=[.int i,.int j,.int k]/\C3 i j k=true/\Q ((List.range (Builtin.Range.rangeSize i j k).toNat).map λ(n:Nat)=>.int (i+n*k)):=by
 unfold yZ at h
 split at h
 ·obtain⟨hc,h⟩:=ay.cV h
  exact⟨_,_,_,rfl,hc,h⟩
 ·exact h.elim
theorem aS.three{H:Hp}{p q r:PV}{vs:List V}(h:aS H [p,q,r] vs):∃ v u w,vs=[v,u,w]/\Rep H p v/\Rep H q u/\Rep H r w:=by
 cases h with
 | cons h r=>obtain⟨u,w,rfl,h2,h3⟩:=r.two;exact⟨_,_,_,rfl,h,h2,h3⟩
theorem tH:zg E (Ek (tL E fs)) (jH yZ fs):=by
 intro σ H R q
 refine dP (K:=KI R) KI.g q λB H₀ Hs H1 env ps v sr rp hp=>?_
 obtain⟨i,j,k,rfl,hc,hp⟩:=xH hp
 obtain⟨w,u,z,rfl,NI,ru,rz⟩:=rp.three
 cases NI
 cases ru
 cases rz
 exact⟨i,j,k,rfl,hc,hp _ Hs H1 (.refl sr.gr.sub) xU⟩
end
end L2
namespace L2
open PySem PySem.Spec PyProof.Rows
def jB:List PV->List PV->List PV->List PV
 | x::xs,y::ys,z::zs=>.tup [x,y,z]::jB xs ys zs
 | _,_,_=>[]
theorem rn:∀ {xs ys zs:List PV} {i:Nat} (h1:i<xs.length) (h2:i<ys.length) (h3:i<zs.length),(jB xs ys zs)[i]?=some (.tup [xs[i],ys[i],zs[i]])
 | x::xs,y::ys,z::zs,0,_,_,_=>rfl
 | x::xs,y::ys,z::zs,i+1,h1,h2,h3=>by
  show (jB xs ys zs)[i]?=_
  exact rn (xs:=xs) (ys:=ys) (zs:=zs) (i:=i) (by simpa using h1) (by simpa using h2) (by simpa using h3)
 | [],_,_,_,h1,_,_=>by simp at h1
 | _::_,[],_,_,_,h2,_=>by simp at h2
 | _::_,_::_,[],_,_,_,h3=>by simp at h3
theorem ke:∀ {xs ys zs:List PV},(jB xs ys zs).length=min xs.length (min ys.length zs.length)
 | x::xs,y::ys,z::zs=>by
  show (jB xs ys zs).length+1=_
  rw[ke]
  simp only[List.length_cons]
  omega
 | [],_,_=>by simp[jB]
 | _::_,[],_=>by simp[jB]
 | _::_,_::_,[]=>by simp[jB]
def yY:List PV->M (List PV)
 | [p,q,r]=>match bO p,bO q,bO r with
  | some xs,some ys,some zs=>M.ok (jB xs ys zs)
  | _,_,_=>none
 | _=>none
section
variable{E:St->XK}{K:PySem.W.Frag}{fs:ai->M (List PV)}
theorem za{b1 b2 b3:Bool}{a1 a2 a3:Addr}{Md:Hp}{xs ys zs:List PV}{vs us ws:List V}(ML:∀ L9 H',bC Md L9->bC L9 H'->kC K H' b1 a1 vs)(Of:aS Md xs vs)(MF:∀ L9 H',bC Md L9->bC L9 H'->kC K H' b2 a2 us)(Og:aS Md ys us)
  (NR:∀ L9 H',bC Md L9->bC L9 H'->kC K H' b3 a3 ws) (Pw:aS Md zs ws):jL (Kt K b1 b2 b3 a1 a2 a3) Md (jB xs ys zs) where
 stop:=λi Hs H s1 s2 hi=>by
  rw[ke,Of.length,Og.length,Pw.length] at hi
  exact⟨vs,us,ws,ML Hs H s1 s2,MF Hs H s1 s2,NR Hs H s1 s2,by omega⟩
 go:=λi Hs H s1 s2 hi=>by
  rw[ke] at hi
  obtain⟨v,e,_⟩:=Of.get (List.getElem?_eq_getElem (show i<xs.length by omega))
  obtain⟨u,e',_⟩:=Og.get (List.getElem?_eq_getElem (show i<ys.length by omega))
  obtain⟨w,e'',_⟩:=Pw.get (List.getElem?_eq_getElem (show i<zs.length by omega))
  exact⟨vs,us,ws,v,u,w,ML Hs H s1 s2,MF Hs H s1 s2,NR Hs H s1 s2,e,e',e''⟩
 tq:=λi Hs H x H2 s1 s2 hi y=>by
  rw[ke] at hi
  have l1:i<xs.length:=by omega
  have l2:i<ys.length:=by omega
  have l3:i<zs.length:=by omega
  obtain⟨v,e,r⟩:=Of.get (List.getElem?_eq_getElem l1)
  obtain⟨u,e',r'⟩:=Og.get (List.getElem?_eq_getElem l2)
  obtain⟨w,e'',PL⟩:=Pw.get (List.getElem?_eq_getElem l3)
  obtain⟨pa,v',u',w',hn,rfl,rfl,y1,y2,y3⟩:=y
  have z1:=y1 vs (ML Hs H s1 s2)
  have z2:=y2 us (MF Hs H s1 s2)
  have z3:=y3 ws (NR Hs H s1 s2)
  rw[e] at z1;cases z1
  rw[e'] at z2;cases z2
  rw[e''] at z3;cases z3
  have gr:=bP.new (o:=.tup [v,u,w]) s2 hn
  exact⟨_,_,rn l1 l2 l3,gr,.tup aA (.cons ((r.mono s1).mono gr.st) (.cons ((r'.mono s1).mono gr.st) (.cons ((PL.mono s1).mono gr.st) .nil)))⟩
theorem yA{ps:List PV}{Q:List PV->Prop}{F:EX->Prop}(h:ay (yY ps) Q F):∃ p q r xs ys zs,ps=[p,q,r]/\bO p=some xs/\bO q=some ys/\bO r=some zs/\Q (jB xs ys zs):=by
 unfold yY at h
 split at h
 ·split at h
  ·exact⟨_,_,_,_,_,_,rfl,by assumption,by assumption,by assumption,h⟩
  ·exact h.elim
 ·exact h.elim
theorem Bj:zg E (EJ K (tL E fs)) (jH yY fs):=by
 intro σ H R q
 refine dP (K:=KI R) KI.g q λB H₀ Hs H1 env ps v sr rp hp=>?_
 obtain⟨p,q,r,xs,ys,zs,rfl,e1,e2,e3,hp⟩:=yA hp
 obtain⟨w,u,z,rfl,NI,ru,rz⟩:=rp.three
 obtain⟨b1,a1,vs,rfl,ML,Of⟩:=kd (K:=K) sr.gr.sub NI e1
 obtain⟨b2,a2,us,rfl,MF,Og⟩:=kd (K:=K) sr.gr.sub ru e2
 obtain⟨b3,a3,ws,rfl,NR,Pw⟩:=kd (K:=K) sr.gr.sub rz e3
 exact⟨b1,b2,b3,a1,a2,a3,rfl,⟨vs,ML Hs H1 (λ_ _ z=>z) sr.gr.sub⟩,⟨us,MF Hs H1 (λ_ _ z=>z) sr.gr.sub⟩,⟨ws,NR Hs H1 (λ_ _ z=>z) sr.gr.sub⟩,hp _ Hs H1 (.refl sr.gr.sub) (za ML Of MF Og NR Pw)⟩
end
end L2
namespace L2
open PySem PySem.Spec PyProof.Rows
def qK(i j k:Nat):PV->ai->M ai
 | .tup [p,q,r],env=>M.ok (((env.set i (some (.sh p))).set j (some (.sh q))).set k (some (.sh r)))
 | _,_=>none
theorem Dh{E:XK}{K:PySem.W.Frag}{i j k:Nat}:Eb E (iQ K 3 (bG (aH i) (bG (aH j) (bG (aH k) iW)))) (qK i j k):=by
 intro B H₀ Hs H σ env p v Q Z sr r h
 cases r with
 | @tup a xs vs ha hx =>
  match xs,hx with
  | [p,q,r],hx =>
   obtain⟨v,u,w,rfl,rp,rq,rr⟩:=hx.three
   exact⟨a,[v,u,w],rfl,gB.of (sr.gr.sub _ _ ha),rfl,v,[u,w],rfl,u,[w],rfl,w,[],rfl,rfl,h _ (((sr.set rp).set rq).set rr)⟩
  | [],_=>exact h.elim
  | [_],_=>exact h.elim
  | [_,_],_=>exact h.elim
  | _::_::_::_::_,_=>exact h.elim
 | _=>exact h.elim
theorem vF{i j k:Nat}:pL (qK i j k):=λp env e h n=>by
 unfold qK at h
 split at h
 ·cases h;exact kf (kf (kf n))
 ·cases h
section
variable{X:Cx}{E:XK}{e:Expr}{es:List Expr}{pos pos' px:Pos}{fs:ai->M (List PV)}{f h:ai->M PV}{i:Nat}{x:Str}
def ownAt(i:Nat)(env:ai):M (List PV):=match env[i]? with
 | some (some (.ow xs))=>M.ok xs
 | _=>none
theorem ay.own{i:Nat}{env:ai}{Q:List PV->Prop}{F:EX->Prop}(h:ay (ownAt i env) Q F):∃ xs,env[i]?=some (some (.ow xs))/\Q xs:=by
 unfold ownAt at h
 split at h
 ·exact⟨_,by assumption,h⟩
 ·exact h.elim
def EL(i:Nat)(xs:List PV)(p:PV)(env:ai):PV->M Out
 | .int n=>match zh xs.length n with
  | some j=>M.ok (.nx (env.set i (some (.ow (xs.set j p)))))
  | none=>none
 | _=>none
def HX(i:Nat)(g f:ai->M PV):ai->M Out:=λenv=>(f env).bind λp=>(ownAt i env).bind λxs=>(g env).bind (EL i xs p env)
theorem Eh{ie:Expr}(hi:X.N[i]?=some x)(hv:Ce X.env.scope x)(hk:PE X ie (tE (λ_=>E) h))(he:PE X e (tE (λ_=>E) f))(hd:autoParam ((x==("__debug__" : Str))=false) aD._auto_1)(Ng:autoParam ((x==("__classdict__" : Str))=false) aD._auto_1)
  (ha:autoParam (∀ v,assign (.Subscript (.Name x px) ie pos') X.env v=(do
   let ov ← holding [v] (eval (.Name x px) X.env)
   let iv ← holding [v,ov] (eval ie X.env)
   standAt pos'
   holding [v,ov,iv] (setItem ov iv v)
   release [v,ov,iv] [])) aI._auto_1)
  (hs:autoParam (swapsWithSole [.Subscript (.Name x px) ie pos'] e pos.line X.env=pure false) aR._auto_1) (hw:autoParam (swappedStores [.Subscript (.Name x px) ie pos'] e X.env=pure none) aR._auto_1)
  (h1:autoParam ((assignEach [.Subscript (.Name x px) ie pos'] X.env).map (·.2)=[assign (.Subscript (.Name x px) ie pos') X.env]) aR._auto_1):PS X (.Assign [.Subscript (.Name x px) ie pos'] e pos) (tS E (HX i h f)):=by
 refine(GX he (Ha (mf hi hv hd Ng) hk set_list ha) hs hw h1).imp λD σ H q=>jM q λB H₀ Hs H1 env p v sr rp hp=>?_
 obtain⟨xs,ex,hp⟩:=ay.own (ay.bind hp)
 obtain⟨a,vs,h1,h2,h3,h4,h5⟩:=sr.ow i xs ex
 refine⟨.ref a,h1,B,H₀,Hs,env,sr,(ay.bind hp).imp (λk hk w Mg H2 g2 rk=>?_) λe he=>he.grow sr.gr⟩
 have My:=sr.grow g2
 cases rk with
 | int n =>
  have ON:ay (match zh xs.length n with | some j=>M.ok (Out.nx (env.set i (some (.ow (xs.set j p))))) | none=>none) (KS D B H₀) (XW E B H₀):=hk
  split at ON
  ·rename_i j ej
   exact⟨a,vs,n,j,rfl,rfl,g2.al _ _ h2,by rw[← h5.length];exact ej,ON σ Mg _ (My.put ex h1 ((h5.mono g2.st).set (rp.mono g2.st) j))⟩
  ·exact ON.elim
 | _=>exact hk.elim
end
theorem KO.gr{Q:VK}:KG (KO Q):=λHs H L9 H' b k g vs p Mg H2 g2 r n=>k vs p Mg H2 (g.trans g2) r n
section
variable{X:Cx}{E:St->XK}{k n:Nat}{f C:Addr}{fd:FuncData}{ps:List Str}{sem:List PV->M (List PV)}{m:Str}{p pos apos Mm:Pos}{e o:Expr}{es:List Expr}{fs:ai->M (List PV)}{g:ai->M PV}
end
end L2
namespace L2
open PySem PySem.Spec PyProof.Rows
mutual
def oH:PV->Bool
 | .cp=>true
 | .bl _=>true
 | .int _=>true
 | .str _=>true
 | .tup xs=>mH xs
 | _=>false
def mH:List PV->Bool
 | []=>true
 | p::r=>oH p&&mH r
end
mutual
theorem Rep.away{Hs:Hp}{a:Addr}{ws:List V}(ha:Hs a=some (.lst ws)):∀ {p:PV} {v:V},Rep Hs p v->oH p=true->Rep (rem Hs a) p v
 | _,_,.cp,_=>.cp
 | _,_,.bl b,_=>.bl b
 | _,_,.int b,_=>.int b
 | _,_,.str b,_=>.str b
 | _,_,.tup (a:=c) h r,n=>by
  have nc:c≠a:=λz=>by subst z;rw[ha] at h;cases h
  exact .tup (by unfold rem;rw[if_neg nc];exact h) (r.away ha n)
 | _,_,.lst _ _,n=>by cases n
 | _,_,.jD _ _,n=>by cases n
 | _,_,.obj _ _,n=>by cases n
 | _,_,.xN _,n=>by cases n
 | _,_,.xO _ _ _,n=>by cases n
theorem aS.away{Hs:Hp}{a:Addr}{ws:List V}(ha:Hs a=some (.lst ws)):∀ {p:List PV} {v:List V},aS Hs p v->mH p=true->aS (rem Hs a) p v
 | _,_,.nil,_=>.nil
 | _,_,.cons h r,n=>by
  have n':=Bool.and_eq_true_iff.mp (show (oH _&&mH _)=true from n)
  exact .cons (h.away ha n'.1) (r.away ha n'.2)
end
def Bu:M PV->M PV
 | some (.ok p)=>cV (oH p=true) (M.ok p)
 | _=>none
theorem ay.Bu{r:M PV}{Q:PV->Prop}{E:EX->Prop}(h:ay (L2.Bu r) Q E):ay r (λp=>oH p=true/\Q p) (λ_=>False):=by
 cases r with
 | none=>exact h
 | some r=>cases r with
  | error e=>exact h
  | ok p =>
   obtain⟨n,h⟩:=ay.cV h
   exact⟨n,h⟩
theorem bP.back{Hs H L9 H':Hp}{a:Addr}{ws:List V}(h1:Hs a=none)(hH:H a=some (.lst ws))(s:bC Hs H)(g:bP (upd Hs a (.lst ws)) H L9 H'):bP Hs H (rem L9 a) H'/\L9 a=some (.lst ws):=by
 have e:L9 a=some (.lst ws):=g.st _ _ aA
 refine⟨⟨λc u q=>?_,g.al,λc u q=>?_,λc u q1 q2=>?_⟩,e⟩
 ·have nc:c≠a:=λz=>by subst z;rw[h1] at q;cases q
  unfold rem;rw[if_neg nc]
  exact g.st c u (by rw[aw nc];exact q)
 ·unfold rem at q
  split at q
  ·cases q
  ·exact g.sub c u q
 ·unfold rem
  by_cases nc:c=a
  ·rw[if_pos nc]
  ·rw[if_neg nc]
   exact g.nw c u (by rw[aw nc];exact q1) q2
theorem SR.lend{B H₀ Hs H:Hp}{σ:St}{env:ai}{i:Nat}{xs:List PV}(r:SR B H₀ Hs H σ env)(e:env[i]?=some (some (.ow xs))):∃ a vs,Hs a=none/\H a=some (.lst vs)/\SR B H₀ (upd Hs a (.lst vs)) H σ (sR i env):=by
 obtain⟨a,vs,h1,h2,h3,h4,h5⟩:=r.ow i xs e
 refine⟨a,vs,h3,h2,?_⟩
 have ne:∀ c u,Hs c=some u->c≠a:=λc u q z=>by rw[z,h3] at q;cases q
 have Mu:bC Hs (upd Hs a (.lst vs)):=λc u q=>by rw[aw (ne c u q)];exact q
 unfold sR
 rw[e]
 refine⟨⟨λc u q=>Mu c u (r.gr.st c u q),r.gr.al,λc u q=>?_,λc u q1 q2=>?_⟩,by rw[List.length_set];exact r.len,λj q ej=>?_,λj ys ej=>?_,λj k ys zs b nj e1 e2 e3 e4=>?_,λj ba C fs ej=>?_,λj k _ _ C D fs gs e1 e2=>?_⟩
 ·by_cases z:c=a
  ·subst z;rw[aA] at q;cases q;exact h2
  ·rw[aw z] at q;exact r.gr.sub c u q
 ·have z:c≠a:=λz=>by rw[z,h4] at q2;cases q2
  rw[aw z];exact r.gr.nw c u q1 q2
 ·rw[List.getElem?_set] at ej
  by_cases z:i=j
  ·subst z
   rw[if_pos rfl] at ej
   split at ej
   ·cases ej
    exact⟨.ref a,h1,.lst aA (h5.mono Mu)⟩
   ·cases ej
  ·rw[if_neg z] at ej
   obtain⟨v,q1,q2⟩:=r.sh j q ej
   exact⟨v,q1,q2.mono Mu⟩
 ·rw[List.getElem?_set] at ej
  by_cases z:i=j
  ·subst z
   rw[if_pos rfl] at ej
   split at ej <;> cases ej
  ·rw[if_neg z] at ej
   obtain⟨b,us,q1,q2,q3,q4,q5⟩:=r.ow j ys ej
   have nb:b≠a:=λw=>by subst w;exact r.sep i j xs ys b z e ej h1 q1
   exact⟨b,us,q1,q2,by rw[aw nb];exact q3,q4,q5.mono Mu⟩
 ·rw[List.getElem?_set] at e1 e2
  by_cases z:i=j
  ·subst z
   rw[if_pos rfl] at e1
   split at e1 <;> cases e1
  ·by_cases z2:i=k
   ·subst z2
    rw[if_pos rfl] at e2
    split at e2 <;> cases e2
   ·rw[if_neg z] at e1
    rw[if_neg z2] at e2
    exact r.sep j k ys zs b nj e1 e2 e3 e4
 ·rw[List.getElem?_set] at ej
  by_cases z:i=j
  ·subst z
   rw[if_pos rfl] at ej
   split at ej <;> cases ej
  ·rw[if_neg z] at ej
   obtain⟨dx,us,q1,q2,q3,q4,q5⟩:=r.bd j ba C fs ej
   have nb:ba≠a:=λw=>by subst w;rw[h2] at q2;cases q2
   exact⟨dx,us,q1,q2,by rw[aw nb];exact q3,q4,q5.mono Mu⟩
 ·rw[List.getElem?_set] at e1 e2
  by_cases z:i=j
  ·subst z
   rw[if_pos rfl] at e1
   split at e1 <;> cases e1
  ·by_cases z2:i=k
   ·subst z2
    rw[if_pos rfl] at e2
    split at e2 <;> cases e2
   ·rw[if_neg z] at e1
    rw[if_neg z2] at e2
    exact r.one j k _ _ C D fs gs e1 e2
def t7(i:Nat)(f:ai->M PV):ai->M PV:=λenv=>(ownAt i env).bind λ_=>Bu (f (sR i env))
section
variable{X:Cx}{E:St->XK}{e:Expr}{f:ai->M PV}{u:ai->M Bool}
theorem wD(i:Nat)(he:PE X e (tE E f)):PE X e (tE E (t7 i f)):=he.imp fun σ H Q q=>by
 obtain⟨B,H₀,Hs,env,sr,q⟩:=q
 obtain⟨xs,ex,q⟩:=ay.own (ay.bind q)
 obtain⟨a,vs,h3,h2,My⟩:=sr.lend ex
 refine⟨B,H₀,_,_,My,(ay.Bu q).imp (λp hp v L9 H' g r=>?_) λ_ z=>z.elim⟩
 obtain⟨g2,ea⟩:=bP.back h3 h2 sr.gr.sub g
 exact hp.2 v _ _ g2 (r.away ea hp.1)
end
end L2
namespace L2
open PySem PySem.Spec PyProof.Rows
def bM:PV->PV->M PV:=vE (λ_ j=>decide (j≠0/\j.natAbs.log2<9000)) λi j=>i.fdiv j
def dh:PV->PV->M PV:=vE (λ_ j=>decide (j≠0)) λi j=>i.fmod j
def Bx:PV->PV->M PV:=vE (λi j=>decide (0<=j/\j<=1000000/\i.natAbs<2^64)) λi j=>i^j.toNat
def AE:PV->PV->M PV:=BO λi j=>decide (i<j)
def Eg:PV->PV->M PV:=BO λi j=>decide (i<=j)
def Fz:PV->PV->M PV:=BO λi j=>decide (j<i)
def HF:PV->PV->M PV:=BO λi j=>decide (j<=i)
section
variable{E:St->XK}
theorem zS:lV E (rI AX λi j=>.int (i.fdiv j)) bM:=Dt
theorem DU:lV E (rI (λ_ j=>j≠0) λi j=>.int (i.fmod j)) dh:=Gb
theorem DX:lV E (rI GI λi j=>.int (i^j.toNat)) Bx:=EW
theorem wu:lV E (wK λi j=>.bl (decide (i<j))) AE:=sS
theorem o7:lV E (wK λi j=>.bl (decide (i<=j))) Eg:=sS
theorem Cc:lV E (wK λi j=>.bl (decide (j<i))) Fz:=sS
theorem AR:lV E (wK λi j=>.bl (decide (j<=i))) HF:=sS
end
def bq(n:Nat)(s:List PV->M PV):List PV->M PV:=λps=>cV (ps.length=n) (s ps)
theorem oP{n:Nat}{s:List PV->M PV}{ps:List PV}(h:bq n s ps≠none):ps.length=n:=by
 unfold bq cV at h
 split at h
 ·assumption
 ·exact(h rfl).elim
section
variable{P:Program}{w:World}{K:PySem.W.Frag}{mg:Str->Option Value}{base:Heap}
theorem Cb{k n:Nat}{f:Addr}{fd:FuncData}{ps:List Str}{s:List PV->M PV}(F:aP P w K mg base (bS P w) k f fd ps (dz n s)):aP P w K mg base (bS P w) k f fd ps (dz n (bq n s)) where
 len:=λvs H Q E h=>by
  obtain⟨h0,Hs,qs,sm,r,h⟩:=h
  exact F.len vs H Q E ⟨h0,Hs,qs,sm,r,(ay.cV h).2⟩
 run:=λA outer s H args us vs Q E hr e hb rv h=>by
  obtain⟨h0,Hs,qs,sm,r,h⟩:=h
  exact F.run A outer s H args us vs Q E hr e hb rv ⟨h0,Hs,qs,sm,r,(ay.cV h).2⟩
structure cZ (P:Program) (w:World) (K:PySem.W.Frag) (mg:Str->Option Value) (base:Heap) (n:Nat) (x:Str) (m:Nat) (sem:List PV->M PV):Prop where
 ex:∃ (f:Addr) (fd:FuncData) (ps:List Str),mg x=some (.ref f)/\PySem.W.keepIn K (.ref f)=true/\ps.length=m/\Binds K fd ps []/\aP P w K mg base (bS P w) n f fd ps (dz m (bq m sem))
theorem bh.LU{x qual:Str}{st:Stmt}{dv:Value}{f:Addr}{fd:FuncData}{N ps:List Str}{k:Nat}{g:ai->M Out}(F:bh K x qual st dv f fd)(S:cO N ps (bc st))
  (hb:∀ (Mp:Value) (A:Around) (outer:List Env) (s:Shared) (H:Hp) (E:XK),cD k (A.deeper (envOfC qual (bc st) s.heap.objs.size f Mp))->fw ((lF (bS P w) P w K mg base N qual (bc st) f Mp A outer s H E).out λ_=>E) (λ_=>E)->lW ((lF (bS P w) P w K mg base N qual (bc st) f Mp A outer s H E).out λ_=>E) (fb st) (tS E g)) :
  aP P w K mg base (bS P w) (k+1) f fd ps (dz ps.length (bq ps.length (ax N.length g))):=by
 obtain⟨oc,od,kV,doc,pm,an,Mp,ct,N1,rfl,lk,Ng⟩:=F.ex
 exact Cb (Fe lk Ng S λA outer s H E hr=>hb Mp A outer s H E hr (Eo rfl rfl))
end
section
variable{X:Cx}{E:St->XK}{n m k:Nat}{x:Str}{sem:List PV->M PV}{e:Expr}{es:List Expr}{fs:ai->M (List PV)}{p pos:Pos}
theorem cZ.call(F:cZ X.prog X.w X.K X.mg X.base n x m sem)(hr:cD k X.A)(hn:n<=k)(hg:Gl X x)(O:fw X E)(ha:PA X (e::es) (tL E fs))(M0:autoParam ((x==("__debug__" : Str))=false) aD._auto_1)(he:autoParam (starEach (e::es) X.env=(false,eval e X.env)::starEach es X.env) aR._auto_1)(Mz:autoParam ((backTo pos (starEach es X.env)).any (·.1)=false) aR._auto_1) :
  PE X (.Call (.Name x p) (e::es) [] pos) (tE E (af (bq m sem) fs)):=by
 obtain⟨f,fd,ps,h1,h2,h3,h4,h5⟩:=F.ex
 have:=CN (p:=p) (Nt:=[]) h5 (hr.mono hn) hg h1 h2 h4 .nil (λ_=>.nil) O (λND hp=>by rw[List.append_nil] at hp;exact oP hp) ha M0 he Mz
 refine this.imp fun σ H Q q=>?_
 have e:(λps=>bq m sem (ps++[]))=bq m sem:=by funext ps;rw[List.append_nil]
 rw[e];exact q
structure jG (P:Program) (w:World) (K:PySem.W.Frag) (mg:Str->Option Value) (base:Heap) (C:Addr) (n:Nat) (x:Str) (m:Nat) (sem:List PV->M PV):Prop where
 ex:∃ (f:Addr) (fd:FuncData) (ps:List Str),lU K C/\Meth K C x f/\Binds K fd ps []/\aP P w K mg base (bS P w) n f fd ps (dz m (bq m sem))
theorem jG.call{C:Addr}{o:Expr}{g:ai->M PV}{apos:Pos}{pl:Sem Bool}(F:jG X.prog X.w X.K X.mg X.base C n x m sem)(hr:cD k X.A)(hn:n<=k)(O:fw X E)(ho:PE X o (tE E g))(ha:PA X (e::es) (tL E fs))
  (Mu:autoParam (starEach (e::es) X.env=(false,eval e X.env)::starEach es X.env) aR._auto_1) (Mz:autoParam ((backTo pos (starEach es X.env)).any (·.1)=false) aR._auto_1)
  (ht:autoParam (eval (.Call (.Attribute o x apos) (e::es) [] pos) X.env=(do
   let ov ← eval o X.env
   standAt apos.atName
   let (f,first) ← holding [ov] (getMethod ov x pl)
   callWith pos f first (backTo pos (starEach (e::es) X.env)) (backToKw pos (keywordEach [] X.env)))) aR._auto_1) :
  PE X (.Call (.Attribute o x apos) (e::es) [] pos) (tE E (bp C x (bq m sem) g fs)):=by
 obtain⟨f,fd,ps,h1,h2,h3,h4⟩:=F.ex
 exact Cz ho h1 h2 h4 (hr.mono hn) h3 O (λND hp=>oP hp) ha Mu Mz ht
theorem jG.Jo{C:Addr}{o:Expr}{g:ai->M PV}{apos:Pos}{pl:Sem Bool}(F:jG X.prog X.w X.K X.mg X.base C n x m sem)(hr:cD k X.A)(hn:n<=k)(O:fw X E)(ho:PE X o (tE E g))
  (ht:autoParam (eval (.Call (.Attribute o x apos) [] [] pos) X.env=(do
   let ov ← eval o X.env
   standAt apos.atName
   let (f,first) ← holding [ov] (getMethod ov x pl)
   callWith pos f first (backTo pos (starEach [] X.env)) (backToKw pos (keywordEach [] X.env)))) aR._auto_1) :
  PE X (.Call (.Attribute o x apos) [] [] pos) (tE E (bp C x (bq m sem) g aj)):=by
 obtain⟨f,fd,ps,h1,h2,h3,h4⟩:=F.ex
 exact AU ho h1 h2 h4 (hr.mono hn) h3 O (λND hp=>oP hp) ht
end
structure vQ (P:Program) (w:World) (K:PySem.W.Frag) (mg:Str->Option Value) (base:Heap) (C:Addr) (n:Nat) (x:Str) (m:Nat) (Nt:List PV) (sem:Addr->List PV->M (List (Str×PV))):Prop where
 ex:∃ (f:Addr) (fd:FuncData) (ps:List Str) (ds:List Value) (MM:List V),mg x=some (.ref C)/\Mk K C f/\Binds K fd ps ds/\Vals MM ds/\(∀ H,aS H Nt MM)/\aP P w K mg base (bS P w) n f fd ps (EE m C sem)
def rQ(m:Nat)(sem:Addr->List PV->M (List (Str×PV))):Addr->List PV->M (List (Str×PV)):=λa ps=>cV (ps.length+1=m) (sem a ps)
theorem xI{P:Program}{w:World}{K:PySem.W.Frag}{mg:Str->Option Value}{base:Heap}{k n:Nat}{f C:Addr}{fd:FuncData}{ps:List Str}{s:Addr->List PV->M (List (Str×PV))}(F:aP P w K mg base (bS P w) k f fd ps (EE n C s)):aP P w K mg base (bS P w) k f fd ps (EE n C (rQ n s)) where
 len:=λvs H Q E h=>by
  obtain⟨h0,a,dx,us,Hs,H1,qs,e1,e2,e3,e4,e5,sm,r,h⟩:=h
  exact F.len vs H Q E ⟨h0,a,dx,us,Hs,H1,qs,e1,e2,e3,e4,e5,sm,r,(ay.cV h).2⟩
 run:=λA outer s H args us vs Q E hr e hb rv h=>by
  obtain⟨h0,a,dx,us',Hs,H1,qs,e1,e2,e3,e4,e5,sm,r,h⟩:=h
  exact F.run A outer s H args us vs Q E hr e hb rv ⟨h0,a,dx,us',Hs,H1,qs,e1,e2,e3,e4,e5,sm,r,(ay.cV h).2⟩
theorem bh.Le{P:Program}{w:World}{K:PySem.W.Frag}{mg:Str->Option Value}{base:Heap}{x qual:Str}{st:Stmt}{dv:Value}{f C:Addr}{fd:FuncData}{N ps:List Str}{k:Nat}{g:ai->M Out}(F:bh K x qual st dv f fd)(S:cO N ps (bc st))(hN:0<N.length)
  (hb:∀ (Mp:Value) (A:Around) (outer:List Env) (s:Shared) (H:Hp) (E:XK),cD k (A.deeper (envOfC qual (bc st) s.heap.objs.size f Mp))->fw ((lF (bS P w) P w K mg base N qual (bc st) f Mp A outer s H E).out λ_=>E) (λ_=>E)->lW ((lF (bS P w) P w K mg base N qual (bc st) f Mp A outer s H E).out λ_=>E) (fb st) (tS E g)) :
  aP P w K mg base (bS P w) (k+1) f fd ps (EE ps.length C (rQ ps.length (yQ N.length g C))):=by
 obtain⟨oc,od,kV,doc,pm,an,Mp,ct,N1,rfl,lk,Ng⟩:=F.ex
 exact xI <| Dj lk Ng S hN λA outer s H E hr=>hb Mp A outer s H E hr (Eo rfl rfl)
section
variable{X:Cx}{E:St->XK}{n m k:Nat}{x:Str}{e:Expr}{es:List Expr}{fs:ai->M (List PV)}{p pos:Pos}
theorem vQ.make{C:Addr}{Nt:List PV}{sem:Addr->List PV->M (List (Str×PV))}(F:vQ X.prog X.w X.K X.mg X.base C n x m Nt (rQ m sem))(hr:cD k X.A)(hn:n+1<=k)(hg:Gl X x)(O:fw X E)(ha:PA X (e::es) (tL E fs))(M0:autoParam ((x==("__debug__" : Str))=false) aD._auto_1)(he:autoParam (starEach (e::es) X.env=(false,eval e X.env)::starEach es X.env) aR._auto_1)(Mz:autoParam ((backTo pos (starEach es X.env)).any (·.1)=false) aR._auto_1) :
  PE X (.Call (.Name x p) (e::es) [] pos) (tE E (af (c6 C (rQ m sem) Nt) fs)):=by
 obtain⟨f,fd,ps,ds,MM,h1,h2,h4,h5,h6,h7⟩:=F.ex
 refine Cn (p:=p) h2 h7 (hr.mono hn) hg h1 h4 h5 h6 O (λa ND hp=>?_) ha M0 he Mz
 unfold rQ cV at hp
 split at hp
 ·rename_i h;rwa [List.length_append] at h
 ·exact(hp rfl).elim
end
def vS:Addr->Option Bool:=λ_=>none
theorem vA{P:Addr->Bool->Prop}:∀ C b,vS C=some b->P C b:=λ_ _ h=>by cases h
theorem vr{X:Cx}{E:St->XK}{x:Str}{pos:Pos}(i:Nat)(hN:autoParam (X.N[i]?=some x) aR._auto_1)(hv:Ce X.env.scope x:=by first | exact .inl rfl | exact .inr (.inl rfl) | exact .inr (.inr rfl))(hd:autoParam ((x==("__debug__" : Str))=false) aD._auto_1)(Ng:autoParam ((x==("__classdict__" : Str))=false) aD._auto_1):PE X (.Name x pos) (tE E (ae i)):=Hg hN hv hd Ng
end L2
namespace L2
open PySem PySem.Spec PyProof.Rows
theorem Ez{env:Env}{e:Expr}{es:List Expr}(h:(match e with | .Starred ..=>true | _=>false)=false):starEach (e::es) env=(false,eval e env)::starEach es env:=by
 cases e <;> first | rfl | cases h
def j8:List Expr->Option (List Int)
 | []=>some []
 | .Constant (.int i) _ _::r=>(j8 r).map (i::·)
 | _=>none
section
variable{X:Cx}{E:St->XK}{pos:Pos}
theorem xf:∀ {es:List Expr} {ns:List Int},j8 es=some ns->PA X es (tL E λ_=>M.ok (ns.map PV.int))
 | [],_,h=>by cases h;exact Bk
 | .Constant (.int i) j p::r,ns,h=>by
  obtain⟨ms,h1,rfl⟩:=Option.map_eq_some_iff.mp (show (j8 r).map (i::·)=some ns from h)
  exact xk Az (xf h1) (Ez rfl)
theorem wQ{es:List Expr}(ns:List Int)(h:autoParam (j8 es=some ns) aR._auto_1)(hz:autoParam (ns.length<=1000) aD._auto_1):PE X (.List es pos) (tE E λ_=>M.ok (.lst (ns.map PV.int))):=by
 refine(BK (E:=E) (xf h)).imp fun σ H Q q=>?_
 have e:(pB λ_=>M.ok (ns.map PV.int))=λ_=>M.ok (.lst (ns.map PV.int)):=by
  funext env
  show cV _ _=_
  unfold cV
  rw[if_pos (by rw[List.length_map];exact Nat.le_trans hz (by decide))]
 rw[e];exact q
end
end L2
namespace L2
open PySem PySem.Spec PyProof.Rows
def Bt:PV->PV->M (List PV)
 | .lst xs,.int k=>cV (-(2^63)<=k/\k<2^63/\xs.length*k.toNat<=sizeLine) (M.ok (List.replicate k.toNat xs).flatten)
 | _,_=>none
def F7(f g:ai->M PV):ai->M (List PV):=λenv=>(f env).bind λp=>(g env).bind λq=>Bt p q
section
variable{X:Cx}{E:St->XK}{a b:Expr}{pos:Pos}{f g:ai->M PV}
theorem FI(ha:PE X a (tE E f))(hb:PE X b (tE E g)):PE X (.BinOp a .Mult b pos) (tO E (F7 f g)):=by
 refine(EN z8 ha hb).imp fun σ H Q q=>cC (K:=KO Q) KO.gr q λB H₀ Hs H1 env p v sr rp hp=>?_
 refine⟨B,H₀,Hs,env,sr,(ay.bind hp).imp (λq hq u L9 H' g' ru=>?_) λe he=>he⟩
 have NK:=sr.grow g'
 have rp':=rp.mono g'.st
 cases rp' with
 | @lst l xs vs ha hx=>cases ru with
  | int k =>
   obtain⟨⟨h1,h2,h3⟩,h⟩:=ay.cV hq
   exact⟨l,k,vs,rfl,rfl,NK.gr.sub _ _ ha,h1,h2,by rw[← hx.length];exact h3,λp n=>h _ p L9 H' g' (hx.rep _) n⟩
  | _=>exact hq.elim
 | _=>exact hq.elim
end
end L2
namespace L2
open PySem PySem.Spec PyProof.Rows
structure yw (K:PySem.W.Frag) (mg:Str->Option Value) (C:Addr) (x:Str):Prop where
 hc:PySem.W.excIn K C fD "ValueError.__new__" = true
 c:iR K C
 ht:PySem.W.typeIn K (.ref C)=some (.type "type")
 kp:PySem.W.keepIn K (.ref C)=true
 m:mg x=some (.ref C)
structure p8 (P:Program) (w:World) (K:PySem.W.Frag) (mg:Str->Option Value) (base:Heap) (C:Addr) (x fl:Str):Prop where
 ex:∃ (f:Addr) (fd:FuncData) (ps:List Str),oM K C "ValueError.__new__" f=true/\PySem.W.isFn K (.ref f)=true/\aP P w K mg base (bS P w) 1 f fd ps (xS K C fl)/\Binds K fd ps []
 c:iR K C
 ht:PySem.W.typeIn K (.ref C)=some (.type "type")
 kp:PySem.W.keepIn K (.ref C)=true
 m:mg x=some (.ref C)
section
variable{X:Cx}{E:XK}{e:Expr}{es:List Expr}{pos p Mm:Pos}{x fl:Str}{C:Addr}{k:Nat}{fs:ai->M (List PV)}
theorem yw.raise(F:yw X.K X.mg C x)(O:fw X λ_=>E)(Mf:X.calm=true)(hg:Gl X x)(ha:PA X (e::es) (tL (λ_=>E) fs))
  (M0:autoParam ((x==("__debug__" : Str))=false) aD._auto_1) (he:autoParam (starEach (e::es) X.env=(false,eval e X.env)::starEach es X.env) aR._auto_1) (Mz:autoParam ((backTo Mm (starEach es X.env)).any (·.1)=false) aR._auto_1) :
  PS X (.Raise (some (.Call (.Name x p) (e::es) [] Mm)) none pos) (tS E (k6 C fs)):=yN O Mf F.hc F.c F.ht F.kp hg F.m ha M0 he Mz
theorem p8.raise(F:p8 X.prog X.w X.K X.mg X.base C x fl)(hr:cD k X.A)(hn:2<=k)(O:fw X λ_=>E)(Mf:X.calm=true)(hg:Gl X x)(ha:PA X [e] (tL (λ_=>E) fs))
  (M0:autoParam ((x==("__debug__" : Str))=false) aD._auto_1) (he:autoParam (starEach [e] X.env=(false,eval e X.env)::starEach [] X.env) aR._auto_1) (Mz:autoParam ((backTo Mm (starEach [] X.env)).any (·.1)=false) aR._auto_1) :
  PS X (.Raise (some (.Call (.Name x p) [e] [] Mm)) none pos) (tS E (jh C fl fs)):=by
 obtain⟨f,fd,ps,h1,h2,h3,h4⟩:=F.ex
 exact yb O Mf h1 h2 F.c F.ht F.kp h3 (hr.mono hn) h4 hg F.m ha M0 he Mz
end
end L2
namespace L2
open PySem PySem.Spec PyProof.Rows
section
variable{X:Cx}{E:St->XK}
end
end L2
namespace L2
open PySem PySem.Spec PyProof.Rows
end L2
namespace L2
open PySem PySem.Spec PyProof.Rows
end L2
namespace L2
open PySem PySem.Spec PyProof.Rows
section
variable{X:Cx}{E:St->XK}{pos:Pos}
end
end L2
namespace L2
open PySem PySem.Spec PyProof.Rows
section
variable{X:Cx}{tg elt iter c:Expr}{scope:Scope}{cl:List (Str×Addr)}{pos:Pos}{wi:TI}{it:ai->M (List PV)}{g:TG}{set:PV->ai->M ai}{f:ai->M PV}{ts fs:List Str}{js:List Nat}
theorem Av{E:St->XK}{σ:St}{H:Hp}{Q:VK}(hv:zg E wi it)(OJ:∀ E,Eb E g set)(so:pL set)(q:tO E (cw it set none f ts.length js) σ H Q):wA wi g (tE EF f) ts js σ H Q:=by
 refine hv σ H _ ?_
 obtain⟨B,H₀,Hs,env,sr,q⟩:=q
 refine⟨B,H₀,Hs,env,sr,(ay.bind q).imp (λxs hp J Md H1 gr ok D hD=>?_) λe he=>he⟩
 obtain⟨hz,hp⟩:=ay.cV hp
 have hp:=ay.Hd hp
 have OI:=sr.grow gr
 refine⟨λi m σ H=>m=xs.length-i/\i<=xs.length/\Jc set none f Q Md H1 D xs i σ H,⟨xs.length,by simp,Nat.zero_le _,Md,_,[],[],OI.block hD,eE,aA,?_,.nil,Nat.le_refl _,hp.imp (λzs hz vs p Mg H2 g2 r n=>hz vs p Mg H2 (gr.trans g2) r n) λ_ z=>z⟩,?_⟩
 ·cases z:Md D with
  | none=>rfl
  | some o=>have:=gr.sub _ _ z;rw[hD] at this;cases this
 rintro i m σ' H2 ⟨rfl,hi,Mg,env2,ys,vs,My,n2,d1,d2,r2,l2,h2⟩
 by_cases MS:i<xs.length
 ·refine .inr ⟨ok.go i Mg H2 My.gr.st My.gr.sub MS,Jc set none f Q Md H1 D xs (i+1),fun σ3 H3 j=>⟨xs.length-(i+1),by omega,rfl,MS,j⟩,λx H3 y=>?_⟩
  obtain⟨p,Nr,ep,g3,r3⟩:=ok.tq i Mg H2 x H3 My.gr.st My.gr.sub MS y
  have hd:xs.drop i=p::xs.drop (i+1):=by
   rw[List.drop_eq_getElem_cons MS]
   rw[List.getElem?_eq_getElem MS] at ep
   rw[Option.some.inj ep]
  rw[hd] at h2
  have h3:=ay.bind h2
  have NL:=My.grow g3
  refine OJ (λ_ _ _=>False) Md H1 Nr H3 σ' env2 p x _ (λ_=>False) NL r3 ?_
  cases hset:set p env2 with
  | none=>rw[hset] at h3;exact h3
  | some z=>cases z with
   | error e=>rw[hset] at h3;exact h3
   | ok e3 =>
    rw[hset] at h3
    intro σ4 sr4
    have n4:=so p env2 e3 hset n2
    refine⟨Md,H1,Nr,e3,sr4,(ay.bind h3).imp (λy hy v O2 H5 g5 r5=>?_) λ_ z=>z.elim⟩
    exact Jc.put (set:=set) (t:=none) (f:=f) hD (sr4.grow g5) n4 (g5.al _ _ (g3.al _ _ d1)) (g5.nw _ _ (g3.nw _ _ d2 d1) (g3.al _ _ d1)) ((r2.mono g3.st).mono g5.st) l2 (by omega) r5 hy
 ·refine .inl ⟨ok.stop i Mg H2 My.gr.st My.gr.sub (by omega),?_⟩
  exact Jc.done (set:=set) (t:=none) (f:=f) (xs:=xs) (Md:=Md) (H1:=H1) (i:=i) hD ⟨Mg,env2,ys,vs,My,n2,d1,d2,r2,l2,h2⟩ (by omega)
variable{E:XK}{i:Nat}{y:Str}{py Ov:Pos}
theorem lh(Mf:X.calm=true)
  (Mv:closureFor scope X.env=pure cl) (hk:scope.kind=.function) (nc:gm scope.names=true) (lo:ir scope.names=true) (fh:ik cl scope.names=true) (ag:eU X cl) (fr:iZ X scope cl fs js)
  (hi:PI X tg iter wi) (hv:zg (λ_=>E) wi it) (hg:∀ C s₀ H₀ ex L4,PG (pT X scope cl (ts++fs) C s₀ H₀ ex L4) tg g) (OJ:∀ E,Eb E g set) (so:pL set) (he:∀ C s₀ H₀ ex L4,PE (pT X scope cl (ts++fs) C s₀ H₀ ex L4) elt (tE EF f))
  (hN:X.N.Nodup) (hiy:X.N[i]?=some y) (hy:Loc X.env.scope y)
  (hs:autoParam (∀ x,foldedSetIterable iter X.env x=pure x) aI._auto_1) (Py:autoParam (swapsWith (.ListComp elt [⟨tg,iter,[],0⟩] scope pos) (some (.Name y py)) Ov.line X.env=pure true) aR._auto_1)
  (hf:autoParam (X.fn y=true\/X.env.scope.names.lookup y=some .local) aF._auto_1) :
  PS X (.Assign [.Name y py] (.ListComp elt [⟨tg,iter,[],0⟩] scope pos) Ov) (tS E (br i (cM (cw it set none f ts.length js)))):=by
 refine(CG hN hiy hy Mf Mv hk nc lo fh ag fr hi hg he hs Py hf).imp λD σ H q=>?_
 refine Av hv OJ so ?_
 obtain⟨B,H₀,Hs,env,sr,q⟩:=q
 refine⟨B,H₀,Hs,env,sr,(ay.bind (ay.bind q)).imp (λps hp vs p L9 H' g r n=>?_) λe he=>he.grow sr.gr⟩
 have gn:=bP.new (o:=.lst vs) g.sub n
 exact hp _ _ _ ((sr.grow (g.trans gn)).set (.lst aA (r.mono gn.st)))
end
end L2
namespace L2
open PySem PySem.Spec PyProof.Rows
section
variable{X:Cx}{tg:Expr}{a:Expr}{ta:TA}{p pos:Pos}
end
section
variable{E:St->XK}{X:Cx}{fs:ai->M (List PV)}{a tg:Expr}{p p2 pos pos2:Pos}
end
end L2
namespace L2
open PySem PySem.Spec PyProof.Rows
open AutoSeq1 (wpAny_loadPart')
theorem x9(l:Addr)(items:Array Value)(n:Nat)(dct:Option Addr)(sl:Array (Option Value)) :
  Meets (Builtin.«enumerate.__new__» ⟨[.type "enumerate", .ref l],[]⟩) (λ_ R s=>s.heap.get? l=some { cls:=.type "tuple", dict:=dct,data:=.seq items n,slots:=sl } ∧
   R (.ok (.ret (.ref (s.heap.push { cls:=.type "tuple_iterator", data:=.fields #[.ref l,.int 0 0] }).objs.size)))
    { s with heap:=(s.heap.push { cls:=.type "tuple_iterator", data:=.fields #[.ref l,.int 0 0] }).push { cls:=.type "enumerate", data:=.fields #[.none,.bool false,.ref s.heap.objs.size,rawInt 0,.none,.none] } }) :=
 .of_wp λprog w A R s h=>by
  obtain⟨hp,g,d,tk,os⟩:=s;obtain⟨hl,h⟩:=h
  have Px:=sub_enumerate
  have hL:Heap.IsTuple (Shared.heap ⟨hp,g,d,tk,os⟩) l items:=⟨_,hl,rfl,n,rfl⟩
  wp_walk using wpAny_loadPart' hl
  refine wpAny_stack_any λst=>wpAny_pure ?_
  split
  ·rename_i c _ _ _ _ _
   cases (c==Value.type "enumerate")
   ·wp_walk using wpAny_loadPart' hl,wpAny_pyIter_tuple hL
    exact⟨_,rfl,h⟩
   ·wp_walk using wpAny_loadPart' hl,wpAny_pyIter_tuple hL
    exact⟨_,rfl,h⟩
  ·wp_walk using wpAny_loadPart' hl,wpAny_pyIter_tuple hL
   exact⟨_,rfl,h⟩
section
variable{prog:Program}{w:World}{A:Around}{E:Value->Shared->Prop}{s:Shared}
theorem wj{l:Addr}{items:Array Value}{Q:Value->Shared->Prop}(hL:s.heap.IsTuple l items)
  (h:∀ h',IsEnum h' (s.heap.objs.size+1) s.heap.objs.size 0 .none->h'.IsTupleIter s.heap.objs.size l 0->h'.objs.size=s.heap.objs.size+2 ->
   (∀ b o,s.heap.get? b=some o->h'.get? b=some o)->Q (.ref (s.heap.objs.size+1)) { s with heap:=h' }) :
  wpAny (model prog w) A (call (.type "enumerate") [.ref l]) Q E s:=by
 obtain⟨⟨c,dct,dt,sl⟩,hl,hc,n,hd⟩:=hL
 replace hc:c=.type "tuple" := hc
 replace hd:dt=.seq items n:=hd
 subst hc hd
 refine callType_new F.called_enumerate (by decide) (F.typeCall_enumerate_1 _) (F.newCall_enumerate_1 _) (λobj=>F.args_object_init_2 obj _) F.entry_enumerate_new
  (x9 l items n dct sl) ⟨hl,?_⟩
 have hz:(s.heap.push { cls:=.type "tuple_iterator", data:=.fields #[.ref l,.int 0 0] }).objs.size=s.heap.objs.size+1:=Heap.size_push ..
 show _/\_
 rw[hz]
 have he:IsEnum ((s.heap.push { cls:=.type "tuple_iterator", data:=.fields #[.ref l,.int 0 0] }).push
   { cls:=.type "enumerate", data:=.fields #[.none,.bool false,.ref s.heap.objs.size,rawInt 0,.none,.none] }) (s.heap.objs.size+1) s.heap.objs.size 0 .none:=by
  have:=Heap.get?_push_size (s.heap.push { cls:=.type "tuple_iterator", data:=.fields #[.ref l,.int 0 0] })
   (o:={ cls:=.type "enumerate", data:=.fields #[.none,.bool false,.ref s.heap.objs.size,rawInt 0,.none,.none] }) rfl
  rw[hz] at this;exact this
 refine⟨⟨_,he,rfl⟩,h _ he ⟨_,Heap.get?_push_of_some _ (Heap.get?_push_size _ rfl),rfl,rfl⟩ (by rw[Heap.size_push,hz]) λb o x=>Heap.get?_push_of_some _ (Heap.get?_push_of_some _ x)⟩
end
theorem Gu{prog:Program}{w:World}{A:Around}(hh:A.handled=none)(it t:Addr)(items:Array Value) :
  Draws prog w A it [it,t] items.size (λi v=>items[i]?=some v) (λi h=>h.IsTupleIter it t i/\h.IsTuple t items) where
 live:=λ_ _ st=>let ⟨⟨o,ho,_⟩,_⟩:=st;⟨o,ho⟩
 frame:=λ_ _ _ st hk=>by
  obtain⟨⟨o,ho,r⟩,⟨o2,N4,r2⟩⟩:=st
  exact⟨⟨o,hk it (by simp) o ho,r⟩,⟨o2,hk t (by simp) o2 N4,r2⟩⟩
 item:=λi s Q E hi st hQ=>by
  obtain⟨st,tt⟩:=st
  refine iE st tt (x:=items[i]) (by simp[hi]) λh' OU O9=>?_
  refine hQ _ h' s.toks (by simp[hi]) ⟨OU,?_⟩ O9
  obtain⟨o,ho,c1,_⟩:=st
  obtain⟨o2,N4,c2,r2⟩:=tt
  refine⟨o2,(O9.2 t λz=>?_).trans N4,c2,r2⟩
  rw[z,ho] at N4;cases N4
  rw[c1] at c2;exact absurd c2 (by decide)
 done:=λs Q E st hE=>fv hh st.1 st.2 (by simp) hE
section
variable{X:Cx}
def G3 (K : PySem.W.Frag) (a : Addr) : It :=
  ⟨λi H => ∃ xs x, gB K H a xs /\ xs[i]? = some x,
   λi H y H' => ∃ p x, H p = none /\ y = .ref p /\ H' = upd H p (.tup [.int i, x]) /\ ∀ xs, gB K H a xs -> xs[i]? = some x,
   λi H => ∃ xs, gB K H a xs /\ xs.length <= i⟩
theorem vL{P:Program}{w:World}{K:PySem.W.Frag}{elts:List Expr}{x1:Nat}{tp:Pos}(a e it:Addr)(NX:e≠it):Turn P w K (.Tuple elts x1 tp) (G3 K a) [e,it] e (λi h=>(∃ old,IsEnum h e it i old)/\h.IsTupleIter it a i) where
 mem:=by simp
 obj:=λi h st b hb=>by
  obtain⟨⟨old,he⟩,⟨o,e1,c,d⟩⟩:=st
  rcases List.mem_cons.mp hb with z | z
  ·subst z
   exact⟨_,he,λv z=>by cases z⟩
  ·have z':b=it:=by simpa using z
   subst z'
   exact⟨o,e1,λv z=>by rw[d] at z;cases z⟩
 keep:=λi h h' st k=>by
  obtain⟨⟨old,he⟩,⟨o,ho,r⟩⟩:=st
  exact⟨⟨old,k e (by simp) _ he⟩,⟨o,k it (by simp) o ho,r⟩⟩
 item:=by
  intro X hP hw hK hc i L4 s σ H E I hf st hg
  subst hP hw hK
  obtain⟨xs,x,hq,hx⟩:=hg
  obtain⟨L7,rv,p,hz⟩:=I.tuple hq
  obtain⟨u,hu,ru⟩:=rv.get hx
  obtain⟨⟨old,he⟩,hit⟩:=st
  have Ob:e<s.heap.objs.size:=Heap.lt_size he
  have OT:it<s.heap.objs.size:=by obtain⟨_,z,_⟩:=hit;exact Heap.lt_size z
  have hea:e ∉ [it,a]:=λz=>by
   rcases List.mem_cons.mp z with z | z
   ·exact NX z
   ·obtain⟨o,ho,c,_⟩:=p
    rw[← List.mem_singleton.mp z,he] at ho
    cases ho;exact absurd (show Value.type "enumerate" = Value.type "tuple" from c) (by decide)
  have O7:i<L7.toArray.size:=by
   have:=(List.getElem?_eq_some_iff.mp hu).1
   simpa using this
  refine wpAny_pyNext_enum_itemD (Gu (A:=X.A.in1) (I.ok.hd hc) it a L7.toArray) he ⟨hit,p⟩ O7 NX hea λu' h' tk hu' ho Mu hT Nv hk=>⟨_,rfl,?_⟩
  have eu:u'=u:=by
   rw[List.getElem?_toArray,hu] at hu';exact(Option.some.inj hu').symm
  subst eu
  refine wpAny_letOwnedTupleGo_enum (s:={ s with heap:=h',toks:=tk+1 }) ho λh2 he2 Nm=>?_
  have Oj:∀ b o,b ∉ [e,it]->s.heap.get? b=some o->h2.get? b=some o:=λb o hb q=>by
   have n1:b≠e:=λz=>hb (by simp[z])
   have n2:b≠it:=λz=>hb (by simp[z])
   exact(Nm.2 b n1).trans (hk b o n1 n2 q)
  have Oz:h2.get? s.heap.objs.size=some { cls:=.type "tuple", data:=.seq #[.int i tk,u'] }:=(Nm.2 _ (Nat.ne_of_gt Ob)).trans hT
  have I2:Inv X L4 σ (upd H s.heap.objs.size (.tup [.int i,x])) { s with heap:=h2,toks:=tk+1 } :=
   I.j3 (ch:=[e,it]) Oj hf (Nat.le_refl _) (λb hb=>by
    rcases List.mem_cons.mp hb with z | z
    ·subst z;exact⟨_,he⟩
    ·have z':b=it:=by simpa using z
     subst z'
     obtain⟨o,z,_⟩:=hit
     exact⟨o,z⟩)
    ⟨by show 2<=sizeLine;decide,[.int i tk,u'],.cons ⟨_,rfl⟩ (.cons ru .nil),⟨_,Oz,rfl,_,rfl⟩⟩
  have Nl:H s.heap.objs.size=none:=I.bK.fresh (Nat.le_refl _)
  obtain⟨oi,hoi,ri⟩:=Mu.1
  refine⟨.ref s.heap.objs.size,_,I2,rfl,⟨_,x,Nl,rfl,rfl,λys hy=>by rw[I.mx hy hq];exact hx⟩,⟨⟨u',by simpa using he2⟩,⟨oi,(Nm.2 it (Ne.symm NX)).trans hoi,ri⟩⟩,λb hb=>?_⟩
  have nb:b≠s.heap.objs.size:=by
   rcases List.mem_cons.mp hb with z | z
   ·rw[z];exact Nat.ne_of_lt Ob
   ·have z':b=it:=by simpa using z
    rw[z'];exact Nat.ne_of_lt OT
  rw[aw nb]
  exact(hf b hb).1
 done:=by
  intro X hP hw hK hc i L4 s σ H E I hf st hg
  subst hP hw hK
  obtain⟨xs,hq,hx⟩:=hg
  obtain⟨L7,rv,p,hz⟩:=I.tuple hq
  have hl:=rv.length
  obtain⟨⟨old,he⟩,hit⟩:=st
  obtain⟨f0,f1,f2,f3,f4,f5⟩:=hf it (by simp)
  have hT:s.TypeIs (.ref e) "enumerate" := ⟨_,he,rfl⟩
  unfold pyNext
  refine wpAny_bind (wpAny_attempt (wpAny_callSpecial?_slot (name:=Str.ofString "__next__") hT F.slot_enumerate_next
   (wpAny_call_entry F.slot_enumerate_next hT F.entry_enumerate_next ?_ (F.args_enumerate_next_1 _))))
  show wpAny _ _ (field (.ref e) 2 >>= _) _ _ _
  refine wpAny_bind (wpAny_field he rfl (x:=.ref it) rfl ?_)
  refine wpAny_bind (fv (I.ok.hd hc) hit p (by simp;omega) λh' x he' Pz=>?_)
  obtain⟨o,ho,OB⟩:=Pz
  refine wpAny_bind (wpAny_isInstance (T := "StopIteration") (b:=true) ⟨o,ho,OB⟩ isSubtype_stop ?_)
  exact wpAny_pure ⟨rfl,I.turned (t':=s.toks) (λb o hb e=>he' b o hb e) f0 f1 f3 f4 f5⟩
 self:=λ_ _ _ _ _ st h=>by
  obtain⟨⟨old,he⟩,_⟩:=st
  exact wpAny_pyIter_enum he h
def IH(K:PySem.W.Frag)(tl:TA):TI:=fun σ H R=>tl σ H λvs H1=>∃ a,vs=[.ref a]/\(((∃ xs,iw K H1 a xs)/\R (G5 K a) H1)\/((∃ xs,gB K H1 a xs)/\R (G3 K a) H1))
theorem mr{elts:List Expr}{x1:Nat}{tp:Pos}{l:Expr}{tl:TA}{p pos:Pos}(hg:Gl X "enumerate")(hm:X.mg "enumerate" = none)(hl:PA X [l] tl)(hs:autoParam (starEach [l] X.env=[(false,eval l X.env)]) aR._auto_1) :
  PI X (.Tuple elts x1 tp) (.Call (.Name "enumerate" p) [l] [] pos) (IH X.K tl):=by
 intro L4 s σ H R I h
 refine Call_ (jn I hg hm PyProof.Rows.boot_enumerate (PyProof.Rows.callWith_type1 (c7 (hl pos L4 s σ H _ I h) λus s1 ⟨vs,H1,I1,r1,q1⟩=>?_) hs rfl))
 obtain⟨a,e,q⟩:=q1
 subst e
 cases r1 with
 | cons r rr =>
  cases rr
  cases (show _=Value.ref a from r)
  have fp:∀ b∈[s1.heap.objs.size+1,s1.heap.objs.size],lD X L4 H1 b:=λb hb=>by
   rcases List.mem_cons.mp hb with z | z
   ·subst z
    exact I1.sI (Nat.le_succ _) (I1.bK.fresh (Nat.le_succ _))
   ·have z':b=s1.heap.objs.size:=by simpa using z
    subst z'
    exact I1.sI (Nat.le_refl _) (I1.bK.fresh (Nat.le_refl _))
  rcases q with ⟨⟨xs,hq⟩,q⟩ | ⟨⟨xs,hq⟩,q⟩
  ·obtain⟨L7,rv,pl,hz⟩:=I1.list hq
   refine call_enumerate_list pl.isList λh' he hit Nv hk=>?_
   refine wpAny_pyIter_enum (s:={ s1 with heap:=h' }) he ?_
   exact⟨s1.heap.objs.size+1,[s1.heap.objs.size+1,s1.heap.objs.size],_,_,H1,rfl,I1.kept (t':=s1.toks) hk,yj a _ _ (Nat.succ_ne_self _),⟨⟨_,he⟩,hit⟩,fp,q⟩
  ·obtain⟨L7,rv,pl,hz⟩:=I1.tuple hq
   refine wj pl λh' he hit Nv hk=>?_
   refine wpAny_pyIter_enum (s:={ s1 with heap:=h' }) he ?_
   exact⟨s1.heap.objs.size+1,[s1.heap.objs.size+1,s1.heap.objs.size],_,_,H1,rfl,I1.kept (t':=s1.toks) hk,vL a _ _ (Nat.succ_ne_self _),⟨⟨_,he⟩,hit⟩,fp,q⟩
end
def Ky(p:PV):M (List PV):=match bO p with
 | some xs=>M.ok (h_ xs)
 | none=>none
def Cj:List PV->M (List PV)
 | [p]=>Ky p
 | _=>none
section
variable{E:St->XK}{K:PySem.W.Frag}{fs:ai->M (List PV)}
theorem zE{a:Addr}{Md:Hp}{xs:List PV}{vs:List V}(hq:∀ L9 H',bC Md L9->bC L9 H'->gB K H' a vs)(hr:aS Md xs vs):jL (G3 K a) Md (h_ xs) where
 stop:=λi Hs H s1 s2 hi=>by
  unfold h_ at hi
  rw[List.length_mapIdx,hr.length] at hi
  exact⟨vs,hq Hs H s1 s2,hi⟩
 go:=λi Hs H s1 s2 hi=>by
  unfold h_ at hi
  rw[List.length_mapIdx] at hi
  obtain⟨v,e,_⟩:=hr.get (List.getElem?_eq_getElem hi)
  exact⟨vs,v,hq Hs H s1 s2,e⟩
 tq:=λi Hs H x H2 s1 s2 hi y=>by
  unfold h_ at hi
  rw[List.length_mapIdx] at hi
  obtain⟨v,e,r⟩:=hr.get (List.getElem?_eq_getElem hi)
  obtain⟨pa,v',hn,rfl,rfl,y1⟩:=y
  have z1:=y1 vs (hq Hs H s1 s2)
  rw[e] at z1;cases z1
  have gr:=bP.new (o:=.tup [.int (i:Nat),v]) s2 hn
  refine⟨.tup [.int (i:Nat),xs[i]],_,?_,gr,.tup aA (.cons (.int _) (.cons ((r.mono s1).mono gr.st) .nil))⟩
  unfold h_
  rw[List.getElem?_mapIdx,List.getElem?_eq_getElem hi]
  rfl
theorem kc:zg E (IH K (tL E fs)) (jH Cj fs):=by
 intro σ H R q
 refine dP (K:=KI R) KI.g q λB H₀ Hs H1 env ps v sr rp hp=>?_
 match ps,rp,hp with
 | [],_,hp=>exact hp.elim
 | _::_::_,_,hp=>exact hp.elim
 | [p],rp,hp =>
  obtain⟨w,rfl,NI⟩:=rp.one
  cases NI with
  | lst ha hx=>exact⟨_,rfl,.inl ⟨⟨_,iw.of (sr.gr.sub _ _ ha)⟩,hp _ Hs H1 (.refl sr.gr.sub) (rf (λL9 H' s1 s2=>iw.of (s2 _ _ (s1 _ _ ha))) hx)⟩⟩
  | jD ha hx=>exact⟨_,rfl,.inl ⟨⟨_,.inl (.inr ⟨_,sr.gr.sub _ _ ha⟩)⟩,hp _ Hs H1 (.refl sr.gr.sub) (rf (λL9 H' s1 s2=>.inl (.inr ⟨_,s2 _ _ (s1 _ _ ha)⟩)) hx)⟩⟩
  | tup ha hx=>exact⟨_,rfl,.inr ⟨⟨_,gB.of (sr.gr.sub _ _ ha)⟩,hp _ Hs H1 (.refl sr.gr.sub) (zE (λL9 H' s1 s2=>gB.of (s2 _ _ (s1 _ _ ha))) hx)⟩⟩
  | _=>exact hp.elim
end
end L2
namespace L2
open PySem PySem.Spec PyProof.Rows
section
variable{X:Cx}{E:St->XK}{e:Expr}{pos pos':Pos}{f:ai->M PV}{i:Nat}{x:Str}
end
section
variable{X:Cx}{E:St->XK}{e:Expr}{pos pos':Pos}{f:ai->M PV}{i:Nat}{x:Str}
end
section
variable{X:Cx}{L4 Ou:List (Addr×Obj)}{σ:St}{H:Hp}{s:Shared}{ea:Addr}
end
section
variable{X:Cx}{L4:List (Addr×Obj)}{σ:St}{H Hc B H₀ Hs:Hp}{s:Shared}{ea T C:Addr}{dd:Option Addr}{E:XK}{env:ai}{fo:Option (List (Str×PV))}{D:Ends}{Z:EX->Prop}{F:Value->Shared->Prop}
end
end L2
namespace L2
open PySem PySem.Spec PyProof.Rows
section
variable{X:Cx}{E:St->XK}{e:Expr}{pos p px pt:Pos}{f:ai->M PV}{x:Str}{D:Addr}{ys ns yo no:List Addr}
end
end L2
namespace L2
open PySem PySem.Spec PyProof.Rows
section
variable{X:Cx}{E:St->XK}{e o:Expr}{pos apos Mm:Pos}{f g:ai->M PV}
def AY:PV->Option V
 | .cp=>some .cp
 | .bl b=>some (.bl b)
 | .int i=>some (.int i)
 | .str x=>some (.str x)
 | _=>none
def zj:List PV->Option (List V)
 | []=>some []
 | p::r=>(AY p).bind λv=>(zj r).map (v::·)
theorem qU{H:Hp}{p:PV}{v w:V}(e:AY p=some v)(r:Rep H p w):w=v/\kL v=true:=by
 cases r <;> first | (cases e;exact⟨rfl,rfl⟩) | cases e
theorem j6{H:Hp}:∀ {ps:List PV} {vs ws:List V},zj ps=some vs->aS H ps ws->ws=vs/\vs.all kL=true
 | [],_,_,e,.nil=>by cases e;exact⟨rfl,rfl⟩
 | p::r,_,_,e,.cons h t=>by
  obtain⟨v,e1,e2⟩:=Option.bind_eq_some_iff.mp e
  obtain⟨vs,e3,rfl⟩:=Option.map_eq_some_iff.mp e2
  obtain⟨rfl,f1⟩:=qU e1 h
  obtain⟨rfl,f2⟩:=j6 e3 t
  exact⟨rfl,by simp[f1,f2]⟩
def J1(neg:Bool)(p q:PV):M PV:=fg ((AY p).bind λv=>(bO q).bind λxs=>(zj xs).map λvs=>.bl (if neg then !JF v vs else JF v vs))
theorem H_{K:PySem.W.Frag}{neg:Bool}:lV E (Li K neg) (J1 neg):=by
 intro σ Hs H p q v u Q s rp rq h
 obtain⟨z,ez,h⟩:=ay.opt h
 obtain⟨v',e1,ez⟩:=Option.bind_eq_some_iff.mp ez
 obtain⟨xs,e2,ez⟩:=Option.bind_eq_some_iff.mp ez
 obtain⟨vs,e3,rfl⟩:=Option.map_eq_some_iff.mp ez
 obtain⟨rfl,f1⟩:=qU e1 rp
 cases rq with
 | tup ha hx =>
  cases e2
  obtain⟨rfl,f2⟩:=j6 e3 hx
  exact⟨_,_,rfl,.inr (gB.of (s _ _ ha)),f1,f2,eG.flat h s (.bl _)⟩
 | lst ha hx =>
  cases e2
  obtain⟨rfl,f2⟩:=j6 e3 hx
  exact⟨_,_,rfl,.inl (iw.of (s _ _ ha)),f1,f2,eG.flat h s (.bl _)⟩
 | jD ha hx =>
  cases e2
  obtain⟨rfl,f2⟩:=j6 e3 hx
  exact⟨_,_,rfl,.inl (.inl (.inr ⟨_,s _ _ ha⟩)),f1,f2,eG.flat h s (.bl _)⟩
 | _=>cases e2
end
end L2
namespace L2
open PySem PySem.Spec PyProof.Rows _root_.HT
section
variable{prog:Program}{w:World}{A:Around}{E:Value->Shared->Prop}{s:Shared}
theorem lH{t sl:Addr}{items:Array Value}{vl vu:Value}{lo hi:Option Int}{Q:Value->Shared->Prop}(ht:IsTup s.heap t items)(hs:s.heap.IsSliceOf sl vl vu .none)(pl:IsPart vl lo)(pu:IsPart vu hi)
  (hw:dw items.size 0 lo=0/\dw items.size items.size hi=items.size) (h:Q (.ref t) s):wpAny (model prog w) A (getItem (.ref t) (.ref sl)) Q E s:=by
 obtain⟨os,OW,hcs,Pm⟩:=id hs
 have hTs:s.TypeIs (.ref sl) "slice" := ⟨os,OW,hcs⟩
 unfold getItem
 try with_reducible refine wpAny_holding ?_
 first | refine wpAny_bind (wpAny_pure ?_) | skip
 refine wpAny_bind (wpAny_sequenceKey ht.typeIs (by decide) ?_)
 refine wpAny_bind (wpAny_callSpecial?_slot (name:=Str.ofString "__getitem__") ht.typeIs PyProof.Rows.slot_tuple_getitem
  (wpAny_call_entry PyProof.Rows.slot_tuple_getitem ht.typeIs entry_tuple_getitem ?_ (args_tuple_getitem _ _)))
 show wpAny _ _ (Builtin.Tuple.tupleItemsOf (.ref t) >>= _) _ _ s
 refine wpAny_bind (tupleItemsOf_ ht ?_)
 refine wpAny_bind (wpAny_typeOf hTs ?_)
 rw[if_pos (by decide)]
 refine wpAny_bind (iS hs pl pu ?_)
 have hyes:(((dw items.size 0 lo:Nat):Int)==0&&(1:Int)==1&&(dw items.size items.size hi-dw items.size 0 lo)==items.size)=true:=by
  rw[hw.1,hw.2];simp
 show wpAny _ _ (if (((dw items.size 0 lo:Nat):Int)==0&&(1:Int)==1&&(dw items.size items.size hi-dw items.size 0 lo)==items.size)=true then _ else _) _ _ s
 rw[if_pos hyes]
 unfold Builtin.Tuple.tupleIsExact
 refine wpAny_bind (wpAny_bind (wpAny_typeOf ht.typeIs (wpAny_pure ?_)))
 rw[if_pos (show ((Value.type "tuple" == Value.type "tuple")=true) from beq_self_eq_true _)]
 refine wpAny_bind (wpAny_rule ?_)
 first
  | exact wpAny_bind (wpAny_pure (wpAny_pure ⟨_,rfl,wpAny_pure h⟩))
  | exact wpAny_bind (wpAny_pure ⟨_,rfl,wpAny_pure h⟩)
  | exact wpAny_pure ⟨_,rfl,wpAny_pure h⟩
end
section
variable{X:Cx}{E:St->XK}{e:Expr}{lo hi:Option Expr}{pos p2:Pos}{f:ai->M PV}{gl gh:ai->M (Option Int)}
def J5(K:PySem.W.Frag):V->Option Int->Option Int->Hp->VK->Prop:=λx lo hi H Q=>∃ a xs,x=.ref a/\gB K H a xs/\(dw xs.length 0 lo=0/\dw xs.length xs.length hi=xs.length)/\Q (.ref a) H
theorem DB:Cf X (J5 X.K):=by
 intro L4 s σ H x v vl vu lo hi sl Q I rx hs pl pu h
 obtain⟨a,xs,rfl,hx,hw,q⟩:=h
 cases rx
 obtain⟨L7,r,ht,hz⟩:=I.tuple hx
 have hlen:L7.toArray.size=xs.length:=by rw[List.size_toArray];exact r.length.symm
 refine⟨"tuple", _,PyProof.Rows.slot_tuple_getitem.lookup,ht.typeIs,?_⟩
 exact lH ht hs pl pu (by rw[hlen];exact hw) ⟨.ref a,H,I,rfl,q⟩
def HC(p:PV)(lo hi:Option Int):M PV:=match p with
 | .tup xs=>M.ok (.tup (lx xs lo hi))
 | .lst xs=>M.ok (.lst (lx xs lo hi))
 | .jD xs=>M.ok (.lst (lx xs lo hi))
 | _=>none
def kZ(f:ai->M PV)(lo hi:ai->M (Option Int)):ai->M PV:=λenv=>(f env).bind λp=>(lo env).bind λl=>(hi env).bind λh=>HC p l h
theorem l_(he:PE X e (tE E f))(hl:PO X lo (Jx E gl))(hh:PO X hi (Jx E gh)):PE X (.Subscript e (.Slice lo hi none p2) pos) (tE E (kZ f gl gh)):=by
 refine(BP (Cf.or Fg (Cf.or DB C2)) he hl hh).imp fun σ H Q q=>cC (K:=ku Q) ku.g q λB H₀ Hs H1 env p v sr rp hp=>?_
 refine⟨B,H₀,Hs,env,sr,(ay.bind hp).imp (λl hl Mg H2 g2=>?_) λe he=>he⟩
 have My:=sr.grow g2
 refine⟨B,H₀,Mg,env,My,(ay.bind hl).imp (λh hh Nr H3 g3=>?_) λe he=>he.grow g2⟩
 have NL:=My.grow g3
 have hz:ay (HC p l h) (eG Nr H3 Q) (λ_=>True):=hh.imp (λz hz w Hs4 H4 g4 r=>hz w Hs4 H4 ((g2.trans g3).trans g4) r) λ_ _=>trivial
 have rp3:=(rp.mono g2.st).mono g3.st
 cases rp3 with
 | @tup a xs vs ha hx =>
  by_cases hn:dw xs.length 0 l=0/\dw xs.length xs.length h=xs.length
  ·refine .inr (.inl ⟨_,_,rfl,gB.of (NL.gr.sub _ _ ha),by rw[← hx.length];exact hn,?_⟩)
   have e:lx xs l h=xs:=by
    unfold lx;rw[hn.1,hn.2,List.drop_zero,Nat.sub_zero,List.take_length]
   have N5:eG Nr H3 Q (.tup xs):=by
    have z:eG Nr H3 Q (.tup (lx xs l h)):=hz
    rw[e] at z;exact z
   exact eG.flat N5 NL.gr.sub (.tup ha hx)
  ·exact .inl ⟨_,_,rfl,gB.of (NL.gr.sub _ _ ha),by rw[← hx.length];exact hn,eG.tup hz NL.gr.sub (hx.cut l h)⟩
 | lst ha hx=>exact .inr (.inr ⟨_,_,rfl,iw.of (NL.gr.sub _ _ ha),eG.lst hz NL.gr.sub (hx.cut l h)⟩)
 | jD ha hx=>exact .inr (.inr ⟨_,_,rfl,.inl (.inr ⟨_,NL.gr.sub _ _ ha⟩),eG.lst hz NL.gr.sub (hx.cut l h)⟩)
 | _=>exact hz.elim
end
end L2
namespace L2
open PySem PySem.Spec PyProof.Rows
end L2
namespace L2
open PySem PySem.Spec PyProof.Rows
open PySem.SeqAt (shaped noMix noMixAll)
section
variable{α β:Type}
theorem M.aO(a:α)(f:α->M β):M.bind (M.ok a) f=f a:=Eq.trans rfl rfl
theorem M.AO(e:EX)(f:α->M β):M.bind (some (Except.error e)) f=some (.error e):=Eq.trans rfl rfl
theorem M.bind_none(f:α->M β):M.bind none f=none:=Eq.trans rfl rfl
theorem M.bind_some(a:α)(f:α->M β):M.bind (some (Except.ok a)) f=f a:=Eq.trans rfl rfl
theorem M.bind_assoc{γ:Type}(x:M α)(f:α->M β)(g:β->M γ):M.bind (M.bind x f) g=M.bind x λa=>M.bind (f a) g:=by
 cases x with
 | none=>rfl
 | some x=>cases x <;> rfl
theorem av{c:Prop}[Decidable c]{x:M α}(h:c):cV c x=x:=if_pos h
theorem Gs(a:α):Hd (M.ok a)=M.ok a:=Eq.trans rfl rfl
end
theorem yG(x:PV):fg (some x)=M.ok x:=Eq.trans rfl rfl
theorem tQ(g:ai->M Out)(env:ai):AW g (.nx env)=g env:=Eq.trans rfl rfl
theorem tP(g:ai->M Out)(p:PV):AW g (.rt p)=M.ok (.rt p):=Eq.trans rfl rfl
theorem Dx(b:Bool):vo (.bl b)=M.ok b:=Eq.trans rfl rfl
theorem Du(p:PV):Fb (.rt p)=M.ok p:=Eq.trans rfl rfl
theorem Cp(e:ai):Fb (.nx e)=M.ok .cp:=Eq.trans rfl rfl
def tI(xs:List Int):PV:=.tup (xs.map PV.int)
def lI(xs:List Int):PV:=.lst (xs.map PV.int)
theorem CU(xs:List Int):bO (tI xs)=some (xs.map PV.int):=Eq.trans rfl rfl
theorem C6(xs:List Int):bO (lI xs)=some (xs.map PV.int):=Eq.trans rfl rfl
theorem Bs(xs:List PV):bO (.tup xs)=some xs:=Eq.trans rfl rfl
theorem tM(xs:List PV):bO (.lst xs)=some xs:=Eq.trans rfl rfl
theorem Bl(xs:List PV):bO (.jD xs)=some xs:=Eq.trans rfl rfl
theorem DM(xs:List Int):rM (tI xs)=M.ok (.int xs.length):=by simp[rM,tI,bO,fg]
theorem C9(xs:List Int):rM (lI xs)=M.ok (.int xs.length):=by simp[rM,lI,bO,fg]
theorem Aw(xs:List PV):rM (.tup xs)=M.ok (.int xs.length):=Eq.trans rfl rfl
theorem zZ(xs:List PV):rM (.lst xs)=M.ok (.int xs.length):=Eq.trans rfl rfl
theorem BJ(xs:List PV):rM (.jD xs)=M.ok (.int xs.length):=Eq.trans rfl rfl
theorem Aq(xs:List Int):yM [.lst (xs.map PV.int)]=M.ok (.int xs.sum):=by simp[yM,Jn,qP,fg]
theorem tN(xs:List Bool):tW [.lst (xs.map PV.bl)]=M.ok (.bl (xs.all id)):=by simp[tW,all1,t8,fg]
theorem fu{α:Type}{f:ai->M PV}{inj h:α->PV}{rest:ai}{x0:Option SV}(xs:List α)(H:∀ a∈xs,f (some (.sh (inj a))::rest)=M.ok (h a)):bJ (bX 0) none f (xs.map inj) (x0::rest)=M.ok (xs.map h):=by
 induction xs generalizing x0 with
 | nil=>rfl
 | cons a r ih =>
  rw[List.map_cons,bJ]
  show M.bind (M.ok ((x0::rest).set 0 (some (.sh (inj a))))) _=_
  rw[M.aO,List.set_cons_zero]
  show M.bind (f _) _=_
  rw[H a List.mem_cons_self,M.aO,ih λb hb=>H b (List.mem_cons_of_mem _ hb)]
  rfl
theorem iH{α:Type}{f:ai->M PV}{p q h:α->PV}{rest:ai}{x0 x1:Option SV}(xs:List α)(H:∀ a∈xs,f (some (.sh (p a))::some (.sh (q a))::rest)=M.ok (h a)):bJ (bV 0 1) none f (xs.map λa=>.tup [p a,q a]) (x0::x1::rest)=M.ok (xs.map h):=by
 induction xs generalizing x0 x1 with
 | nil=>rfl
 | cons a r ih =>
  rw[List.map_cons,bJ]
  show M.bind (M.ok (((x0::x1::rest).set 0 (some (.sh (p a)))).set 1 (some (.sh (q a))))) _=_
  rw[M.aO,List.set_cons_zero,List.set_cons_succ,List.set_cons_zero]
  show M.bind (f _) _=_
  rw[H a List.mem_cons_self,M.aO,ih λb hb=>H b (List.mem_cons_of_mem _ hb)]
  rfl
theorem F9{α:Type}{f:ai->M PV}{p q s h:α->PV}{rest:ai}{x0 x1 x2:Option SV}(xs:List α)(H:∀ a∈xs,f (some (.sh (p a))::some (.sh (q a))::some (.sh (s a))::rest)=M.ok (h a)):bJ (qK 0 1 2) none f (xs.map λa=>.tup [p a,q a,s a]) (x0::x1::x2::rest)=M.ok (xs.map h):=by
 induction xs generalizing x0 x1 x2 with
 | nil=>rfl
 | cons a r ih =>
  rw[List.map_cons,bJ]
  show M.bind (M.ok ((((x0::x1::x2::rest).set 0 (some (.sh (p a)))).set 1 (some (.sh (q a)))).set 2 (some (.sh (s a))))) _=_
  rw[M.aO,List.set_cons_zero,List.set_cons_succ,List.set_cons_zero,List.set_cons_succ,List.set_cons_succ,List.set_cons_zero]
  show M.bind (f _) _=_
  rw[H a List.mem_cons_self,M.aO,ih λb hb=>H b (List.mem_cons_of_mem _ hb)]
  rfl
theorem fc{α β:Type}{f:α->PV}{g:β->PV}{p q:PV}(xs:List α)(ys:List β)(hp:bO p=some (xs.map f))(hq:bO q=some (ys.map g)):zip2 [p,q]=M.ok ((xs.zip ys).map λz=>.tup [f z.1,g z.2]):=by
 simp only[zip2,hp,hq]
 congr 2
 rw[List.zipWith_map,List.zip_eq_zipWith,List.map_zipWith]
theorem zC{α β γ:Type}{f:α->PV}{g:β->PV}{h:γ->PV}{p q r:PV}(xs:List α)(ys:List β)(zs:List γ)(hp:bO p=some (xs.map f))(hq:bO q=some (ys.map g))(hr:bO r=some (zs.map h)):yY [p,q,r]=M.ok ((xs.zip (ys.zip zs)).map λz=>.tup [f z.1,g z.2.1,h z.2.2]):=by
 simp only[yY,hp,hq,hr]
 congr 2
 clear hp hq hr
 induction xs generalizing ys zs with
 | nil=>cases ys <;> cases zs <;> rfl
 | cons a r ih =>
  cases ys with
  | nil=>rfl
  | cons b s =>
   cases zs with
   | nil=>rfl
   | cons c t=>simp only[List.map_cons,jB,List.zip_cons_cons,ih]
theorem xM{α:Type}{f:α->PV}(xs:List α):h_ (xs.map f)=(xs.zipIdx).map λz=>.tup [.int (z.2:Int),f z.1]:=by
 unfold h_
 rw[List.mapIdx_eq_zipIdx_map,List.zipIdx_map,List.map_map]
 rfl
theorem lT{set:PV->ai->M ai}{body:ai->M Out}{α:Type}{inj:α->PV}(J:List α->ai->Prop)
  (H:∀ a r env,J (a::r) env->∃ e' L8,set (inj a) env=M.ok e'/\body e'=M.ok (.nx L8)/\J r L8):∀ (xs:List α) (env:ai),J xs env->∃ L8,ja set body (xs.map inj) env=M.ok (.nx L8)/\J [] L8
 | [],env,h=>⟨env,rfl,h⟩
 | a::r,env,h=>by
  obtain⟨e',L8,h1,h2,h3⟩:=H a r env h
  obtain⟨N6,h4,h5⟩:=lT J H r L8 h3
  refine⟨N6,?_,h5⟩
  rw[List.map_cons,ja,h1,M.aO,h2,M.aO]
  exact h4
theorem yh{u:ai->M Bool}{b:ai->M Out}(J:ai->Prop)(m:ai->Nat)
  (H:∀ env,J env->(u env=M.ok false)\/(u env=M.ok true/\∃ L8,b env=M.ok (.nx L8)/\J L8/\m L8<m env)) (env:ai) (h:J env):∃ L8,oX u b env=M.ok (.nx L8)/\J L8/\u L8=M.ok false:=by
 have key:∀ (n:Nat) (env:ai),J env->m env<n->∃ L8,cQ u b n env=M.ok (.nx L8)/\J L8/\u L8=M.ok false:=by
  intro n
  induction n with
  | zero=>intro env _ hn;omega
  | succ n ih =>
   intro env h hn
   rcases H env h with hu | ⟨hu,L8,hb,hj,hm⟩
   ·exact⟨env,by rw[cQ,hu,M.aO];rfl,h,hu⟩
   ·obtain⟨N6,h1,h2,h3⟩:=ih L8 hj (by omega)
    exact⟨N6,by rw[cQ,hu,M.aO,if_pos rfl,hb,M.aO];exact h1,h2,h3⟩
 obtain⟨L8,h1,h2,h3⟩:=key (m env+1) env h (Nat.lt_succ_self _)
 refine⟨L8,?_,h2,h3⟩
 rw[ya (n:=m env+1) (by rw[h1];exact λz=>nomatch z),h1]
theorem log2_small{i:Int}{k:Nat}(h:i.natAbs<2^k)(hk:k<=9000):i.natAbs.log2<67108864:=by
 by_cases z:i.natAbs=0
 ·rw[z];decide
 ·have:=(Nat.log2_lt z).mpr h
  omega
theorem bu{i j:Int}{k l:Nat}(hi:i.natAbs<2^k)(hj:j.natAbs<2^l)(hk:autoParam (k<=9000) aD._auto_1)(hl:autoParam (l<=9000) aD._auto_1):bR (.int i) (.int j)=M.ok (.int (i*j)):=by
 rw[bR,av ⟨log2_small hi hk,log2_small hj hl⟩]
theorem mh{i j:Int}(h0:j≠0)(h:j.natAbs<2^9000):bM (.int i) (.int j)=M.ok (.int (i.fdiv j)):=by
 show cV _ _=_
 refine av (decide_eq_true ⟨h0,(Nat.log2_lt (by omega)).mpr h⟩)
theorem Cd{i j:Int}(h0:j≠0):dh (.int i) (.int j)=M.ok (.int (i.fmod j)):=by
 show cV _ _=_
 exact av (decide_eq_true h0)
theorem aT{i j:Int}(h0:0<j)(h:j<2^64):bM (.int i) (.int j)=M.ok (.int (i/j)):=by
 rw[mh (by omega) (Nat.lt_of_lt_of_le (show j.natAbs<2^64 by omega) (Nat.pow_le_pow_right (by decide) (by decide))),Int.fdiv_eq_ediv_of_nonneg _ (by omega)]
theorem bb{i j:Int}(h0:0<j):dh (.int i) (.int j)=M.ok (.int (i%j)):=by
 rw[Cd (by omega),Int.fmod_eq_emod_of_nonneg _ (by omega)]
theorem aW{xs:List PV}{p:PV}{j:Nat}{x:PV}(hs:bO p=some xs)(h:xs[j]?=some x):aB p (.int (j:Int))=M.ok x:=by
 cases p with
 | tup ys=>cases hs;simp only[aB,sX h,fg]
 | lst ys=>cases hs;simp only[aB,sX h,fg]
 | jD ys=>cases hs;simp only[aB,sX h,fg]
 | _=>cases hs
section
variable{b:String->Bool}{ob oe:Addr->Option Bool}
theorem Fu(xs:List Int):B0 b ob oe (tI xs)=M.ok (.bl (b "tuple")):=Eq.trans rfl rfl
theorem GD(xs:List Int):B0 b ob oe (lI xs)=M.ok (.bl (b "list")):=Eq.trans rfl rfl
theorem D4(xs:List PV):B0 b ob oe (.tup xs)=M.ok (.bl (b "tuple")):=Eq.trans rfl rfl
theorem DA(xs:List PV):B0 b ob oe (.lst xs)=M.ok (.bl (b "list")):=Eq.trans rfl rfl
theorem DG(i:Int):B0 b ob oe (.int i)=M.ok (.bl (b "int")):=Eq.trans rfl rfl
theorem F6(i:Bool):B0 b ob oe (.bl i)=M.ok (.bl (b "bool")):=Eq.trans rfl rfl
theorem Ef:B0 b ob oe .cp=M.ok (.bl (b "NoneType")):=Eq.trans rfl rfl
theorem C1(x:Str):B0 b ob oe (.str x)=M.ok (.bl (b "str")):=Eq.trans rfl rfl
theorem CT:B0 b ob oe .emp=M.ok (.bl (b "dict")):=Eq.trans rfl rfl
end
theorem CW(i j:Int):p6 (.int i) (.int j)=M.ok (.bl (!decide (i=j))):=by
 simp only[p6,p9,dat,FP,shaped,PyData.canLay0,PyData.depth,noMix]
 rw[av ⟨rfl,rfl,trivial⟩]
 unfold same
 rw[M.aO];congr
theorem DT(i j:Int):pU (.int i) (.int j)=M.ok (.bl (decide (i=j))):=by
 simp only[pU,p9,dat,FP,shaped,PyData.canLay0,PyData.depth,noMix]
 rw[av ⟨rfl,rfl,trivial⟩]
 unfold same
 rw[M.aO];congr
theorem Gj(i j:Bool):p6 (.bl i) (.bl j)=M.ok (.bl (!decide (i=j))):=by
 simp only[p6,p9,dat,FP,shaped,PyData.canLay0,PyData.depth,noMix]
 rw[av ⟨rfl,rfl,trivial⟩]
 unfold same
 rw[M.aO];congr
theorem GO(i j:Bool):pU (.bl i) (.bl j)=M.ok (.bl (decide (i=j))):=by
 simp only[pU,p9,dat,FP,shaped,PyData.canLay0,PyData.depth,noMix]
 rw[av ⟨rfl,rfl,trivial⟩]
 unfold same
 rw[M.aO];congr
theorem rC(xs:List Int):me (xs.map PV.int)=some (xs.map PyData.int):=by
 induction xs with
 | nil=>rfl
 | cons a r ih=>simp[me,dat,ih]
theorem mT(xs:List Int):PyData.canLayAll0 (xs.map PyData.int)=true:=by
 induction xs with
 | nil=>rfl
 | cons a r ih=>simp[PyData.canLayAll0,PyData.canLay0,ih]
theorem pQ(xs:List Int):PyData.depthAll (xs.map PyData.int)=0:=by
 induction xs with
 | nil=>rfl
 | cons a r ih=>simp[PyData.depthAll,PyData.depth,ih]
theorem noMix_ints:∀ (xs ys:List Int),noMixAll (xs.map PyData.int) (ys.map PyData.int)=true
 | [],[]=>by simp[noMixAll]
 | [],_::_=>by simp[noMixAll]
 | _::_,[]=>by simp[noMixAll]
 | a::r,b::s=>by simp[noMixAll,noMix,noMix_ints r s]
theorem same_ints:∀ (xs ys:List Int),sameAll (xs.map PyData.int) (ys.map PyData.int)=decide (xs=ys)
 | [],[]=>by simp[sameAll]
 | [],_::_=>by simp[sameAll]
 | _::_,[]=>by simp[sameAll]
 | a::r,b::s=>by
  simp only[List.map_cons,sameAll,same_ints r s]
  unfold same
  rw[Bool.eq_iff_iff];simp
theorem xW(xs:List (List Int)):me (xs.map tI)=some (xs.map λr=>.tuple (r.map PyData.int)):=by
 induction xs with
 | nil=>rfl
 | cons a r ih=>simp[me,dat,tI,rC] at ih ⊢;simp[ih]
theorem uU(xs:List (List Int)):PyData.canLayAll0 (xs.map λr=>.tuple (r.map PyData.int))=true:=by
 induction xs with
 | nil=>rfl
 | cons a r ih=>simp[PyData.canLayAll0,PyData.canLay0,ih,mT]
theorem pq(xs:List (List Int)):PyData.depthAll (xs.map λr=>.tuple (r.map PyData.int))<=1:=by
 induction xs with
 | nil=>exact Nat.zero_le _
 | cons a r ih=>simp[PyData.depthAll,PyData.depth,pQ,ih]
theorem og:∀ (xs ys:List (List Int)),noMixAll (xs.map λr=>.tuple (r.map PyData.int)) (ys.map λr=>.tuple (r.map PyData.int))=true
 | [],[]=>by simp[noMixAll]
 | [],_::_=>by simp[noMixAll]
 | _::_,[]=>by simp[noMixAll]
 | a::r,b::s=>by simp[noMixAll,noMix,noMix_ints,og r s]
theorem qL:∀ (xs ys:List (List Int)),sameAll (xs.map λr=>.tuple (r.map PyData.int)) (ys.map λr=>.tuple (r.map PyData.int))=decide (xs=ys)
 | [],[]=>by simp[sameAll]
 | [],_::_=>by simp[sameAll]
 | _::_,[]=>by simp[sameAll]
 | a::r,b::s=>by
  simp only[List.map_cons,sameAll,qL r s]
  unfold same
  rw[same_ints,Bool.eq_iff_iff];simp
theorem ot(xs ys:List Int):p6 (tI xs) (tI ys)=M.ok (.bl (!decide (xs=ys))):=by
 simp only[p6,p9,dat,tI,rC,Option.map_some,FP]
 rw[av (by simp[shaped,PyData.canLay0,PyData.depth,mT,pQ,noMix,noMix_ints])]
 unfold same
 rw[same_ints];rfl
theorem Dy(i j:Int):AE (.int i) (.int j)=M.ok (.bl (decide (i<j))):=Eq.trans rfl rfl
theorem Dq(i j:Int):Eg (.int i) (.int j)=M.ok (.bl (decide (i<=j))):=Eq.trans rfl rfl
theorem Ds(i j:Int):Fz (.int i) (.int j)=M.ok (.bl (decide (j<i))):=Eq.trans rfl rfl
theorem Dr(i j:Int):HF (.int i) (.int j)=M.ok (.bl (decide (j<=i))):=Eq.trans rfl rfl
theorem zu(i j:Int):dQ (.int i) (.int j)=M.ok (.int (i+j)):=Eq.trans rfl rfl
theorem Ah(i j:Int):kN (.int i) (.int j)=M.ok (.int (i-j)):=Eq.trans rfl rfl
theorem hV{n:Int}(h:0<=n)(h2:n<2^62):mI [.int n]=M.ok ((List.range n.toNat).map λ(i:Nat)=>.int (i:Int)):=by
 show cV (-(2^62)<=n/\n<2^62) _=_
 rw[av (by omega)]
 simp
theorem fH{β:Type}{set:PV->ai->M ai}{body:ai->M Out}{α:Type}{inj:α->PV}{k:Out->M β}{r:M β}(xs:List α)(J:List α->ai->Prop){env:ai}(h:J xs env)
  (H:∀ a r env,J (a::r) env->∃ e' L8,set (inj a) env=M.ok e'/\body e'=M.ok (.nx L8)/\J r L8) (hk:∀ L8,J [] L8->k (.nx L8)=r):M.bind (ja set body (xs.map inj) env) k=r:=by
 obtain⟨L8,e,h'⟩:=lT J H xs env h
 rw[e,M.aO];exact hk L8 h'
theorem aL{n:Nat}(h:n<=1000):n<=sizeLine:=Nat.le_of_lt (lX h)
def tupK(ps:List PV):M PV:=cV (ps.length<=sizeLine) (M.ok (.tup ps))
def lstK(ps:List PV):M PV:=cV (ps.length<=sizeLine) (M.ok (.lst ps))
theorem CV(fs:ai->M (List PV))(env:ai):jO fs env=(fs env).bind tupK:=rfl
theorem Dl(fs:ai->M (List PV))(env:ai):pB fs env=(fs env).bind lstK:=rfl
theorem GC:tupK []=M.ok (.tup []):=av (aL (show 0<=1000 by decide))
theorem Hz:lstK []=M.ok (.lst []):=av (aL (show 0<=1000 by decide))
theorem Hw(a:PV):tupK [a]=M.ok (.tup [a]):=av (aL (show 1<=1000 by decide))
theorem Hh(a:PV):lstK [a]=M.ok (.lst [a]):=av (aL (show 1<=1000 by decide))
theorem GY(a b:PV):tupK [a,b]=M.ok (.tup [a,b]):=av (aL (show 2<=1000 by decide))
theorem Fd(a b:PV):lstK [a,b]=M.ok (.lst [a,b]):=av (aL (show 2<=1000 by decide))
theorem Fi(a b c:PV):tupK [a,b,c]=M.ok (.tup [a,b,c]):=av (aL (show 3<=1000 by decide))
theorem FD(a b c:PV):lstK [a,b,c]=M.ok (.lst [a,b,c]):=av (aL (show 3<=1000 by decide))
theorem Gk(a b c d:PV):tupK [a,b,c,d]=M.ok (.tup [a,b,c,d]):=av (aL (show 4<=1000 by decide))
theorem GV(a b c d:PV):lstK [a,b,c,d]=M.ok (.lst [a,b,c,d]):=av (aL (show 4<=1000 by decide))
theorem GJ(a b c d e:PV):tupK [a,b,c,d,e]=M.ok (.tup [a,b,c,d,e]):=av (aL (show 5<=1000 by decide))
theorem G1(a b c d e:PV):lstK [a,b,c,d,e]=M.ok (.lst [a,b,c,d,e]):=av (aL (show 5<=1000 by decide))
theorem Fy(a b c d e f:PV):tupK [a,b,c,d,e,f]=M.ok (.tup [a,b,c,d,e,f]):=av (aL (show 6<=1000 by decide))
theorem FZ(a b c d e f:PV):lstK [a,b,c,d,e,f]=M.ok (.lst [a,b,c,d,e,f]):=av (aL (show 6<=1000 by decide))
end L2
namespace L2
open PySem PySem.Spec PyProof.Rows
def jC{α:Type}(m:M α)(Q:α->Prop):Prop:=∃ a,m=M.ok a/\Q a
section
variable{α β γ:Type}{Q Q':α->Prop}{m:M α}
theorem jC.eq{a:α}(h:jC m λx=>x=a):m=M.ok a:=by obtain⟨b,e,rfl⟩:=h;exact e
def Tn(J:ai->Prop)(B:ai->Prop)(R:PV->Prop):Out->Prop
 | .nx e=>J e
 | .ct e=>J e
 | .bk e=>B e
 | .rt p=>R p
theorem jC.wH{set:PV->ai->M ai}{body:ai->M Out}{inj:γ->PV}{B:ai->Prop}{R:PV->Prop}(J:List γ->ai->Prop)
  (H:∀ a r env,J (a::r) env->jC (M.bind (set (inj a) env) body) (Tn (J r) B R)):∀ (xs:List γ) (env:ai),J xs env->jC (ja set body (xs.map inj) env) λo=>(∃ e,o=.nx e/\(J [] e\/B e))\/∃ p,o=.rt p/\R p
 | [],env,h=>⟨_,rfl,.inl ⟨_,rfl,.inl h⟩⟩
 | a::r,env,h=>by
  obtain⟨o,e,q⟩:=H a r env h
  rw[List.map_cons,ja,← M.bind_assoc,e,M.aO]
  cases o with
  | nx e'=>exact jC.wH J H r e' q
  | ct e'=>exact jC.wH J H r e' q
  | bk e'=>exact⟨_,rfl,.inl ⟨_,rfl,.inr q⟩⟩
  | rt p=>exact⟨_,rfl,.inr ⟨_,rfl,q⟩⟩
theorem jC.loop{R:β->Prop}{set:PV->ai->M ai}{body:ai->M Out}{inj:γ->PV}{k:Out->M β}{xs:List γ}{env:ai}(J:List γ->ai->Prop)(h:J xs env)
  (H:∀ a r env,J (a::r) env->jC (M.bind (set (inj a) env) body) (Tn (J r) (λ_=>False) λ_=>False)) (hk:∀ L8,J [] L8->jC (k (.nx L8)) R):jC (M.bind (ja set body (xs.map inj) env) k) R:=by
 obtain⟨o,e,q⟩:=jC.wH J H xs env h
 rw[e,M.aO]
 rcases q with ⟨e',rfl,q | q⟩ | ⟨p,_,q⟩
 ·exact hk e' q
 ·exact q.elim
 ·exact q.elim
theorem jC.IZ{R:β->Prop}{set:PV->ai->M ai}{body:ai->M Out}{inj:γ->PV}{k:Out->M β}{xs:List γ}{env:ai}(J:List γ->ai->Prop)(h:J xs env)
  (H:∀ a r env,J (a::r) env->jC (M.bind (set (inj a) env) body) (Tn (J r) (λe=>jC (k (.nx e)) R) λp=>jC (k (.rt p)) R)) (hk:∀ L8,J [] L8->jC (k (.nx L8)) R):jC (M.bind (ja set body (xs.map inj) env) k) R:=by
 obtain⟨o,e,q⟩:=jC.wH J H xs env h
 rw[e,M.aO]
 rcases q with ⟨e',rfl,q | q⟩ | ⟨p,rfl,q⟩
 ·exact hk e' q
 ·exact q
 ·exact q
end
def Ik(i:Nat)(env:ai)(xs:List PV)(p:PV):M Out:=if xs.length<sizeLine then M.ok (.nx (env.set i (some (.ow (xs++[p]))))) else none
theorem kn(i:Nat)(f:ai->M PV)(env:ai):jQ i f env=(ownAt i env).bind λxs=>(f env).bind λp=>Ik i env xs p:=by
 unfold jQ ownAt
 rcases env[i]? with _ | _ | (_ | _ | _) <;> rfl
theorem j9{i:Nat}{env:ai}{xs:List PV}{p:PV}(h:xs.length<1000):Ik i env xs p=M.ok (.nx (env.set i (some (.ow (xs++[p]))))):=if_pos (lX (Nat.le_of_lt h))
def qx(C:Addr)(m:Str)(sem:List PV->M PV)(p:PV)(x:M (List PV)):M PV:=match p with
 | .obj C' fl=>cV (C'=C/\fl.lookup m=none) (x.bind λps=>sem (.obj C' fl::ps))
 | _=>none
theorem bN(C:Addr)(m:Str)(sem:List PV->M PV)(g:ai->M PV)(fs:ai->M (List PV))(env:ai):bp C m sem g fs env=(g env).bind λp=>qx C m sem p (fs env):=rfl
theorem kh{C:Addr}{m:Str}{sem:List PV->M PV}{fl:List (Str×PV)}{x:M (List PV)}(h:fl.lookup m=none):qx C m sem (.obj C fl) x=x.bind λps=>sem (.obj C fl::ps):=av ⟨rfl,h⟩
def BC(ok:Addr->Bool)(f:Str)(p:PV):M PV:=match p with
 | .obj C fs=>cV (ok C=true) (fg (fs.lookup f))
 | _=>none
theorem jj(ok:Addr->Bool)(f:Str)(g:ai->M PV)(env:ai):eB ok f g env=(g env).bind (BC ok f):=rfl
theorem oG{ok:Addr->Bool}{f:Str}{C:Addr}{fs:List (Str×PV)}{x:PV}(h:ok C=true)(hl:fs.lookup f=some x):BC ok f (.obj C fs)=M.ok x:=by
 show cV _ _=_
 rw[av h,hl];rfl
theorem gT(xs:List Int)(x:Int):xs.map PV.int++[.int x]=(xs++[x]).map PV.int:=by simp
end L2
namespace L2
open PySem PySem.Spec PyProof.Rows
theorem sQ{α:Type}{f:α->PV}{p:PV}(xs:List α)(h:bO p=some (xs.map f)):Cj [p]=M.ok (xs.zipIdx.map λz=>.tup [.int (z.2:Int),f z.1]):=by
 show Ky p=_
 unfold Ky
 rw[h]
 show M.ok (h_ _)=_
 rw[xM]
theorem GF(xs:List Int):Cj [lI xs]=M.ok (xs.zipIdx.map λz=>.tup [.int (z.2:Int),.int z.1]):=sQ xs rfl
theorem nX{α:Type}{f:α->PV}(xs:List α):Cj [.lst (xs.map f)]=M.ok (xs.zipIdx.map λz=>.tup [.int (z.2:Int),f z.1]):=sQ xs rfl
end L2
namespace L2
open PySem PySem.Spec PyProof.Rows
theorem LK{α:Type}{us:List α}(h:us.length=1):∃ a,us=[a]:=by
 cases us with
 | nil=>cases h
 | cons a t=>cases t with
  | nil=>exact⟨a,rfl⟩
  | cons b t=>cases h
theorem ln2{α:Type}{us:List α}(h:us.length=2):∃ a b,us=[a,b]:=by
 cases us with
 | nil=>cases h
 | cons a t=>obtain⟨b,rfl⟩:=LK (Nat.succ.inj h);exact⟨a,b,rfl⟩
theorem LG{α:Type}{us:List α}(h:us.length=3):∃ a b c,us=[a,b,c]:=by
 cases us with
 | nil=>cases h
 | cons a t=>obtain⟨b,c,rfl⟩:=ln2 (Nat.succ.inj h);exact⟨a,b,c,rfl⟩
def w4(K:PySem.W.Frag):Bool:=K.all λp=>match p.2.cls with
 | .type t=>t != "list"
 | _=>true
theorem A7{K:PySem.W.Frag}(h:w4 K=true){a:Addr}{o:Obj}(e:K.lookup a=some o):o.cls≠.type "list" := by
 induction K with
 | nil=>cases e
 | cons p r ih =>
  obtain⟨b,u⟩:=p
  rw[w4,List.all_cons,Bool.and_eq_true] at h
  rw[List.lookup_cons] at e
  cases q:a==b with
  | true =>
   rw[q] at e;cases e
   intro z
   have h1:=h.1
   simp only[z] at h1
   exact absurd h1 (by decide)
  | false=>rw[q] at e;exact ih h.2 e
theorem qB{H:Hp}:∀ ns:List Int,aS H (ns.map PV.int) (ns.map V.int)
 | []=>.nil
 | i::r=>.cons (.int i) (qB r)
theorem vW{l:PySem.W.OpenLaw}{n k:Nat}{q:Program}{loose:List Str}{XP:(Str->Option Value)->Heap->Prop}{YP:World->Heap->Prop}{d:DefRec}{K:Params->PySem.W.Frag}{sem:List PV->M PV}{x:Str}
  (hn:l.most=some n) (OE:n<=sizeLine) (hdf:d.params.defaults=[]) (hr:cD k callerA)
  (hY:∀ (w:World) (h:Heap),YP w h->(K w.params).In h)
  (hK:∀ w:World,w4 (K w.params)=true)
  (F:∀ (w:World) (mg:Str->Option Value) (fa:Addr) (h:Heap),(K w.params).In h->h.Ns mainGlobals mg->mg d.name=some (.ref fa) ->
   ∃ fd:FuncData,(∀ (s:Shared) (u:Value),BindsTo s fd ⟨[u],[]⟩ [(x,u)]) ∧
    ∀ base:Heap,(K w.params).In base->base.Ns mainGlobals mg->aP l.prog w (K w.params) mg base (bS l.prog w) k fa fd [x] (dz 1 sem))
  (OX:∀ ns:List Int,ns.length<=n->(∀ i∈ns,Builtin.Int.intBits i<=1048576)->sem [.jD (ns.map PV.int)]=M.ok (.bl true)) :
  PySem.W.WalkO q loose XP YP l.row.toRowW d [] (λf vs=>PySem.call f vs):=by
 intro w s₀ s₁ mg mb G Y fa o pm cd doc dV kV ho hd Ng hD hmg hg args vals as yz hlay hrd hwl hlo
 obtain rfl:dV=.none:=PySem.W.Dflts.none hD hdf
 obtain rfl:kV=.none:=PySem.W.Dflts.noKw hD
 obtain⟨a,vs,ns,rfl,rfl,hobj,hints,hlen⟩:=Att.yd hn yz hwl
 have Pj:∀ i∈ns,Builtin.Int.intBits i<=1048576:=λi hi=>by
  have h1:=PySem.W.layableW_arg hlay _ (List.mem_singleton.mpr rfl)
  have h2:=PySem.W.layableW_item h1 (.int i) (List.mem_map.mpr ⟨i,hi,rfl⟩)
  exact intBits_le_of_layable h2
 have KX:=hY w _ Y
 obtain⟨fd,hb,hF⟩:=F w mg fa _ KX G.T.g hmg
 have hs:=OX ns hlen Pj
 refine PySem.W.enter_call (codeAny_mono (BZ KX G.T.g G.T.b G.T.builtins G.T.nolimit hg hobj hints (Nat.le_trans hlen OE) hr hF hb (λH hO hS=>⟨rfl,H,[.jD (ns.map PV.int)],λ_ _ e=>e,?_,?_⟩) λH e s' z=>?_) λr s' hq=>?_)
 ·rcases hS with (hS | ⟨ob,hS⟩) | ⟨ob,L7,m,e1,e2,_⟩
  ·rcases hO a with z | ⟨ob,xs,z⟩
   ·rw[z] at hS;cases hS
   ·rw[z] at hS;cases hS
  ·exact .cons (.jD hS (qB ns)) .nil
  ·exact absurd e2 (A7 (hK w) e1)
 ·rw[hs]
  intro v L9 H' g r
  cases r;rfl
 ·obtain⟨ea,T,C,dd,Hc,_,_,_,_,_,_,_,_,z⟩:=z;exact z
 ·obtain⟨rfl,h2,h3,h4⟩:=hq
  exact⟨.inl ⟨.bool true,.bool true,[],rfl,λ_=>rfl,.bool true,Att.xQ l _,λ_=>⟨List.Pairwise.nil,λ_ hm=>(nomatch hm)⟩⟩,h2,h3,h4⟩
end L2
namespace L2
open PySem PySem.Spec PyProof.Rows
abbrev yE(x q:Str)(t:Stmt)(s:Value)(c:Addr):FuncData:=PySem.W.fnOf x q (iB t) (fb t) (bc t) .none .none .none s none (.ref c) .none
theorem bh.of{K:PySem.W.Frag}{x q:Str}{t:Stmt}{dv kV doc pm:Value}{an:Option Addr}{Mp ct:Value}{f:Addr}(h1:K.lookup f=some ⟨.type "function", none,.func (PySem.W.fnOf x q (iB t) (fb t) (bc t) dv kV doc pm an Mp ct),⟨[]⟩⟩)(h2:PySem.W.codeIn K Mp q=true)(h3:PySem.W.keepIn K (.ref f)=true):bh K x q t dv f (PySem.W.fnOf x q (iB t) (fb t) (bc t) dv kV doc pm an Mp ct):=⟨⟨_,_,_,_,_,_,_,_,_,rfl,h1,h2⟩,h3⟩
section
variable{α:Type}{P:List α->Prop}
theorem JN(h:∀ a b,P [a,b]):∀ us,us.length=2->P us:=λus hl=>by obtain⟨a,b,rfl⟩:=ln2 hl;exact h a b
end
theorem cO.of{N P:List Str}{sc:Scope}(h1:autoParam (sc.kind=.function) aR._auto_1)(h2:autoParam (sc.isCoroutine=false) aR._auto_1)(h3:autoParam (sc.isGenerator=false) aR._auto_1)(h4:autoParam (N.Nodup) aN._auto_1)(h5:autoParam (N.take P.length=P) aR._auto_1)(h6:autoParam (∀ x∈P,sc.names.lookup x=some .local\/sc.names.lookup x=some .cell) aN._auto_1)(h7:autoParam (∀ y∈sc.names,y.2≠.free) aN._auto_1):cO N P sc:=⟨h1,h2,h3,h4,h5,h6,h7⟩
theorem aV{X:Cx}{pos:Pos}{i:Nat}{x:Str}(hN:X.N.Nodup)(hi:autoParam (X.N[i]?=some x) aR._auto_1)(hx:autoParam (Loc X.env.scope x) aG._auto_1)(hf:autoParam (X.fn x=true\/X.env.scope.names.lookup x=some .local) aG._auto_1):PG X (.Name x pos) (aH i):=D9 hN hi hx hf
end L2
namespace L2
open PySem PySem.Spec PyProof.Rows
def DN:Nat->(List Value->Prop)->Prop
 | 0,P=>P []
 | n+1,P=>∀ a,DN n λl=>P (a::l)
theorem sP:∀ {n:Nat} {P:List Value->Prop},DN n P->∀ us:List Value,us.length=n->P us
 | 0,_,h,[],_=>h
 | n+1,_,h,a::r,e=>sP (h a) r (Nat.succ.inj e)
section
variable{K:PySem.W.Frag}{mg:Str->Option Value}{h:Heap}{x q:Str}{t:Stmt}{n m:Nat}{ps:List Str}{sem:List PV->M PV}{tO:List PV->M (List PV)}
theorem hX(P:Program)(w:World)(base:Heap)(X:K.In h)(G:h.Ns mainGlobals mg)(a c:Addr)(s:Value)(ok:bh K x q t .none a (yE x q t s c)->aP P w K mg base (bS P w) n a (yE x q t s c) ps (dz m (bq m sem)))
  (h1:autoParam (K.lookup a=some ⟨.type "function", none,.func (yE x q t s c),⟨[]⟩⟩) aK._auto_1) (h2:autoParam (PySem.W.codeIn K (.ref c) q=true) aK._auto_1) (h3:autoParam (PySem.W.keepIn K (.ref a)=true) aK._auto_1) (h4:autoParam (PySem.W.nsIn K mainGlobals x=some (some (.ref a))) aK._auto_1)
  (h5:autoParam (ps.length=m) aR._auto_1) (h6:DN ps.length λus=>bindArgs (yE x q t s c) ⟨us,[]⟩=pure (ps.zip us):=by (repeat intro _);rfl):cZ P w K mg base n x m sem :=
 ⟨⟨a,_,ps,PySem.W.mg_of X G h4,h3,h5,.all (sP h6),ok (.of h1 h2 h3)⟩⟩
theorem zB(P:Program)(w:World)(base:Heap){C:Addr}(cc:lU K C)(a c:Addr)(s:Value)(ok:bh K x q t .none a (yE x q t s c)->aP P w K mg base (bS P w) n a (yE x q t s c) ps (dz m (bq m sem)))
  (h1:autoParam (K.lookup a=some ⟨.type "function", none,.func (yE x q t s c),⟨[]⟩⟩) aK._auto_1) (h2:autoParam (PySem.W.codeIn K (.ref c) q=true) aK._auto_1) (h3:autoParam (PySem.W.keepIn K (.ref a)=true) aK._auto_1) (h4:autoParam (PySem.W.findIn K (.ref C) x=some (some (.ref a))) aK._auto_1) (h5:autoParam (PySem.W.isFn K (.ref a)=true) aK._auto_1)
  (h6:DN ps.length λus=>bindArgs (yE x q t s c) ⟨us,[]⟩=pure (ps.zip us):=by (repeat intro _);rfl):jG P w K mg base C n x m sem :=
 ⟨⟨a,_,ps,cc,⟨h4,h5,h3⟩,.all (sP h6),ok (.of h1 h2 h3)⟩⟩
end
end L2
namespace L2
open PySem PySem.Spec PyProof.Rows
theorem bh.ff{P:Program}{w:World}{K:PySem.W.Frag}{mg:Str->Option Value}{base:Heap}{x qual:Str}{st:Stmt}{dv:Value}{f:Addr}{fd:FuncData}{ps:List Str}{k:Nat}{g:ai->M Out}(F:bh K x qual st dv f fd)(N:List Str)
  (hb:N.Nodup->∀ (Mp:Value) (A:Around) (outer:List Env) (s:Shared) (H:Hp) (E:XK),cD k (A.deeper (envOfC qual (bc st) s.heap.objs.size f Mp))->fw ((lF (bS P w) P w K mg base N qual (bc st) f Mp A outer s H E).out λ_=>E) (λ_=>E)->lW ((lF (bS P w) P w K mg base N qual (bc st) f Mp A outer s H E).out λ_=>E) (fb st) (tS E g))
  (S:cO N ps (bc st):=by exact .of):aP P w K mg base (bS P w) (k+1) f fd ps (dz ps.length (bq ps.length (ax N.length g))):=F.LU S (hb S.nd)
end L2
namespace HD
open PySem PySem.W L2
abbrev pw:Program:=PySem.Challenge.pw_dialvault_k92_whole_order_of_vaults
noncomputable section
noncomputable def st(s:String)(t:Nat):Value:=.str (Str.ofString s) t
def en(P:Params)(s:String)(t:Nat)(v:Value):DictEntry:=⟨PyData.keyHash P (Str.ofString s),st s t,v⟩
def tu(xs:List Value):Obj:=⟨.type "tuple", none,.seq ⟨xs⟩ 0,⟨[]⟩⟩
def di(n:Nat)(es:List DictEntry):Obj:=⟨.type "dict", none,.dict ⟨es⟩ n,⟨[]⟩⟩
def tp(i:Nat):Stmt:=pw.main.body.getD i (.Pass ⟨0,0,0,0⟩)
def mp(i j:Nat):Stmt:=inClass (tp i) j
def co(a b:String)(t:Nat)(l n:Int)(x1 x2 x3 x4 x5:Nat)(u:Nat):Obj:=⟨.type "code", none,.fields ⟨[st a t,st b (t+1),st "/claim/cut.py" (t+2),.int l 0,.int n 0,.int 0 0,.int 0 0,.int 3 0,.ref x1,.bool true,.int 181 0,.ref x2,.none,.ref x3,.ref x4,.ref x5,.int u 0,.int l 0,st "/claim/cut.py" (u+1)]⟩,⟨[]⟩⟩
def ft(a b:String)(s:Stmt):Obj:=⟨.none,none,.func ⟨Str.ofString a,Str.ofString b,iB s,.stmts (fb s),bc s,0,[],.none,.none,.none,.none,none,.none,.none,0⟩,⟨[]⟩⟩
def fo(a b:String)(s:Stmt)(df pm:Value)(cd:Nat):Obj:=⟨.type "function", none,.func ⟨Str.ofString a,Str.ofString b,iB s,.stmts (fb s),bc s,3,[],df,.none,.none,pm,none,.ref cd,.none,0⟩,⟨[]⟩⟩
def EV:List Obj->List Obj
 | []=>[]
 | [a]=>[a]
 | a::_::r=>a::EV r
def bt:Nat->List Obj->BT
 | 0,_=>.nil
 | _+1,[]=>.nil
 | n+1,a::r=>.node a (bt n (EV r)) (bt n (EV (r.drop 1)))
def S(L:Params->List Obj)(n k:Nat)(w:World)(os:OsState):SharedT:=⟨bt 14 (L w.params),n,{},⟨[]⟩,⟨0,0,0,0⟩,k,os⟩
def F(L:Params->List Obj)(k:Nat)(w:World)(os:OsState):Shared:=⟨⟨⟨L w.params⟩,{}⟩,⟨[]⟩,⟨0,0,0,0⟩,k,os⟩
def cc(a:String)(t:Nat)(l:Int)(x y u:Nat):Obj:=⟨.type "code", none,.fields ⟨[st a t,st a (t+1),st "/claim/cut.py" (t+2),.int l 0,.int 0 0,.int 0 0,.int 0 0,.int 0 0,.ref x,.bool false,.int 181 0,.ref y,.none,.none,.none,.none,.int u 0,.int l 0,st "/claim/cut.py" (u+1)]⟩,⟨[]⟩⟩
def fr(a b:Nat)(s:String)(t:Nat):Obj:=⟨.type "frame", none,.plain,⟨[some (.ref a),some (.ref 3),some (.ref b),none,some (st s t),none,some (.ref 0)]⟩⟩
def su(a:Nat):Obj:=⟨.type "super", none,.fields ⟨[.ref a,.ref a,.ref a]⟩,⟨[]⟩⟩
def ii(a:Nat):Obj:=⟨.type "builtin_function_or_method", none,.fields ⟨[.builtin "object.__init_subclass__", .ref a]⟩,⟨[]⟩⟩
def rj:List Nat->List Value
 | a::b::c::r=>.int a 0::.int b 0::.ref c::rj r
 | _=>[]
def fi(xs:List Nat):Obj:=⟨.none,none,.fields ⟨rj xs⟩,⟨[]⟩⟩
def cl(n:Str)(bs ms:List Value)(k:Nat)(ss:List Value)(sl:List (Option Value)):Obj:=⟨.type "type", none,.cls ⟨n,bs,ms,k,n,true,[],ss,false,none,false⟩,⟨sl⟩⟩
def pt(L:List Obj)(us:List (Nat×Obj))(ns:List Obj):List Obj:=us.foldl (λl u=>l.set u.1 u.2) L++ns
abbrev b0:=boot_o_0
abbrev b1:=boot_o_1
abbrev b2:=boot_o_2
abbrev b3:=boot_o_3
abbrev b4:=boot_o_4
abbrev b5:=boot_o_5
abbrev b6:=boot_o_6
abbrev b7:=boot_o_7
abbrev b8:=boot_o_8
abbrev b9:=boot_o_9
abbrev LH:=boot_o_10
def m0:Value:=st "__main__" 164
def m1:Value:=st "dialvault.errors" 194
def m2:Value:=st "dialvault.wholes" 386
def m3:Value:=st "dialvault.vault" 443
def m4:Value:=st "dialvault.papers" 587
def m5:Value:=st "dialvault.rungs" 595
def m6:Value:=st "dialvault.classes" 761
def m7:Value:=st "dialvault.stills" 778
def m8:Value:=st "dialvault.pairs" 802
def m9:Value:=st "law_dialvault_k92_whole_order_of_vaults" 820
def nl:List String->Nat->List Value
 | [],_=>[]
 | x::r,t=>st x t::nl r (t+1)
def fA(P:Params)(a t:Nat)(x q:String)(s:Stmt)(l n:Int)(vs:List String)(df pm:Value):List Obj:=[b7 P,b8 P,tu (nl vs (t+3)),b7 P,ft x q s,co x q t l n a (a+1) (a+2) (a+3) (a+4) (t+3+vs.length),fo x q s df pm (a+5)]
def fT(P:Params)(a t:Nat)(x:String)(s:Stmt)(l n:Int)(vs:List String)(pm:Value):List Obj:=fA P a t x x s l n vs .none pm
def fB(P:Params)(a t:Nat)(x q:String)(s:Stmt)(l n:Int)(df pm:Value):List Obj:=[b7 P,b8 P,ft x q s,⟨.type "code", none,.fields ⟨[st x t,st q (t+1),st "/claim/cut.py" (t+2),.int l 0,.int n 0,.int 0 0,.int 0 0,.int 3 0,.ref a,.bool true,.int 181 0,.ref (a+1),.none,.none,.none,.ref (a+2),.int (t+3) 0,.int l 0,st "/claim/cut.py" (t+4)]⟩,⟨[]⟩⟩,fo x q s df pm (a+3)]
def dB(P:Params)(n t:Nat)(m:Value)(l:Int)(r:List DictEntry):Obj:=di n (en P "__module__" t m::en P "__firstlineno__" (t+4) (.int l (t+3))::r)
def dA(P:Params)(n t:Nat)(m:Value)(x:String)(l:Int)(r:List DictEntry):Obj:=di n (en P "__module__" t m::en P "__qualname__" (t+2) (st x (t+1))::en P "__firstlineno__" (t+4) (.int l (t+3))::r)
def gw(t a:Nat):Obj:=⟨.type "getset_descriptor", none,.fields ⟨[st "__weakref__" t,.ref a,.builtin "ExceptionGroup.__weakref__", .none]⟩,⟨[]⟩⟩
def gd(t a:Nat):Obj:=⟨.type "getset_descriptor", none,.fields ⟨[st "__dict__" t,.ref a,.builtin "function.__dict__", .builtin "function.__dict__#set"]⟩,⟨[]⟩⟩
def ce(x:String)(b a k:Nat)(ss:List Value)(d t u:Nat):Obj:=cl x [.ref b] [.ref a,.ref b,.type "ValueError", .type "Exception", .type "BaseException", .type "object"] k ss [some (.ref d),none,some (st x t),some (st x u),some (.builtin "ValueError.__new__"),some (.bool true)]
def gl P:=[en P "__doc__" 166 .none,en P "__package__" 167 .none,en P "__loader__" 168 (.builtin "__main__.__loader__#opaque"),en P "__spec__" 169 .none,en P "__annotations__" 170 (.ref 6),en P "__builtins__" 171 (.ref 4),en P "__file__" 173 (st "/claim/cut.py" 172),en P "__cached__" 174 .none,en P "_wall" 193 (.ref 21),en P "VaultError" 220 (.ref 38),en P "NoDial" 252 (.ref 65),en P "NoLever" 284 (.ref 91),en P "NoPrice" 316 (.ref 117),en P "NoSetting" 339 (.ref 136),en P "TooMany" 362 (.ref 155),en P "Unlike" 385 (.ref 174),en P "is_whole" 394 (.ref 183),en P "is_row" 400 (.ref 188),en P "common" 412 (.ref 195),en P "multiple_of" 421 (.ref 202),en P "product_of" 430 (.ref 209),en P "unit_row" 436 (.ref 214),en P "rest_sum" 442 (.ref 219),en P "MOST_DIALS" 446 (.int 6 445),en P "LEAST_SIZE" 448 (.int 2 447),en P "MOST_SIZE" 450 (.int 360 449),en P "MOST_LEVERS" 452 (.int 8 451),en P "LEAST_PRICE" 454 (.int 1 453),en P "MOST_PRICE" 456 (.int 1000 455),en P "Vault" 514 (.ref 263),en P "is_within" 523 (.ref 274),en P "need_sizes" 532 (.ref 281),en P "need_same_sizes" 540 (.ref 288),en P "need_levers" 550 (.ref 295),en P "prices_for" 559 (.ref 302),en P "rests" 565 (.ref 307),en P "nought" 572 (.ref 314),en P "is_setting" 578 (.ref 319),en P "need_setting" 586 (.ref 326),en P "weigh" 594 (.ref 331),en P "mixed" 602 (.ref 336),en P "mixed_made" 614 (.ref 343),en P "unpulled" 622 (.ref 350),en P "pulled_once" 631 (.ref 357),en P "step_size" 641 (.ref 364),en P "taken_in" 656 (.ref 371),en P "lowered" 668 (.ref 378),en P "in_spans" 678 (.ref 385),en P "Rungs" 760 (.ref 446),en P "together_count" 769 (.ref 457),en P "does_as" 777 (.ref 464),en P "clear" 785 (.ref 469),en P "clear_of" 795 (.ref 476),en P "stills" 801 (.ref 481),en P "together" 811 (.ref 488),en P "both" 819 (.ref 495),en P "_law_cell" 829 (.ref 502),en P "_law_stream" 840 (.ref 509),en P "_law_digits" 851 (.ref 516),en P "_law_sizes" 857 (.ref 521),en P "_law_great" 864 (.ref 528),en P "_law_lever" 876 (.ref 535),en P "_law_rows" 882 (.ref 540),en P "_law_setting" 888 (.ref 545),en P "_law_added" 894 (.ref 550),en P "_law_turned" 907 (.ref 557),en P "_law_can" 918 (.ref 564),en P "_law_all_can" 929 (.ref 571),en P "_law_same_good" 939 (.ref 578),en P "_law_orders_good" 950 (.ref 585),en P "law" 956 (.ref 590)]
def LA(P:Params):List Obj:=[b0 P,b1 P,b2 P,b3 P,b4 P,b5 P,b6 P,b7 P,b8 P,b9 P,LH P,b7 P,b8 P,cc "<module>" 182 1 11 12 185,fr 13 3 "__main__" 164]
def o9:Obj:=⟨.type "builtin_function_or_method", none,(.fields ⟨[.builtin "type.__prepare__", .type "type"]⟩),⟨[]⟩⟩
def LZ:Obj:=gw 216 38
def HB:=tu [.ref 38]
def L0 P:=pt (LA P) [(3,di 15 (en P "__name__" 165 m1::(gl P).take 14)),(12,fi [1,0,20,5,0,27,9,0,47,16,0,73,23,0,99,30,0,125])] (fT P 15 187 "_wall" (tp 0) 1 1 ["k"] m0++([tu [.type "ValueError"],o9,dA P 5 203 m1 "VaultError" 5 [en P "word" 214 (.ref 35),en P "__static_attributes__" 215 (.ref 36)],b7 P,fi [7,4,34],cc "VaultError" 198 5 25 26 201,fr 27 24 "dialvault.errors" 194]++(fA P 29 208 "word" "VaultError.word" (mp 2 0) 7 1 ["self"] .none m1++([b7 P,dB P 3 203 m1 5 [en P "word" 214 (.ref 35),en P "__static_attributes__" 215 (.ref 36),en P "__weakref__" 217 (.ref 39),en P "__doc__" 218 .none],cl "VaultError" [.type "ValueError"] [.ref 38,.type "ValueError", .type "Exception", .type "BaseException", .type "object"] 37 [.ref 65,.ref 91,.ref 117,.ref 136] [some (.ref 22),none,some (st "VaultError" 196),some (st "VaultError" 204),some (.builtin "ValueError.__new__"),some (.bool true)],LZ,su 38,ii 38,HB,o9,dA P 6 228 m1 "NoDial" 9 [en P "__init__" 240 (.ref 55),en P "word" 247 (.ref 62),en P "__static_attributes__" 249 (.ref 63)],b7 P,fi [11,4,54,14,4,61],cc "NoDial" 223 9 45 46 226,fr 47 44 "dialvault.errors" 194]++(fA P 49 233 "__init__" "NoDial.__init__" (mp 3 0) 11 2 ["self", "dial"] .none m1++(fA P 56 241 "word" "NoDial.word" (mp 3 1) 14 1 ["self"] .none m1++([tu [st "dial" 248],dB P 2 228 m1 9 [en P "__init__" 240 (.ref 55),en P "word" 247 (.ref 62),en P "__static_attributes__" 249 (.ref 63),en P "__doc__" 250 .none],ce "NoDial" 38 65 64 [] 42 221 229,su 65,ii 65,HB,o9,dA P 6 260 m1 "NoLever" 16 [en P "__init__" 272 (.ref 81),en P "word" 279 (.ref 88),en P "__static_attributes__" 281 (.ref 89)],b7 P,fi [18,4,80,21,4,87],cc "NoLever" 255 16 71 72 258,fr 73 70 "dialvault.errors" 194]++(fA P 75 265 "__init__" "NoLever.__init__" (mp 4 0) 18 2 ["self", "lever"] .none m1++(fA P 82 273 "word" "NoLever.word" (mp 4 1) 21 1 ["self"] .none m1++([tu [st "lever" 280],dB P 2 260 m1 16 [en P "__init__" 272 (.ref 81),en P "word" 279 (.ref 88),en P "__static_attributes__" 281 (.ref 89),en P "__doc__" 282 .none],ce "NoLever" 38 91 90 [] 68 253 261,su 91,ii 91,HB,o9,dA P 6 292 m1 "NoPrice" 23 [en P "__init__" 304 (.ref 107),en P "word" 311 (.ref 114),en P "__static_attributes__" 313 (.ref 115)],b7 P,fi [25,4,106,28,4,113],cc "NoPrice" 287 23 97 98 290,fr 99 96 "dialvault.errors" 194]++(fA P 101 297 "__init__" "NoPrice.__init__" (mp 5 0) 25 2 ["self", "lever"] .none m1++(fA P 108 305 "word" "NoPrice.word" (mp 5 1) 28 1 ["self"] .none m1++([tu [st "lever" 312],dB P 2 292 m1 23 [en P "__init__" 304 (.ref 107),en P "word" 311 (.ref 114),en P "__static_attributes__" 313 (.ref 115),en P "__doc__" 314 .none],ce "NoPrice" 38 117 116 [] 94 285 293,su 117,ii 117,HB,o9,dA P 5 324 m1 "NoSetting" 30 [en P "word" 335 (.ref 133),en P "__static_attributes__" 336 (.ref 134)],b7 P,fi [32,4,132],cc "NoSetting" 319 30 123 124 322,fr 125 122 "dialvault.errors" 194]++(fA P 127 329 "word" "NoSetting.word" (mp 6 0) 32 1 ["self"] .none m1++([b7 P,dB P 2 324 m1 30 [en P "word" 335 (.ref 133),en P "__static_attributes__" 336 (.ref 134),en P "__doc__" 337 .none],ce "NoSetting" 38 136 135 [] 120 317 325,su 136,ii 136])))))))))))))))
def JT:Obj:=gd 508 263
def Kg:Obj:=gw 510 263
def L1 P:=pt (L0 P) [(3,di 43 (en P "__name__" 165 m5::(gl P).take 42)),(12,fi [1,0,20,5,0,27,9,0,47,16,0,73,23,0,99,30,0,125,34,0,144,38,0,163,43,0,182,45,0,187,49,0,194,60,0,201,65,0,208,70,0,213,72,0,218,81,0,225,102,0,273,104,0,280,112,0,287,115,0,294,121,0,301,130,0,306,132,0,313,134,0,318,139,0,325,143,0,330,150,0,335,152,0,342]),(38,cl "VaultError" [.type "ValueError"] [.ref 38,.type "ValueError", .type "Exception", .type "BaseException", .type "object"] 37 [.ref 65,.ref 91,.ref 117,.ref 136,.ref 155,.ref 174] [some (.ref 22),none,some (st "VaultError" 196),some (st "VaultError" 204),some (.builtin "ValueError.__new__"),some (.bool true)])] ([HB,o9,dA P 5 347 m1 "TooMany" 34 [en P "word" 358 (.ref 152),en P "__static_attributes__" 359 (.ref 153)],b7 P,fi [36,4,151],cc "TooMany" 342 34 142 143 345,fr 144 141 "dialvault.errors" 194]++(fA P 146 352 "word" "TooMany.word" (mp 7 0) 36 1 ["self"] .none m1++([b7 P,dB P 2 347 m1 34 [en P "word" 358 (.ref 152),en P "__static_attributes__" 359 (.ref 153),en P "__doc__" 360 .none],ce "TooMany" 38 155 154 [] 139 340 348,su 155,ii 155,HB,o9,dA P 5 370 m1 "Unlike" 38 [en P "word" 381 (.ref 171),en P "__static_attributes__" 382 (.ref 172)],b7 P,fi [40,4,170],cc "Unlike" 365 38 161 162 368,fr 163 160 "dialvault.errors" 194]++(fA P 165 375 "word" "Unlike.word" (mp 8 0) 40 1 ["self"] .none m1++([b7 P,dB P 2 370 m1 38 [en P "word" 381 (.ref 171),en P "__static_attributes__" 382 (.ref 172),en P "__doc__" 383 .none],ce "Unlike" 38 174 173 [] 158 363 371,su 174,ii 174]++(fT P 177 388 "is_whole" (tp 10) 43 1 ["thing"] m2++(fB P 184 395 "is_row" "is_row" (tp 11) 45 2 .none m2++(fT P 189 401 "common" (tp 12) 49 2 ["one", "other", "row", "behind", "times", "rest"] m2++(fT P 196 413 "multiple_of" (tp 13) 60 1 ["numbers", "multiple", "number"] m2++(fT P 203 422 "product_of" (tp 14) 65 1 ["numbers", "product", "number"] m2++(fB P 210 431 "unit_row" "unit_row" (tp 15) 70 2 .none m2++(fB P 215 437 "rest_sum" "rest_sum" (tp 16) 72 3 .none m2++([b7 P,o9,dA P 9 464 m3 "Vault" 81 [en P "__init__" 474 (.ref 232),en P "sizes" 481 (.ref 239),en P "levers" 488 (.ref 246),en P "prices" 495 (.ref 253),en P "around" 502 (.ref 260),en P "__static_attributes__" 507 (.ref 261)],b7 P,fi [83,4,231,91,4,238,94,4,245,97,4,252,100,4,259],cc "Vault" 459 81 223 224 462,fr 225 222 "dialvault.vault" 443,tu [.none]]++(fB P 228 469 "__init__" "Vault.__init__" (mp 24 0) 83 4 (.ref 227) m3++(fA P 233 475 "sizes" "Vault.sizes" (mp 24 1) 91 1 ["self"] .none m3++(fA P 240 482 "levers" "Vault.levers" (mp 24 2) 94 1 ["self"] .none m3++(fA P 247 489 "prices" "Vault.prices" (mp 24 3) 97 1 ["self"] .none m3++(fA P 254 496 "around" "Vault.around" (mp 24 4) 100 1 ["self"] .none m3++([tu [st "dial_sizes" 503,st "least_round" 504,st "lever_prices" 505,st "lever_settings" 506],dB P 4 464 m3 81 [en P "__init__" 474 (.ref 232),en P "sizes" 481 (.ref 239),en P "levers" 488 (.ref 246),en P "prices" 495 (.ref 253),en P "around" 502 (.ref 260),en P "__static_attributes__" 507 (.ref 261),en P "__dict__" 509 (.ref 264),en P "__weakref__" 511 (.ref 265),en P "__doc__" 512 .none],cl "Vault" [.type "object"] [.ref 263,.type "object"] 262 [] [none,none,some (st "Vault" 457),some (st "Vault" 465),some (.builtin "object.__new__"),some (.bool true)],JT,Kg,su 263,ii 263]++(fT P 268 515 "is_within" (tp 25) 102 3 ["thing", "least", "most"] m3++(fT P 275 524 "need_sizes" (tp 26) 104 1 ["sizes", "dial", "size"] m3++(fT P 282 533 "need_same_sizes" (tp 27) 112 2 ["sizes", "others"] m3++(fT P 289 541 "need_levers" (tp 28) 115 2 ["levers", "dials", "place", "lever"] m3++(fT P 296 551 "prices_for" (tp 29) 121 2 ["levers", "prices", "place"] m3++(fB P 303 560 "rests" "rests" (tp 30) 130 2 .none m3++(fT P 308 566 "nought" (tp 31) 132 1 ["vault"] m3++(fB P 315 573 "is_setting" "is_setting" (tp 32) 134 2 .none m3++(fT P 320 579 "need_setting" (tp 33) 139 2 ["vault", "thing"] m3++(fB P 327 589 "weigh" "weigh" (tp 35) 143 3 .none m4++(fB P 332 597 "mixed" "mixed" (tp 37) 150 4 .none m5++(fT P 337 603 "mixed_made" (tp 38) 152 5 ["sizes", "made", "times", "other", "others", "doing"] m5)))))))))))))))))))))))))))))))
def K3:Obj:=gd 754 446
def K0:Obj:=gw 756 446
def L2 P:=pt (L1 P) [(3,di 72 (en P "__name__" 165 m9::gl P)),(12,fi [1,0,20,5,0,27,9,0,47,16,0,73,23,0,99,30,0,125,34,0,144,38,0,163,43,0,182,45,0,187,49,0,194,60,0,201,65,0,208,70,0,213,72,0,218,81,0,225,102,0,273,104,0,280,112,0,287,115,0,294,121,0,301,130,0,306,132,0,313,134,0,318,139,0,325,143,0,330,150,0,335,152,0,342,155,0,349,157,0,356,160,0,363,163,0,370,172,0,377,177,0,384,182,0,391,235,0,456,237,0,463,241,0,468,244,0,475,249,0,480,254,0,487,257,0,494,260,0,501,264,0,508,271,0,515,278,0,520,289,0,527,291,0,534,302,0,539,307,0,544,311,0,549,313,0,556,318,0,563,325,0,570,331,0,577,334,0,584,350,0,589])] (fT P 344 615 "unpulled" (tp 39) 155 2 ["vault", "setting"] m5++(fT P 351 623 "pulled_once" (tp 40) 157 2 ["vault", "lever", "levers"] m5++(fT P 358 632 "step_size" (tp 41) 160 3 ["sizes", "made_rows", "dial", "notch"] m5++(fT P 365 642 "taken_in" (tp 42) 163 3 ["sizes", "made_rows", "left", "wider", "dial", "made", "step", "notch", "found"] m5++(fT P 372 657 "lowered" (tp 43) 172 4 ["sizes", "made_rows", "made", "first", "dial", "times"] m5++(fT P 379 669 "in_spans" (tp 44) 177 2 ["pulls", "idle_rows", "lever", "row"] m5++([b7 P,o9,dA P 13 686 m5 "Rungs" 182 [en P "__init__" 696 (.ref 397),en P "steps" 702 (.ref 402),en P "rows" 708 (.ref 407),en P "spans" 714 (.ref 412),en P "idle" 721 (.ref 419),en P "brought_down" 729 (.ref 426),en P "least" 737 (.ref 433),en P "pulls_to" 743 (.ref 438),en P "weights_at" 749 (.ref 443),en P "__static_attributes__" 753 (.ref 444)],b7 P,fi [184,4,396,196,4,401,200,4,406,203,4,411,206,4,418,209,4,425,213,4,432,216,4,437,222,4,442],cc "Rungs" 681 182 389 390 684,fr 391 388 "dialvault.rungs" 595]++(fB P 393 691 "__init__" "Rungs.__init__" (mp 45 0) 184 2 .none m5++(fB P 398 697 "steps" "Rungs.steps" (mp 45 1) 196 1 .none m5++(fB P 403 703 "rows" "Rungs.rows" (mp 45 2) 200 1 .none m5++(fB P 408 709 "spans" "Rungs.spans" (mp 45 3) 203 1 .none m5++(fA P 413 715 "idle" "Rungs.idle" (mp 45 4) 206 1 ["self"] .none m5++(fA P 420 722 "brought_down" "Rungs.brought_down" (mp 45 5) 209 2 ["self", "setting"] .none m5++(fA P 427 730 "least" "Rungs.least" (mp 45 6) 213 2 ["self", "setting"] .none m5++(fB P 434 738 "pulls_to" "Rungs.pulls_to" (mp 45 7) 216 2 .none m5++(fB P 439 744 "weights_at" "Rungs.weights_at" (mp 45 8) 222 2 .none m5++([tu [st "idle_rows" 750,st "made_rows" 751,st "vault" 752],dB P 4 686 m5 182 [en P "__init__" 696 (.ref 397),en P "steps" 702 (.ref 402),en P "rows" 708 (.ref 407),en P "spans" 714 (.ref 412),en P "idle" 721 (.ref 419),en P "brought_down" 729 (.ref 426),en P "least" 737 (.ref 433),en P "pulls_to" 743 (.ref 438),en P "weights_at" 749 (.ref 443),en P "__static_attributes__" 753 (.ref 444),en P "__dict__" 755 (.ref 447),en P "__weakref__" 757 (.ref 448),en P "__doc__" 758 .none],cl "Rungs" [.type "object"] [.ref 446,.type "object"] 445 [] [none,none,some (st "Rungs" 679),some (st "Rungs" 687),some (.builtin "object.__new__"),some (.bool true)],K3,K0,su 446,ii 446]++(fT P 451 763 "together_count" (tp 47) 235 1 ["vault"] m6++(fT P 458 770 "does_as" (tp 48) 237 2 ["one", "other"] m6++(fB P 465 780 "clear" "clear" (tp 50) 241 1 .none m7++(fT P 470 786 "clear_of" (tp 51) 244 2 ["sizes", "doings", "cleared", "doing"] m7++(fB P 477 796 "stills" "stills" (tp 52) 249 1 .none m7++(fT P 482 804 "together" (tp 54) 254 2 ["one", "other"] m8++(fT P 489 812 "both" (tp 55) 257 2 ["one", "other"] m8++(fT P 496 822 "_law_cell" (tp 57) 260 2 ["_law_script", "_law_k"] m9++(fT P 503 830 "_law_stream" (tp 58) 264 2 ["_law_cell_here", "_law_many", "_law_found", "_law_number", "_law_k"] m9++(fT P 510 841 "_law_digits" (tp 59) 271 2 ["_law_cell_here", "_law_bases", "_law_found", "_law_left", "_law_base"] m9++(fB P 517 852 "_law_sizes" "_law_sizes" (tp 60) 278 1 .none m9++(fT P 522 858 "_law_great" (tp 61) 289 1 ["_law_number"] m9++(fT P 529 865 "_law_lever" (tp 62) 291 2 ["_law_cell_here", "_law_sizes_here", "_law_row", "_law_number", "_law_size", "_law_share"] m9++(fB P 536 877 "_law_rows" "_law_rows" (tp 63) 302 2 .none m9++(fB P 541 883 "_law_setting" "_law_setting" (tp 64) 307 2 .none m9++(fB P 546 889 "_law_added" "_law_added" (tp 65) 311 4 .none m9++(fT P 551 895 "_law_turned" (tp 66) 313 4 ["_law_sizes_here", "_law_levers", "_law_setting_here", "_law_pulls", "_law_found", "_law_row", "_law_times"] m9++(fT P 558 908 "_law_can" (tp 67) 318 4 ["_law_sizes_here", "_law_vault", "_law_rungs", "_law_setting_here", "_law_pulls"] m9++(fT P 565 919 "_law_all_can" (tp 68) 325 3 ["_law_sizes_here", "_law_vault", "_law_levers", "_law_rungs", "_law_lever_here"] m9++(fT P 572 930 "_law_same_good" (tp 69) 331 3 ["_law_sizes_here", "_law_one", "_law_other", "_law_even"] m9++(fT P 579 940 "_law_orders_good" (tp 70) 334 3 ["_law_one", "_law_other", "_law_third", "_law_lower", "_law_counts"] m9++(fB P 586 951 "law" "law" (tp 71) 350 1 .none m9)))))))))))))))))))))))))))))))))))))))
def LF(P:Params):=L2 P
def bE:List Stmt:=behindTheImports pw
def env:Env:={ scope:=pw.main.scope,locals:=mainNs,globals:=mainNs,cells:=[],code:=.ref 13,frame:=some 14 }
def cE:Code:=.body bE env
abbrev B:List Frame:=[topFrame ⟨0,0,0,0⟩]
abbrev ann:Option Value:=(some (.ref 6))
def Fj:List Stmt:=(bE.drop 0).take 7
def Gv:List Stmt:=(bE.drop 7).take 32
def Fq:List Stmt:=(bE.drop 39).take 33
end
theorem yz:∀ w:World,(λos=>topGo treeTable pw w 11 ann 12 ⟨boot_heap w.params,⟨[]⟩,boot_drawn,boot_toks,os⟩ (topStub pw))=λos=>some (F LA 187 w os,⟨denote treeTable cE,cE,⟨0,0,0,0⟩,B⟩):=λw=>by
 rw[PySem.W.Fast.te15667345088766844465,PySem.W.Fast.te14364793385576792824,PySem.W.Fast.te11892475500146522536]
 kernel_rfl
theorem J4:∀ w:World,(λos=>segRun treeTable pw w 11 ann 1 1 (F LA 187 w os) (blockOf bE env cE ⟨0,0,0,0⟩ B))=λos=>some (Flow.next,(S LA 15 187 w os).abs,cE,⟨0,0,0,0⟩):=λw=>by
 rw[PySem.W.Fast.te14374325043358763698,PySem.W.Fast.te14364793385576792824]
 kernel_rfl
theorem LD:∀ w:World,(λos=>segRunT treeTable pw w 11 ann 1 1326 (S LA 15 187 w os) (piecesOf Fj env cE ⟨0,0,0,0⟩ B))=λos=>some (Flow.next,S L0 139 340 w os,cE,⟨30,0,33,16⟩):=λw=>by
 rw[PySem.W.Fast.te10110043849684766642,PySem.W.Fast.te14364793385576792824]
 kernel_rfl
theorem JW:∀ w:World,(λos=>segRunT treeTable pw w 11 ann 1 1478 (S L0 139 340 w os) (piecesOf Gv env cE ⟨30,0,33,16⟩ B))=λos=>some (Flow.next,S L1 344 615 w os,cE,⟨152,0,154,73⟩):=λw=>by
 rw[PySem.W.Fast.te10110043849684766642,PySem.W.Fast.te14364793385576792824]
 kernel_rfl
theorem EG:∀ w:World,(λos=>segRunT treeTable pw w 11 ann 1 1346 (S L1 344 615 w os) (piecesOf Fq env cE ⟨152,0,154,73⟩ B))=λos=>some (Flow.next,S L2 591 957 w os,cE,⟨350,0,369,15⟩):=λw=>by
 rw[PySem.W.Fast.te10110043849684766642,PySem.W.Fast.te14364793385576792824]
 kernel_rfl
theorem GG:∀ w:World,(λos=>topRun treeTable pw w 11 ann 2 (S L2 591 957 w os).abs ⟨doneF .next,cE,⟨350,0,369,15⟩,B⟩)=λos=>some (F LF 957 w os):=λw=>by
 rw[PySem.W.Fast.te14082659384304107361,PySem.W.Fast.te14364793385576792824]
 kernel_rfl
theorem LR:bE=(Fj++(Gv++(Fq++[]))):=by kernel_rfl
theorem Ap(w:World)(os:OsState):topRun treeTable pw w 11 ann (1326+(1478+(1346+2))) (S LA 15 187 w os).abs (restOf bE env cE ⟨0,0,0,0⟩ B)=some (F LF 957 w os):=by
 rw[show restOf bE env cE ⟨0,0,0,0⟩ B=restOf (Fj++(Gv++(Fq++[]))) env cE ⟨0,0,0,0⟩ B from congrArg (λb=>restOf b env cE ⟨0,0,0,0⟩ B) LR]
 exact piece_app (segRun_of (congrFun (LD w) os)) (piece_app (segRun_of (congrFun (JW w) os)) (piece_app (segRun_of (congrFun (EG w) os)) (piece_nil (congrFun (GG w) os))))
theorem KA(w:World)(os:OsState):topRun treeTable pw w 11 ann (12+(1+(1326+(1478+(1346+2))))) ⟨boot_heap w.params,⟨[]⟩,boot_drawn,boot_toks,os⟩ (topStub pw)=some (F LF 957 w os) :=
 go_top (congrFun (yz w) os) (piece_block (congrFun (J4 w) os) (Ap w os))
end HD
namespace HD
open PySem PySem.W L2
noncomputable section
def vw:Program:=PySem.W.view pw [0,2,3,4,5,6,7,8,10,11,12,13,14,15,16,18,19,20,21,22,23,24,25,26,27,28,29,30,31,32,33,35,37,38,39,40,41,42,43,44,45,47,48,50,51,52,54,55,57,58,59,60,61,62,63,64,65,66,67,68,69,70,71]
def loose:List Str:=[]
noncomputable def as:List Addr:=[2,3,15,17,18,20,21,22,29,31,32,34,35,36,37,38,39,42,49,51,52,54,55,56,58,59,61,62,63,64,65,68,75,77,78,80,81,82,84,85,87,88,89,90,91,94,101,103,104,106,107,108,110,111,113,114,115,116,117,120,127,129,130,132,133,134,135,136,139,146,148,149,151,152,153,154,155,158,165,167,168,170,171,172,173,174,177,179,180,182,183,184,187,188,189,191,192,194,195,196,198,199,201,202,203,205,206,208,209,210,213,214,215,218,219,227,228,231,232,233,235,236,238,239,240,242,243,245,246,247,249,250,252,253,254,256,257,259,260,261,262,263,264,265,268,270,271,273,274,275,277,278,280,281,282,284,285,287,288,289,291,292,294,295,296,298,299,301,302,303,306,307,308,310,311,313,314,315,318,319,320,322,323,325,326,327,330,331,332,335,336,337,339,340,342,343,344,346,347,349,350,351,353,354,356,357,358,360,361,363,364,365,367,368,370,371,372,374,375,377,378,379,381,382,384,385,393,396,397,398,401,402,403,406,407,408,411,412,413,415,416,418,419,420,422,423,425,426,427,429,430,432,433,434,437,438,439,442,443,444,445,446,447,448,451,453,454,456,457,458,460,461,463,464,465,468,469,470,472,473,475,476,477,480,481,482,484,485,487,488,489,491,492,494,495,496,498,499,501,502,503,505,506,508,509,510,512,513,515,516,517,520,521,522,524,525,527,528,529,531,532,534,535,536,539,540,541,544,545,546,549,550,551,553,554,556,557,558,560,561,563,564,565,567,568,570,571,572,574,575,577,578,579,581,582,584,585,586,589,590]
def K(P:Params):Frag:=as.map λa=>(a,(LF P).getD a (su 0))
def hook:Hook:=kHook K as (λ_=>by kernel_rfl)
abbrev rr:RowW:=(PySem.Challenge.rw_dialvault_k92_whole_order_of_vaults.row).toRowW
def Xt:Shared->Bool:=λs=>xlAt vw [] s&&recOk (RowW.records rr) s
def H1(P:Params):Heap:=⟨⟨LF P⟩,{}⟩
end
theorem IP:∀ w:World,((boot_heap w.params).isNs mainGlobals&&(Array.mk []:Array GenState).size==0,(boot_heap w.params).objs.size,(boot_heap w.params).nsMap mainGlobals "__annotations__")=(true,11,ann):=λw=>by
 rw[PySem.W.Fast.te8920871248978507458]
 kernel_rfl
theorem LQ(w:World):staticsOk (importedModules pw.main.body) (boot_heap w.params) (H1 w.params)=true:=by
 first | (rw[PySem.W.Fast.te4187177175401517315,PySem.W.Fast.te5923862056798008813];kernel_rfl) | (rw[PySem.W.Fast.te4187177175401517315];kernel_rfl) | (rw[PySem.W.Fast.te5923862056798008813];kernel_rfl) | (kernel_rfl)
theorem Lu(w:World):namesBound pw (H1 w.params)=true:=by
 first | (rw[PySem.W.Fast.te4187177175401517315,PySem.W.Fast.te5923862056798008813];kernel_rfl) | (rw[PySem.W.Fast.te4187177175401517315];kernel_rfl) | (rw[PySem.W.Fast.te5923862056798008813];kernel_rfl) | (kernel_rfl)
theorem LY(w:World)(os:_):gensDone ⟨H1 w.params,⟨[]⟩,⟨0,0,0,0⟩,957,os⟩=true:=by
 first | (rw[PySem.W.Fast.te4187177175401517315,PySem.W.Fast.te5923862056798008813];kernel_rfl) | (rw[PySem.W.Fast.te4187177175401517315];kernel_rfl) | (rw[PySem.W.Fast.te5923862056798008813];kernel_rfl) | (kernel_rfl)
theorem LB(w:World):laidKept (boot_heap w.params) (H1 w.params)=true:=by
 first | (rw[PySem.W.Fast.te4187177175401517315,PySem.W.Fast.te5923862056798008813];kernel_rfl) | (rw[PySem.W.Fast.te4187177175401517315];kernel_rfl) | (rw[PySem.W.Fast.te5923862056798008813];kernel_rfl) | (kernel_rfl)
theorem LW(w:World)(os:_):openSeen vw loose (importedModules pw.main.body) Xt true ⟨H1 w.params,⟨[]⟩,⟨0,0,0,0⟩,957,os⟩=openGood vw loose:=by
 first | (rw[PySem.W.Fast.te4187177175401517315,PySem.W.Fast.te5923862056798008813];kernel_rfl) | (rw[PySem.W.Fast.te4187177175401517315];kernel_rfl) | (rw[PySem.W.Fast.te5923862056798008813];kernel_rfl) | (kernel_rfl)
theorem LI(w:World)(os:_):Hook.obs hook ⟨H1 w.params,⟨[]⟩,⟨0,0,0,0⟩,957,os⟩=Hook.val hook w:=by
 first | (rw[PySem.W.Fast.te4187177175401517315,PySem.W.Fast.te5923862056798008813];kernel_rfl) | (rw[PySem.W.Fast.te4187177175401517315];kernel_rfl) | (rw[PySem.W.Fast.te5923862056798008813];kernel_rfl) | (kernel_rfl)
theorem Hi:∀ w:World,(λos=>((staticsOk (importedModules pw.main.body) (boot_heap w.params) (H1 w.params)&&namesBound pw (H1 w.params)&&gensDone ⟨H1 w.params,⟨[]⟩,⟨0,0,0,0⟩,957,os⟩&&laidKept (boot_heap w.params) (H1 w.params)),
  openSeen vw loose (importedModules pw.main.body) Xt true ⟨H1 w.params,⟨[]⟩,⟨0,0,0,0⟩,957,os⟩,Hook.obs hook ⟨H1 w.params,⟨[]⟩,⟨0,0,0,0⟩,957,os⟩))=λ_=>(true,openGood vw loose,Hook.val hook w):=λw=>funext λos=>by
 rw[LQ,Lu,LY,LB,LW,LI];rfl
theorem HU:LeftO pw vw loose Xt (Hook.obs hook) (Hook.val hook) 8420 :=
 LeftO.of_pieces (H₀:=boot_heap) (H₁:=H1) (gs₀:=⟨[]⟩) (gs₁:=⟨[]⟩) (d₀:=boot_drawn) (d₁:=⟨0,0,0,0⟩) (k₀:=boot_toks) (k₁:=957) (m₀:=11) (ann:=ann) (M:=(12+(1+(1326+(1478+(1346+2))))))
  (boot_open (by kernel_rfl) (by kernel_rfl) (λs=>by kernel_rfl)) IP KA (by kernel_rfl) Hi
end HD
open PySem PySem.W
theorem HD.said:PySem.Challenge.rw_dialvault_k92_whole_order_of_vaults.wellSaid=true:=by
 decide +kernel
namespace vk
open PySem L2 PyProof.Rows
def gc:Addr:=65
def iT:Addr:=91
def gS:Addr:=117
def jN:Addr:=136
def au:Addr:=446
def ka:Addr:=155
def pk:Addr:=174
def ar:Addr:=263
abbrev cI(i:Int):ai->M PV:=λ_=>M.ok (.int i)
def ju:ai->M Out :=
 (ao (retS (B5 (EI (λa=>qp a "int") vS vS (ae 0)) (GW (EI (λa=>qp a "bool") vS vS (ae 0)))))
 aq)
def fq:List PV->M PV:=bq 1 (ax 1 ju)
def jU:ai->M Out :=
 (ao (jo (Ci (hZ (ee (EI (λa=>["list", "tuple"].any λt=>qp a t) vS vS (ae 0)))) (ee (ak p6 (af dy (aa (ae 0) aj)) (ae 1)))) (ao (retS (λ_=>M.ok (.bl false)))
 aq) aq)
 (ao (retS (af tW (aa (cM (cw (itemsOf (ae 0)) (bX 0) none (af fq (aa (ae 0) aj)) 1 [])) aj)))
 aq))
def f9:List PV->M PV:=bq 2 (ax 2 jU)
def jT:ai->M Out :=
 (ao (br 2 (jO (aa (ae 0) (aa (cI 1) (aa (cI 0) aj)))))
 (ao (br 3 (jO (aa (ae 1) (aa (cI 0) (aa (cI 1) aj)))))
 (ao (oX (ee (ak p6 (ak aB (ae 3) (cI 0)) (cI 0))) (ao (br 4 (ak bM (ak aB (ae 2) (cI 0)) (ak aB (ae 3) (cI 0))))
 (ao (br 5 (jO (aa (ak kN (ak aB (ae 2) (cI 0)) (ak bR (ae 4) (ak aB (ae 3) (cI 0)))) (aa (ak kN (ak aB (ae 2) (cI 1)) (ak bR (ae 4) (ak aB (ae 3) (cI 1)))) (aa (ak kN (ak aB (ae 2) (cI 2)) (ak bR (ae 4) (ak aB (ae 3) (cI 2)))) aj)))))
 (ao (br 2 (ae 3))
 (ao (br 3 (ae 5))
 aq)))))
 (ao (jo (ee (ak AE (ak aB (ae 2) (cI 0)) (cI 0))) (ao (retS (jO (aa (kB (ak aB (ae 2) (cI 0))) (aa (kB (ak aB (ae 2) (cI 1))) (aa (kB (ak aB (ae 2) (cI 2))) aj)))))
 aq) aq)
 (ao (retS (ae 2))
 aq)))))
def f_:List PV->M PV:=bq 2 (ax 6 jT)
def fV:ai->M Out :=
 (ao (br 1 (cI 1))
 (ao (i_ (itemsOf (ae 0)) (bX 2) (ao (br 1 (ak bR (ak bM (ae 1) (ak aB (af f_ (aa (ae 1) (aa (ae 2) aj))) (cI 0))) (ae 2)))
 aq))
 (ao (retS (ae 1))
 aq)))
def fU:List PV->M PV:=bq 1 (ax 3 fV)
def gA:ai->M Out :=
 (ao (br 1 (cI 1))
 (ao (i_ (itemsOf (ae 0)) (bX 2) (ao (br 1 (ak bR (ae 1) (ae 2)))
 aq))
 (ao (retS (ae 1))
 aq)))
def gI:List PV->M PV:=bq 1 (ax 3 gA)
def jq:ai->M Out :=
 (ao (retS (af dq (aa (cM (cw (jH mI (aa (ae 0) aj)) (bX 0) none (yn (ee (ak pU (ae 0) (ae 1))) (cI 1) (cI 0)) 1 [1])) aj)))
 aq)
def je:List PV->M PV:=bq 2 (ax 2 jq)
def jv:ai->M Out :=
 (ao (retS (ak dh (af yM (aa (cM (cw (jH zip2 (aa (ae 0) (aa (ae 1) aj))) (bV 0 1) none (ak bR (ae 0) (ae 1)) 2 [])) aj)) (ae 2)))
 aq)
def ji:List PV->M PV:=bq 3 (ax 3 jv)
def eJ:ai->M Out :=
 (ao (retS (B5 (af fq (aa (ae 0) aj)) (kS Eg Eg (ae 1) (ae 0) (ae 2))))
 aq)
def dD:List PV->M PV:=bq 3 (ax 3 eJ)
def gK:ai->M Out :=
 (ao (jo (ee (ak Fz (af dy (aa (ae 0) aj)) (cI 6))) (ao (k6 ka (aa (λ_=>M.ok (.str "a vault has at most six dials")) aj))
 aq) aq)
 (ao (jo (ee (ak pU (af dy (aa (ae 0) aj)) (cI 0))) (ao (jh gc "dial" (aa (cI 0) aj))
 aq) aq)
 (ao (i_ (jH Cj (aa (ae 0) aj)) (bV 1 2) (ao (jo (hZ (ee (af dD (aa (ae 2) (aa (cI 2) (aa (cI 360) aj)))))) (ao (jh gc "dial" (aa (ae 1) aj))
 aq) aq)
 aq))
 aq)))
def gJ:List PV->M PV:=bq 1 (ax 3 gK)
def cA:ai->M Out :=
 (ao (jo (ee (ak p6 (ae 0) (ae 1))) (ao (k6 pk (aa (λ_=>M.ok (.str "these dials have unlike sizes")) aj))
 aq) aq)
 aq)
def cB:List PV->M PV:=bq 2 (ax 2 cA)
def f7:ai->M Out :=
 (ao (jo (ee (ak Fz (af dy (aa (ae 0) aj)) (cI 8))) (ao (k6 ka (aa (λ_=>M.ok (.str "a vault has at most eight levers")) aj))
 aq) aq)
 (ao (i_ (jH Cj (aa (ae 0) aj)) (bV 2 3) (ao (jo (hZ (ee (af f9 (aa (ae 3) (aa (ae 1) aj))))) (ao (jh iT "lever" (aa (ae 2) aj))
 aq) aq)
 aq))
 aq))
def fW:List PV->M PV:=bq 2 (ax 4 f7)
def gN:ai->M Out :=
 (ao (jo (ee (ak u5 (ae 1) (λ_=>M.ok .cp))) (ao (retS (ak bR (jO (aa (cI 1) aj)) (af dy (aa (ae 0) aj))))
 aq) aq)
 (ao (i_ (jH mI (aa (af (wO λi j=>if j>i then j else i) (aa (af dy (aa (ae 0) aj)) (aa (af dy (aa (ae 1) aj)) aj))) aj)) (bX 2) (ao (jo (Ci (ee (ak HF (ae 2) (af dy (aa (ae 0) aj)))) (ee (ak HF (ae 2) (af dy (aa (ae 1) aj))))) (ao (jh gS "lever" (aa (ae 2) aj))
 aq) aq)
 (ao (jo (hZ (ee (af dD (aa (ak aB (ae 1) (ae 2)) (aa (cI 1) (aa (cI 1000) aj)))))) (ao (jh gS "lever" (aa (ae 2) aj))
 aq) aq)
 aq)))
 (ao (retS (af dq (aa (ae 1) aj)))
 aq)))
def gP:List PV->M PV:=bq 2 (ax 3 gN)
def lG:ai->M Out :=
 (ao (retS (af dq (aa (cM (cw (jH zip2 (aa (ae 0) (aa (ae 1) aj))) (bV 0 1) none (ak dh (ae 0) (ae 1)) 2 [])) aj)))
 aq)
def kj:List PV->M PV:=bq 2 (ax 2 lG)
def lC:ai->M Out :=
 (ao (retS (af dq (aa (cM (cw (jH zip2 (aa (ae 0) (aa (ae 2) aj))) (bV 0 1) none (ak dQ (ak bR (ae 2) (ae 0)) (ak bR (ae 3) (ae 1))) 2 [1,3])) aj)))
 aq)
def kb:List PV->M PV:=bq 4 (ax 4 lC)
def eT:ai->M Out :=
 (ao (br 5 (af kb (aa (ak aB (ae 1) (cI 0)) (aa (ae 2) (aa (ak aB (ae 3) (cI 0)) (aa (ae 4) aj))))))
 (ao (retS (jO (aa (af kj (aa (ae 5) (aa (ae 0) aj))) (aa (af kb (aa (ak aB (ae 1) (cI 1)) (aa (ae 2) (aa (ak aB (ae 3) (cI 1)) (aa (ae 4) aj))))) aj))))
 aq))
def dX:List PV->M PV:=bq 5 (ax 6 eT)
def eH:ai->M Out :=
 (ao (br 3 (ak aB (ak aB (ak aB (ae 1) (ae 2)) (cI 0)) (ae 2)))
 (ao (retS (yn (ee (ak pU (ae 3) (cI 0))) (ak aB (ae 0) (ae 2)) (ae 3)))
 aq))
def dO:List PV->M PV:=bq 3 (ax 4 eH)
def jd:ai->M Out :=
 (ao (qa 3 (kM aj))
 (ao (i_ (jH Cj (aa (ae 1) aj)) (bV 4 5) (ao (br 6 (af dO (aa (ae 0) (aa (ae 1) (aa (ae 4) aj)))))
 (ao (br 7 (ak aB (ak aB (ae 2) (cI 0)) (ae 4)))
 (ao (br 8 (af f_ (aa (ae 6) (aa (ae 7) aj))))
 (ao (jQ 3 (af dX (aa (ae 0) (aa (ae 5) (aa (ak aB (ae 8) (cI 1)) (aa (ae 2) (aa (ak aB (ae 8) (cI 2)) aj)))))))
 (ao (br 2 (af dX (aa (ae 0) (aa (ae 2) (aa (ak bM (ae 6) (ak aB (ae 8) (cI 0))) (aa (ae 5) (aa (kB (ak bM (ae 7) (ak aB (ae 8) (cI 0)))) aj)))))))
 aq))))))
 (ao (qg [3] (retS (jO (aa (ae 3) (aa (ak aB (ae 2) (cI 1)) aj)))))
 aq)))
def jg:List PV->M PV:=bq 3 (ax 9 jd)
def iU:ai->M Out :=
 (ao (i_ (jH xJ (aa (ae 3) (aa (af dy (aa (ae 0) aj)) aj))) (bX 4) (ao (br 5 (ak bM (ak aB (ak aB (ae 2) (cI 0)) (ae 4)) (af dO (aa (ae 0) (aa (ae 1) (aa (ae 4) aj))))))
 (ao (br 2 (af dX (aa (ae 0) (aa (ae 2) (aa (cI 1) (aa (ak aB (ae 1) (ae 4)) (aa (kB (ae 5)) aj)))))))
 aq)))
 (ao (retS (ae 2))
 aq))
def fL:List PV->M PV:=bq 4 (ax 6 iU)
def hU:ai->M Out :=
 (ao (i_ (jH yZ (aa (ak kN (af dy (aa (ae 1) aj)) (cI 1)) (aa (kB (cI 1)) (aa (kB (cI 1)) aj)))) (bX 2) (ao (br 3 (ak aB (ae 1) (ae 2)))
 (ao (br 0 (af kb (aa (ae 0) (aa (cI 1) (aa (ae 3) (aa (kB (ak bM (ak aB (ae 0) (ae 2)) (ak aB (ae 3) (ae 2)))) aj))))))
 aq)))
 (ao (retS (ae 0))
 aq))
def g8:List PV->M PV:=bq 2 (ax 4 hU)
def ic:ai->M Out :=
 (ao (jo (ee (ak AE (ae 1) (af dy (aa (ae 0) aj)))) (ao (retS (ak aB (ae 0) (ae 1)))
 aq) aq)
 (ao (retS (cI 0))
 aq))
def cY:List PV->M PV:=bq 2 (ax 2 ic)
def cH:ai->M Out :=
 (ao (qa 2 (kM aj))
 (ao (br 3 (ak dQ (ak dh (ae 0) (cI 2147483629)) (cI 17)))
 (ao (i_ (jH mI (aa (ae 1) aj)) (bX 4) (ao (br 3 (ak dh (ak dQ (ak dQ (ak bR (ae 3) (cI 48271)) (ak bR (cI 7919) (ae 4))) (cI 1)) (cI 2147483647)))
 (ao (jQ 2 (ak bM (ae 3) (cI 5)))
 aq)))
 (ao (qg [2] (retS (ae 2)))
 aq))))
def cj:List PV->M PV:=bq 2 (ax 5 cH)
def dj:ai->M Out :=
 (ao (qa 2 (kM aj))
 (ao (br 3 (ae 0))
 (ao (i_ (itemsOf (ae 1)) (bX 4) (ao (jQ 2 (ak dh (ae 3) (ae 4)))
 (ao (br 3 (ak bM (ae 3) (ae 4)))
 aq)))
 (ao (qg [2] (retS (ae 2)))
 aq))))
def dm:List PV->M PV:=bq 2 (ax 5 dj)
def gG:ai->M Out :=
 (ao (br 1 (ak dQ (cI 1) (ak dh (ak bM (ae 0) (cI 2)) (cI 6))))
 (ao (jo (ee (ak pU (ak dh (ae 0) (cI 2)) (cI 1))) (ao (retS (cM (cw (itemsOf (af dm (aa (ak bM (ae 0) (cI 12)) (aa (ak bR (pB (aa (cI 359) aj)) (ae 1)) aj)))) (bX 0) none (ak dQ (cI 2) (ae 0)) 1 [])))
 aq) aq)
 (ao (qa 2 (kM aj))
 (ao (i_ (itemsOf (af cj (aa (ak bM (ae 0) (cI 12)) (aa (ae 1) aj)))) (bX 3) (ao (jo (ee (ak pU (ak dh (ak bM (ae 0) (cI 12)) (cI 2)) (cI 0))) (ao (jQ 2 (ak aB (λ_=>M.ok (.lst (([2,3,4,6,8,9,12,16,24,27,32,36,64,72,81,128,243,256,360]:List Int).map PV.int))) (ak dh (ae 3) (cI 19))))
 aq) (ao (jQ 2 (ak bR (cI 12) (ak dQ (cI 1) (ak dh (ae 3) (cI 30)))))
 aq))
 aq))
 (ao (qg [2] (retS (ae 2)))
 aq)))))
def gM:List PV->M PV:=bq 1 (ax 4 gG)
def gu:ai->M Out :=
 (ao (retS (ak kN (ak dh (ak bR (ae 0) (cI 618033988749894848204586834365)) (ak kN (ak bR (cI 2) (ak Bx (cI 10) (cI 30))) (cI 1))) (ak kN (ak Bx (cI 10) (cI 30)) (cI 1))))
 aq)
def gH:List PV->M PV:=bq 1 (ax 1 gu)
def gQ:ai->M Out :=
 (ao (qa 2 (kM aj))
 (ao (i_ (jH zip2 (aa (af cj (aa (ae 0) (aa (af dy (aa (ae 1) aj)) aj))) (aa (ae 1) aj))) (bV 3 4) (ao (jo (ee (ak pU (ak dh (ae 3) (cI 4)) (cI 0))) (ao (jQ 2 (af gH (aa (ak bM (ae 3) (cI 4)) aj)))
 aq) (ao (jo (ee (ak pU (ak dh (ae 3) (cI 4)) (cI 1))) (ao (jQ 2 (cI 0))
 aq) (ao (br 5 (ak aB (λ_=>M.ok (.lst (([1,1,2,3,4,6,12]:List Int).map PV.int))) (ak dh (ak bM (ae 3) (cI 4)) (cI 7))))
 (ao (jQ 2 (ak dh (ak bR (ak dh (ak bM (ae 3) (cI 28)) (ae 4)) (ae 5)) (ae 4)))
 aq)))
 aq))
 aq))
 (ao (qg [2] (retS (ae 2)))
 aq)))
def c_:List PV->M PV:=bq 2 (ax 6 gQ)
def ig:ai->M Out :=
 (ao (jo (ee (ak pU (ak dh (ak bM (ae 0) (cI 3)) (cI 2)) (cI 0))) (ao (retS (cM (cw (jH mI (aa (ak dh (ae 0) (cI 3)) aj)) (bX 0) none (af c_ (aa (ak dQ (ak bM (ae 1) (cI 6)) (ak bR (cI 7919) (ae 0))) (aa (ae 2) aj))) 1 [0,1])))
 aq) aq)
 (ao (br 2 (af dm (aa (ak bM (ae 0) (cI 6)) (aa (ak bR (ae 1) (ak dh (ae 0) (cI 3))) aj))))
 (ao (retS (cM (cw (jH mI (aa (ak dh (ae 0) (cI 3)) aj)) (bX 0) none (kZ (ae 2) (iJ (ak bR (af dy (aa (ae 1) aj)) (ae 0))) (iJ (ak dQ (ak bR (af dy (aa (ae 1) aj)) (ae 0)) (af dy (aa (ae 1) aj))))) 1 [1,2])))
 aq)))
def dN:List PV->M PV:=bq 2 (ax 3 ig)
def e7:ai->M Out :=
 (ao (jo (ee (ak pU (ak dh (ae 0) (cI 2)) (cI 1))) (ao (retS (af dq (aa (af dm (aa (ak bM (ae 0) (cI 2)) (aa (ae 1) aj))) aj)))
 aq) aq)
 (ao (retS (af dq (aa (cM (cw (jH zip2 (aa (af cj (aa (ak bM (ae 0) (cI 2)) (aa (af dy (aa (ae 1) aj)) aj))) (aa (ae 1) aj))) (bV 0 1) none (ak dh (ae 0) (ae 1)) 2 [])) aj)))
 aq))
def eX:List PV->M PV:=bq 2 (ax 2 e7)
def gO:ai->M Out :=
 (ao (retS (af dq (aa (cM (cw (jH yY (aa (ae 1) (aa (ae 2) (aa (ae 0) aj)))) (qK 0 1 2) none (ak dh (ak dQ (ae 0) (ak bR (ae 3) (ae 1))) (ae 2)) 3 [3])) aj)))
 aq)
def eV:List PV->M PV:=bq 4 (ax 4 gO)
def eh:ai->M Out :=
 (ao (br 4 (af dq (aa (ae 2) aj)))
 (ao (i_ (jH zip2 (aa (ae 1) (aa (ae 3) aj))) (bV 5 6) (ao (br 4 (af eV (aa (ae 0) (aa (ae 4) (aa (ae 5) (aa (ae 6) aj))))))
 aq))
 (ao (retS (ae 4))
 aq)))
def cL:List PV->M PV:=bq 4 (ax 7 eh)
def jb:ai->M Out :=
 (ao (kJ (af gJ (aa (ae 1) aj)))
 (ao (kJ (af fW (aa (ae 2) (aa (af dy (aa (ae 1) aj)) aj))))
 (ao (k4 0 ar "dial_sizes" (af dq (aa (ae 1) aj)))
 (ao (k4 0 ar "lever_settings" (af dq (aa (cM (cw (itemsOf (ae 2)) (bX 0) none (af kj (aa (ae 0) (aa (ae 1) aj))) 1 [1])) aj)))
 (ao (k4 0 ar "lever_prices" (af gP (aa (ae 2) (aa (ae 3) aj))))
 (ao (k4 0 ar "least_round" (af fU (aa (ae 1) aj)))
 aq))))))
def b_:Addr->List PV->M (List (Str×PV)):=rQ 4 (yQ 4 jb ar)
def aZ:ai->M Out :=
 (ao (retS (eB (λc=>c==ar) "dial_sizes" (ae 0)))
 aq)
def aE:List PV->M PV:=bq 1 (ax 1 aZ)
def bw:ai->M Out :=
 (ao (retS (eB (λc=>c==ar) "lever_settings" (ae 0)))
 aq)
def aQ:List PV->M PV:=bq 1 (ax 1 bw)
def jW:ai->M Out :=
 (ao (retS (eB (λc=>c==ar) "lever_prices" (ae 0)))
 aq)
def pj:List PV->M PV:=bq 1 (ax 1 jW)
def dE:ai->M Out :=
 (ao (retS (eB (λc=>c==ar) "least_round" (ae 0)))
 aq)
def cT:List PV->M PV:=bq 1 (ax 1 dE)
def fY:ai->M Out :=
 (ao (br 1 (bp ar "sizes" aE (eB (λc=>c==au) "vault" (ae 0)) aj))
 (ao (retS (af dq (aa (cM (cw (jH mI (aa (af dy (aa (ae 1) aj)) aj)) (bX 0) none (af dO (aa (ae 2) (aa (eB (λc=>c==au) "made_rows" (ae 1)) (aa (ae 0) aj)))) 1 [0,1])) aj)))
 aq))
def fZ:List PV->M PV:=bq 1 (ax 2 fY)
def fe:ai->M Out :=
 (ao (retS (cM (cw (itemsOf (eB (λc=>c==au) "made_rows" (ae 0))) (bX 0) none (ak aB (ae 0) (cI 0)) 1 [])))
 aq)
def dY:List PV->M PV:=bq 1 (ax 1 fe)
def fM:ai->M Out :=
 (ao (retS (af dq (aa (cM (cw (jH Cj (aa (eB (λc=>c==au) "idle_rows" (ae 0)) aj)) (bV 0 1) none (ak aB (ae 1) (ae 0)) 2 [])) aj)))
 aq)
def fO:List PV->M PV:=bq 1 (ax 1 fM)
def i9:ai->M Out :=
 (ao (retS (ak bR (jO (aa (cI 0) aj)) (af dy (aa (bp ar "sizes" aE (ae 0) aj) aj))))
 aq)
def gZ:List PV->M PV:=bq 1 (ax 1 i9)
def gD:ai->M Out :=
 (ao (br 2 (bp ar "sizes" aE (ae 0) aj))
 (ao (jo (Ci (hZ (ee (EI (λa=>qp a "tuple") vS vS (ae 1)))) (hZ (ee (af f9 (aa (ae 1) (aa (af dy (aa (ae 2) aj)) aj)))))) (ao (retS (λ_=>M.ok (.bl false)))
 aq) aq)
 (ao (retS (af tW (aa (cM (cw (jH zip2 (aa (ae 1) (aa (ae 2) aj))) (bV 0 1) none (kS Eg AE (cI 0) (ae 0) (ae 1)) 2 [])) aj)))
 aq)))
def gE:List PV->M PV:=bq 2 (ax 3 gD)
def dG:ai->M Out :=
 (ao (jo (hZ (ee (af gE (aa (ae 0) (aa (ae 1) aj))))) (ao (k6 jN (aa (λ_=>M.ok (.str "this is no setting of the vault")) aj))
 aq) aq)
 aq)
def cX:List PV->M PV:=bq 2 (ax 2 dG)
def nQ:ai->M Out :=
 (ao (kJ (af cX (aa (ae 0) (aa (ae 1) aj))))
 (ao (kJ (af cX (aa (ae 0) (aa (ae 2) aj))))
 (ao (br 3 (bp ar "around" cT (ae 0) aj))
 (ao (br 4 (cM (cw (jH zip2 (aa (ae 1) (aa (bp ar "sizes" aE (ae 0) aj) aj))) (bV 0 1) none (ak bR (ae 0) (ak bM (ae 2) (ae 1))) 2 [3])))
 (ao (retS (af ji (aa (ae 4) (aa (ae 2) (aa (ae 3) aj)))))
 aq)))))
def nV:List PV->M PV:=bq 3 (ax 5 nQ)
def gY:ai->M Out :=
 (ao (retS (jO (aa (ae 1) (aa (ak bR (jO (aa (cI 0) aj)) (af dy (aa (bp ar "levers" aQ (ae 0) aj) aj))) aj))))
 aq)
def fJ:List PV->M PV:=bq 2 (ax 2 gY)
def fX:ai->M Out :=
 (ao (br 2 (bp ar "levers" aQ (ae 0) aj))
 (ao (retS (jO (aa (ak aB (ae 2) (ae 1)) (aa (af je (aa (af dy (aa (ae 2) aj)) (aa (ae 1) aj))) aj))))
 aq))
def fN:List PV->M PV:=bq 2 (ax 3 fX)
def jt:ai->M Out :=
 (ao (br 2 (bp ar "sizes" aE (ae 1) aj))
 (ao (br 3 (cM (cw (itemsOf (ae 2)) (bX 0) none (af fJ (aa (ae 1) (aa (af gZ (aa (ae 1) aj)) aj))) 1 [1])))
 (ao (qa 4 (kM aj))
 (ao (i_ (jH mI (aa (af dy (aa (bp ar "levers" aQ (ae 1) aj) aj)) aj)) (bX 5) (ao (br 6 (af jg (aa (ae 2) (aa (ae 3) (aa (af fN (aa (ae 1) (aa (ae 5) aj))) aj)))))
 (ao (br 3 (ak aB (ae 6) (cI 0)))
 (ao (jQ 4 (t7 4 (af g8 (aa (ak aB (ae 6) (cI 1)) (aa (ae 4) aj)))))
 aq))))
 (ao (k4 0 au "vault" (ae 1))
 (ao (k4 0 au "made_rows" (cM (cw (jH Cj (aa (ae 3) aj)) (bV 0 1) none (af fL (aa (ae 2) (aa (ae 3) (aa (ae 1) (aa (ak dQ (ae 0) (cI 1)) aj))))) 2 [2,3])))
 (ao (qg [4] (k4 0 au "idle_rows" (ae 4)))
 aq)))))))
def bU:Addr->List PV->M (List (Str×PV)):=rQ 2 (yQ 7 jt au)
def bQ:ai->M Out :=
 (ao (kJ (af cX (aa (eB (λc=>c==au) "vault" (ae 0)) (aa (ae 1) aj))))
 (ao (retS (af fL (aa (bp ar "sizes" aE (eB (λc=>c==au) "vault" (ae 0)) aj) (aa (eB (λc=>c==au) "made_rows" (ae 0)) (aa (af fJ (aa (eB (λc=>c==au) "vault" (ae 0)) (aa (ae 1) aj))) (aa (cI 0) aj))))))
 aq))
def bF:List PV->M PV:=bq 2 (ax 2 bQ)
def kH:ai->M Out :=
 (ao (retS (ak aB (bp au "brought_down" bF (ae 0) (aa (ae 1) aj)) (cI 0)))
 aq)
def qw:List PV->M PV:=bq 2 (ax 2 kH)
def cR:ai->M Out :=
 (ao (br 2 (bp au "brought_down" bF (ae 0) (aa (ae 1) aj)))
 (ao (jo (ee (ak p6 (ak aB (ae 2) (cI 0)) (af gZ (aa (eB (λc=>c==au) "vault" (ae 0)) aj)))) (ao (retS (λ_=>M.ok .cp))
 aq) aq)
 (ao (retS (af g8 (aa (af dq (aa (cM (cw (itemsOf (ak aB (ae 2) (cI 1))) (bX 0) none (kB (ae 0)) 1 [])) aj)) (aa (eB (λc=>c==au) "idle_rows" (ae 0)) aj))))
 aq)))
def ck:List PV->M PV:=bq 2 (ax 3 cR)
def c9:ai->M Out :=
 (ao (br 2 (bp ar "sizes" aE (eB (λc=>c==au) "vault" (ae 0)) aj))
 (ao (jo (hZ (ee (af dD (aa (ae 1) (aa (cI 0) (aa (ak kN (af dy (aa (ae 2) aj)) (cI 1)) aj)))))) (ao (jh gc "dial" (aa (ae 1) aj))
 aq) aq)
 (ao (br 3 (cM (cw (jH zip2 (aa (ae 2) (aa (bp au "steps" fZ (ae 0) aj) aj))) (bV 0 1) none (ak bM (ae 0) (ae 1)) 2 [])))
 (ao (qa 4 (F7 (pB (aa (cI 0) aj)) (af dy (aa (ae 2) aj))))
 (ao (HX 4 (ae 1) (ak dh (ak aB (ae 3) (ae 1)) (ak aB (ae 2) (ae 1))))
 (ao (i_ (jH yZ (aa (ak kN (ae 1) (cI 1)) (aa (kB (cI 1)) (aa (kB (cI 1)) aj)))) (bX 5) (ao (br 6 (t7 4 (af nV (aa (eB (λc=>c==au) "vault" (ae 0)) (aa (af dq (aa (ae 4) aj)) (aa (ak aB (ak aB (eB (λc=>c==au) "made_rows" (ae 0)) (ae 5)) (cI 0)) aj))))))
 (ao (br 7 (ak bM (bp ar "around" cT (eB (λc=>c==au) "vault" (ae 0)) aj) (ak aB (ae 3) (ae 5))))
 (ao (HX 4 (ae 5) (ak dh (kB (ak bM (ae 6) (ae 7))) (ak aB (ae 3) (ae 5))))
 aq))))
 (ao (qg [4] (retS (af dq (aa (ae 4) aj))))
 aq)))))))
def bD:List PV->M PV:=bq 2 (ax 8 c9)
def d_:ai->M Out :=
 (ao (retS (af gI (aa (bp au "spans" fO (af (c6 au bU []) (aa (ae 0) aj)) aj) aj)))
 aq)
def aY:List PV->M PV:=bq 1 (ax 1 d_)
def iY:ai->M Out :=
 (ao (kJ (af cB (aa (bp ar "sizes" aE (ae 0) aj) (aa (bp ar "sizes" aE (ae 1) aj) aj))))
 (ao (retS (ak pU (bp au "rows" dY (af (c6 au bU []) (aa (ae 0) aj)) aj) (bp au "rows" dY (af (c6 au bU []) (aa (ae 1) aj)) aj)))
 aq))
def bf:List PV->M PV:=bq 2 (ax 2 iY)
def lA:ai->M Out :=
 (ao (br 1 (af gZ (aa (ae 0) aj)))
 (ao (retS (af (c6 ar b_ [.cp]) (aa (bp ar "sizes" aE (ae 0) aj) (aa (cM (cw (itemsOf (bp au "rows" dY (af (c6 au bU []) (aa (ae 0) aj)) aj)) (bX 0) (some (ee (ak p6 (ae 0) (ae 1)))) (ae 0) 1 [1])) aj))))
 aq))
def j7:List PV->M PV:=bq 1 (ax 2 lA)
def jf:ai->M Out :=
 (ao (br 2 (af (c6 ar b_ [.cp]) (aa (ae 0) (aa (pB aj) aj))))
 (ao (i_ (itemsOf (ae 1)) (bX 3) (ao (br 2 (af j7 (aa (af (c6 ar b_ [.cp]) (aa (ae 0) (aa (ak dQ (af xu (aa (bp ar "levers" aQ (ae 2) aj) aj)) (pB (aa (ae 3) aj))) aj))) aj)))
 aq))
 (ao (retS (ae 2))
 aq)))
def hG:List PV->M PV:=bq 2 (ax 4 jf)
def jZ:ai->M Out :=
 (ao (br 1 (af (c6 au bU []) (aa (ae 0) aj)))
 (ao (br 2 (bp ar "sizes" aE (ae 0) aj))
 (ao (retS (af j7 (aa (af (c6 ar b_ [.cp]) (aa (ae 2) (aa (cM (cw (jH mI (aa (af dy (aa (ae 2) aj)) aj)) (bX 0) none (bp au "weights_at" bD (ae 1) (aa (ae 0) aj)) 1 [1])) aj))) aj)))
 aq)))
def cU:List PV->M PV:=bq 1 (ax 3 jZ)
def fK:ai->M Out :=
 (ao (kJ (af cB (aa (bp ar "sizes" aE (ae 0) aj) (aa (bp ar "sizes" aE (ae 1) aj) aj))))
 (ao (retS (af hG (aa (bp ar "sizes" aE (ae 0) aj) (aa (ak dQ (bp ar "levers" aQ (ae 0) aj) (bp ar "levers" aQ (ae 1) aj)) aj))))
 aq))
def bj:List PV->M PV:=bq 2 (ax 2 fK)
def pv:ai->M Out :=
 (ao (retS (af cU (aa (af bj (aa (af cU (aa (ae 0) aj)) (aa (af cU (aa (ae 1) aj)) aj))) aj)))
 aq)
def eS:List PV->M PV:=bq 2 (ax 2 pv)
def fI:ai->M Out :=
 (ao (br 4 (bp au "pulls_to" ck (ae 2) (aa (ae 3) aj)))
 (ao (jo (ee (ak u5 (ae 4) (λ_=>M.ok .cp))) (ao (retS (cI 0))
 aq) aq)
 (ao (jo (ee (ak p6 (af cL (aa (ae 0) (aa (bp ar "levers" aQ (ae 1) aj) (aa (ak bR (jO (aa (cI 0) aj)) (af dy (aa (ae 0) aj))) (aa (ae 4) aj))))) (ae 3))) (ao (retS (cI 2))
 aq) aq)
 (ao (retS (cI 1))
 aq))))
def dH:List PV->M PV:=bq 4 (ax 5 fI)
def e_:ai->M Out :=
 (ao (br 3 (af (c6 au bU []) (aa (ae 1) aj)))
 (ao (i_ (itemsOf (ae 2)) (bX 4) (ao (jo (ee (ak p6 (af dH (aa (ae 0) (aa (ae 1) (aa (ae 3) (aa (ae 4) aj))))) (cI 1))) (ao (retS (λ_=>M.ok (.bl false)))
 aq) aq)
 aq))
 (ao (retS (λ_=>M.ok (.bl true)))
 aq)))
def cP:List PV->M PV:=bq 3 (ax 5 e_)
def dZ:ai->M Out :=
 (ao (br 3 (B5 (af cP (aa (ae 0) (aa (ae 1) (aa (bp ar "levers" aQ (ae 2) aj) aj)))) (af cP (aa (ae 0) (aa (ae 2) (aa (bp ar "levers" aQ (ae 1) aj) aj))))))
 (ao (retS (ak pU (af bf (aa (ae 1) (aa (ae 2) aj))) (ae 3)))
 aq))
def cS:List PV->M PV:=bq 3 (ax 4 dZ)
def da:ai->M Out :=
 (ao (br 3 (af eS (aa (ae 0) (aa (ae 2) aj))))
 (ao (jo (Ci (hZ (ee (af bf (aa (af bj (aa (ae 0) (aa (ae 1) aj))) (aa (af bj (aa (ae 1) (aa (ae 0) aj))) aj))))) (hZ (ee (af bf (aa (af eS (aa (ae 0) (aa (ae 1) aj))) (aa (af eS (aa (ae 1) (aa (ae 0) aj))) aj)))))) (ao (retS (λ_=>M.ok (.bl false)))
 aq) aq)
 (ao (jo (hZ (ee (af bf (aa (af bj (aa (ae 0) (aa (af bj (aa (ae 1) (aa (ae 2) aj))) aj))) (aa (af bj (aa (af bj (aa (ae 0) (aa (ae 1) aj))) (aa (ae 2) aj))) aj))))) (ao (retS (λ_=>M.ok (.bl false)))
 aq) aq)
 (ao (jo (Ci (hZ (ee (af bf (aa (af eS (aa (ae 0) (aa (af bj (aa (ae 0) (aa (ae 1) aj))) aj))) (aa (ae 0) aj))))) (hZ (ee (af bf (aa (af bj (aa (ae 0) (aa (af eS (aa (ae 0) (aa (ae 1) aj))) aj))) (aa (ae 0) aj)))))) (ao (retS (λ_=>M.ok (.bl false)))
 aq) aq)
 (ao (jo (hZ (ee (af bf (aa (af bj (aa (ae 3) (aa (af eS (aa (ae 1) (aa (ae 2) aj))) aj))) (aa (af eS (aa (af bj (aa (ae 3) (aa (ae 1) aj))) (aa (ae 2) aj))) aj))))) (ao (retS (λ_=>M.ok (.bl false)))
 aq) aq)
 (ao (jo (hZ (ee (af bf (aa (af cU (aa (af bj (aa (ae 0) (aa (ae 1) aj))) aj)) (aa (af eS (aa (af cU (aa (ae 0) aj)) (aa (af cU (aa (ae 1) aj)) aj))) aj))))) (ao (retS (λ_=>M.ok (.bl false)))
 aq) aq)
 (ao (jo (hZ (ee (af bf (aa (af cU (aa (af eS (aa (ae 0) (aa (ae 1) aj))) aj)) (aa (af bj (aa (af cU (aa (ae 0) aj)) (aa (af cU (aa (ae 1) aj)) aj))) aj))))) (ao (retS (λ_=>M.ok (.bl false)))
 aq) aq)
 (ao (br 4 (pB (aa (af aY (aa (ae 0) aj)) (aa (af aY (aa (ae 1) aj)) (aa (af aY (aa (af bj (aa (ae 0) (aa (ae 1) aj))) aj)) aj)))))
 (ao (retS (ak pU (ak bR (ak aB (ae 4) (cI 0)) (ak aB (ae 4) (cI 1))) (ak bR (ak aB (ae 4) (cI 2)) (af aY (aa (af eS (aa (ae 0) (aa (ae 1) aj))) aj)))))
 aq)))))))))
def dc:List PV->M PV:=bq 3 (ax 5 da)
def zH:ai->M Out :=
 (ao (br 1 (kZ (af gM (aa (af cY (aa (ae 0) (aa (cI 0) aj))) aj)) Fw (iJ (cI 3))))
 (ao (br 2 (cM (cw (jH mI (aa (cI 3) aj)) (bX 0) none (af (c6 ar b_ [.cp]) (aa (ae 2) (aa (af dN (aa (af cY (aa (ae 1) (aa (ak dQ (cI 1) (ae 0)) aj))) (aa (ae 2) aj))) aj))) 1 [0,1])))
 (ao (jo (hZ (ee (af dc (aa (ak aB (ae 2) (cI 0)) (aa (ak aB (ae 2) (cI 1)) (aa (ak aB (ae 2) (cI 2)) aj)))))) (ao (retS (λ_=>M.ok (.bl false)))
 aq) aq)
 (ao (jo (Ci (hZ (ee (af cS (aa (ae 1) (aa (ak aB (ae 2) (cI 0)) (aa (ak aB (ae 2) (cI 1)) aj)))))) (hZ (ee (af cS (aa (ae 1) (aa (ak aB (ae 2) (cI 2)) (aa (ak aB (ae 2) (cI 0)) aj))))))) (ao (retS (λ_=>M.ok (.bl false)))
 aq) aq)
 (ao (br 3 (pB (aa (ak aB (ae 2) (cI 0)) (aa (ak aB (ae 2) (cI 1)) (aa (af eS (aa (ak aB (ae 2) (cI 0)) (aa (ak aB (ae 2) (cI 1)) aj))) (aa (af bj (aa (ak aB (ae 2) (cI 0)) (aa (ak aB (ae 2) (cI 1)) aj))) aj))))))
 (ao (br 4 (cM (cw (itemsOf (ae 3)) (bX 0) none (af (c6 au bU []) (aa (ae 0) aj)) 1 [])))
 (ao (i_ (jH Cj (aa (ak dQ (kZ (ae 0) (iJ (cI 6)) (iJ (cI 30))) (pB (aa (cI 0) aj))) aj)) (bV 5 6) (ao (br 7 (af eX (aa (ak dQ (ak bM (ae 6) (cI 5)) (ak bR (cI 48271) (ae 5))) (aa (ae 1) aj))))
 (ao (jo (ee (ak AE (ak dh (ae 6) (cI 5)) (cI 4))) (ao (br 8 (bp ar "levers" aQ (ak aB (ae 3) (ak dh (ae 6) (cI 5))) aj))
 (ao (br 7 (af cL (aa (ae 1) (aa (ae 8) (aa (ak bR (jO (aa (cI 0) aj)) (af dy (aa (ae 1) aj))) (aa (af cj (aa (ak dQ (ak bM (ae 6) (cI 5)) (ae 5)) (aa (af dy (aa (ae 8) aj)) aj))) aj))))))
 aq)) aq)
 (ao (br 9 (cM (cw (jH zip2 (aa (ae 3) (aa (ae 4) aj))) (bV 0 1) none (af dH (aa (ae 2) (aa (ae 0) (aa (ae 1) (aa (ae 3) aj))))) 2 [1,7])))
 (ao (jo (Ci (ee (ak (J1 false) (cI 2) (ae 9))) (Ci (ee (ak p6 (ak aB (ae 9) (cI 2)) (ak bR (ak aB (ae 9) (cI 0)) (ak aB (ae 9) (cI 1))))) (ee (ak Fz (af (wO λi j=>if j>i then j else i) (aa (ak aB (ae 9) (cI 0)) (aa (ak aB (ae 9) (cI 1)) aj))) (ak aB (ae 9) (cI 3)))))) (ao (retS (λ_=>M.ok (.bl false)))
 aq) aq)
 (ao (jo (Hv (ee (ak AE (ak dh (ae 6) (cI 5)) (cI 4))) (ee (ak p6 (ak aB (ae 9) (ak dh (ae 6) (cI 5))) (cI 1)))) (ao (retS (λ_=>M.ok (.bl false)))
 aq) aq)
 aq))))))
 (ao (retS (λ_=>M.ok (.bl true)))
 aq))))))))
def qT:List PV->M PV:=bq 1 (ax 10 zH)
end vk
namespace vk
open PySem L2 PyProof.Rows
local macro_rules | `(tactic| walk_at "s")=>`(tactic| exact⟨rfl,rfl,rfl,by decide +kernel,rfl,by decide +kernel,by decide +kernel⟩)
local macro_rules | `(tactic| walk_at "l")=>`(tactic| first | exact .inl rfl | exact .inr rfl)
local macro_rules | `(tactic| walk_at "pp")=>`(tactic| all_goals repeat' (first | ((with_reducible show lW _ _ (tS _ (ao _ _)));refine Aj ?_ ?_) | ((with_reducible show lW _ _ (tS _ aq));exact DC) | ((with_reducible show PE _ _ (tE _ (ae _)));exact vr _) | ((with_reducible show PA _ _ (tL _ (aa _ _)));refine xk ?_ ?_ (Ez rfl)) | ((with_reducible show PA _ _ (tL _ aj));exact Bk) | ((with_reducible show PE _ _ (tE _ (λ_=>M.ok (.int _))));first | exact Az | exact lE (HJ (by rfl) (by assumption)) λ_=>.int _) | ((with_reducible show PE _ _ (tE _ (λ_=>M.ok (.bl _))));exact Ji) | ((with_reducible show PE _ _ (tE _ (λ_=>M.ok .cp)));exact F4) | ((with_reducible show PE _ _ (tE _ (λ_=>M.ok (.str _))));exact FQ) | ((with_reducible show PE _ _ (tE _ (ak dQ _ _)));refine mn Ed Gp ?_ ?_) | ((with_reducible show PE _ _ (tE _ (ak kN _ _)));refine mn Gq G8 ?_ ?_) | ((with_reducible show PE _ _ (tE _ (ak bR _ _)));refine mn CS FF ?_ ?_) | ((with_reducible show PE _ _ (tE _ (ak bM _ _)));refine mn z0 zS ?_ ?_) | ((with_reducible show PE _ _ (tE _ (ak dh _ _)));refine mn CD DU ?_ ?_) | ((with_reducible show PE _ _ (tE _ (ak Bx _ _)));refine mn Ft DX ?_ ?_) | ((with_reducible show PE _ _ (tE _ (ak aB _ _)));refine Fv ?_ ?_ ?_) | ((with_reducible show sC _);exact λ_ _=>rfl) | ((with_reducible show PT _ _ (tT _ (ee (ak pU _ _))));refine jX (By (cD.units (by assumption))) EA ?_ ?_ (e9 _)) | ((with_reducible show PE _ _ (tE _ (ak pU _ _)));refine kU (By (cD.units (by assumption))) EA ?_ ?_ (e9 _)) | ((with_reducible show PT _ _ (tT _ (ee (ak p6 _ _))));refine jX (zM (cD.units (by assumption))) Ex ?_ ?_ (e9 _)) | ((with_reducible show PE _ _ (tE _ (ak p6 _ _)));refine kU (zM (cD.units (by assumption))) Ex ?_ ?_ (e9 _)) | ((with_reducible show PT _ _ (tT _ (ee (ak AE _ _))));refine jX Br wu ?_ ?_ (e9 _)) | ((with_reducible show PE _ _ (tE _ (ak AE _ _)));refine kU Br wu ?_ ?_ (e9 _)) | ((with_reducible show PT _ _ (tT _ (ee (ak Eg _ _))));refine jX uu o7 ?_ ?_ (e9 _)) | ((with_reducible show PE _ _ (tE _ (ak Eg _ _)));refine kU uu o7 ?_ ?_ (e9 _)) | ((with_reducible show PT _ _ (tT _ (ee (ak Fz _ _))));refine jX Ey Cc ?_ ?_ (e9 _)) | ((with_reducible show PE _ _ (tE _ (ak Fz _ _)));refine kU Ey Cc ?_ ?_ (e9 _)) | ((with_reducible show PT _ _ (tT _ (ee (ak HF _ _))));refine jX Ej AR ?_ ?_ (e9 _)) | ((with_reducible show PE _ _ (tE _ (ak HF _ _)));refine kU Ej AR ?_ ?_ (e9 _)) | ((with_reducible show PT _ _ (tT _ (ee (ak u5 _ _))));refine jX Bc Am ?_ ?_ (e9 _)) | ((with_reducible show PE _ _ (tE _ (ak u5 _ _)));refine kU Bc Am ?_ ?_ (e9 _)) | ((with_reducible show PT _ _ (tT _ (hZ _)));refine Hn ?_) | ((with_reducible show PT _ _ (tT _ (ee (af _ _))));refine sk ?_) | ((with_reducible show PT _ _ (tT _ (ee (EI _ _ _ _))));refine sk ?_) | ((with_reducible show PT _ _ (tT _ (ee (bp _ _ _ _ _))));refine sk ?_) | ((with_reducible show PT _ _ (tT _ (ee (ae _))));refine sk ?_) | ((with_reducible show PS _ _ (tS _ (retS _)));refine GQ ?_) | ((with_reducible show PS _ _ (tS _ (br _ _)));refine FU (by assumption) rfl (by walk_at "l") ?_) | ((with_reducible show PS _ _ (tS _ (jo _ _ _)));refine IX ?_ ?_ ?_) | ((with_reducible show PS _ _ (tS _ (jQ _ _)));refine yR rfl (by first | exact .inl rfl | exact .inr (.inl rfl)) ?_) | ((with_reducible show PS _ _ (tS _ (qa _ _)));refine DK (by assumption) rfl (by walk_at "l") ?_) | ((with_reducible show PE _ _ (tO _ (kM _)));refine G2 ?_) | ((with_reducible show PS _ _ (tS _ (qg _ _)));refine G4 _ ?_) | ((with_reducible show PS _ _ (tS _ (kJ _)));refine Dv ?_) | ((with_reducible show PS _ _ (tS _ (k6 _ _)));refine yw.raise (by assumption) (by assumption) rfl (by rfl) ?_) | ((with_reducible show PS _ _ (tS _ (jh _ _ _)));refine p8.raise (by assumption) (by assumption) (by omega) (by assumption) rfl (by rfl) ?_) | ((with_reducible show PE _ _ (tE _ (jO _)));refine GZ ?_) | ((with_reducible show PE _ _ (tE _ (pB _)));refine BK ?_) | ((with_reducible show PE _ _ (tE _ (kB _)));refine Hr ?_) | ((with_reducible show PE _ _ (tE _ (yn _ _ _)));refine Gi ?_ ?_ ?_) | ((with_reducible show PE _ _ (tE _ (eB _ _ _)));refine E7 ?_ (by assumption) rfl) | ((with_reducible show PE _ _ (tE _ (af dy _)));refine jK xX FA (by rfl) (by assumption) PySem.boot_len ?_) | ((with_reducible show PE _ _ (tE _ (af dq _)));refine qH qc zV (by rfl) (by assumption) oC ?_) | ((with_reducible show PE _ _ (tE _ (af xu _)));refine qH sT De (by rfl) (by assumption) wG ?_) | ((with_reducible show PE _ _ (tE _ (af yM _)));refine jK (yI rfl) Gg (by rfl) (by assumption) G7 ?_) | ((with_reducible show PE _ _ (tE _ (af tW _)));refine jK (xE rfl) GS (by rfl) (by assumption) Fp ?_) | ((with_reducible show PE _ _ (tE _ (af (c6 _ _ _) _)));refine vQ.make (by assumption) (by assumption) (by omega) (by rfl) (by first | assumption | exact wW) ?_) | ((with_reducible show PE _ _ (tE _ (af _ _)));refine cZ.call (by assumption) (by assumption) (by omega) (by rfl) (by first | assumption | exact wW) ?_) | ((with_reducible show PE _ _ (tE _ (bp _ _ _ _ aj)));refine jG.Jo (by assumption) (by assumption) (by omega) (by first | assumption | exact wW) ?_) | ((with_reducible show PE _ _ (tE _ (bp _ _ _ _ _)));refine jG.call (by assumption) (by assumption) (by omega) (by first | assumption | exact wW) ?_ ?_)))
def top(i:Nat):Stmt:=PySem.Challenge.pw_dialvault_k92_whole_order_of_vaults.main.body.getD i (.Pass ⟨0,0,0,0⟩)
structure Txt (K:PySem.W.Frag) (mg:Str->Option Value):Prop where
 ID:mg "all" = none
 Bh:mg "bool" = none
 dM:mg "enumerate" = none
 EU:mg "int" = none
 eZ:mg "isinstance" = none
 IW:mg "len" = none
 zY:mg "list" = none
 A4:mg "max" = none
 dS:mg "range" = none
 IJ:mg "sum" = none
 rP:mg "tuple" = none
 jz:mg "zip" = none
 ql:∃ u,mg "LEAST_PRICE" = some u/\RelV (.int 1) u
 tj:∃ u,mg "LEAST_SIZE" = some u/\RelV (.int 2) u
 rJ:∃ u,mg "MOST_DIALS" = some u/\RelV (.int 6) u
 qm:∃ u,mg "MOST_LEVERS" = some u/\RelV (.int 8) u
 sj:∃ u,mg "MOST_PRICE" = some u/\RelV (.int 1000) u
 uX:∃ u,mg "MOST_SIZE" = some u/\RelV (.int 360) u
 nN:lU K au
 lu:lU K ar
 vc:yw K mg jN "NoSetting"
 yg:yw K mg ka "TooMany"
 AF:yw K mg pk "Unlike"
 iz:bZ K au "idle_rows"
 iq:bZ K au "made_rows"
 kG:bZ K au "vault"
 g_:bZ K ar "dial_sizes"
 gq:bZ K ar "least_round"
 gf:bZ K ar "lever_prices"
 e8:bZ K ar "lever_settings"
 rS:∀ C,(C==ar)=true->lU K C/\bZ K C "dial_sizes"
 tJ:∀ C,(C==au)=true->lU K C/\bZ K C "idle_rows"
 qq:∀ C,(C==ar)=true->lU K C/\bZ K C "least_round"
 oZ:∀ C,(C==ar)=true->lU K C/\bZ K C "lever_prices"
 mq:∀ C,(C==ar)=true->lU K C/\bZ K C "lever_settings"
 vg:∀ C,(C==au)=true->lU K C/\bZ K C "made_rows"
 Dg:∀ C,(C==au)=true->lU K C/\bZ K C "vault"
local macro_rules | `(tactic| walk_at "t")=>`(tactic| (have z:=‹Txt _ _›;cases z))
variable{P:Program}{w:World}{K:PySem.W.Frag}{mg:Str->Option Value}{base:Heap}{f:Addr}{fd:FuncData}{dv:Value}
theorem uh(F:bh K "is_whole" "is_whole" (top 10) dv f fd)(T:Txt K mg)  : aP P w K mg base (bS P w) 1 f fd ["thing"] (dz 1 fq) :=
 F.ff ["thing"] λnd _ _ _ _ _ _ hr O=>by
 unfold ju;walk_at "t"
 walk_at "pp"
 refine(v7 ?_ (wc ?_))
 walk_at "pp"
 refine(vt (T := "int") (by rfl) T.eZ (lB (v:=.ty "int") (by rfl) T.EU Hq rfl) (by decide) vA vA ?_)
 walk_at "pp"
 refine(GP ?_)
 walk_at "pp"
 refine(vt (T := "bool") (by rfl) T.eZ (lB (v:=.ty "bool") (by rfl) T.Bh Ea rfl) (by decide) vA vA ?_)
 walk_at "pp"
theorem uE:((["number"]:List Str)++([]:List Str)).Nodup:=by decide +kernel
theorem yf(F:bh K "is_row" "is_row" (top 11) dv f fd)(T:Txt K mg)(MI:cZ P w K mg base 1 "is_whole" 1 (ax 1 ju)):aP P w K mg base (bS P w) 2 f fd ["thing", "length"] (dz 2 f9) :=
 F.ff ["thing", "length"] λnd _ _ _ _ _ _ hr O=>by
 unfold jU;walk_at "t"
 walk_at "pp"
 refine(mU ?_ (kP ?_)).pt
 walk_at "pp"
 refine(DE (Ts:=["list", "tuple"]) (by rfl) T.eZ (Ao (iu (lB (v:=.ty "list") (by rfl) T.zY wG rfl) (iu (lB (v:=.ty "tuple") (by rfl) T.rP oC rfl) pE))) (fun σ H R h=>⟨by show 2<=sizeLine;decide,h⟩) (by decide) vA ?_)
 walk_at "pp"
 refine(cW (bH (g:=(aH 0)) (ts:=["number"]) (fs:=[]) (js:=[]) (cl:=[]) rfl rfl rfl rfl rfl rfl .nil .nil (eQ ?_) du (λ_ _ _ _ _=>(aV (i:=0) uE)) (λ_=>bA) bI (λ_ _ _ _ _=>?_)))
 walk_at "pp"
theorem yr(F:bh K "common" "common" (top 12) dv f fd)(T:Txt K mg)  : aP P w K mg base (bS P w) 1 f fd ["one", "other"] (dz 2 f_) :=
 F.ff ["one", "other", "row", "behind", "times", "rest"] λnd _ _ _ _ _ _ hr O=>by
 unfold jT;walk_at "t"
 walk_at "pp"
 refine(A5 O ?_ ?_)
 walk_at "pp"
theorem oA(F:bh K "multiple_of" "multiple_of" (top 13) dv f fd)(T:Txt K mg)(M8:cZ P w K mg base 1 "common" 2 (ax 6 jT)):aP P w K mg base (bS P w) 2 f fd ["numbers"] (dz 1 fU) :=
 F.ff ["numbers", "multiple", "number"] λnd _ _ _ _ _ _ hr O=>by
 unfold fV;walk_at "t"
 walk_at "pp"
 refine(cq (g:=(aH 2)) O rfl (eQ ?_) du (aV (i:=2) nd) bA ?_)
 walk_at "pp"
theorem qr(F:bh K "product_of" "product_of" (top 14) dv f fd)(T:Txt K mg)  : aP P w K mg base (bS P w) 1 f fd ["numbers"] (dz 1 gI) :=
 F.ff ["numbers", "product", "number"] λnd _ _ _ _ _ _ hr O=>by
 unfold gA;walk_at "t"
 walk_at "pp"
 refine(cq (g:=(aH 2)) O rfl (eQ ?_) du (aV (i:=2) nd) bA ?_)
 walk_at "pp"
theorem qe:((["other"]:List Str)++(["place"]:List Str)).Nodup:=by decide +kernel
theorem uK(F:bh K "unit_row" "unit_row" (top 15) dv f fd)(T:Txt K mg)  : aP P w K mg base (bS P w) 1 f fd ["length", "place"] (dz 2 je) :=
 F.ff ["length", "place"] λnd _ _ _ _ _ _ hr O=>by
 unfold jq;walk_at "t"
 walk_at "pp"
 refine(cW (bH (g:=(aH 0)) (ts:=["other"]) (fs:=["place"]) (js:=[1]) rfl rfl rfl rfl rfl rfl (.cons rfl .nil) (.cons rfl rfl (by walk_at "l") rfl rfl .nil) (dW (by rfl) T.dS ?_) eR (λ_ _ _ _ _=>(aV (i:=0) qe)) (λ_=>bA) bI (λ_ _ _ _ _=>?_)))
 walk_at "pp"
theorem kE:((["number", "other"]:List Str)++([]:List Str)).Nodup:=by decide +kernel
theorem uk(F:bh K "rest_sum" "rest_sum" (top 16) dv f fd)(T:Txt K mg)  : aP P w K mg base (bS P w) 1 f fd ["numbers", "others", "by"] (dz 3 ji) :=
 F.ff ["numbers", "others", "by"] λnd _ _ _ _ _ _ hr O=>by
 unfold jv;walk_at "t"
 walk_at "pp"
 refine(cW (bH (g:=(iQ K 2 (bG (aH 0) (bG (aH 1) iW)))) (ts:=["number", "other"]) (fs:=[]) (js:=[]) (cl:=[]) rfl rfl rfl rfl rfl rfl .nil .nil (iM (by rfl) T.jz ?_) fP (λ_ _ _ _ _=>(dJ (n:=2) rfl (aJ (aV (i:=0) kE) (aJ (aV (i:=1) kE) cz)))) (λ_=>cN) cG (λ_ _ _ _ _=>?_)))
 walk_at "pp"
theorem sE(F:bh K "is_within" "is_within" (top 25) dv f fd)(T:Txt K mg)(MI:cZ P w K mg base 1 "is_whole" 1 (ax 1 ju)):aP P w K mg base (bS P w) 2 f fd ["thing", "least", "most"] (dz 3 dD) :=
 F.ff ["thing", "least", "most"] λnd _ _ _ _ _ _ hr O=>by
 unfold eJ;walk_at "t"
 walk_at "pp"
 refine(v7 ?_ (wc ?_))
 walk_at "pp"
 refine(uf uu o7 uu o7 ?_ ?_ ?_)
 walk_at "pp"
theorem p_(F:bh K "need_sizes" "need_sizes" (top 26) dv f fd)(T:Txt K mg)(Nf:p8 P w K mg base gc "NoDial" "dial")(Mj:cZ P w K mg base 2 "is_within" 3 (ax 3 eJ)):aP P w K mg base (bS P w) 3 f fd ["sizes"] (dz 1 gJ) :=
 F.ff ["sizes", "dial", "size"] λnd _ _ _ _ _ _ hr O=>by
 unfold gK;walk_at "t"
 walk_at "pp"
 refine(cq (g:=(iQ K 2 (bG (aH 1) (bG (aH 2) iW)))) O rfl (mr (by rfl) T.dM ?_) kc (dJ (n:=2) rfl (aJ (aV (i:=1) nd) (aJ (aV (i:=2) nd) cz))) cN ?_)
 walk_at "pp"
theorem kO(F:bh K "need_same_sizes" "need_same_sizes" (top 27) dv f fd)(T:Txt K mg)  : aP P w K mg base (bS P w) 1 f fd ["sizes", "others"] (dz 2 cB) :=
 F.ff ["sizes", "others"] λnd _ _ _ _ _ _ hr O=>by
 unfold cA;walk_at "t"
 walk_at "pp"
theorem oy(F:bh K "need_levers" "need_levers" (top 28) dv f fd)(T:Txt K mg)(M9:cZ P w K mg base 2 "is_row" 2 (ax 2 jU))(NF:p8 P w K mg base iT "NoLever" "lever"):aP P w K mg base (bS P w) 3 f fd ["levers", "dials"] (dz 2 fW) :=
 F.ff ["levers", "dials", "place", "lever"] λnd _ _ _ _ _ _ hr O=>by
 unfold f7;walk_at "t"
 walk_at "pp"
 refine(cq (g:=(iQ K 2 (bG (aH 2) (bG (aH 3) iW)))) O rfl (mr (by rfl) T.dM ?_) kc (dJ (n:=2) rfl (aJ (aV (i:=2) nd) (aJ (aV (i:=3) nd) cz))) cN ?_)
 walk_at "pp"
theorem qi(F:bh K "prices_for" "prices_for" (top 29) dv f fd)(T:Txt K mg)(NG:p8 P w K mg base gS "NoPrice" "lever")(Mj:cZ P w K mg base 2 "is_within" 3 (ax 3 eJ)):aP P w K mg base (bS P w) 3 f fd ["levers", "prices"] (dz 2 gP) :=
 F.ff ["levers", "prices", "place"] λnd _ _ _ _ _ _ hr O=>by
 unfold gN;walk_at "t"
 walk_at "pp"
 refine(cq (g:=(aH 2)) O rfl (dW (by rfl) T.dS ?_) eR (aV (i:=2) nd) bA ?_)
 walk_at "pp"
 refine(jK (rD rfl) wR (by rfl) T.A4 zP ?_)
 walk_at "pp"
 refine(mU ?_ (kP ?_)).pt
 walk_at "pp"
theorem pD:((["number", "size"]:List Str)++([]:List Str)).Nodup:=by decide +kernel
theorem BG(F:bh K "rests" "rests" (top 30) dv f fd)(T:Txt K mg)  : aP P w K mg base (bS P w) 1 f fd ["numbers", "sizes"] (dz 2 kj) :=
 F.ff ["numbers", "sizes"] λnd _ _ _ _ _ _ hr O=>by
 unfold lG;walk_at "t"
 walk_at "pp"
 refine(cW (bH (g:=(iQ K 2 (bG (aH 0) (bG (aH 1) iW)))) (ts:=["number", "size"]) (fs:=[]) (js:=[]) (cl:=[]) rfl rfl rfl rfl rfl rfl .nil .nil (iM (by rfl) T.jz ?_) fP (λ_ _ _ _ _=>(dJ (n:=2) rfl (aJ (aV (i:=0) pD) (aJ (aV (i:=1) pD) cz)))) (λ_=>cN) cG (λ_ _ _ _ _=>?_)))
 walk_at "pp"
theorem oR:((["one", "two"]:List Str)++(["times", "others"]:List Str)).Nodup:=by decide +kernel
theorem Ac(F:bh K "mixed" "mixed" (top 37) dv f fd)(T:Txt K mg)  : aP P w K mg base (bS P w) 1 f fd ["row", "times", "other", "others"] (dz 4 kb) :=
 F.ff ["row", "times", "other", "others"] λnd _ _ _ _ _ _ hr O=>by
 unfold lC;walk_at "t"
 walk_at "pp"
 refine(cW (bH (g:=(iQ K 2 (bG (aH 0) (bG (aH 1) iW)))) (ts:=["one", "two"]) (fs:=["times", "others"]) (js:=[1,3]) rfl rfl rfl rfl rfl rfl (.cons rfl (.cons rfl .nil)) (.cons rfl rfl (by walk_at "l") rfl rfl (.cons rfl rfl (by walk_at "l") rfl rfl .nil)) (iM (by rfl) T.jz ?_) fP (λ_ _ _ _ _=>(dJ (n:=2) rfl (aJ (aV (i:=0) oR) (aJ (aV (i:=1) oR) cz)))) (λ_=>cN) cG (λ_ _ _ _ _=>?_)))
 walk_at "pp"
theorem qu(F:bh K "mixed_made" "mixed_made" (top 38) dv f fd)(T:Txt K mg)(Np:cZ P w K mg base 1 "mixed" 4 (ax 4 lC))(Nq:cZ P w K mg base 1 "rests" 2 (ax 2 lG)):aP P w K mg base (bS P w) 2 f fd ["sizes", "made", "times", "other", "others"] (dz 5 dX) :=
 F.ff ["sizes", "made", "times", "other", "others", "doing"] λnd _ _ _ _ _ _ hr O=>by
 unfold eT;walk_at "t"
 walk_at "pp"
theorem sV(F:bh K "step_size" "step_size" (top 41) dv f fd)(T:Txt K mg)  : aP P w K mg base (bS P w) 1 f fd ["sizes", "made_rows", "dial"] (dz 3 dO) :=
 F.ff ["sizes", "made_rows", "dial", "notch"] λnd _ _ _ _ _ _ hr O=>by
 unfold eH;walk_at "t"
 walk_at "pp"
theorem uq(F:bh K "taken_in" "taken_in" (top 42) dv f fd)(T:Txt K mg)(Ml:cZ P w K mg base 1 "step_size" 3 (ax 4 eH))(M8:cZ P w K mg base 1 "common" 2 (ax 6 jT))(Mt:cZ P w K mg base 2 "mixed_made" 5 (ax 6 eT)):aP P w K mg base (bS P w) 3 f fd ["sizes", "made_rows", "left"] (dz 3 jg) :=
 F.ff ["sizes", "made_rows", "left", "wider", "dial", "made", "step", "notch", "found"] λnd _ _ _ _ _ _ hr O=>by
 unfold jd;walk_at "t"
 walk_at "pp"
 refine(cq (g:=(iQ K 2 (bG (aH 4) (bG (aH 5) iW)))) O rfl (mr (by rfl) T.dM ?_) kc (dJ (n:=2) rfl (aJ (aV (i:=4) nd) (aJ (aV (i:=5) nd) cz))) cN ?_)
 walk_at "pp"
theorem vz(F:bh K "lowered" "lowered" (top 43) dv f fd)(T:Txt K mg)(Ml:cZ P w K mg base 1 "step_size" 3 (ax 4 eH))(Mt:cZ P w K mg base 2 "mixed_made" 5 (ax 6 eT)):aP P w K mg base (bS P w) 3 f fd ["sizes", "made_rows", "made", "first"] (dz 4 fL) :=
 F.ff ["sizes", "made_rows", "made", "first", "dial", "times"] λnd _ _ _ _ _ _ hr O=>by
 unfold iU;walk_at "t"
 walk_at "pp"
 refine(cq (g:=(aH 4)) O rfl (yC (by rfl) T.dS ?_) zv (aV (i:=4) nd) bA ?_)
 walk_at "pp"
theorem u4(F:bh K "in_spans" "in_spans" (top 44) dv f fd)(T:Txt K mg)(Np:cZ P w K mg base 1 "mixed" 4 (ax 4 lC)):aP P w K mg base (bS P w) 2 f fd ["pulls", "idle_rows"] (dz 2 g8) :=
 F.ff ["pulls", "idle_rows", "lever", "row"] λnd _ _ _ _ _ _ hr O=>by
 unfold hU;walk_at "t"
 walk_at "pp"
 refine(cq (g:=(aH 2)) O rfl (qS (by rfl) T.dS ?_) tH (aV (i:=2) nd) bA ?_)
 walk_at "pp"
theorem sL(F:bh K "_law_cell" "_law_cell" (top 57) dv f fd)(T:Txt K mg)  : aP P w K mg base (bS P w) 1 f fd ["_law_script", "_law_k"] (dz 2 cY) :=
 F.ff ["_law_script", "_law_k"] λnd _ _ _ _ _ _ hr O=>by
 unfold ic;walk_at "t"
 walk_at "pp"
theorem oh(F:bh K "_law_stream" "_law_stream" (top 58) dv f fd)(T:Txt K mg)  : aP P w K mg base (bS P w) 1 f fd ["_law_cell_here", "_law_many"] (dz 2 cj) :=
 F.ff ["_law_cell_here", "_law_many", "_law_found", "_law_number", "_law_k"] λnd _ _ _ _ _ _ hr O=>by
 unfold cH;walk_at "t"
 walk_at "pp"
 refine(cq (g:=(aH 4)) O rfl (dW (by rfl) T.dS ?_) eR (aV (i:=4) nd) bA ?_)
 walk_at "pp"
theorem pz(F:bh K "_law_digits" "_law_digits" (top 59) dv f fd)(T:Txt K mg)  : aP P w K mg base (bS P w) 1 f fd ["_law_cell_here", "_law_bases"] (dz 2 dm) :=
 F.ff ["_law_cell_here", "_law_bases", "_law_found", "_law_left", "_law_base"] λnd _ _ _ _ _ _ hr O=>by
 unfold dj;walk_at "t"
 walk_at "pp"
 refine(cq (g:=(aH 4)) O rfl (eQ ?_) du (aV (i:=4) nd) bA ?_)
 walk_at "pp"
theorem nL:((["_law_digit"]:List Str)++([]:List Str)).Nodup:=by decide +kernel
theorem qb(F:bh K "_law_sizes" "_law_sizes" (top 60) dv f fd)(T:Txt K mg)(Mh:cZ P w K mg base 1 "_law_digits" 2 (ax 5 dj))(Ma:cZ P w K mg base 1 "_law_stream" 2 (ax 5 cH)):aP P w K mg base (bS P w) 2 f fd ["_law_cell_here"] (dz 1 gM) :=
 F.ff ["_law_cell_here", "_law_many", "_law_sizes_here", "_law_number"] λnd _ _ _ _ _ _ hr O=>by
 unfold gG;walk_at "t"
 walk_at "pp"
 refine(cW (bH (g:=(aH 0)) (ts:=["_law_digit"]) (fs:=[]) (js:=[]) (cl:=[]) rfl rfl rfl rfl rfl rfl .nil .nil (eQ ?_) du (λ_ _ _ _ _=>(aV (i:=0) nL)) (λ_=>bA) bI (λ_ _ _ _ _=>?_)))
 walk_at "pp"
 refine(cq (g:=(aH 3)) O rfl (eQ ?_) du (aV (i:=3) nd) bA ?_)
 walk_at "pp"
 exact(wQ [2,3,4,6,8,9,12,16,24,27,32,36,64,72,81,128,243,256,360])
 walk_at "pp"
theorem pY(F:bh K "_law_great" "_law_great" (top 61) dv f fd)(T:Txt K mg)  : aP P w K mg base (bS P w) 1 f fd ["_law_number"] (dz 1 gH) :=
 F.ff ["_law_number"] λnd _ _ _ _ _ _ hr O=>by
 unfold gu;walk_at "t"
 walk_at "pp"
theorem qv(F:bh K "_law_lever" "_law_lever" (top 62) dv f fd)(T:Txt K mg)(Ma:cZ P w K mg base 1 "_law_stream" 2 (ax 5 cH))(M5:cZ P w K mg base 1 "_law_great" 1 (ax 1 gu)):aP P w K mg base (bS P w) 2 f fd ["_law_cell_here", "_law_sizes_here"] (dz 2 c_) :=
 F.ff ["_law_cell_here", "_law_sizes_here", "_law_row", "_law_number", "_law_size", "_law_share"] λnd _ _ _ _ _ _ hr O=>by
 unfold gQ;walk_at "t"
 walk_at "pp"
 refine(cq (g:=(iQ K 2 (bG (aH 3) (bG (aH 4) iW)))) O rfl (iM (by rfl) T.jz ?_) fP (dJ (n:=2) rfl (aJ (aV (i:=3) nd) (aJ (aV (i:=4) nd) cz))) cN ?_)
 walk_at "pp"
 exact(wQ [1,1,2,3,4,6,12])
 walk_at "pp"
theorem oJ:((["_law_k"]:List Str)++(["_law_cell_here", "_law_sizes_here"]:List Str)).Nodup:=by decide +kernel
theorem pP:((["_law_k"]:List Str)++(["_law_sizes_here", "_law_digits_here"]:List Str)).Nodup:=by decide +kernel
theorem sH(F:bh K "_law_rows" "_law_rows" (top 63) dv f fd)(T:Txt K mg)(M6:cZ P w K mg base 2 "_law_lever" 2 (ax 6 gQ))(Mh:cZ P w K mg base 1 "_law_digits" 2 (ax 5 dj)):aP P w K mg base (bS P w) 3 f fd ["_law_cell_here", "_law_sizes_here"] (dz 2 dN) :=
 F.ff ["_law_cell_here", "_law_sizes_here", "_law_digits_here"] λnd _ _ _ _ _ _ hr O=>by
 unfold ig;walk_at "t"
 walk_at "pp"
 refine(cW (bH (g:=(aH 0)) (ts:=["_law_k"]) (fs:=["_law_cell_here", "_law_sizes_here"]) (js:=[0,1]) rfl rfl rfl rfl rfl rfl (.cons rfl (.cons rfl .nil)) (.cons rfl rfl (by walk_at "l") rfl rfl (.cons rfl rfl (by walk_at "l") rfl rfl .nil)) (dW (by rfl) T.dS ?_) eR (λ_ _ _ _ _=>(aV (i:=0) oJ)) (λ_=>bA) bI (λ_ _ _ _ _=>?_)))
 walk_at "pp"
 refine(cW (bH (g:=(aH 0)) (ts:=["_law_k"]) (fs:=["_law_sizes_here", "_law_digits_here"]) (js:=[1,2]) rfl rfl rfl rfl rfl rfl (.cons rfl (.cons rfl .nil)) (.cons rfl rfl (by walk_at "l") rfl rfl (.cons rfl rfl (by walk_at "l") rfl rfl .nil)) (dW (by rfl) T.dS ?_) eR (λ_ _ _ _ _=>(aV (i:=0) pP)) (λ_=>bA) bI (λ_ _ _ _ _=>?_)))
 walk_at "pp"
 refine(l_ ?_ (k9 ?_) (k9 ?_))
 walk_at "pp"
theorem iA:((["_law_number", "_law_size"]:List Str)++([]:List Str)).Nodup:=by decide +kernel
theorem nG(F:bh K "_law_setting" "_law_setting" (top 64) dv f fd)(T:Txt K mg)(Mh:cZ P w K mg base 1 "_law_digits" 2 (ax 5 dj))(Ma:cZ P w K mg base 1 "_law_stream" 2 (ax 5 cH)):aP P w K mg base (bS P w) 2 f fd ["_law_cell_here", "_law_sizes_here"] (dz 2 eX) :=
 F.ff ["_law_cell_here", "_law_sizes_here"] λnd _ _ _ _ _ _ hr O=>by
 unfold e7;walk_at "t"
 walk_at "pp"
 refine(cW (bH (g:=(iQ K 2 (bG (aH 0) (bG (aH 1) iW)))) (ts:=["_law_number", "_law_size"]) (fs:=[]) (js:=[]) (cl:=[]) rfl rfl rfl rfl rfl rfl .nil .nil (iM (by rfl) T.jz ?_) fP (λ_ _ _ _ _=>(dJ (n:=2) rfl (aJ (aV (i:=0) iA) (aJ (aV (i:=1) iA) cz)))) (λ_=>cN) cG (λ_ _ _ _ _=>?_)))
 walk_at "pp"
theorem gk:((["_law_here", "_law_there", "_law_size"]:List Str)++(["_law_times"]:List Str)).Nodup:=by decide +kernel
theorem qk(F:bh K "_law_added" "_law_added" (top 65) dv f fd)(T:Txt K mg)  : aP P w K mg base (bS P w) 1 f fd ["_law_sizes_here", "_law_one", "_law_other", "_law_times"] (dz 4 eV) :=
 F.ff ["_law_sizes_here", "_law_one", "_law_other", "_law_times"] λnd _ _ _ _ _ _ hr O=>by
 unfold gO;walk_at "t"
 walk_at "pp"
 refine(cW (bH (g:=(iQ K 3 (bG (aH 0) (bG (aH 1) (bG (aH 2) iW))))) (ts:=["_law_here", "_law_there", "_law_size"]) (fs:=["_law_times"]) (js:=[3]) rfl rfl rfl rfl rfl rfl (.cons rfl .nil) (.cons rfl rfl (by walk_at "l") rfl rfl .nil) (CM (by rfl) T.jz ?_) Bj (λ_ _ _ _ _=>(dJ (n:=3) rfl (aJ (aV (i:=0) gk) (aJ (aV (i:=1) gk) (aJ (aV (i:=2) gk) cz))))) (λ_=>Dh) vF (λ_ _ _ _ _=>?_)))
 walk_at "pp"
theorem oV(F:bh K "_law_turned" "_law_turned" (top 66) dv f fd)(T:Txt K mg)(M4:cZ P w K mg base 1 "_law_added" 4 (ax 4 gO)):aP P w K mg base (bS P w) 2 f fd ["_law_sizes_here", "_law_levers", "_law_setting_here", "_law_pulls"] (dz 4 cL) :=
 F.ff ["_law_sizes_here", "_law_levers", "_law_setting_here", "_law_pulls", "_law_found", "_law_row", "_law_times"] λnd _ _ _ _ _ _ hr O=>by
 unfold eh;walk_at "t"
 walk_at "pp"
 refine(cq (g:=(iQ K 2 (bG (aH 5) (bG (aH 6) iW)))) O rfl (iM (by rfl) T.jz ?_) fP (dJ (n:=2) rfl (aJ (aV (i:=5) nd) (aJ (aV (i:=6) nd) cz))) cN ?_)
 walk_at "pp"
theorem kK:cO ["self", "sizes", "levers", "prices"] ["self", "sizes", "levers", "prices"] (bc (inClass (top 24) 0)):=.of
theorem mZ:((["lever"]:List Str)++(["sizes"]:List Str)).Nodup:=by decide +kernel
theorem p5(F:bh K "__init__" "Vault.__init__" (inClass (top 24) 0) dv f fd)(T:Txt K mg)(Na:cZ P w K mg base 3 "need_sizes" 1 (ax 3 gK))(MX:cZ P w K mg base 3 "need_levers" 2 (ax 4 f7))(Nq:cZ P w K mg base 1 "rests" 2 (ax 2 lG))(Nb:cZ P w K mg base 3 "prices_for" 2 (ax 3 gN))(MW:cZ P w K mg base 2 "multiple_of" 1 (ax 3 fV)):aP P w K mg base (bS P w) 4 f fd ["self", "sizes", "levers", "prices"] (EE 4 ar b_) :=
 F.Le kK (by decide) λ_ _ _ _ _ _ hr O=>by
 unfold jb;have:=kK.nd;have T2:=T;cases T2
 walk_at "pp"
 refine(kW (i:=0) rfl (by first | exact .inl rfl | exact .inr (.inl rfl)) T.lu T.g_ ?_)
 walk_at "pp"
 refine(kW (i:=0) rfl (by first | exact .inl rfl | exact .inr (.inl rfl)) T.lu T.e8 ?_)
 walk_at "pp"
 refine(cW (bH (g:=(aH 0)) (ts:=["lever"]) (fs:=["sizes"]) (js:=[1]) rfl rfl rfl rfl rfl rfl (.cons rfl .nil) (.cons rfl rfl (by walk_at "l") rfl rfl .nil) (eQ ?_) du (λ_ _ _ _ _=>(aV (i:=0) mZ)) (λ_=>bA) bI (λ_ _ _ _ _=>?_)))
 walk_at "pp"
 refine(kW (i:=0) rfl (by first | exact .inl rfl | exact .inr (.inl rfl)) T.lu T.gf ?_)
 walk_at "pp"
 refine(kW (i:=0) rfl (by first | exact .inl rfl | exact .inr (.inl rfl)) T.lu T.gq ?_)
 walk_at "pp"
theorem o8(F:bh K "sizes" "Vault.sizes" (inClass (top 24) 1) dv f fd)(T:Txt K mg)  : aP P w K mg base (bS P w) 1 f fd ["self"] (dz 1 aE) :=
 F.ff ["self"] λnd _ _ _ _ _ _ hr O=>by
 unfold aZ;walk_at "t"
 walk_at "pp"
theorem nq(F:bh K "levers" "Vault.levers" (inClass (top 24) 2) dv f fd)(T:Txt K mg)  : aP P w K mg base (bS P w) 1 f fd ["self"] (dz 1 aQ) :=
 F.ff ["self"] λnd _ _ _ _ _ _ hr O=>by
 unfold bw;walk_at "t"
 walk_at "pp"
theorem ny(F:bh K "prices" "Vault.prices" (inClass (top 24) 3) dv f fd)(T:Txt K mg)  : aP P w K mg base (bS P w) 1 f fd ["self"] (dz 1 pj) :=
 F.ff ["self"] λnd _ _ _ _ _ _ hr O=>by
 unfold jW;walk_at "t"
 walk_at "pp"
theorem nh(F:bh K "around" "Vault.around" (inClass (top 24) 4) dv f fd)(T:Txt K mg)  : aP P w K mg base (bS P w) 1 f fd ["self"] (dz 1 cT) :=
 F.ff ["self"] λnd _ _ _ _ _ _ hr O=>by
 unfold dE;walk_at "t"
 walk_at "pp"
theorem mC:((["dial"]:List Str)++(["self", "sizes"]:List Str)).Nodup:=by decide +kernel
theorem oO(F:bh K "steps" "Rungs.steps" (inClass (top 45) 1) dv f fd)(T:Txt K mg)(L5:jG P w K mg base ar 1 "sizes" 1 (ax 1 aZ))(Ml:cZ P w K mg base 1 "step_size" 3 (ax 4 eH)):aP P w K mg base (bS P w) 2 f fd ["self"] (dz 1 fZ) :=
 F.ff ["self", "sizes"] λnd _ _ _ _ _ _ hr O=>by
 unfold fY;walk_at "t"
 walk_at "pp"
 refine(cW (bH (g:=(aH 0)) (ts:=["dial"]) (fs:=["self", "sizes"]) (js:=[0,1]) rfl rfl rfl rfl rfl rfl (.cons rfl (.cons rfl .nil)) (.cons rfl rfl (by walk_at "l") rfl rfl (.cons rfl rfl (by walk_at "l") rfl rfl .nil)) (dW (by rfl) T.dS ?_) eR (λ_ _ _ _ _=>(aV (i:=0) mC)) (λ_=>bA) bI (λ_ _ _ _ _=>?_)))
 walk_at "pp"
theorem nu:((["made"]:List Str)++([]:List Str)).Nodup:=by decide +kernel
theorem pZ(F:bh K "rows" "Rungs.rows" (inClass (top 45) 2) dv f fd)(T:Txt K mg)  : aP P w K mg base (bS P w) 1 f fd ["self"] (dz 1 dY) :=
 F.ff ["self"] λnd _ _ _ _ _ _ hr O=>by
 unfold fe;walk_at "t"
 walk_at "pp"
 refine(cW (bH (g:=(aH 0)) (ts:=["made"]) (fs:=[]) (js:=[]) (cl:=[]) rfl rfl rfl rfl rfl rfl .nil .nil (eQ ?_) du (λ_ _ _ _ _=>(aV (i:=0) nu)) (λ_=>bA) bI (λ_ _ _ _ _=>?_)))
 walk_at "pp"
theorem iV:((["lever", "row"]:List Str)++([]:List Str)).Nodup:=by decide +kernel
theorem pC(F:bh K "spans" "Rungs.spans" (inClass (top 45) 3) dv f fd)(T:Txt K mg)  : aP P w K mg base (bS P w) 1 f fd ["self"] (dz 1 fO) :=
 F.ff ["self"] λnd _ _ _ _ _ _ hr O=>by
 unfold fM;walk_at "t"
 walk_at "pp"
 refine(cW (bH (g:=(iQ K 2 (bG (aH 0) (bG (aH 1) iW)))) (ts:=["lever", "row"]) (fs:=[]) (js:=[]) (cl:=[]) rfl rfl rfl rfl rfl rfl .nil .nil (mr (by rfl) T.dM ?_) kc (λ_ _ _ _ _=>(dJ (n:=2) rfl (aJ (aV (i:=0) iV) (aJ (aV (i:=1) iV) cz)))) (λ_=>cN) cG (λ_ _ _ _ _=>?_)))
 walk_at "pp"
theorem yX(F:bh K "nought" "nought" (top 31) dv f fd)(T:Txt K mg)(L5:jG P w K mg base ar 1 "sizes" 1 (ax 1 aZ)):aP P w K mg base (bS P w) 2 f fd ["vault"] (dz 1 gZ) :=
 F.ff ["vault"] λnd _ _ _ _ _ _ hr O=>by
 unfold i9;walk_at "t"
 walk_at "pp"
theorem jy:((["notch", "size"]:List Str)++([]:List Str)).Nodup:=by decide +kernel
theorem qt(F:bh K "is_setting" "is_setting" (top 32) dv f fd)(T:Txt K mg)(L5:jG P w K mg base ar 1 "sizes" 1 (ax 1 aZ))(M9:cZ P w K mg base 2 "is_row" 2 (ax 2 jU)):aP P w K mg base (bS P w) 3 f fd ["vault", "thing"] (dz 2 gE) :=
 F.ff ["vault", "thing", "sizes"] λnd _ _ _ _ _ _ hr O=>by
 unfold gD;walk_at "t"
 walk_at "pp"
 refine(mU ?_ (kP ?_)).pt
 walk_at "pp"
 refine(vt (T := "tuple") (by rfl) T.eZ (lB (v:=.ty "tuple") (by rfl) T.rP oC rfl) (by decide) vA vA ?_)
 walk_at "pp"
 refine(cW (bH (g:=(iQ K 2 (bG (aH 0) (bG (aH 1) iW)))) (ts:=["notch", "size"]) (fs:=[]) (js:=[]) (cl:=[]) rfl rfl rfl rfl rfl rfl .nil .nil (iM (by rfl) T.jz ?_) fP (λ_ _ _ _ _=>(dJ (n:=2) rfl (aJ (aV (i:=0) jy) (aJ (aV (i:=1) jy) cz)))) (λ_=>cN) cG (λ_ _ _ _ _=>?_)))
 walk_at "pp"
 refine(uf uu o7 Br wu ?_ ?_ ?_)
 walk_at "pp"
theorem nB(F:bh K "need_setting" "need_setting" (top 33) dv f fd)(T:Txt K mg)(M_:cZ P w K mg base 3 "is_setting" 2 (ax 3 gD)):aP P w K mg base (bS P w) 4 f fd ["vault", "thing"] (dz 2 cX) :=
 F.ff ["vault", "thing"] λnd _ _ _ _ _ _ hr O=>by
 unfold dG;walk_at "t"
 walk_at "pp"
theorem pM:((["weight", "size"]:List Str)++(["around"]:List Str)).Nodup:=by decide +kernel
theorem z_(F:bh K "weigh" "weigh" (top 35) dv f fd)(T:Txt K mg)(Mo:cZ P w K mg base 4 "need_setting" 2 (ax 2 dG))(Mn:jG P w K mg base ar 1 "around" 1 (ax 1 dE))(L5:jG P w K mg base ar 1 "sizes" 1 (ax 1 aZ))(Nx:cZ P w K mg base 1 "rest_sum" 3 (ax 3 jv)):aP P w K mg base (bS P w) 5 f fd ["vault", "weights", "setting"] (dz 3 nV) :=
 F.ff ["vault", "weights", "setting", "around", "worths"] λnd _ _ _ _ _ _ hr O=>by
 unfold nQ;walk_at "t"
 walk_at "pp"
 refine(lh (i:=4) (g:=(iQ K 2 (bG (aH 0) (bG (aH 1) iW)))) (ts:=["weight", "size"]) (fs:=["around"]) (js:=[3]) rfl rfl rfl rfl rfl rfl (.cons rfl .nil) (.cons rfl rfl (by walk_at "l") rfl rfl .nil) (iM (by rfl) T.jz ?_) fP (λ_ _ _ _ _=>(dJ (n:=2) rfl (aJ (aV (i:=0) pM) (aJ (aV (i:=1) pM) cz)))) (λ_=>cN) cG (λ_ _ _ _ _=>?_) nd rfl (by walk_at "l"))
 walk_at "pp"
theorem uR(F:bh K "unpulled" "unpulled" (top 39) dv f fd)(T:Txt K mg)(L6:jG P w K mg base ar 1 "levers" 1 (ax 1 bw)):aP P w K mg base (bS P w) 2 f fd ["vault", "setting"] (dz 2 fJ) :=
 F.ff ["vault", "setting"] λnd _ _ _ _ _ _ hr O=>by
 unfold gY;walk_at "t"
 walk_at "pp"
theorem ou(F:bh K "pulled_once" "pulled_once" (top 40) dv f fd)(T:Txt K mg)(L6:jG P w K mg base ar 1 "levers" 1 (ax 1 bw))(Nz:cZ P w K mg base 1 "unit_row" 2 (ax 2 jq)):aP P w K mg base (bS P w) 2 f fd ["vault", "lever"] (dz 2 fN) :=
 F.ff ["vault", "lever", "levers"] λnd _ _ _ _ _ _ hr O=>by
 unfold fX;walk_at "t"
 walk_at "pp"
theorem iN:cO ["self", "vault", "sizes", "made_rows", "idle_rows", "lever", "taken"] ["self", "vault"] (bc (inClass (top 45) 0)):=.of
theorem ni:((["size"]:List Str)++(["vault"]:List Str)).Nodup:=by decide +kernel
theorem jA:((["dial", "made"]:List Str)++(["sizes", "made_rows"]:List Str)).Nodup:=by decide +kernel
theorem qh(F:bh K "__init__" "Rungs.__init__" (inClass (top 45) 0) dv f fd)(T:Txt K mg)(L5:jG P w K mg base ar 1 "sizes" 1 (ax 1 aZ))(MD:cZ P w K mg base 2 "nought" 1 (ax 1 i9))(MJ:cZ P w K mg base 2 "unpulled" 2 (ax 2 gY))(L6:jG P w K mg base ar 1 "levers" 1 (ax 1 bw))(MY:cZ P w K mg base 2 "pulled_once" 2 (ax 3 fX))(Ny:cZ P w K mg base 3 "taken_in" 3 (ax 9 jd))(MH:cZ P w K mg base 2 "in_spans" 2 (ax 4 hU))(MR:cZ P w K mg base 3 "lowered" 4 (ax 6 iU)):aP P w K mg base (bS P w) 4 f fd ["self", "vault"] (EE 2 au bU) :=
 F.Le iN (by decide) λ_ _ _ _ _ _ hr O=>by
 unfold jt;have:=iN.nd;have T2:=T;cases T2
 walk_at "pp"
 refine(cW (bH (g:=(aH 0)) (ts:=["size"]) (fs:=["vault"]) (js:=[1]) rfl rfl rfl rfl rfl rfl (.cons rfl .nil) (.cons rfl rfl (by walk_at "l") rfl rfl .nil) (eQ ?_) du (λ_ _ _ _ _=>(aV (i:=0) ni)) (λ_=>bA) bI (λ_ _ _ _ _=>?_)))
 walk_at "pp"
 refine(cq (g:=(aH 5)) O rfl (dW (by rfl) T.dS ?_) eR (aV (i:=5) iN.nd) bA ?_)
 walk_at "pp"
 refine(wD 4 ?_)
 walk_at "pp"
 refine(kW (i:=0) rfl (by first | exact .inl rfl | exact .inr (.inl rfl)) T.nN T.kG ?_)
 walk_at "pp"
 refine(kW (i:=0) rfl (by first | exact .inl rfl | exact .inr (.inl rfl)) T.nN T.iq ?_)
 walk_at "pp"
 refine(cW (bH (g:=(iQ K 2 (bG (aH 0) (bG (aH 1) iW)))) (ts:=["dial", "made"]) (fs:=["sizes", "made_rows"]) (js:=[2,3]) rfl rfl rfl rfl rfl rfl (.cons rfl (.cons rfl .nil)) (.cons rfl rfl (by walk_at "l") rfl rfl (.cons rfl rfl (by walk_at "l") rfl rfl .nil)) (mr (by rfl) T.dM ?_) kc (λ_ _ _ _ _=>(dJ (n:=2) rfl (aJ (aV (i:=0) jA) (aJ (aV (i:=1) jA) cz)))) (λ_=>cN) cG (λ_ _ _ _ _=>?_)))
 walk_at "pp"
 refine(kW (i:=0) rfl (by first | exact .inl rfl | exact .inr (.inl rfl)) T.nN T.iz ?_)
 walk_at "pp"
theorem jF(F:bh K "brought_down" "Rungs.brought_down" (inClass (top 45) 5) dv f fd)(T:Txt K mg)(Mo:cZ P w K mg base 4 "need_setting" 2 (ax 2 dG))(MJ:cZ P w K mg base 2 "unpulled" 2 (ax 2 gY))(L5:jG P w K mg base ar 1 "sizes" 1 (ax 1 aZ))(MR:cZ P w K mg base 3 "lowered" 4 (ax 6 iU)):aP P w K mg base (bS P w) 5 f fd ["self", "setting"] (dz 2 bF) :=
 F.ff ["self", "setting"] λnd _ _ _ _ _ _ hr O=>by
 unfold bQ;walk_at "t"
 walk_at "pp"
theorem oW(F:bh K "least" "Rungs.least" (inClass (top 45) 6) dv f fd)(T:Txt K mg)(Mb:jG P w K mg base au 5 "brought_down" 2 (ax 2 bQ)):aP P w K mg base (bS P w) 6 f fd ["self", "setting"] (dz 2 qw) :=
 F.ff ["self", "setting"] λnd _ _ _ _ _ _ hr O=>by
 unfold kH;walk_at "t"
 walk_at "pp"
theorem kA:((["times"]:List Str)++([]:List Str)).Nodup:=by decide +kernel
theorem lp(F:bh K "pulls_to" "Rungs.pulls_to" (inClass (top 45) 7) dv f fd)(T:Txt K mg)(Mb:jG P w K mg base au 5 "brought_down" 2 (ax 2 bQ))(MD:cZ P w K mg base 2 "nought" 1 (ax 1 i9))(MH:cZ P w K mg base 2 "in_spans" 2 (ax 4 hU)):aP P w K mg base (bS P w) 6 f fd ["self", "setting"] (dz 2 ck) :=
 F.ff ["self", "setting", "made"] λnd _ _ _ _ _ _ hr O=>by
 unfold cR;walk_at "t"
 walk_at "pp"
 refine(cW (bH (g:=(aH 0)) (ts:=["times"]) (fs:=[]) (js:=[]) (cl:=[]) rfl rfl rfl rfl rfl rfl .nil .nil (eQ ?_) du (λ_ _ _ _ _=>(aV (i:=0) kA)) (λ_=>bA) bI (λ_ _ _ _ _=>?_)))
 walk_at "pp"
theorem fm:((["size", "step"]:List Str)++([]:List Str)).Nodup:=by decide +kernel
theorem kz(F:bh K "weights_at" "Rungs.weights_at" (inClass (top 45) 8) dv f fd)(T:Txt K mg)(L5:jG P w K mg base ar 1 "sizes" 1 (ax 1 aZ))(Mj:cZ P w K mg base 2 "is_within" 3 (ax 3 eJ))(Nf:p8 P w K mg base gc "NoDial" "dial")(MV:jG P w K mg base au 2 "steps" 1 (ax 2 fY))(N0:cZ P w K mg base 5 "weigh" 3 (ax 5 nQ))(Mn:jG P w K mg base ar 1 "around" 1 (ax 1 dE)):aP P w K mg base (bS P w) 6 f fd ["self", "dial"] (dz 2 bD) :=
 F.ff ["self", "dial", "sizes", "fills", "weights", "ahead", "weighed", "share"] λnd _ _ _ _ _ _ hr O=>by
 unfold c9;walk_at "t"
 walk_at "pp"
 refine(lh (i:=3) (g:=(iQ K 2 (bG (aH 0) (bG (aH 1) iW)))) (ts:=["size", "step"]) (fs:=[]) (js:=[]) (cl:=[]) rfl rfl rfl rfl rfl rfl .nil .nil (iM (by rfl) T.jz ?_) fP (λ_ _ _ _ _=>(dJ (n:=2) rfl (aJ (aV (i:=0) fm) (aJ (aV (i:=1) fm) cz)))) (λ_=>cN) cG (λ_ _ _ _ _=>?_) nd rfl (by walk_at "l"))
 walk_at "pp"
 refine(FI ?_ ?_)
 walk_at "pp"
 refine(Eh (i:=4) rfl (by first | exact .inl rfl | exact .inr (.inl rfl)) ?_ ?_)
 walk_at "pp"
 refine(cq (g:=(aH 5)) O rfl (qS (by rfl) T.dS ?_) tH (aV (i:=5) nd) bA ?_)
 walk_at "pp"
 refine(wD 4 ?_)
 walk_at "pp"
 refine(Eh (i:=4) rfl (by first | exact .inl rfl | exact .inr (.inl rfl)) ?_ ?_)
 walk_at "pp"
theorem lM(F:bh K "together_count" "together_count" (top 47) dv f fd)(T:Txt K mg)(L_:vQ P w K mg base au 4 "Rungs" 2 [] bU)(MU:jG P w K mg base au 1 "spans" 1 (ax 1 fM))(Nc:cZ P w K mg base 1 "product_of" 1 (ax 3 gA)):aP P w K mg base (bS P w) 6 f fd ["vault"] (dz 1 aY) :=
 F.ff ["vault"] λnd _ _ _ _ _ _ hr O=>by
 unfold d_;walk_at "t"
 walk_at "pp"
theorem wq(F:bh K "does_as" "does_as" (top 48) dv f fd)(T:Txt K mg)(L5:jG P w K mg base ar 1 "sizes" 1 (ax 1 aZ))(Mi:cZ P w K mg base 1 "need_same_sizes" 2 (ax 2 cA))(L_:vQ P w K mg base au 4 "Rungs" 2 [] bU)(Ms:jG P w K mg base au 1 "rows" 1 (ax 1 fe)):aP P w K mg base (bS P w) 6 f fd ["one", "other"] (dz 2 bf) :=
 F.ff ["one", "other"] λnd _ _ _ _ _ _ hr O=>by
 unfold iY;walk_at "t"
 walk_at "pp"
theorem vR:((["row"]:List Str)++(["none"]:List Str)).Nodup:=by decide +kernel
theorem Bq(F:bh K "clear" "clear" (top 50) dv f fd)(T:Txt K mg)(MD:cZ P w K mg base 2 "nought" 1 (ax 1 i9))(L_:vQ P w K mg base au 4 "Rungs" 2 [] bU)(Ms:jG P w K mg base au 1 "rows" 1 (ax 1 fe))(L5:jG P w K mg base ar 1 "sizes" 1 (ax 1 aZ))(Mc:vQ P w K mg base ar 4 "Vault" 4 [.cp] b_):aP P w K mg base (bS P w) 6 f fd ["vault"] (dz 1 j7) :=
 F.ff ["vault", "none"] λnd _ _ _ _ _ _ hr O=>by
 unfold lA;walk_at "t"
 walk_at "pp"
 refine(cW (zI (g:=(aH 0)) (ts:=["row"]) (fs:=["none"]) (js:=[1]) rfl rfl rfl rfl rfl rfl (.cons rfl .nil) (.cons rfl rfl (by walk_at "l") rfl rfl .nil) (eQ ?_) du (λ_ _ _ _ _=>(aV (i:=0) vR)) (λ_=>bA) bI (λ_ _ _ _ _=>?_) (λ_ _ _ _ _=>?_)))
 walk_at "pp"
theorem u6(F:bh K "clear_of" "clear_of" (top 51) dv f fd)(T:Txt K mg)(Mc:vQ P w K mg base ar 4 "Vault" 4 [.cp] b_)(L6:jG P w K mg base ar 1 "levers" 1 (ax 1 bw))(Nn:cZ P w K mg base 6 "clear" 1 (ax 2 lA)):aP P w K mg base (bS P w) 7 f fd ["sizes", "doings"] (dz 2 hG) :=
 F.ff ["sizes", "doings", "cleared", "doing"] λnd _ _ _ _ _ _ hr O=>by
 unfold jf;walk_at "t"
 walk_at "pp"
 refine(cq (g:=(aH 3)) O rfl (eQ ?_) du (aV (i:=3) nd) bA ?_)
 walk_at "pp"
theorem uL:((["dial"]:List Str)++(["rungs"]:List Str)).Nodup:=by decide +kernel
theorem yu(F:bh K "stills" "stills" (top 52) dv f fd)(T:Txt K mg)(L_:vQ P w K mg base au 4 "Rungs" 2 [] bU)(L5:jG P w K mg base ar 1 "sizes" 1 (ax 1 aZ))(Mw:jG P w K mg base au 6 "weights_at" 2 (ax 8 c9))(Mc:vQ P w K mg base ar 4 "Vault" 4 [.cp] b_)(Nn:cZ P w K mg base 6 "clear" 1 (ax 2 lA)):aP P w K mg base (bS P w) 7 f fd ["vault"] (dz 1 cU) :=
 F.ff ["vault", "rungs", "sizes"] λnd _ _ _ _ _ _ hr O=>by
 unfold jZ;walk_at "t"
 walk_at "pp"
 refine(cW (bH (g:=(aH 0)) (ts:=["dial"]) (fs:=["rungs"]) (js:=[1]) rfl rfl rfl rfl rfl rfl (.cons rfl .nil) (.cons rfl rfl (by walk_at "l") rfl rfl .nil) (dW (by rfl) T.dS ?_) eR (λ_ _ _ _ _=>(aV (i:=0) uL)) (λ_=>bA) bI (λ_ _ _ _ _=>?_)))
 walk_at "pp"
theorem uO(F:bh K "together" "together" (top 54) dv f fd)(T:Txt K mg)(L5:jG P w K mg base ar 1 "sizes" 1 (ax 1 aZ))(Mi:cZ P w K mg base 1 "need_same_sizes" 2 (ax 2 cA))(L6:jG P w K mg base ar 1 "levers" 1 (ax 1 bw))(Nw:cZ P w K mg base 7 "clear_of" 2 (ax 4 jf)):aP P w K mg base (bS P w) 8 f fd ["one", "other"] (dz 2 bj) :=
 F.ff ["one", "other"] λnd _ _ _ _ _ _ hr O=>by
 unfold fK;walk_at "t"
 walk_at "pp"
theorem D8(F:bh K "both" "both" (top 55) dv f fd)(T:Txt K mg)(Nd:cZ P w K mg base 7 "stills" 1 (ax 3 jZ))(Mq:cZ P w K mg base 8 "together" 2 (ax 2 fK)):aP P w K mg base (bS P w) 9 f fd ["one", "other"] (dz 2 eS) :=
 F.ff ["one", "other"] λnd _ _ _ _ _ _ hr O=>by
 unfold pv;walk_at "t"
 walk_at "pp"
theorem u7(F:bh K "_law_can" "_law_can" (top 67) dv f fd)(T:Txt K mg)(MB:jG P w K mg base au 6 "pulls_to" 2 (ax 3 cR))(L6:jG P w K mg base ar 1 "levers" 1 (ax 1 bw))(Mr:cZ P w K mg base 2 "_law_turned" 4 (ax 7 eh)):aP P w K mg base (bS P w) 7 f fd ["_law_sizes_here", "_law_vault", "_law_rungs", "_law_setting_here"] (dz 4 dH) :=
 F.ff ["_law_sizes_here", "_law_vault", "_law_rungs", "_law_setting_here", "_law_pulls"] λnd _ _ _ _ _ _ hr O=>by
 unfold fI;walk_at "t"
 walk_at "pp"
theorem nJ(F:bh K "_law_all_can" "_law_all_can" (top 68) dv f fd)(T:Txt K mg)(L_:vQ P w K mg base au 4 "Rungs" 2 [] bU)(MG:cZ P w K mg base 7 "_law_can" 4 (ax 5 fI)):aP P w K mg base (bS P w) 8 f fd ["_law_sizes_here", "_law_vault", "_law_levers"] (dz 3 cP) :=
 F.ff ["_law_sizes_here", "_law_vault", "_law_levers", "_law_rungs", "_law_lever_here"] λnd _ _ _ _ _ _ hr O=>by
 unfold e_;walk_at "t"
 walk_at "pp"
 refine(cq (g:=(aH 4)) O rfl (eQ ?_) du (aV (i:=4) nd) bA ?_)
 walk_at "pp"
theorem la(F:bh K "_law_same_good" "_law_same_good" (top 69) dv f fd)(T:Txt K mg)(L6:jG P w K mg base ar 1 "levers" 1 (ax 1 bw))(MO:cZ P w K mg base 8 "_law_all_can" 3 (ax 5 e_))(MQ:cZ P w K mg base 6 "does_as" 2 (ax 2 iY)):aP P w K mg base (bS P w) 9 f fd ["_law_sizes_here", "_law_one", "_law_other"] (dz 3 cS) :=
 F.ff ["_law_sizes_here", "_law_one", "_law_other", "_law_even"] λnd _ _ _ _ _ _ hr O=>by
 unfold dZ;walk_at "t"
 walk_at "pp"
 refine(v7 ?_ (wc ?_))
 walk_at "pp"
theorem kD(F:bh K "_law_orders_good" "_law_orders_good" (top 70) dv f fd)(T:Txt K mg)(NH:cZ P w K mg base 9 "both" 2 (ax 2 pv))(Mq:cZ P w K mg base 8 "together" 2 (ax 2 fK))(MQ:cZ P w K mg base 6 "does_as" 2 (ax 2 iY))(Nd:cZ P w K mg base 7 "stills" 1 (ax 3 jZ))(ME:cZ P w K mg base 6 "together_count" 1 (ax 1 d_)):aP P w K mg base (bS P w) 10 f fd ["_law_one", "_law_other", "_law_third"] (dz 3 dc) :=
 F.ff ["_law_one", "_law_other", "_law_third", "_law_lower", "_law_counts"] λnd _ _ _ _ _ _ hr O=>by
 unfold da;walk_at "t"
 walk_at "pp"
 refine(mU ?_ (kP ?_)).pt
 walk_at "pp"
 refine(mU ?_ (kP ?_)).pt
 walk_at "pp"
theorem Bi:((["_law_k"]:List Str)++(["_law_script", "_law_sizes_here"]:List Str)).Nodup:=by decide +kernel
theorem AL:((["_law_vault"]:List Str)++([]:List Str)).Nodup:=by decide +kernel
theorem va:((["_law_vault", "_law_rung"]:List Str)++(["_law_sizes_here", "_law_setting_here"]:List Str)).Nodup:=by decide +kernel
theorem Fn(F:bh K "law" "law" (top 71) dv f fd)(T:Txt K mg)(Nh:cZ P w K mg base 1 "_law_cell" 2 (ax 2 ic))(M7:cZ P w K mg base 2 "_law_sizes" 1 (ax 4 gG))(Ni:cZ P w K mg base 3 "_law_rows" 2 (ax 3 ig))(Mc:vQ P w K mg base ar 4 "Vault" 4 [.cp] b_)(Mx:cZ P w K mg base 10 "_law_orders_good" 3 (ax 5 da))(MC:cZ P w K mg base 9 "_law_same_good" 3 (ax 4 dZ))(Mq:cZ P w K mg base 8 "together" 2 (ax 2 fK))(NH:cZ P w K mg base 9 "both" 2 (ax 2 pv))(L_:vQ P w K mg base au 4 "Rungs" 2 [] bU)(MP:cZ P w K mg base 2 "_law_setting" 2 (ax 2 e7))(L6:jG P w K mg base ar 1 "levers" 1 (ax 1 bw))(Ma:cZ P w K mg base 1 "_law_stream" 2 (ax 5 cH))(Mr:cZ P w K mg base 2 "_law_turned" 4 (ax 7 eh))(MG:cZ P w K mg base 7 "_law_can" 4 (ax 5 fI)):aP P w K mg base (bS P w) 11 f fd ["_law_script"] (dz 1 qT) :=
 F.ff ["_law_script", "_law_sizes_here", "_law_vaults", "_law_two", "_law_rungs", "_law_k", "_law_cell_here", "_law_setting_here", "_law_levers", "_law_found"] λnd _ _ _ _ _ _ hr O=>by
 unfold zH;walk_at "t"
 walk_at "pp"
 refine(l_ ?_ Cv (k9 ?_))
 walk_at "pp"
 refine(lh (i:=2) (g:=(aH 0)) (ts:=["_law_k"]) (fs:=["_law_script", "_law_sizes_here"]) (js:=[0,1]) rfl rfl rfl rfl rfl rfl (.cons rfl (.cons rfl .nil)) (.cons rfl rfl (by walk_at "l") rfl rfl (.cons rfl rfl (by walk_at "l") rfl rfl .nil)) (dW (by rfl) T.dS ?_) eR (λ_ _ _ _ _=>(aV (i:=0) Bi)) (λ_=>bA) bI (λ_ _ _ _ _=>?_) nd rfl (by walk_at "l"))
 walk_at "pp"
 refine(mU ?_ (kP ?_)).pt
 walk_at "pp"
 refine(lh (i:=4) (g:=(aH 0)) (ts:=["_law_vault"]) (fs:=[]) (js:=[]) (cl:=[]) rfl rfl rfl rfl rfl rfl .nil .nil (eQ ?_) du (λ_ _ _ _ _=>(aV (i:=0) AL)) (λ_=>bA) bI (λ_ _ _ _ _=>?_) nd rfl (by walk_at "l"))
 walk_at "pp"
 refine(cq (g:=(iQ K 2 (bG (aH 5) (bG (aH 6) iW)))) O rfl (mr (by rfl) T.dM ?_) kc (dJ (n:=2) rfl (aJ (aV (i:=5) nd) (aJ (aV (i:=6) nd) cz))) cN ?_)
 walk_at "pp"
 refine(l_ ?_ (k9 ?_) (k9 ?_))
 walk_at "pp"
 refine(lh (i:=9) (g:=(iQ K 2 (bG (aH 0) (bG (aH 1) iW)))) (ts:=["_law_vault", "_law_rung"]) (fs:=["_law_sizes_here", "_law_setting_here"]) (js:=[1,7]) rfl rfl rfl rfl rfl rfl (.cons rfl (.cons rfl .nil)) (.cons rfl rfl (by walk_at "l") rfl rfl (.cons rfl rfl (by walk_at "l") rfl rfl .nil)) (iM (by rfl) T.jz ?_) fP (λ_ _ _ _ _=>(dJ (n:=2) rfl (aJ (aV (i:=0) va) (aJ (aV (i:=1) va) cz)))) (λ_=>cN) cG (λ_ _ _ _ _=>?_) nd rfl (by walk_at "l"))
 walk_at "pp"
 refine(mU ?_ (mU ?_ (kP ?_))).pt
 walk_at "pp"
 refine(jX yH H_ ?_ ?_ (by rfl))
 walk_at "pp"
 refine(jK (rD rfl) wR (by rfl) T.A4 zP ?_)
 walk_at "pp"
 refine(E_ ?_ (DJ ?_)).pt
 walk_at "pp"
end vk
namespace vk
open PySem L2 PyProof.Rows
open PySem.W (nsIn findIn codeIn keepIn isFn mroIn specialIn takesIn hasDictIn typeIn plainGet plainOver makesIn mg_of mg_none_of fnOf excIn clsIn)
abbrev κ(w:World):PySem.W.Frag:=HD.K w.params
variable(w:World)
abbrev E2:Value:=HD.st "dialvault.wholes" 386
abbrev wY:Value:=HD.st "dialvault.vault" 443
abbrev vj:Value:=HD.st "dialvault.rungs" 595
abbrev vT:Value:=HD.st "law_dialvault_k92_whole_order_of_vaults" 820
abbrev LV:Value:=HD.st "dialvault.papers" 587
abbrev md5:Value:=HD.st "dialvault.classes" 761
abbrev K1:Value:=HD.st "dialvault.stills" 778
abbrev Lm:Value:=HD.st "dialvault.pairs" 802
abbrev JV:Value:=HD.st "dialvault.errors" 194
def iK:FuncData:=fnOf "__init__" "Vault.__init__" (iB (inClass (top 24) 0)) (fb (inClass (top 24) 0)) (bc (inClass (top 24) 0)) (.ref 227) .none .none wY none (.ref 231) .none
theorem lq:bh (κ w) "__init__" "Vault.__init__" (inClass (top 24) 0) (.ref 227) 232 iK:=.of (by kernel_rfl) (by kernel_rfl) (by kernel_rfl)
def iF:FuncData:=yE "__init__" "Rungs.__init__" (inClass (top 45) 0) vj 396
theorem r9:bh (κ w) "__init__" "Rungs.__init__" (inClass (top 45) 0) .none 397 iF:=.of (by kernel_rfl) (by kernel_rfl) (by kernel_rfl)
theorem sY:Binds (κ w) iF ["self", "vault"] []:=Binds.all (JN λ_ _=>rfl)
def wo:FuncData:=yE "law" "law" (top 71) vT 589
theorem IY:bh (κ w) "law" "law" (top 71) .none 590 wo:=.of (by kernel_rfl) (by kernel_rfl) (by kernel_rfl)
theorem rZ:iR (κ w) jN:=⟨(by kernel_rfl),(by kernel_rfl),(by kernel_rfl),(by kernel_rfl),(by kernel_rfl),(by kernel_rfl),(by kernel_rfl),(by kernel_rfl),(by kernel_rfl)⟩
theorem vU:iR (κ w) ka:=⟨(by kernel_rfl),(by kernel_rfl),(by kernel_rfl),(by kernel_rfl),(by kernel_rfl),(by kernel_rfl),(by kernel_rfl),(by kernel_rfl),(by kernel_rfl)⟩
theorem yD:iR (κ w) pk:=⟨(by kernel_rfl),(by kernel_rfl),(by kernel_rfl),(by kernel_rfl),(by kernel_rfl),(by kernel_rfl),(by kernel_rfl),(by kernel_rfl),(by kernel_rfl)⟩
theorem qG:iR (κ w) gc:=⟨(by kernel_rfl),(by kernel_rfl),(by kernel_rfl),(by kernel_rfl),(by kernel_rfl),(by kernel_rfl),(by kernel_rfl),(by kernel_rfl),(by kernel_rfl)⟩
def ib:FuncData:=yE "__init__" "NoDial.__init__" (inClass (top 3) 0) JV 54
theorem Kl:(κ w).lookup 55=some ⟨.type "function", none,.func ib,⟨[]⟩⟩:=by kernel_rfl
theorem JO:codeIn (κ w) (.ref 54) "NoDial.__init__" = true:=by kernel_rfl
theorem vV:Binds (κ w) ib ["self", "dial"] []:=Binds.all (JN λ_ _=>rfl)
theorem vn:cO ["self", "dial"] ["self", "dial"] (bc (inClass (top 3) 0)):=.of
theorem K7:((clsIn (κ w) 65).any λcd=>gC cd.mro)=true:=by kernel_rfl
theorem KW:findIn (κ w) (.ref 65) "dial" = some none:=by kernel_rfl
theorem wB{P:Program}{w:World}{mg:Str->Option Value}{base:Heap}:aP P w (κ w) mg base (bS P w) 1 55 ib ["self", "dial"] (xS (κ w) gc "dial") :=
 oj (n0 := "self") (n1 := "dial") (fl := "dial") (Kl w) (JO w) vn (qG w) (K7 w) (KW w) (by first | exact .inl rfl | exact .inr (.inl rfl)) (by first | exact .inl rfl | exact .inr (.inl rfl)) (by decide) (by decide) (by decide) (by decide) (λ_=>rfl)
theorem o5:iR (κ w) iT:=⟨(by kernel_rfl),(by kernel_rfl),(by kernel_rfl),(by kernel_rfl),(by kernel_rfl),(by kernel_rfl),(by kernel_rfl),(by kernel_rfl),(by kernel_rfl)⟩
def gy:FuncData:=yE "__init__" "NoLever.__init__" (inClass (top 4) 0) JV 80
theorem Ks:(κ w).lookup 81=some ⟨.type "function", none,.func gy,⟨[]⟩⟩:=by kernel_rfl
theorem K2:codeIn (κ w) (.ref 80) "NoLever.__init__" = true:=by kernel_rfl
theorem uw:Binds (κ w) gy ["self", "lever"] []:=Binds.all (JN λ_ _=>rfl)
theorem tU:cO ["self", "lever"] ["self", "lever"] (bc (inClass (top 4) 0)):=.of
theorem KZ:((clsIn (κ w) 91).any λcd=>gC cd.mro)=true:=by kernel_rfl
theorem Ko:findIn (κ w) (.ref 91) "lever" = some none:=by kernel_rfl
theorem uV{P:Program}{w:World}{mg:Str->Option Value}{base:Heap}:aP P w (κ w) mg base (bS P w) 1 81 gy ["self", "lever"] (xS (κ w) iT "lever") :=
 oj (n0 := "self") (n1 := "lever") (fl := "lever") (Ks w) (K2 w) tU (o5 w) (KZ w) (Ko w) (by first | exact .inl rfl | exact .inr (.inl rfl)) (by first | exact .inl rfl | exact .inr (.inl rfl)) (by decide) (by decide) (by decide) (by decide) (λ_=>rfl)
theorem oa:iR (κ w) gS:=⟨(by kernel_rfl),(by kernel_rfl),(by kernel_rfl),(by kernel_rfl),(by kernel_rfl),(by kernel_rfl),(by kernel_rfl),(by kernel_rfl),(by kernel_rfl)⟩
def gz:FuncData:=yE "__init__" "NoPrice.__init__" (inClass (top 5) 0) JV 106
theorem Kf:(κ w).lookup 107=some ⟨.type "function", none,.func gz,⟨[]⟩⟩:=by kernel_rfl
theorem Kx:codeIn (κ w) (.ref 106) "NoPrice.__init__" = true:=by kernel_rfl
theorem uj:Binds (κ w) gz ["self", "lever"] []:=Binds.all (JN λ_ _=>rfl)
theorem uJ:cO ["self", "lever"] ["self", "lever"] (bc (inClass (top 5) 0)):=.of
theorem K8:((clsIn (κ w) 117).any λcd=>gC cd.mro)=true:=by kernel_rfl
theorem Kn:findIn (κ w) (.ref 117) "lever" = some none:=by kernel_rfl
theorem u_{P:Program}{w:World}{mg:Str->Option Value}{base:Heap}:aP P w (κ w) mg base (bS P w) 1 107 gz ["self", "lever"] (xS (κ w) gS "lever") :=
 oj (n0 := "self") (n1 := "lever") (fl := "lever") (Kf w) (Kx w) uJ (oa w) (K8 w) (Kn w) (by first | exact .inl rfl | exact .inr (.inl rfl)) (by first | exact .inl rfl | exact .inr (.inl rfl)) (by decide) (by decide) (by decide) (by decide) (λ_=>rfl)
theorem dF:lU (κ w) au:=⟨(by kernel_rfl),(by kernel_rfl),(by kernel_rfl),(by kernel_rfl)⟩
theorem eW:lU (κ w) ar:=⟨(by kernel_rfl),(by kernel_rfl),(by kernel_rfl),(by kernel_rfl)⟩
theorem HQ:findIn (κ w) (.ref 446) "idle_rows" = some none:=by kernel_rfl
theorem IE:findIn (κ w) (.ref 446) "made_rows" = some none:=by kernel_rfl
theorem Jj:findIn (κ w) (.ref 446) "vault" = some none:=by kernel_rfl
theorem Ju:findIn (κ w) (.ref 263) "dial_sizes" = some none:=by kernel_rfl
theorem HZ:findIn (κ w) (.ref 263) "least_round" = some none:=by kernel_rfl
theorem Ia:findIn (κ w) (.ref 263) "lever_prices" = some none:=by kernel_rfl
theorem Iy:findIn (κ w) (.ref 263) "lever_settings" = some none:=by kernel_rfl
theorem KD:nsIn (κ w) mainGlobals "LEAST_PRICE" = some (some (.int 1 453)):=by kernel_rfl
theorem Kw:nsIn (κ w) mainGlobals "LEAST_SIZE" = some (some (.int 2 447)):=by kernel_rfl
theorem Kb:nsIn (κ w) mainGlobals "MOST_DIALS" = some (some (.int 6 445)):=by kernel_rfl
theorem K5:nsIn (κ w) mainGlobals "MOST_LEVERS" = some (some (.int 8 451)):=by kernel_rfl
theorem J_:nsIn (κ w) mainGlobals "MOST_PRICE" = some (some (.int 1000 455)):=by kernel_rfl
theorem J2:nsIn (κ w) mainGlobals "MOST_SIZE" = some (some (.int 360 449)):=by kernel_rfl
theorem KC:(κ w).lookup 227=some (HD.tu [.none]):=by kernel_rfl
theorem sN:Binds (κ w) iK ["self", "sizes", "levers", "prices"] [.none]:=(lq w).binds (KC w) rfl λ_ _ _ _ _ _ us hl=>by obtain⟨a,b,c,rfl⟩:=LG (show _=3 from (by simpa using hl));exact⟨_,rfl,rfl⟩
theorem txt{w:World}{h:Heap}{mg:Str->Option Value}(X:PySem.W.Frag.In (κ w) h)(G:h.Ns mainGlobals mg):Txt (κ w) mg where
 ID:=mg_none_of X G (by kernel_rfl)
 Bh:=mg_none_of X G (by kernel_rfl)
 dM:=mg_none_of X G (by kernel_rfl)
 EU:=mg_none_of X G (by kernel_rfl)
 eZ:=mg_none_of X G (by kernel_rfl)
 IW:=mg_none_of X G (by kernel_rfl)
 zY:=mg_none_of X G (by kernel_rfl)
 A4:=mg_none_of X G (by kernel_rfl)
 dS:=mg_none_of X G (by kernel_rfl)
 IJ:=mg_none_of X G (by kernel_rfl)
 rP:=mg_none_of X G (by kernel_rfl)
 jz:=mg_none_of X G (by kernel_rfl)
 ql:=⟨_,mg_of X G (KD w),⟨_,rfl⟩⟩
 tj:=⟨_,mg_of X G (Kw w),⟨_,rfl⟩⟩
 rJ:=⟨_,mg_of X G (Kb w),⟨_,rfl⟩⟩
 qm:=⟨_,mg_of X G (K5 w),⟨_,rfl⟩⟩
 sj:=⟨_,mg_of X G (J_ w),⟨_,rfl⟩⟩
 uX:=⟨_,mg_of X G (J2 w),⟨_,rfl⟩⟩
 nN:=dF w
 lu:=eW w
 vc:=⟨(by kernel_rfl),rZ w,(by kernel_rfl),(by kernel_rfl),mg_of X G (by kernel_rfl)⟩
 yg:=⟨(by kernel_rfl),vU w,(by kernel_rfl),(by kernel_rfl),mg_of X G (by kernel_rfl)⟩
 AF:=⟨(by kernel_rfl),yD w,(by kernel_rfl),(by kernel_rfl),mg_of X G (by kernel_rfl)⟩
 iz:=(HQ w)
 iq:=(IE w)
 kG:=(Jj w)
 g_:=(Ju w)
 gq:=(HZ w)
 gf:=(Ia w)
 e8:=(Iy w)
 rS:=λC h=>by obtain rfl:=eq_of_beq h;exact⟨eW w,(Ju w)⟩
 tJ:=λC h=>by obtain rfl:=eq_of_beq h;exact⟨dF w,(HQ w)⟩
 qq:=λC h=>by obtain rfl:=eq_of_beq h;exact⟨eW w,(HZ w)⟩
 oZ:=λC h=>by obtain rfl:=eq_of_beq h;exact⟨eW w,(Ia w)⟩
 mq:=λC h=>by obtain rfl:=eq_of_beq h;exact⟨eW w,(Iy w)⟩
 vg:=λC h=>by obtain rfl:=eq_of_beq h;exact⟨dF w,(IE w)⟩
 Dg:=λC h=>by obtain rfl:=eq_of_beq h;exact⟨dF w,(Jj w)⟩
theorem Gy{P:Program}{w:World}{h:Heap}{mg:Str->Option Value}(X:PySem.W.Frag.In (κ w) h)(G:h.Ns mainGlobals mg)(base:Heap):aP P w (κ w) mg base (bS P w) 11 590 wo ["_law_script"] (dz 1 qT):=by
 have T:=txt X G
 have Nf:p8 P w (κ w) mg base gc "NoDial" "dial" := ⟨⟨55,ib,["self", "dial"],(by kernel_rfl),(by kernel_rfl),wB,vV w⟩,qG w,(by kernel_rfl),(by kernel_rfl),mg_of X G (by kernel_rfl)⟩
 have NF:p8 P w (κ w) mg base iT "NoLever" "lever" := ⟨⟨81,gy,["self", "lever"],(by kernel_rfl),(by kernel_rfl),uV,uw w⟩,o5 w,(by kernel_rfl),(by kernel_rfl),mg_of X G (by kernel_rfl)⟩
 have NG:p8 P w (κ w) mg base gS "NoPrice" "lever" := ⟨⟨107,gz,["self", "lever"],(by kernel_rfl),(by kernel_rfl),u_,uj w⟩,oa w,(by kernel_rfl),(by kernel_rfl),mg_of X G (by kernel_rfl)⟩
 have MI:=hX P w base X G 183 182 E2 λD=>uh D T
 have M9:=hX P w base X G 188 187 E2 λD=>yf D T MI
 have M8:=hX P w base X G 195 194 E2 λD=>yr D T
 have MW:=hX P w base X G 202 201 E2 λD=>oA D T M8
 have Nc:=hX P w base X G 209 208 E2 λD=>qr D T
 have Nz:=hX P w base X G 214 213 E2 λD=>uK D T
 have Nx:=hX P w base X G 219 218 E2 λD=>uk D T
 have Mj:=hX P w base X G 274 273 wY λD=>sE D T MI
 have Na:=hX P w base X G 281 280 wY λD=>p_ D T Nf Mj
 have Mi:=hX P w base X G 288 287 wY λD=>kO D T
 have MX:=hX P w base X G 295 294 wY λD=>oy D T M9 NF
 have Nb:=hX P w base X G 302 301 wY λD=>qi D T NG Mj
 have Nq:=hX P w base X G 307 306 wY λD=>BG D T
 have Np:=hX P w base X G 336 335 vj λD=>Ac D T
 have Mt:=hX P w base X G 343 342 vj λD=>qu D T Np Nq
 have Ml:=hX P w base X G 364 363 vj λD=>sV D T
 have Ny:=hX P w base X G 371 370 vj λD=>uq D T Ml M8 Mt
 have MR:=hX P w base X G 378 377 vj λD=>vz D T Ml Mt
 have MH:=hX P w base X G 385 384 vj λD=>u4 D T Np
 have Nh:=hX P w base X G 502 501 vT λD=>sL D T
 have Ma:=hX P w base X G 509 508 vT λD=>oh D T
 have Mh:=hX P w base X G 516 515 vT λD=>pz D T
 have M7:=hX P w base X G 521 520 vT λD=>qb D T Mh Ma
 have M5:=hX P w base X G 528 527 vT λD=>pY D T
 have M6:=hX P w base X G 535 534 vT λD=>qv D T Ma M5
 have Ni:=hX P w base X G 540 539 vT λD=>sH D T M6 Mh
 have MP:=hX P w base X G 545 544 vT λD=>nG D T Mh Ma
 have M4:=hX P w base X G 550 549 vT λD=>qk D T
 have Mr:=hX P w base X G 557 556 vT λD=>oV D T M4
 have Mc:vQ P w (κ w) mg base ar 4 "Vault" 4 [.cp] b_:=⟨⟨232,iK,["self", "sizes", "levers", "prices"],[.none],[.cp],mg_of X G (by kernel_rfl),⟨(by kernel_rfl),(by kernel_rfl),(by kernel_rfl),(by kernel_rfl)⟩,sN w,(.cons rfl .nil),λ_=>(.cons .cp .nil),p5 (lq w) T Na MX Nq Nb MW⟩⟩
 have L5:=zB P w base (eW w) 239 238 wY λD=>o8 D T
 have L6:=zB P w base (eW w) 246 245 wY λD=>nq D T
 have Ot:=zB P w base (eW w) 253 252 wY λD=>ny D T
 have Mn:=zB P w base (eW w) 260 259 wY λD=>nh D T
 have MV:=zB P w base (dF w) 402 401 vj λD=>oO D T L5 Ml
 have Ms:=zB P w base (dF w) 407 406 vj λD=>pZ D T
 have MU:=zB P w base (dF w) 412 411 vj λD=>pC D T
 have MD:=hX P w base X G 314 313 wY λD=>yX D T L5
 have M_:=hX P w base X G 319 318 wY λD=>qt D T L5 M9
 have Mo:=hX P w base X G 326 325 wY λD=>nB D T M_
 have N0:=hX P w base X G 331 330 LV λD=>z_ D T Mo Mn L5 Nx
 have MJ:=hX P w base X G 350 349 vj λD=>uR D T L6
 have MY:=hX P w base X G 357 356 vj λD=>ou D T L6 Nz
 have L_:vQ P w (κ w) mg base au 4 "Rungs" 2 [] bU:=⟨⟨397,iF,["self", "vault"],[],[],mg_of X G (by kernel_rfl),⟨(by kernel_rfl),(by kernel_rfl),(by kernel_rfl),(by kernel_rfl)⟩,sY w,.nil,λ_=>.nil,qh (r9 w) T L5 MD MJ L6 MY Ny MH MR⟩⟩
 have Mb:=zB P w base (dF w) 426 425 vj λD=>jF D T Mo MJ L5 MR
 have Oy:=zB P w base (dF w) 433 432 vj λD=>oW D T Mb
 have MB:=zB P w base (dF w) 438 437 vj λD=>lp D T Mb MD MH
 have Mw:=zB P w base (dF w) 443 442 vj λD=>kz D T L5 Mj Nf MV N0 Mn
 have ME:=hX P w base X G 457 456 md5 λD=>lM D T L_ MU Nc
 have MQ:=hX P w base X G 464 463 md5 λD=>wq D T L5 Mi L_ Ms
 have Nn:=hX P w base X G 469 468 K1 λD=>Bq D T MD L_ Ms L5 Mc
 have Nw:=hX P w base X G 476 475 K1 λD=>u6 D T Mc L6 Nn
 have Nd:=hX P w base X G 481 480 K1 λD=>yu D T L_ L5 Mw Mc Nn
 have Mq:=hX P w base X G 488 487 Lm λD=>uO D T L5 Mi L6 Nw
 have NH:=hX P w base X G 495 494 Lm λD=>D8 D T Nd Mq
 have MG:=hX P w base X G 564 563 vT λD=>u7 D T MB L6 Mr
 have MO:=hX P w base X G 571 570 vT λD=>nJ D T L_ MG
 have MC:=hX P w base X G 578 577 vT λD=>la D T L6 MO MQ
 have Mx:=hX P w base X G 585 584 vT λD=>kD D T NH Mq MQ Nd ME
 exact Fn (IY w) T Nh M7 Ni Mc Mx MC Mq NH L_ MP L6 Ma Mr MG
theorem KN:w4 (κ w)=true:=by kernel_rfl
theorem K6:nsIn (κ w) mainGlobals "law" = some (some (.ref 590)):=by kernel_rfl
end vk
open PySem PySem.W
theorem vk.hold(said:PySem.Challenge.rw_dialvault_k92_whole_order_of_vaults.wellSaid=true)(OX:∀ ns:List Int,ns.length<=63->(∀ i∈ns,Builtin.Int.intBits i<=1048576)->vk.qT [.jD (ns.map L2.PV.int)]=L2.M.ok (.bl true)):PySem.Challenge.rw_dialvault_k92_whole_order_of_vaults.Holds:=by
 refine holds_law said λsaid=>?_
 refine holds_open (q:=HD.vw) (loose:=HD.loose) (Xt:=HD.Xt) (XP:=XL HD.vw []) (Yf:=Hook.obs HD.hook) (Ya:=Hook.val HD.hook) (YP:=Hook.says HD.hook) HD.HU (Hook.of HD.hook) (Hook.keeps HD.hook) (λs e=>xl_of s (Bool.and_eq_true_iff.mp e).1) XL.keeps (by rfl) (by rfl) (by rfl) (λs e=>recFacts_of (Bool.and_eq_true_iff.mp e).2) (by rfl) said (by decide +kernel) ⟨rfl,rfl,rfl,rfl,rfl,by decide +kernel⟩ ?hw ?hc
 case hw=>w_witness2
 refine L2.vW (l:=PySem.Challenge.rw_dialvault_k92_whole_order_of_vaults) (n:=63) (k:=11) (x := "_law_script") (K:=HD.K) (sem:=vk.qT) rfl (by decide) rfl ⟨rfl,by decide,by decide⟩ (λw h Y=>PySem.W.kIn_of Y) (λw=>vk.KN w) (λw mg fa h X G hmg=>?_) OX
 have e:=hmg.symm.trans (PySem.W.mg_of X G (vk.K6 w))
 cases e
 exact⟨vk.wo,λs v=>.of_eq rfl,λbase X' G'=>vk.Gy X' G' base⟩
namespace Eu
theorem q_(a b:Int)(hb:b≠0):(a-a.fdiv b*b).natAbs<b.natAbs/\0<=(a-a.fdiv b*b)*b/\(0<=a*b->a.natAbs=(a.fdiv b).natAbs*b.natAbs+(a-a.fdiv b*b).natAbs):=by
 have pos:∀ (a b:Int),0<b->(a-a/b*b).natAbs<b.natAbs/\0<=(a-a/b*b)*b/\(0<=a*b->a.natAbs=(a/b).natAbs*b.natAbs+(a-a/b*b).natAbs):=by
  intro a b hb
  have e:a-a/b*b=a%b:=by
   have h:=Int.mul_ediv_add_emod a b
   rw[Int.mul_comm] at h
   omega
  have h0:=Int.emod_nonneg a (by omega:b≠0)
  have h1:=Int.emod_lt_of_pos a hb
  rw[e]
  refine⟨by omega,Int.mul_nonneg h0 (by omega),λhab=>?_⟩
  have ha:0<=a:=by
   rcases Int.lt_or_le a 0 with h | h
   ·have:=Int.mul_neg_of_neg_of_pos h hb
    omega
   ·exact h
  have hq:0<=a/b:=Int.ediv_nonneg ha (by omega)
  have h2:=Int.mul_ediv_add_emod a b
  have h3:((a/b).natAbs*b.natAbs:Nat)=(b*(a/b)).natAbs:=by
   rw[Int.natAbs_mul,Nat.mul_comm]
  rw[h3]
  have h4:0<=b*(a/b):=Int.mul_nonneg (by omega) hq
  omega
 rcases Int.lt_or_le 0 b with h | h
 ·rw[Int.fdiv_eq_ediv_of_nonneg a (by omega)]
  exact pos a b h
 ·have h':0 < -b:=by omega
  have e:a.fdiv b=(-a)/(-b):=by
   rw[← Int.fdiv_eq_ediv_of_nonneg (-a) (by omega:0<=-b),Int.neg_fdiv_neg]
  obtain⟨p1,p2,p3⟩:=pos (-a) (-b) h'
  have e2:-a-(-a)/(-b)*(-b)=-(a-a.fdiv b*b):=by
   rw[← e,Int.mul_neg]
   omega
  rw[e2] at p1 p2 p3
  rw[← e] at p3
  simp only[Int.natAbs_neg,Int.neg_mul_neg] at p1 p2 p3
  exact⟨p1,p2,p3⟩
structure St (a b:Int) (r s t r' s' t':Int):Prop where
 c0:r=s*a+t*b
 c1:r'=s'*a+t'*b
 dv:∀ d:Int,d∣r->d∣r'->d∣a/\d∣b
 bd:s'.natAbs*r.natAbs+s.natAbs*r'.natAbs<=b.natAbs
 sg:s'=0\/0<=r*r'
 b0:s.natAbs<=b.natAbs+1
 b1:s'.natAbs<=b.natAbs+1
 d0:t.natAbs<=a.natAbs+(b.natAbs+1)*a.natAbs+b.natAbs+1
 d1:t'.natAbs<=a.natAbs+(b.natAbs+1)*a.natAbs+b.natAbs+1
 m0:r.natAbs<=a.natAbs+b.natAbs
 m1:r'.natAbs<=b.natAbs
theorem start(a b:Int):St a b a 1 0 b 0 1 where
 c0:=by omega
 c1:=by omega
 dv:=λd h1 h2=>⟨h1,h2⟩
 bd:=by simp
 sg:=.inl rfl
 b0:=by omega
 b1:=by omega
 d0:=by simp
 d1:=by omega
 m0:=by omega
 m1:=by omega
theorem turn{a b r s t r' s' t':Int}(h:St a b r s t r' s' t')(h0:r'≠0) :
  St a b r' s' t' (r-r.fdiv r'*r') (s-r.fdiv r'*s') (t-r.fdiv r'*t')/\(r-r.fdiv r'*r').natAbs<r'.natAbs:=by
 obtain⟨f1,f2,f3⟩:=q_ r r' h0
 generalize hq:r.fdiv r'=q at *
 have hb:b≠0:=by
  intro z
  have:=h.m1
  omega
 have hr':1<=r'.natAbs:=by omega
 have c1':r-q*r'=(s-q*s')*a+(t-q*t')*b:=by
  rw[h.c0,h.c1,Int.sub_mul,Int.sub_mul,Int.mul_add,Int.mul_assoc,Int.mul_assoc]
  omega
 have bd':(s-q*s').natAbs*r'.natAbs+s'.natAbs*(r-q*r').natAbs<=b.natAbs:=by
  have rj:(s-q*s').natAbs<=s.natAbs+q.natAbs*s'.natAbs:=by
   rw[← Int.natAbs_mul]
   omega
  have hbd:=h.bd
  rcases h.sg with z | z
  ·subst z
   simp only[Int.mul_zero,Int.sub_zero,Int.natAbs_zero,Nat.zero_mul,Nat.zero_add,Nat.add_zero] at hbd ⊢
   exact hbd
  ·have e:=f3 z
   have k1:(s-q*s').natAbs*r'.natAbs<=(s.natAbs+q.natAbs*s'.natAbs)*r'.natAbs:=Nat.mul_le_mul_right _ rj
   have k2:(s.natAbs+q.natAbs*s'.natAbs)*r'.natAbs+s'.natAbs*(r-q*r').natAbs=s'.natAbs*r.natAbs+s.natAbs*r'.natAbs:=by
    rw[e,Nat.add_mul,Nat.mul_add,Nat.mul_comm q.natAbs s'.natAbs,Nat.mul_assoc]
    omega
   omega
 have b1':(s-q*s').natAbs<=b.natAbs:=by
  have:(s-q*s').natAbs*1<=(s-q*s').natAbs*r'.natAbs:=Nat.mul_le_mul_left _ hr'
  omega
 have mm:(r-q*r').natAbs<=b.natAbs:=by
  have:=h.m1
  omega
 have d1':(t-q*t').natAbs<=a.natAbs+(b.natAbs+1)*a.natAbs+b.natAbs+1:=by
  have e:(t-q*t')*b=(r-q*r')-(s-q*s')*a:=by omega
  have e1:((t-q*t')*b).natAbs<=(r-q*r').natAbs+((s-q*s')*a).natAbs:=by omega
  rw[Int.natAbs_mul,Int.natAbs_mul] at e1
  have k1:(t-q*t').natAbs*1<=(t-q*t').natAbs*b.natAbs:=Nat.mul_le_mul_left _ (by omega)
  have k2:(s-q*s').natAbs*a.natAbs<=(b.natAbs+1)*a.natAbs:=Nat.mul_le_mul_right _ (by omega)
  omega
 refine⟨⟨h.c1,c1',λd e1 e2=>?_,bd',?_,h.b1,by omega,h.d1,d1',?_,mm⟩,f1⟩
 ·refine h.dv d ?_ e1
  have e3:d∣q*r':=Int.dvd_trans e1 (Int.dvd_mul_left _ _)
  have e4:=Int.dvd_add e2 e3
  rwa [Int.sub_add_cancel] at e4
 ·exact .inr (by rw[Int.mul_comm];exact f2)
 ·have:=h.m1
  omega
theorem done{a b r s t s' t':Int}(h:St a b r s t 0 s' t'):r∣a/\r∣b:=h.dv r (Int.dvd_refl r) (Int.dvd_zero r)
end Eu
namespace Lc
def AN(ns:List Nat):Nat:=ns.foldl Nat.lcm 1
theorem xy:∀ (ns:List Nat) (m:Nat),m∣ns.foldl Nat.lcm m/\(∀ n∈ns,n∣ns.foldl Nat.lcm m)/\(∀ k,m∣k->(∀ n∈ns,n∣k)->ns.foldl Nat.lcm m∣k)
 | [],m=>⟨Nat.dvd_refl m,(λ_ h=>nomatch h),λk h _=>h⟩
 | n::ns,m=>by
  obtain⟨h1,h2,h3⟩:=xy ns (Nat.lcm m n)
  refine⟨Nat.dvd_trans (Nat.dvd_lcm_left m n) h1,λx hx=>?_,λk hm hk=>?_⟩
  ·rcases List.mem_cons.mp hx with e | hx
   ·rw[e];exact Nat.dvd_trans (Nat.dvd_lcm_right m n) h1
   ·exact h2 x hx
  ·exact h3 k (Nat.lcm_dvd hm (hk n List.mem_cons_self)) λx hx=>hk x (List.mem_cons_of_mem _ hx)
theorem lcm_dvd{ns:List Nat}{n:Nat}(h:n∈ns):n∣AN ns:=(xy ns 1).2.1 n h
theorem mX:∀ (ns:List Nat) (m:Nat),0<m->(∀ n∈ns,0<n)->0<ns.foldl Nat.lcm m
 | [],m,h,_=>h
 | n::ns,m,h,hp=>mX ns (Nat.lcm m n) (Nat.lcm_pos h (hp n List.mem_cons_self)) λx hx=>hp x (List.mem_cons_of_mem _ hx)
theorem lcm_pos{ns:List Nat}(h:∀ n∈ns,0<n):0<AN ns:=mX ns 1 (by decide) h
theorem oo(B:Nat):∀ (ns:List Nat) (m k:Nat),0<m->m<=2^k->(∀ n∈ns,0<n/\n<=2^B)->ns.foldl Nat.lcm m<=2^(k+B*ns.length)
 | [],m,k,_,h,_=>by simpa using h
 | n::ns,m,k,h0,h,hp=>by
  have hn:=hp n List.mem_cons_self
  have h1:Nat.lcm m n<=2^(k+B):=by
   have:Nat.lcm m n<=m*n:=Nat.le_of_dvd (Nat.mul_pos h0 hn.1) (Nat.lcm_dvd (Nat.dvd_mul_right m n) (Nat.dvd_mul_left n m))
   rw[Nat.pow_add]
   exact Nat.le_trans this (Nat.mul_le_mul h hn.2)
  have h2:=oo B ns (Nat.lcm m n) (k+B) (Nat.lcm_pos h0 hn.1) h1 λx hx=>hp x (List.mem_cons_of_mem _ hx)
  have e:k+B*(n::ns).length=k+B+B*ns.length:=by
   rw[List.length_cons,Nat.mul_succ];omega
  rw[e]
  exact h2
theorem BQ(m n:Nat):m/Nat.gcd m n*n=Nat.lcm m n:=by
 unfold Nat.lcm
 rw[Nat.div_mul_right_comm (Nat.gcd_dvd_left m n)]
end Lc
namespace Rg
abbrev bx:=Nat->Int
def aM(s:bx)(D:Nat->bx)(d:Nat):Int:=if D d d=0 then s d else D d d
def G(n:Nat)(s:bx)(D:Nat->bx):Nat->Nat->bx->Prop
 | 0,_,v=>∀ i,i<n->s i∣v i
 | k+1,d,v=>aM s D d∣v d/\G n s D k (d+1) λi=>v i-v d/aM s D d*D d i
def U(i:Nat)(c:Int):bx:=λj=>if j=i then c else 0
section
variable{n:Nat}{s:bx}{D:Nat->bx}
theorem G.ext:∀ {k d:Nat} {v w:bx},d+k=n->(∀ i,i<n->v i=w i)->G n s D k d v->G n s D k d w
 | 0,d,v,w,_,e,h=>λi hi=>by rw[← e i hi];exact h i hi
 | k+1,d,v,w,hn,e,h=>by
  have ed:=e d (by omega)
  refine⟨by rw[← ed];exact h.1,G.ext (by omega) (λi hi=>?_) h.2⟩
  rw[e i hi,ed]
theorem G.add:∀ {k d:Nat} {v w:bx},d+k=n->G n s D k d v->G n s D k d w->G n s D k d λi=>v i+w i
 | 0,d,v,w,_,h,h'=>λi hi=>Int.dvd_add (h i hi) (h' i hi)
 | k+1,d,v,w,hn,h,h'=>by
  refine⟨Int.dvd_add h.1 h'.1,G.ext (by omega) (λi hi=>?_) (G.add (by omega) h.2 h'.2)⟩
  show _=v i+w i-(v d+w d)/aM s D d*D d i
  rw[Int.add_ediv_of_dvd_left h.1,Int.add_mul]
  omega
theorem G.mul(c:Int):∀ {k d:Nat} {v:bx},d+k=n->G n s D k d v->G n s D k d λi=>c*v i
 | 0,d,v,_,h=>λi hi=>Int.dvd_trans (h i hi) (Int.dvd_mul_left _ _)
 | k+1,d,v,hn,h=>by
  refine⟨Int.dvd_trans h.1 (Int.dvd_mul_left _ _),G.ext (by omega) (λi hi=>?_) (G.mul c (by omega) h.2)⟩
  show _=c*v i-c*v d/aM s D d*D d i
  rw[Int.mul_ediv_assoc c h.1,Int.mul_sub,Int.mul_assoc]
theorem G.zero:∀ {k d:Nat},d+k=n->G n s D k d λ_=>0
 | 0,d,_=>λi _=>Int.dvd_zero _
 | k+1,d,hn=>⟨Int.dvd_zero _,G.ext (by omega) (λi hi=>by simp) (G.zero (k:=k) (d:=d+1) (by omega))⟩
theorem G.skip{v:bx}:∀ {j k d:Nat},d+(j+k)=n->(∀ i,d<=i->i<d+j->v i=0)->G n s D k (d+j) v->G n s D (j+k) d v
 | 0,k,d,_,_,h=>by rw[Nat.zero_add];exact h
 | j+1,k,d,hn,hz,h=>by
  rw[show j+1+k=(j+k)+1 by omega]
  have z:=hz d (Nat.le_refl _) (by omega)
  refine⟨by rw[z];exact Int.dvd_zero _,G.ext (v:=v) (by omega) (λi hi=>by rw[z];simp) (G.skip (by omega) (λi h1 h2=>hz i (by omega) (by omega)) (by rw[show d+1+j=d+(j+1) by omega];exact h))⟩
end
structure Good (n:Nat) (s:bx) (D:Nat->bx):Prop where
 sp:∀ i,i<n->0<s i
 iO:∀ d,d<n->∀ i,i<n->0<=D d i/\D d i<s i
 rj:∀ d,d<n->∀ i,i<d->D d i=0
 dv:∀ d,d<n->aM s D d∣s d
 IM:∀ d k,d+(k+1)=n->G n s D k (d+1) λi=>s d/aM s D d*D d i
section
variable{n:Nat}{s:bx}{D:Nat->bx}
theorem Good.pos(g:Good n s D){d:Nat}(h:d<n):0<aM s D d/\aM s D d<=s d:=by
 have h1:=g.iO d h d h
 have h2:=g.sp d h
 unfold aM
 split <;> omega
theorem Good.diag(g:Good n s D){d:Nat}(h:d<n):s d∣D d d-aM s D d:=by
 unfold aM
 split
 ·rename_i z;rw[z];exact⟨-1,by omega⟩
 ·rw[Int.sub_self];exact Int.dvd_zero _
theorem Good.turn(g:Good n s D):∀ {k d i:Nat} (c:Int),d+k=n->i<n->G n s D k d (U i (c*s i))
 | 0,d,i,c,_,hi=>λj hj=>by
  unfold U
  split
  ·rename_i z;rw[z];exact Int.dvd_mul_left _ _
  ·exact Int.dvd_zero _
 | k+1,d,i,c,hn,hi=>by
  have hd:d<n:=by omega
  by_cases z:i=d
  ·subst z
   have dv:=g.dv i hi
   refine⟨by show _∣U i _ i;rw[U,if_pos rfl];exact Int.dvd_trans dv (Int.dvd_mul_left _ _),?_⟩
   refine G.ext (by omega) (λj hj=>?_) (G.add (by omega) (g.turn (k:=k) (d:=i+1) (i:=i) c (by omega) hi) (G.mul (-c) (by omega) (g.IM i k hn)))
   show U i (c*s i) j+-c*(s i/aM s D i*D i j)=U i (c*s i) j-U i (c*s i) i/aM s D i*D i j
   rw[show U i (c*s i) i=c*s i by rw[U,if_pos rfl],Int.mul_ediv_assoc c dv,Int.neg_mul,Int.mul_assoc]
   omega
  ·have u0:U i (c*s i) d=0:=by rw[U,if_neg (Ne.symm z)]
   refine⟨by rw[u0];exact Int.dvd_zero _,G.ext (by omega) (λj hj=>?_) (g.turn (k:=k) (d:=d+1) (i:=i) c (by omega) hi)⟩
   rw[u0];simp
theorem G.kT{k d:Nat}{v w:bx}(ht:∀ i c,i<n->G n s D k d (U i (c*s i)))(hn:d+k=n)(h:∀ i,i<n->s i∣w i-v i)(hv:G n s D k d v):G n s D k d w:=by
 have key:∀ m,m<=n->G n s D k d λi=>if i<m then w i else v i:=by
  intro m
  induction m with
  | zero=>intro _;exact G.ext hn (λi _=>by simp) hv
  | succ m ih =>
   intro hm
   obtain⟨c,hc⟩:=h m (by omega)
   refine G.ext hn (λi hi=>?_) (G.add hn (ih (by omega)) (ht m c (by omega)))
   show (if i<m then w i else v i)+U m (c*s m) i=if i<m+1 then w i else v i
   unfold U
   by_cases z:i=m
   ·subst z
    rw[if_neg (by omega),if_pos rfl,if_pos (by omega),Int.mul_comm c]
    omega
   ·rw[if_neg z]
    by_cases q:i<m
    ·rw[if_pos q,if_pos (by omega)];omega
    ·rw[if_neg q,if_neg (by omega)];omega
 exact G.ext hn (λi hi=>by simp[hi]) (key n (Nat.le_refl _))
theorem Good.kT(g:Good n s D){k d:Nat}{v w:bx}(hn:d+k=n)(h:∀ i,i<n->s i∣w i-v i)(hv:G n s D k d v):G n s D k d w :=
 G.kT (λi c hi=>g.turn c hn hi) hn h hv
theorem Good.sub(g:Good n s D){k d:Nat}{v w:bx}(hn:d+k=n)(hv:G n s D k d v)(hw:G n s D k d w):G n s D k d λi=>v i-w i :=
 G.ext hn (λi _=>by omega) (G.add hn hv (G.mul (-1) hn hw))
theorem Good.own(g:Good n s D){d k:Nat}(hn:d+(k+1)=n):G n s D (k+1) d (D d):=by
 have hd:d<n:=by omega
 by_cases z:D d d=0
 ·have e:aM s D d=s d:=by unfold aM;rw[if_pos z]
  have c:=g.IM d k hn
  rw[e] at c
  refine⟨by rw[z];exact Int.dvd_zero _,G.ext (by omega) (λi hi=>?_) c⟩
  rw[z,Int.ediv_self (by have:=g.sp d hd;omega)]
  simp
 ·have e:aM s D d=D d d:=by unfold aM;rw[if_neg z]
  refine⟨by rw[e];exact Int.dvd_refl _,G.ext (by omega) (λi hi=>?_) (G.zero (k:=k) (d:=d+1) (by omega))⟩
  rw[e,Int.ediv_self z];omega
theorem Good.row(g:Good n s D){d:Nat}(hd:d<n):∀ {k e:Nat},e+k=n->e<=d->G n s D k e (D d):=by
 intro k e hn he
 have h:=g.own (d:=d) (k:=n-d-1) (by omega)
 have:=G.skip (n:=n) (s:=s) (D:=D) (v:=D d) (j:=d-e) (k:=n-d-1+1) (d:=e) (by omega) (λi h1 h2=>g.rj d hd i (by omega)) (by rw[show e+(d-e)=d by omega];exact h)
 rw[show d-e+(n-d-1+1)=k by omega] at this
 exact this
end
structure Tk (n:Nat) (s:bx) (D D' L:Nat->bx) (u v g:Nat->Int):Prop where
 gp:∀ d,d<n->0<g d
 bz:∀ d,d<n->u d*aM s D d+v d*L d d=g d
 g1:∀ d,d<n->g d∣aM s D d
 g2:∀ d,d<n->g d∣L d d
 Ij:∀ d,d<n->∀ i,i<n->D' d i=(u d*D d i+v d*L d i)%s i
 HW:∀ d,d<n->∀ i,i<n->L (d+1) i=(aM s D d/g d*L d i+-(L d d/g d)*D d i)%s i
 l0:∀ i,i<n->0<=L 0 i/\L 0 i<s i
section
variable{n:Nat}{s:bx}{D D' L:Nat->bx}{u v g:Nat->Int}
theorem dI(a b:Int):b∣a%b-a:=⟨-(a/b),by have:=Int.emod_def a b;rw[Int.mul_neg];omega⟩
theorem l5(a b:Int):b∣a-a%b:=⟨a/b,by have:=Int.emod_def a b;omega⟩
theorem Tk.kept(t:Tk n s D D' L u v g)(G:Good n s D):∀ d,d<=n->∀ i,i<n->0<=L d i/\L d i<s i:=by
 intro d hd i hi
 cases d with
 | zero=>exact t.l0 i hi
 | succ d =>
  rw[t.HW d (by omega) i hi]
  have:=G.sp i hi
  exact⟨Int.emod_nonneg _ (by omega),Int.emod_lt_of_pos _ this⟩
theorem i7{a b:Int}(h0:0<=a)(h1:a<b)(h:b∣a):a=0:=by
 obtain⟨c,rfl⟩:=h
 rcases Int.lt_or_le 0 c with hc | hc
 ·have:b*1<=b*c:=Int.mul_le_mul_of_nonneg_left hc (by omega)
  omega
 ·have:b*c<=0:=Int.mul_nonpos_of_nonneg_of_nonpos (by omega) hc
  omega
theorem Tk.zero(t:Tk n s D D' L u v g)(G:Good n s D):∀ d,d<=n->∀ i,i<d->L d i=0:=by
 intro d
 induction d with
 | zero=>intro _ i hi;omega
 | succ d ih =>
  intro hd i hi
  have OL:d<n:=by omega
  have k:=t.kept G (d+1) hd i (by omega)
  refine i7 k.1 k.2 ?_
  rw[t.HW d OL i (by omega)]
  rcases Nat.lt_or_ge i d with h | h
  ·rw[ih (by omega) i h,G.rj d OL i h]
   simp
  ·obtain rfl:i=d:=by omega
   refine Int.dvd_trans ?_ (Int.dvd_refl _)
   obtain⟨c,hc⟩:=G.diag OL
   obtain⟨a,ha⟩:=t.g1 i OL
   obtain⟨b,hb⟩:=t.g2 i OL
   have gp:=t.gp i OL
   have e1:aM s D i/g i=a:=by rw[ha];exact Int.mul_ediv_cancel_left a (by omega)
   have e2:L i i/g i=b:=by rw[hb];exact Int.mul_ediv_cancel_left b (by omega)
   rw[e1,e2]
   have e3:a*L i i+-b*D i i=s i*(-b*c):=by
    have:D i i=aM s D i+s i*c:=by omega
    rw[this,ha,hb];grind
   rw[e3,Int.mul_emod_right]
   exact Int.dvd_zero _
theorem Tk.step(t:Tk n s D D' L u v g)(G:Good n s D){d:Nat}(hd:d<n):aM s D' d=g d:=by
 obtain⟨c,hc⟩:=G.diag hd
 have gp:=t.gp d hd
 have sp:=G.sp d hd
 have st:=G.pos hd
 have le:g d<=aM s D d:=Int.le_of_dvd st.1 (t.g1 d hd)
 have e:D' d d=g d%s d:=by
  rw[t.Ij d hd d hd,← t.bz d hd]
  have:D d d=aM s D d+s d*c:=by omega
  rw[this,show u d*(aM s D d+s d*c)+v d*L d d=(u d*aM s D d+v d*L d d)+s d*(u d*c) by grind,Int.add_mul_emod_self_left]
 unfold aM
 rw[e]
 by_cases z:g d=s d
 ·rw[z,Int.emod_self,if_pos rfl]
 ·rw[Int.emod_eq_of_lt (by omega) (by omega),if_neg (by omega)]
theorem Tk.main(t:Tk n s D D' L u v g)(Gd:Good n s D):∀ k d,d+k=n->(∀ w,G n s D k d w->G n s D' k d w)/\G n s D' k d (L d)
 | 0,d,hn=>by
  refine⟨λw h=>h,λi hi=>?_⟩
  rw[t.zero Gd d (by omega) i (by omega)];exact Int.dvd_zero _
 | k+1,d,hn=>by
  obtain⟨i1,i2⟩:=t.main Gd k (d+1) (by omega)
  have hd:d<n:=by omega
  have turn:∀ i c,i<n->G n s D' k (d+1) (U i (c*s i)):=λi c hi=>i1 _ (Gd.turn c (by omega) hi)
  have st:=t.step Gd hd
  have gp:=t.gp d hd
  obtain⟨a,ha⟩:=t.g1 d hd
  obtain⟨b,hb⟩:=t.g2 d hd
  have e1:aM s D d/g d=a:=by rw[ha];exact Int.mul_ediv_cancel_left a (by omega)
  have e2:L d d/g d=b:=by rw[hb];exact Int.mul_ediv_cancel_left b (by omega)
  have bz:u d*a+v d*b=1:=by
   have:=t.bz d hd
   rw[ha,hb,show u d*(g d*a)+v d*(g d*b)=g d*(u d*a+v d*b) by grind] at this
   have h2:g d*(u d*a+v d*b)=g d*1:=by omega
   exact Int.eq_of_mul_eq_mul_left (by omega) h2
  have w1:∀ i,i<n->∃ c,D' d i=u d*D d i+v d*L d i+s i*c:=λi hi=>by
   obtain⟨c,hc⟩:=dI (u d*D d i+v d*L d i) (s i)
   exact⟨c,by rw[t.Ij d hd i hi];omega⟩
  have w2:∀ i,i<n->∃ c,L (d+1) i=a*L d i+-b*D d i+s i*c:=λi hi=>by
   obtain⟨c,hc⟩:=dI (a*L d i+-b*D d i) (s i)
   exact⟨c,by rw[t.HW d hd i hi,e1,e2];omega⟩
  constructor
  ·intro w h
   obtain⟨h1,h2⟩:=h
   refine⟨by rw[st];exact Int.dvd_trans (t.g1 d hd) h1,?_⟩
   obtain⟨q,hq⟩:=h1
   have sp:=(Gd.pos hd).1
   have q1:w d/aM s D d=q:=by rw[hq];exact Int.mul_ediv_cancel_left q (by omega)
   have q2:w d/aM s D' d=q*a:=by
    rw[st,hq,ha,show g d*a*q=g d*(q*a) by grind];exact Int.mul_ediv_cancel_left _ (by omega)
   rw[q2]
   rw[q1] at h2
   refine G.kT turn (by omega) (λi hi=>?_) (G.add (by omega) (i1 _ h2) (G.mul (q*-(v d)) (by omega) i2))
   obtain⟨c1,hc1⟩:=w1 i hi
   obtain⟨c2,OC⟩:=w2 i hi
   refine⟨q*(v d*c2-a*c1),?_⟩
   rw[hc1,OC];grind
  ·refine⟨by rw[st];exact t.g2 d hd,?_⟩
   rw[st,e2]
   refine G.kT turn (by omega) (λi hi=>?_) (G.mul (u d) (by omega) i2)
   obtain⟨c1,hc1⟩:=w1 i hi
   obtain⟨c2,OC⟩:=w2 i hi
   refine⟨-(b*c1)-u d*c2,?_⟩
   rw[hc1,OC];grind
theorem Tk.good(t:Tk n s D D' L u v g)(Gd:Good n s D):Good n s D' where
 sp:=Gd.sp
 iO:=λd hd i hi=>by
  rw[t.Ij d hd i hi]
  have:=Gd.sp i hi
  exact⟨Int.emod_nonneg _ (by omega),Int.emod_lt_of_pos _ this⟩
 rj:=λd hd i hi=>by
  rw[t.Ij d hd i (by omega),Gd.rj d hd i hi,t.zero Gd d (by omega) i hi];simp
 dv:=λd hd=>by
  rw[t.step Gd hd];exact Int.dvd_trans (t.g1 d hd) (Gd.dv d hd)
 IM:=λd k hn=>by
  have hd:d<n:=by omega
  have h1:=(t.main Gd (k+1) d hn).1 _ (Gd.turn (i:=d) 1 hn hd)
  have h2:=(t.main Gd k (d+1) (by omega)).1 _ (Gd.turn (i:=d) 1 (by omega) hd)
  have h3:=h1.2
  have ud:U d (1*s d) d=s d:=by rw[U,if_pos rfl,Int.one_mul]
  rw[ud] at h3
  refine G.ext (by omega) (λi hi=>?_) (G.add (by omega) h2 (G.mul (-1) (by omega) h3))
  show U d (1*s d) i+-1*(U d (1*s d) i-s d/aM s D' d*D' d i)=_
  omega
end
end Rg
namespace Rg
section
variable{n:Nat}{s:bx}{D D':Nat->bx}
theorem Good.DL(Gd:Good n s D)(iO:∀ d,d<n->∀ i,i<n->0<=D' d i/\D' d i<s i)(rj:∀ d,d<n->∀ i,i<d->D' d i=0)(dv:∀ d,d<n->aM s D' d∣s d)
  (h:∀ k d,d+k=n->∀ w,G n s D k d w->G n s D' k d w):Good n s D' where
 sp:=Gd.sp
 iO:=iO
 rj:=rj
 dv:=dv
 IM:=λd k hn=>by
  have hd:d<n:=by omega
  have h1:=h (k+1) d hn _ (Gd.turn (i:=d) 1 hn hd)
  have h2:=h k (d+1) (by omega) _ (Gd.turn (i:=d) 1 (by omega) hd)
  have h3:=h1.2
  have ud:U d (1*s d) d=s d:=by rw[U,if_pos rfl,Int.one_mul]
  rw[ud] at h3
  refine G.ext (by omega) (λi hi=>?_) (G.add (by omega) h2 (G.mul (-1) (by omega) h3))
  show U d (1*s d) i+-1*(U d (1*s d) i-s d/aM s D' d*D' d i)=_
  omega
structure Dn (n:Nat) (s:bx) (D:Nat->bx) (f:Nat) (W:Nat->bx):Prop where
 w0:∀ i,i<n->0<=W f i/\W f i<s i
 ws:∀ d,f<=d->d<n->∀ i,i<n->W (d+1) i=(1*W d i+-(W d d/aM s D d)*D d i)%s i
variable{f:Nat}{W:Nat->bx}
theorem Dn.kept(h:Dn n s D f W)(Gd:Good n s D):∀ d,f<=d->d<=n->∀ i,i<n->0<=W d i/\W d i<s i:=by
 intro d hf hd i hi
 rcases Nat.lt_or_ge f d with q | q
 ·obtain⟨e,rfl⟩:∃ e,d=e+1:=⟨d-1,by omega⟩
  rw[h.ws e (by omega) (by omega) i hi]
  have:=Gd.sp i hi
  exact⟨Int.emod_nonneg _ (by omega),Int.emod_lt_of_pos _ this⟩
 ·obtain rfl:d=f:=by omega
  exact h.w0 i hi
theorem Dn.ahead(h:Dn n s D f W)(Gd:Good n s D){d i:Nat}(hf:f<=d)(hd:d<n)(hi:i<d):W (d+1) i=W d i:=by
 have k:=h.kept Gd d hf (by omega) i (by omega)
 rw[h.ws d hf hd i (by omega),Gd.rj d hd i hi,Int.mul_zero,Int.add_zero,Int.one_mul,Int.emod_eq_of_lt k.1 k.2]
theorem Dn.at_(h:Dn n s D f W)(Gd:Good n s D){d:Nat}(hf:f<=d)(hd:d<n):W (d+1) d=W d d%aM s D d:=by
 have k:=h.kept Gd d hf (by omega) d hd
 have p:=Gd.pos hd
 rw[h.ws d hf hd d hd]
 have e:=Int.emod_def (W d d) (aM s D d)
 have q0:=Int.emod_nonneg (W d d) (show aM s D d≠0 by omega)
 have q1:=Int.emod_lt_of_pos (W d d) p.1
 by_cases z:D d d=0
 ·have st:aM s D d=s d:=by unfold aM;rw[if_pos z]
  rw[z,st,Int.emod_eq_of_lt k.1 k.2,Int.mul_zero,Int.add_zero,Int.one_mul,Int.emod_eq_of_lt k.1 k.2]
 ·have st:aM s D d=D d d:=by unfold aM;rw[if_neg z]
  rw[← st,show 1*W d d+-(W d d/aM s D d)*aM s D d=W d d%aM s D d by rw[e];grind]
  exact Int.emod_eq_of_lt q0 (by omega)
theorem Dn.low(h:Dn n s D f W)(Gd:Good n s D):∀ d,f<=d->d<=n->∀ e,f<=e->e<d->0<=W d e/\W d e<aM s D e:=by
 intro d
 induction d with
 | zero=>intro _ _ e _ he;omega
 | succ d ih =>
  intro hf hd e he hed
  rcases Nat.lt_or_ge e d with q | q
  ·rw[h.ahead Gd (by omega) (by omega) q];exact ih (by omega) (by omega) e he q
  ·obtain rfl:e=d:=by omega
   have p:=Gd.pos (show e<n by omega)
   rw[h.at_ Gd he (by omega)]
   exact⟨Int.emod_nonneg _ (by omega),Int.emod_lt_of_pos _ p.1⟩
theorem Dn.front(h:Dn n s D f W)(Gd:Good n s D):∀ d,f<=d->d<=n->∀ i,i<f->W d i=W f i:=by
 intro d
 induction d with
 | zero=>intro h1 _ i hi;omega
 | succ d ih =>
  intro hf hd i hi
  rcases Nat.lt_or_ge d f with q | q
  ·rw[show d+1=f by omega]
  ·rw[h.ahead Gd q (by omega) (by omega)];exact ih q (by omega) i hi
theorem Dn.run(h:Dn n s D f W)(Gd:Good n s D):∀ k d,f<=d->d+k=n->G n s D k d (W d)->∀ i,i<n->W n i=0
 | 0,d,hf,hn,g,i,hi=>by
  rw[Nat.add_zero] at hn
  subst hn
  have k:=h.kept Gd d hf (Nat.le_refl _) i hi
  exact i7 k.1 k.2 (g i hi)
 | k+1,d,hf,hn,g,i,hi=>by
  refine h.run Gd k (d+1) (by omega) (by omega) (Gd.kT (by omega) (λj hj=>?_) g.2) i hi
  rw[h.ws d hf (by omega) j hj]
  have:=dI (1*W d j+-(W d d/aM s D d)*D d j) (s j)
  rw[show 1*W d j+-(W d d/aM s D d)*D d j=W d j-W d d/aM s D d*D d j by grind] at this
  rw[show 1*W d j+-(W d d/aM s D d)*D d j=W d j-W d d/aM s D d*D d j by grind]
  exact this
theorem Dn.away(h:Dn n s D f W)(Gd:Good n s D):∀ d,f<=d->d<=n->∀ k,f+k=n->G n s D k f λi=>W f i-W d i:=by
 intro d
 induction d with
 | zero =>
  intro hf _ k hn
  obtain rfl:f=0:=by omega
  exact G.ext hn (λi _=>by omega) (G.zero hn)
 | succ d ih =>
  intro hf hd k hn
  rcases Nat.lt_or_ge d f with q | q
  ·rw[show d+1=f by omega]
   exact G.ext hn (λi _=>by omega) (G.zero hn)
  ·refine Gd.kT hn (λi hi=>?_) (G.add hn (ih q (by omega) k hn) (G.mul (W d d/aM s D d) hn (Gd.row (show d<n by omega) hn q)))
   rw[h.ws d q (by omega) i hi]
   have:=l5 (1*W d i+-(W d d/aM s D d)*D d i) (s i)
   obtain⟨c,hc⟩:=this
   exact⟨c,by rw[← hc];grind⟩
theorem G.small(Gd:Good n s D):∀ k d (v:bx),d+k=n->(∀ i,i<n->0<=v i/\v i<s i)->(∀ i,d<=i->i<n->v i<aM s D i)->G n s D k d v->∀ i,i<n->v i=0
 | 0,d,v,hn,h0,_,g,i,hi=>i7 (h0 i hi).1 (h0 i hi).2 (g i hi)
 | k+1,d,v,hn,h0,h1,g,i,hi=>by
  have z:v d=0:=i7 (h0 d (by omega)).1 (h1 d (Nat.le_refl _) (by omega)) g.1
  refine G.small Gd k (d+1) v (by omega) h0 (λj hj=>h1 j (by omega)) (G.ext (by omega) (λj hj=>?_) g.2) i hi
  rw[z];simp
theorem uY(Gd:Good n s D)(W:Nat->Nat->bx)(hW:∀ d,d<n->Dn n s D (d+1) (W d))(h0:∀ d,d<n->∀ i,i<n->W d (d+1) i=D d i)(hD:∀ d,d<n->∀ i,i<n->D' d i=W d n i) :
  Good n s D'/\(∀ d,d<n->aM s D' d=aM s D d)/\(∀ d,d<n->∀ e,d<e->e<n->D' d e<aM s D e)/\(∀ d,d<n->D' d d=0->∀ i,i<n->D' d i=0)/\(∀ k d,d+k=n->∀ w,G n s D k d w->G n s D' k d w):=by
 have dg:∀ d,d<n->∀ i,i<=d->D' d i=D d i:=λd hd i hi=>by
  rw[hD d hd i (by omega),(hW d hd).front Gd n (by omega) (Nat.le_refl _) i (by omega),h0 d hd i (by omega)]
 have st:∀ d,d<n->aM s D' d=aM s D d:=λd hd=>by
  unfold aM;rw[dg d hd d (Nat.le_refl _)]
 have kX:∀ k d,d+k=n->∀ w,G n s D k d w->G n s D' k d w:=by
  intro k
  induction k with
  | zero=>intro d _ w h;exact h
  | succ k ih =>
   intro d hn w h
   have hd:d<n:=by omega
   refine⟨by rw[st d hd];exact h.1,ih (d+1) (by omega) _ ?_⟩
   rw[st d hd]
   refine G.ext (by omega) (λi hi=>?_) (G.add (by omega) h.2 (G.mul (w d/aM s D d) (by omega) ((hW d hd).away Gd n (by omega) (Nat.le_refl _) k (by omega))))
   show w i-w d/aM s D d*D d i+w d/aM s D d*(W d (d+1) i-W d n i)=_
   rw[h0 d hd i hi,hD d hd i hi];grind
 have good:Good n s D':=Gd.DL (λd hd i hi=>by rw[hD d hd i hi];exact(hW d hd).kept Gd n (by omega) (Nat.le_refl _) i hi) (λd hd i hi=>by rw[dg d hd i (by omega)];exact Gd.rj d hd i hi) (λd hd=>by rw[st d hd];exact Gd.dv d hd) kX
 have lt:∀ d,d<n->∀ e,d<e->e<n->D' d e<aM s D e:=λd hd e he hen=>by
  rw[hD d hd e hen];exact((hW d hd).low Gd n (by omega) (Nat.le_refl _) e (by omega) hen).2
 refine⟨good,st,lt,λd hd z=>?_,kX⟩
 have h1:=good.own (d:=d) (k:=n-d-1) (by omega)
 have h2:=h1.2
 refine G.small good (n-d-1) (d+1) (D' d) (by omega) (good.iO d hd) (λi h1 h2=>by rw[st i h2];exact lt d hd i (by omega) h2) (G.ext (by omega) (λi hi=>?_) h2)
 rw[z];simp
end
def bo:Nat->(Nat->Int)->Int
 | 0,_=>0
 | m+1,f=>bo m f+f m
theorem gb(a b:Int)(f g h:Nat->Int):∀ m,(∀ l,l<m->h l=a*f l+b*g l)->bo m h=a*bo m f+b*bo m g
 | 0,_=>by simp[bo]
 | m+1,e=>by
  rw[bo,bo,bo,gb a b f g h m λl hl=>e l (by omega),e m (by omega)];grind
theorem bB{f g:Nat->Int}:∀ {m:Nat},(∀ l,l<m->f l=g l)->bo m f=bo m g
 | 0,_=>rfl
 | m+1,e=>by rw[bo,bo,bB λl hl=>e l (by omega),e m (by omega)]
theorem dR:∀ m,bo m (λ_=>0)=0
 | 0=>rfl
 | m+1=>by rw[bo,dR m];rfl
theorem dU(k:Nat)(a:Int):∀ m,k<m->∀ f:Nat->Int,(∀ l,l<m->f l=if l=k then a else 0)->bo m f=a
 | 0,h,_,_=>by omega
 | m+1,h,f,e=>by
  rw[bo]
  by_cases z:k=m
  ·subst z
   rw[bB (g:=λ_=>0) λl hl=>by rw[e l (by omega),if_neg (by omega)],dR,e k (by omega),if_pos rfl];omega
  ·rw[dU k a m (by omega) f λl hl=>e l (by omega),e m (by omega),if_neg (by omega)];omega
def Led(n:Nat)(s:bx)(m:Nat)(A:Nat->bx)(v P:bx):Prop:=∀ i,i<n->s i∣v i-bo m λl=>P l*A l i
theorem Led.mix{n m:Nat}{s:bx}{A:Nat->bx}{v w x P Q R:bx}{a b:Int}(h1:Led n s m A v P)(h2:Led n s m A w Q)(hx:∀ i,i<n->s i∣x i-(a*v i+b*w i))(hR:∀ l,l<m->R l=a*P l+b*Q l):Led n s m A x R:=λi hi=>by
 obtain⟨c1,e1⟩:=h1 i hi
 obtain⟨c2,e2⟩:=h2 i hi
 obtain⟨c3,e3⟩:=hx i hi
 rw[gb a b (λl=>P l*A l i) (λl=>Q l*A l i) (λl=>R l*A l i) m λl hl=>by rw[hR l hl];grind]
 exact⟨a*c1+b*c2+c3,by grind⟩
def aC:Nat->(Nat->Int)->Int
 | 0,_=>1
 | m+1,f=>aC m f*f m
theorem rm{f g h:Nat->Int}:∀ {m:Nat},(∀ l,l<m->f l=g l*h l)->aC m f=aC m g*aC m h
 | 0,_=>rfl
 | m+1,e=>by rw[aC,aC,aC,rm λl hl=>e l (by omega),e m (by omega)];grind
theorem cy{f g:Nat->Int}:∀ {m:Nat},(∀ l,l<m->f l=g l)->aC m f=aC m g
 | 0,_=>rfl
 | m+1,e=>by rw[aC,aC,cy λl hl=>e l (by omega),e m (by omega)]
theorem fG{f:Nat->Int}:∀ {m:Nat},(∀ l,l<m->0<f l)->0<aC m f
 | 0,_=>(by decide:(0:Int)<1)
 | m+1,e=>Int.mul_pos (fG λl hl=>e l (by omega)) (e m (by omega))
end Rg
namespace Rg
def vf(xs:List Int):bx:=λi=>xs.getD i 0
theorem a_{xs:List Int}{i:Nat}(h:i<xs.length):vf xs i=xs[i]:=by
 unfold vf;rw[List.getD_eq_getElem?_getD,List.getElem?_eq_getElem h];rfl
theorem pN{xs:List Int}{i:Nat}(h:xs.length<=i):vf xs i=0:=by
 unfold vf;rw[List.getD_eq_getElem?_getD,List.getElem?_eq_none h];rfl
def nA(xs:List Int)(a:Int)(ys:List Int)(b:Int):List Int:=(xs.zip ys).map λz=>a*z.1+b*z.2
def zc(xs sizes:List Int):List Int:=(xs.zip sizes).map λz=>z.1%z.2
theorem bY{xs ys:List Int}{a b:Int}:(nA xs a ys b).length=min xs.length ys.length:=by simp[nA]
theorem jJ{xs ys:List Int}:(zc xs ys).length=min xs.length ys.length:=by simp[zc]
theorem fz{xs ys:List Int}{a b:Int}{i:Nat}(h1:i<xs.length)(h2:i<ys.length):vf (nA xs a ys b) i=a*vf xs i+b*vf ys i:=by
 rw[a_ (by rw[bY];omega),a_ h1,a_ h2]
 simp[nA]
theorem jP{xs ys:List Int}{i:Nat}(h1:i<xs.length)(h2:i<ys.length):vf (zc xs ys) i=vf xs i%vf ys i:=by
 rw[a_ (by rw[jJ];omega),a_ h1,a_ h2]
 simp[zc]
theorem n8{xs ys:List Int}(hl:xs.length=ys.length)(h:∀ i,i<xs.length->vf xs i=vf ys i):xs=ys:=by
 refine List.ext_getElem hl λi h1 h2=>?_
 have:=h i h1
 rwa [a_ h1,a_ h2] at this
theorem eP(n:Nat)(i:Nat):vf (List.replicate n 0) i=0:=by
 rcases Nat.lt_or_ge i n with h | h
 ·rw[a_ (by simpa using h)];simp
 ·rw[pN (by simpa using h)]
def Bd(B:Nat)(xs:List Int):Prop:=∀ x∈xs,x.natAbs<2^B
theorem Bd.mono{B C:Nat}{xs:List Int}(h:Bd B xs)(hc:B<=C):Bd C xs:=λx hx=>Nat.lt_of_lt_of_le (h x hx) (Nat.pow_le_pow_right (by decide) hc)
theorem Bd.vf{B:Nat}{xs:List Int}(h:Bd B xs)(i:Nat):(vf xs i).natAbs<2^B:=by
 rcases Nat.lt_or_ge i xs.length with q | q
 ·rw[a_ q];exact h _ (List.getElem_mem q)
 ·rw[pN q];exact Nat.two_pow_pos B
theorem wx{a b:Int}{A B:Nat}(ha:a.natAbs<2^A)(hb:b.natAbs<2^B):(a*b).natAbs<2^(A+B):=by
 rw[Int.natAbs_mul,Nat.pow_add]
 have h0:0<2^A:=Nat.two_pow_pos A
 have h1:0<2^B:=Nat.two_pow_pos B
 exact Nat.mul_lt_mul_of_lt_of_le ha (Nat.le_of_lt hb) h1
theorem Fo{a b:Int}{A:Nat}(ha:a.natAbs<2^A)(hb:b.natAbs<2^A):(a+b).natAbs<2^(A+1):=by
 rw[Nat.pow_succ];omega
theorem Bd.mix{A B:Nat}{xs ys:List Int}{a b:Int}(hx:Bd B xs)(hy:Bd B ys)(ha:a.natAbs<2^A)(hb:b.natAbs<2^A):Bd (A+B+1) (nA xs a ys b):=by
 intro z hz
 obtain⟨w,hw,rfl⟩:=List.mem_map.mp hz
 have:=List.of_mem_zip (a:=w.1) (b:=w.2) hw
 exact Fo (wx ha (hx _ this.1)) (wx hb (hy _ this.2))
abbrev Row:=List Int×List Int
def row(rows:List Row)(d:Nat):Row:=rows.getD d ([],[])
def DD(rows:List Row):Nat->bx:=λd=>vf (row rows d).1
def PP(rows:List Row):Nat->bx:=λd=>vf (row rows d).2
structure Wf (n m:Nat) (rows:List Row):Prop where
 len:rows.length=n
 l1:∀ r∈rows,r.1.length=n
 l2:∀ r∈rows,r.2.length=m
theorem fF{rows:List Row}{d:Nat}(h:d<rows.length):row rows d=rows[d]:=by
 unfold row;rw[List.getD_eq_getElem?_getD,List.getElem?_eq_getElem h];rfl
theorem Wf.mP{n m:Nat}{rows:List Row}(w:Wf n m rows){d:Nat}(h:d<n):(row rows d).1.length=n:=by
 rw[fF (by rw[w.len];exact h)];exact w.l1 _ (List.getElem_mem _)
theorem Wf.at2{n m:Nat}{rows:List Row}(w:Wf n m rows){d:Nat}(h:d<n):(row rows d).2.length=m:=by
 rw[fF (by rw[w.len];exact h)];exact w.l2 _ (List.getElem_mem _)
def pV(sizes:List Int)(r:Row)(a:Int)(q:Row)(b:Int):Row:=(zc (nA r.1 a q.1 b) sizes,nA r.2 a q.2 b)
def az(c:Int->Int->Int×Int)(sizes:List Int)(rows:List Row)(left:Row):Nat->Row
 | 0=>left
 | d+1 =>
  let l:=az c sizes rows left d
  let st:=aM (vf sizes) (DD rows) d
  let nt:=vf l.1 d
  pV sizes l (st/(Int.gcd st nt:Nat)) (row rows d) (-(nt/(Int.gcd st nt:Nat)))
def eD(c:Int->Int->Int×Int)(sizes:List Int)(rows:List Row)(left:Row)(d:Nat):Row :=
 let l:=az c sizes rows left d
 let st:=aM (vf sizes) (DD rows) d
 let nt:=vf l.1 d
 pV sizes (row rows d) (c st nt).1 l (c st nt).2
def cJ(c:Int->Int->Int×Int)(sizes:List Int)(rows:List Row)(left:Row)(n:Nat):List Row:=(List.range n).map (eD c sizes rows left)
section
variable{c:Int->Int->Int×Int}{sizes:List Int}{rows:List Row}{left:Row}{n m:Nat}
theorem de(w:Wf n m rows)(hs:sizes.length=n)(h1:left.1.length=n)(h2:left.2.length=m):∀ d,d<=n->(az c sizes rows left d).1.length=n/\(az c sizes rows left d).2.length=m
 | 0,_=>⟨h1,h2⟩
 | d+1,hd=>by
  obtain⟨i1,i2⟩:=de w hs h1 h2 d (by omega)
  have e1:=w.mP (d:=d) (by omega);have e2:=w.at2 (d:=d) (by omega)
  simp only[az,pV]
  rw[jJ,bY,bY]
  exact⟨by omega,by omega⟩
theorem ki{d:Nat}(h:d<n):row (cJ c sizes rows left n) d=eD c sizes rows left d:=by
 rw[fF (by simp[cJ,h])];simp[cJ]
theorem zw(w:Wf n m rows)(hs:sizes.length=n)(h1:left.1.length=n)(h2:left.2.length=m):Wf n m (cJ c sizes rows left n):=by
 have key:∀ d,d<n->(eD c sizes rows left d).1.length=n/\(eD c sizes rows left d).2.length=m:=λd hd=>by
  obtain⟨i1,i2⟩:=de (c:=c) w hs h1 h2 d (by omega)
  have e1:=w.mP (d:=d) hd;have e2:=w.at2 (d:=d) hd
  simp only[eD,pV]
  rw[jJ,bY,bY]
  exact⟨by omega,by omega⟩
 refine⟨by simp[cJ],λr hr=>?_,λr hr=>?_⟩
 ·obtain⟨d,hd,rfl⟩:=List.mem_map.mp hr
  exact(key d (List.mem_range.mp hd)).1
 ·obtain⟨d,hd,rfl⟩:=List.mem_map.mp hr
  exact(key d (List.mem_range.mp hd)).2
theorem gL{a b:Int}(h:0<a):0<(Int.gcd a b:Int):=by
 have:=Int.gcd_pos_of_ne_zero_left b (show a≠0 by omega);omega
theorem IU(w:Wf n m rows)(hs:sizes.length=n)(h1:left.1.length=n)(h2:left.2.length=m)(Gd:Good n (vf sizes) (DD rows))(h0:∀ i,i<n->0<=vf left.1 i/\vf left.1 i<vf sizes i)
  (hc:∀ d,d<n->(c (aM (vf sizes) (DD rows) d) (vf (az c sizes rows left d).1 d)).1*aM (vf sizes) (DD rows) d+(c (aM (vf sizes) (DD rows) d) (vf (az c sizes rows left d).1 d)).2*vf (az c sizes rows left d).1 d=(Int.gcd (aM (vf sizes) (DD rows) d) (vf (az c sizes rows left d).1 d):Nat)) :
  Tk n (vf sizes) (DD rows) (DD (cJ c sizes rows left n)) (λd=>vf (az c sizes rows left d).1) (λd=>(c (aM (vf sizes) (DD rows) d) (vf (az c sizes rows left d).1 d)).1) (λd=>(c (aM (vf sizes) (DD rows) d) (vf (az c sizes rows left d).1 d)).2) (λd=>(Int.gcd (aM (vf sizes) (DD rows) d) (vf (az c sizes rows left d).1 d):Nat)) where
 gp:=λd hd=>gL (Gd.pos hd).1
 bz:=hc
 g1:=λd hd=>Int.gcd_dvd_left ..
 g2:=λd hd=>Int.gcd_dvd_right ..
 Ij:=λd hd i hi=>by
  obtain⟨i1,i2⟩:=de (c:=c) w hs h1 h2 d (by omega)
  have e1:=w.mP (d:=d) hd
  show vf (row (cJ c sizes rows left n) d).1 i=_
  rw[ki hd]
  simp only[eD,pV]
  rw[jP (by rw[bY];omega) (by omega),fz (by omega) (by omega)]
  rfl
 HW:=λd hd i hi=>by
  obtain⟨i1,i2⟩:=de (c:=c) w hs h1 h2 d (by omega)
  have e1:=w.mP (d:=d) hd
  simp only[az,pV]
  rw[jP (by rw[bY];omega) (by omega),fz (by omega) (by omega)]
  rfl
 l0:=h0
end
end Rg
namespace Rg
section
variable{c:Int->Int->Int×Int}{sizes:List Int}{rows:List Row}{left:Row}{n m k:Nat}{A:Nat->bx}
def CB(c:Int->Int->Int×Int):Prop:=∀ a b:Int,0<a->a<=360->0<=b->b<=360->(c a b).1*a+(c a b).2*b=(Int.gcd a b:Nat)/\(c a b).1.natAbs<2^20/\(c a b).2.natAbs<2^20
theorem jR{a b:Int}(h:0<a)(h2:a<=360):0<a/(Int.gcd a b:Nat)/\a/(Int.gcd a b:Nat)<=360:=by
 have g:=gL (b:=b) h
 obtain⟨q,hq⟩:((Int.gcd a b:Nat):Int)∣a:=Int.gcd_dvd_left ..
 have e:a/(Int.gcd a b:Nat)=q:=by
  have:((Int.gcd a b:Nat):Int)≠0:=by omega
  exact Int.ediv_eq_of_eq_mul_right this hq
 rw[e]
 have q0:0<q:=by
  rcases Int.lt_or_le 0 q with z | z
  ·exact z
  ·have:=Int.mul_nonpos_of_nonneg_of_nonpos (Int.le_of_lt g) z;omega
 refine⟨q0,?_⟩
 have:1*q<=(Int.gcd a b:Nat)*q:=Int.mul_le_mul_of_nonneg_right (by omega) (by omega)
 omega
theorem lL{a b:Int}(h:0<a)(h1:0<=b)(h2:b<=360):0<=b/(Int.gcd a b:Nat)/\b/(Int.gcd a b:Nat)<=360:=by
 have g:=gL (b:=b) h
 exact⟨Int.ediv_nonneg h1 (by omega),Int.le_trans (Int.ediv_le_self _ h1) h2⟩
def Zf(k m:Nat)(P:bx):Prop:=∀ l,k<=l->l<m->P l=0
structure St (n m:Nat) (sizes:List Int) (A:Nat->bx) (k:Nat) (rows:List Row):Prop where
 wf:Wf n m rows
 hs:sizes.length=n
 sm:∀ i,i<n->vf sizes i<=360
 gd:Good n (vf sizes) (DD rows)
 led:∀ d,d<n->Led n (vf sizes) m A (DD rows d) (PP rows d)
 zf:∀ d,d<n->Zf k m (PP rows d)
 bd:∀ d,d<n->Bd (150*k+1) (row rows d).2
 cl:∀ l,l<k->G n (vf sizes) (DD rows) n 0 (A l)
structure Lv (n m:Nat) (sizes:List Int) (A:Nat->bx) (k:Nat) (left:Row):Prop where
 l1:left.1.length=n
 l2:left.2.length=m
 km:k<m
 at_:∀ i,i<n->vf left.1 i=A k i
 iO:∀ i,i<n->0<=A k i/\A k i<vf sizes i
 un:∀ l,l<m->vf left.2 l=if l=k then 1 else 0
theorem j_(h:St n m sizes A k rows)(L:Lv n m sizes A k left):∀ d,d<=n->∀ i,i<n->0<=vf (az c sizes rows left d).1 i/\vf (az c sizes rows left d).1 i<vf sizes i
 | 0,_,i,hi=>by show 0<=vf left.1 i/\vf left.1 i<vf sizes i;rw[L.at_ i hi];exact L.iO i hi
 | d+1,hd,i,hi=>by
  obtain⟨i1,i2⟩:=de (c:=c) h.wf h.hs L.l1 L.l2 d (by omega)
  have e1:=h.wf.mP (d:=d) (by omega)
  have hs:=h.hs
  simp only[az,pV]
  rw[jP (by rw[bY];omega) (by omega)]
  have:=h.gd.sp i hi
  exact⟨Int.emod_nonneg _ (by omega),Int.emod_lt_of_pos _ this⟩
theorem St.tk(h:St n m sizes A k rows)(L:Lv n m sizes A k left)(cb:CB c):Tk n (vf sizes) (DD rows) (DD (cJ c sizes rows left n)) (λd=>vf (az c sizes rows left d).1) (λd=>(c (aM (vf sizes) (DD rows) d) (vf (az c sizes rows left d).1 d)).1) (λd=>(c (aM (vf sizes) (DD rows) d) (vf (az c sizes rows left d).1 d)).2) (λd=>(Int.gcd (aM (vf sizes) (DD rows) d) (vf (az c sizes rows left d).1 d):Nat)) :=
 IU h.wf h.hs L.l1 L.l2 h.gd (λi hi=>by rw[L.at_ i hi];exact L.iO i hi) λd hd=>by
  have p:=h.gd.pos hd
  have q:=j_ (c:=c) h L d (by omega) d hd
  have s:=h.sm d hd
  exact(cb _ _ p.1 (by omega) q.1 (by omega)).1
theorem pA(h:St n m sizes A k rows)(L:Lv n m sizes A k left):∀ d,d<=n->Led n (vf sizes) m A (vf (az c sizes rows left d).1) (vf (az c sizes rows left d).2)
 | 0,_=>λi hi=>by
  show vf sizes i∣vf left.1 i-bo m λl=>vf left.2 l*A l i
  rw[L.at_ i hi,dU k (A k i) m L.km (λl=>vf left.2 l*A l i) λl hl=>by
   rw[L.un l hl]
   by_cases z:l=k
   ·subst z;rw[if_pos rfl,if_pos rfl,Int.one_mul]
   ·rw[if_neg z,if_neg z,Int.zero_mul]]
  rw[Int.sub_self];exact Int.dvd_zero _
 | d+1,hd=>by
  obtain⟨i1,i2⟩:=de (c:=c) h.wf h.hs L.l1 L.l2 d (by omega)
  have e1:=h.wf.mP (d:=d) (by omega);have e2:=h.wf.at2 (d:=d) (by omega)
  have hs:=h.hs
  refine Led.mix (a:=aM (vf sizes) (DD rows) d/(Int.gcd (aM (vf sizes) (DD rows) d) (vf (az c sizes rows left d).1 d):Nat)) (b:=-(vf (az c sizes rows left d).1 d/(Int.gcd (aM (vf sizes) (DD rows) d) (vf (az c sizes rows left d).1 d):Nat))) (pA h L d (by omega)) (h.led d (by omega)) (λi hi=>?_) λl hl=>?_
  ·simp only[az,pV]
   rw[jP (by rw[bY];omega) (by omega),fz (by omega) (by omega)]
   exact dI _ _
  ·simp only[az,pV]
   rw[fz (by omega) (by omega)];rfl
theorem rY(h:St n m sizes A k rows)(L:Lv n m sizes A k left):∀ d,d<=n->Zf (k+1) m (vf (az c sizes rows left d).2)/\vf (az c sizes rows left d).2 k=aC d λe=>aM (vf sizes) (DD rows) e/(Int.gcd (aM (vf sizes) (DD rows) e) (vf (az c sizes rows left e).1 e):Nat)
 | 0,_=>⟨λl h1 h2=>by show vf left.2 l=0;rw[L.un l h2,if_neg (by omega)],by show vf left.2 k=1;rw[L.un k L.km,if_pos rfl]⟩
 | d+1,hd=>by
  obtain⟨i1,i2⟩:=de (c:=c) h.wf h.hs L.l1 L.l2 d (by omega)
  have e2:=h.wf.at2 (d:=d) (by omega)
  obtain⟨j1,j2⟩:=rY h L d (by omega)
  have z:=h.zf d (by omega)
  have km:=L.km
  constructor
  ·intro l h1 h2
   simp only[az,pV]
   rw[fz (by omega) (by omega),j1 l h1 h2,show vf (row rows d).2 l=0 from z l (by omega) h2];simp
  ·rw[aC,← j2]
   simp only[az,pV]
   rw[fz (by omega) (by omega),show vf (row rows d).2 k=0 from z k (Nat.le_refl _) km]
   grind
theorem nO(h:St n m sizes A k rows)(L:Lv n m sizes A k left)(hn:n<=6):∀ d,d<=n->Bd (150*k+1+11*d) (az c sizes rows left d).2
 | 0,_=>λx hx=>by
  have hx:x∈left.2:=hx
  obtain⟨i,hi,rfl⟩:=List.mem_iff_getElem.mp hx
  have hm:i<m:=by rw[← L.l2];exact hi
  have e:=L.un i hm
  rw[a_ hi] at e
  show (left.2[i]).natAbs<_
  rw[e]
  have:2^1<=2^(150*k+1+11*0):=Nat.pow_le_pow_right (by decide) (by omega)
  refine Nat.lt_of_lt_of_le ?_ this
  split
  ·decide
  ·decide
 | d+1,hd=>by
  have p:=h.gd.pos (show d<n by omega)
  have s:=h.sm d (by omega)
  have q:=j_ (c:=c) h L d (by omega) d (by omega)
  have a1:=jR (b:=vf (az c sizes rows left d).1 d) p.1 (by omega)
  have a2:=lL (b:=vf (az c sizes rows left d).1 d) p.1 q.1 (by omega)
  have:=Bd.mix (A:=9+1) (nO h L hn d (by omega)) ((h.bd d (by omega)).mono (show 150*k+1<=150*k+1+11*d by omega)) (a:=aM (vf sizes) (DD rows) d/(Int.gcd (aM (vf sizes) (DD rows) d) (vf (az c sizes rows left d).1 d):Nat)) (b:=-(vf (az c sizes rows left d).1 d/(Int.gcd (aM (vf sizes) (DD rows) d) (vf (az c sizes rows left d).1 d):Nat))) (by omega) (by omega)
  exact this.mono (by omega)
theorem St.next(h:St n m sizes A k rows)(L:Lv n m sizes A k left)(cb:CB c)(hn:n<=6):St n m sizes A (k+1) (cJ c sizes rows left n):=by
 have T:=h.tk L cb
 have hs:=h.hs
 refine⟨zw h.wf h.hs L.l1 L.l2,h.hs,h.sm,T.good h.gd,λd hd=>?_,λd hd=>?_,λd hd=>?_,λl hl=>?_⟩
 ·obtain⟨i1,i2⟩:=de (c:=c) h.wf h.hs L.l1 L.l2 d (by omega)
  have e1:=h.wf.mP (d:=d) hd;have e2:=h.wf.at2 (d:=d) hd
  unfold DD PP
  rw[ki hd]
  refine Led.mix (a:=(c (aM (vf sizes) (DD rows) d) (vf (az c sizes rows left d).1 d)).1) (b:=(c (aM (vf sizes) (DD rows) d) (vf (az c sizes rows left d).1 d)).2) (h.led d hd) (pA (c:=c) h L d (by omega)) (λi hi=>?_) λl hl=>?_
  ·simp only[eD,pV]
   rw[jP (by rw[bY];omega) (by omega),fz (by omega) (by omega)]
   exact dI _ _
  ·simp only[eD,pV]
   rw[fz (by omega) (by omega)];rfl
 ·obtain⟨i1,i2⟩:=de (c:=c) h.wf h.hs L.l1 L.l2 d (by omega)
  have e2:=h.wf.at2 (d:=d) hd
  intro l h1 h2
  unfold PP
  rw[ki hd]
  simp only[eD,pV]
  rw[fz (by omega) (by omega),(rY (c:=c) h L d (by omega)).1 l h1 h2,show vf (row rows d).2 l=0 from h.zf d hd l (by omega) h2];simp
 ·rw[ki hd]
  have p:=h.gd.pos hd
  have s:=h.sm d hd
  have q:=j_ (c:=c) h L d (by omega) d hd
  have b:=cb (aM (vf sizes) (DD rows) d) (vf (az c sizes rows left d).1 d) p.1 (by omega) q.1 (by omega)
  have:=Bd.mix (A:=20) ((h.bd d hd).mono (show 150*k+1<=150*k+1+11*d by omega)) (nO (c:=c) h L hn d (by omega)) b.2.1 b.2.2
  exact this.mono (by omega)
 ·rcases Nat.lt_or_ge l k with q | q
  ·exact(T.main h.gd n 0 (by omega)).1 _ (h.cl l q)
  ·obtain rfl:l=k:=by omega
   exact G.ext (by omega) (λi hi=>L.at_ i hi) (T.main h.gd n 0 (by omega)).2
end
end Rg
namespace Rg
def aX(idle:List (List Int))(k:Nat)(P:List Int):Nat->List Int
 | 0=>P
 | c+1 =>
  let z:=aX idle k P c
  let r:=idle.getD (k-1-c) []
  nA z 1 r (-(vf z (k-1-c)/vf r (k-1-c)))
def II(idle:List (List Int)):Nat->bx:=λj=>vf (idle.getD j [])
structure xa (n m:Nat) (s:bx) (A:Nat->bx) (k:Nat) (idle:List (List Int)):Prop where
 len:idle.length=k
 l2:∀ j,j<k->(idle.getD j []).length=m
 pos:∀ j,j<k->0<II idle j j
 le:∀ j,j<k->II idle j j<2^60
 zero:∀ j,j<k->∀ l,j<l->l<m->II idle j l=0
 nf:∀ j,j<k->∀ l,l<j->0<=II idle j l/\II idle j l<II idle l l
 oQ:∀ j,j<k->Led n s m A (λ_=>0) (II idle j)
section
variable{n m k:Nat}{s:bx}{A:Nat->bx}{idle:List (List Int)}{P:List Int}
theorem xa.bd(h:xa n m s A k idle){j:Nat}(hj:j<k)(hm:k<=m):Bd 60 (idle.getD j []):=λx hx=>by
 obtain⟨l,hl,rfl⟩:=List.mem_iff_getElem.mp hx
 rw[h.l2 j hj] at hl
 have e:II idle j l=(idle.getD j [])[l]'(by rw[h.l2 j hj];exact hl):=a_ _
 rw[← e]
 rcases Nat.lt_or_ge l j with q | q
 ·have h1:=h.nf j hj l q
  have h2:=h.le l (by omega)
  omega
 ·rcases Nat.lt_or_ge j l with q2 | q2
  ·rw[h.zero j hj l q2 hl];exact Nat.two_pow_pos _
  ·obtain rfl:l=j:=by omega
   have h1:=h.pos l hj;have h2:=h.le l hj
   omega
theorem span_len(h:xa n m s A k idle)(hP:P.length=m):∀ c,c<=k->(aX idle k P c).length=m
 | 0,_=>hP
 | c+1,hc=>by
  simp only[aX]
  rw[bY,span_len h hP c (by omega),h.l2 _ (by omega)];omega
theorem nW(h:xa n m s A k idle)(hP:P.length=m){c l:Nat}(hc:c<k)(hl:l<m):vf (aX idle k P (c+1)) l=vf (aX idle k P c) l-vf (aX idle k P c) (k-1-c)/II idle (k-1-c) (k-1-c)*II idle (k-1-c) l:=by
 simp only[aX]
 rw[fz (by rw[span_len h hP c (by omega)];exact hl) (by rw[h.l2 _ (by omega)];exact hl)]
 unfold II
 grind
theorem ue(h:xa n m s A k idle)(hP:P.length=m):∀ c,c<=k->∀ l,k<=l->l<m->vf (aX idle k P c) l=vf P l
 | 0,_,_,_,_=>rfl
 | c+1,hc,l,h1,h2=>by
  rw[nW h hP (by omega) h2,h.zero _ (by omega) l (by omega) h2,ue h hP c (by omega) l h1 h2];simp
theorem sv(h:xa n m s A k idle)(hP:P.length=m)(hm:k<=m):∀ c,c<=k->∀ l,k-c<=l->l<k->0<=vf (aX idle k P c) l/\vf (aX idle k P c) l<II idle l l
 | 0,_,l,h1,h2=>by omega
 | c+1,hc,l,h1,h2=>by
  rw[nW h hP (by omega) (by omega)]
  rcases Nat.lt_or_ge (k-1-c) l with q | q
  ·rw[h.zero _ (by omega) l q (by omega),Int.mul_zero,Int.sub_zero]
   exact sv h hP hm c (by omega) l (by omega) h2
  ·obtain rfl:l=k-1-c:=by omega
   have p:=h.pos (k-1-c) (by omega)
   have e:=Int.emod_def (vf (aX idle k P c) (k-1-c)) (II idle (k-1-c) (k-1-c))
   rw[Int.mul_comm (vf (aX idle k P c) (k-1-c)/_),← e]
   exact⟨Int.emod_nonneg _ (by omega),Int.emod_lt_of_pos _ p⟩
theorem n5(h:xa n m s A k idle)(hP:P.length=m){v:bx}(hv:Led n s m A v (vf P)):∀ c,c<=k->Led n s m A v (vf (aX idle k P c))
 | 0,_=>hv
 | c+1,hc=>by
  refine Led.mix (a:=1) (b:=-(vf (aX idle k P c) (k-1-c)/II idle (k-1-c) (k-1-c))) (n5 h hP hv c (by omega)) (h.oQ (k-1-c) (by omega)) (λi hi=>?_) λl hl=>?_
  ·rw[Int.mul_zero,Int.add_zero,Int.one_mul,Int.sub_self];exact Int.dvd_zero _
  ·rw[nW h hP (by omega) hl];grind
theorem xv(h:xa n m s A k idle)(hP:P.length=m)(hm:k<=m){B:Nat}(hB:60<=B)(hb:Bd B P):∀ c,c<=k->Bd (B+62*c) (aX idle k P c)
 | 0,_=>hb
 | c+1,hc=>by
  have ih:=xv h hP hm hB hb c (by omega)
  intro x hx
  obtain⟨l,hl,rfl⟩:=List.mem_iff_getElem.mp hx
  rw[span_len h hP (c+1) hc] at hl
  rw[← a_,nW h hP (by omega) hl]
  have p:=h.pos (k-1-c) (by omega)
  have q1:(vf (aX idle k P c) (k-1-c)/II idle (k-1-c) (k-1-c)).natAbs<2^(B+62*c+1):=by
   have h1:=ih.vf (k-1-c)
   have h2:=Int.natAbs_ediv_le_natAbs (vf (aX idle k P c) (k-1-c)) (II idle (k-1-c) (k-1-c))
   rw[Nat.pow_succ];omega
  have q2:(II idle (k-1-c) l).natAbs<2^60:=(h.bd (j:=k-1-c) (by omega) hm).vf l
  have q3:=wx q1 q2
  have q4:=ih.vf l
  have q5:2^(B+62*c)<=2^(B+62*c+1+60):=Nat.pow_le_pow_right (by decide) (by omega)
  have q6:(2:Nat)^(B+62*(c+1))=2^(B+62*c+1+60)*2:=by rw[← Nat.pow_succ];congr 1
  rw[q6];omega
end
section
variable{c:Int->Int->Int×Int}{sizes:List Int}{rows:List Row}{left:Row}{n m k:Nat}{A:Nat->bx}
theorem Tk.order{s:bx}{D D' L:Nat->bx}{u v g:Nat->Int}(t:Tk n s D D' L u v g)(Gd:Good n s D):∀ (k d:Nat) (x:Int),d+k=n->G n s D k d (λi=>x*L d i)->aC n (λe=>aM s D e/g e)∣x*aC d (λe=>aM s D e/g e)
 | 0,d,x,hn,h=>by
  obtain rfl:d=n:=by omega
  exact Int.dvd_mul_left _ _
 | k+1,d,x,hn,h=>by
  have hd:d<n:=by omega
  obtain⟨a,ha⟩:=t.g1 d hd
  obtain⟨b,hb⟩:=t.g2 d hd
  have gp:=t.gp d hd
  have sp:=(Gd.pos hd).1
  have e1:aM s D d/g d=a:=by rw[ha];exact Int.mul_ediv_cancel_left a (by omega)
  have e2:L d d/g d=b:=by rw[hb];exact Int.mul_ediv_cancel_left b (by omega)
  have bz:u d*a+v d*b=1:=by
   have:=t.bz d hd
   rw[ha,hb,show u d*(g d*a)+v d*(g d*b)=g d*(u d*a+v d*b) by grind] at this
   have h2:g d*(u d*a+v d*b)=g d*1:=by omega
   exact Int.eq_of_mul_eq_mul_left (by omega) h2
  obtain⟨q,hq⟩:=h.1
  have hax:a∣x:=by
   have h3:g d*(x*b)=g d*(a*q):=by
    have:x*L d d=aM s D d*q:=hq
    rw[hb,ha] at this;grind
   have h4:x*b=a*q:=Int.eq_of_mul_eq_mul_left (by omega) h3
   exact⟨u d*x+v d*q,by
    have:x=x*(u d*a+v d*b):=by rw[bz,Int.mul_one]
    rw[this]
    have:x*(u d*a+v d*b)=a*(u d*x)+v d*(x*b):=by grind
    rw[this,h4];grind⟩
  obtain⟨y,hy⟩:=hax
  have MF:q=b*y:=by
   have h3:g d*(a*q)=g d*(a*(b*y)):=by
    have:x*L d d=aM s D d*q:=hq
    rw[hb,ha,hy] at this;grind
   have ap:a≠0:=by intro z;rw[z,Int.mul_zero] at ha;omega
   exact Int.eq_of_mul_eq_mul_left ap (Int.eq_of_mul_eq_mul_left (by omega) h3)
  have h2:=h.2
  have q1:x*L d d/aM s D d=q:=by
   show x*L d d/aM s D d=q
   rw[show x*L d d=aM s D d*q from hq];exact Int.mul_ediv_cancel_left q (by omega)
  have:=t.order Gd k (d+1) y (by omega) (Gd.kT (by omega) (λi hi=>?_) h2)
  ·rw[aC,e1] at this
   rw[hy,show a*y*aC d (λe=>aM s D e/g e)=y*(aC d (λe=>aM s D e/g e)*a) by grind]
   exact this
  ·show s i∣y*L (d+1) i-(x*L d i-x*L d d/aM s D d*D d i)
   rw[q1,t.HW d hd i hi,e1,e2]
   obtain⟨z,hz⟩:=dI (a*L d i+-b*D d i) (s i)
   refine⟨y*z,?_⟩
   have:(a*L d i+-b*D d i)%s i=a*L d i+-b*D d i+s i*z:=by omega
   rw[this,hy,MF];grind
theorem G.sum(Gd:Good n (vf sizes) (DD rows)){P:bx}:∀ k',(∀ l,l<k'->G n (vf sizes) (DD rows) n 0 (A l))->G n (vf sizes) (DD rows) n 0 (λi=>bo k' λl=>P l*A l i)
 | 0,_=>G.zero (by omega)
 | k'+1,h=>G.ext (by omega) (λi _=>rfl) (G.add (by omega) (G.sum Gd k' λl hl=>h l (by omega)) (G.mul (P k') (by omega) (h k' (by omega))))
end
end Rg
namespace Rg
def mM(m k:Nat):List Int:=(List.range m).map λl=>if l=k then 1 else 0
theorem uZ{m k l:Nat}(h:l<m):vf (mM m k) l=if l=k then 1 else 0:=by
 rw[a_ (by simp[mM,h])];simp[mM]
def AA(Ls:List (List Int)):Nat->bx:=λl=>vf (Ls.getD l [])
def bT(Ls:List (List Int))(m k:Nat):Row:=(Ls.getD k [],mM m k)
def RK(c:Int->Int->Int×Int)(sizes:List Int)(Ls:List (List Int))(n m:Nat):Nat->List Row×List (List Int)
 | 0=>(List.replicate n (List.replicate n 0,List.replicate m 0),[])
 | k+1 =>
  (cJ c sizes (RK c sizes Ls n m k).1 (bT Ls m k) n,(RK c sizes Ls n m k).2++[aX (RK c sizes Ls n m k).2 k (az c sizes (RK c sizes Ls n m k).1 (bT Ls m k) n).2 k])
structure HL (n m:Nat) (sizes:List Int) (Ls:List (List Int)):Prop where
 len:Ls.length=m
 at_:∀ l,l<m->(Ls.getD l []).length=n
 iO:∀ l,l<m->∀ i,i<n->0<=AA Ls l i/\AA Ls l i<vf sizes i
structure z6 (n m:Nat) (sizes:List Int) (Ls:List (List Int)) (k:Nat) (r:List Row×List (List Int)):Prop where
 st:St n m sizes (AA Ls) k r.1
 oQ:xa n m (vf sizes) (AA Ls) k r.2
 pr:aC k (λj=>II r.2 j j)*aC n (aM (vf sizes) (DD r.1))=aC n (vf sizes)
 ord:∀ j,j<k->∀ P:bx,Zf (j+1) m P->Led n (vf sizes) m (AA Ls) (λ_=>0) P->II r.2 j j∣P j
section
variable{c:Int->Int->Int×Int}{sizes:List Int}{Ls:List (List Int)}{n m k:Nat}
theorem iI{idle:List (List Int)}{x:List Int}{j:Nat}(h:j<idle.length):II (idle++[x]) j=II idle j:=by
 unfold II
 rw[List.getD_eq_getElem?_getD,List.getElem?_append_left h,← List.getD_eq_getElem?_getD]
theorem jS{idle:List (List Int)}{x:List Int}:II (idle++[x]) idle.length=vf x:=by
 unfold II
 rw[List.getD_eq_getElem?_getD,List.getElem?_append_right (Nat.le_refl _)];simp
theorem zF{idle:List (List Int)}{x:List Int}{j:Nat}(h:j<idle.length):(idle++[x]).getD j []=idle.getD j []:=by
 rw[List.getD_eq_getElem?_getD,List.getElem?_append_left h,← List.getD_eq_getElem?_getD]
theorem AS{idle:List (List Int)}{x:List Int}:(idle++[x]).getD idle.length []=x:=by
 rw[List.getD_eq_getElem?_getD,List.getElem?_append_right (Nat.le_refl _)];simp
theorem n9{f:Nat->Int}{k:Nat}:∀ {m:Nat},k<m->(∀ l,k<l->l<m->f l=0)->bo m f=bo k f+f k
 | 0,h,_=>by omega
 | m+1,h,e=>by
  rw[bo]
  by_cases z:k=m
  ·subst z;rfl
  ·rw[n9 (m:=m) (by omega) λl h1 h2=>e l h1 (by omega),e m (by omega) (by omega)];omega
theorem uQ:∀ {n:Nat} {f:Nat->Int},(∀ i,i<n->0<f i/\f i<=360)->aC n f<=360^n
 | 0,f,_=>by simp[aC]
 | n+1,f,h=>by
  rw[aC,Int.pow_succ]
  exact Int.mul_le_mul (uQ λi hi=>h i (by omega)) (h n (by omega)).2 (by have:=(h n (by omega)).1;omega) (Int.pow_nonneg (by decide))
theorem KY{n:Nat}(h:n<=6):(360:Int)^n<=360^6:=by
 have:n=0\/n=1\/n=2\/n=3\/n=4\/n=5\/n=6:=by omega
 rcases this with rfl | rfl | rfl | rfl | rfl | rfl | rfl <;> decide
theorem z6.next{r:List Row×List (List Int)}(h:z6 n m sizes Ls k r)(LL:HL n m sizes Ls)(cb:CB c)(hn:n<=6)(hk:k<m) :
  z6 n m sizes Ls (k+1) (cJ c sizes r.1 (bT Ls m k) n,r.2++[aX r.2 k (az c sizes r.1 (bT Ls m k) n).2 k]):=by
 have L:Lv n m sizes (AA Ls) k (bT Ls m k):=⟨LL.at_ k hk,by simp[bT,mM],hk,λi hi=>rfl,LL.iO k hk,λl hl=>uZ hl⟩
 have T:=h.st.tk L cb
 have ll:=de (c:=c) h.st.wf h.st.hs L.l1 L.l2 n (Nat.le_refl _)
 have zf:=rY (c:=c) h.st L n (Nat.le_refl _)
 have led:=pA (c:=c) h.st L n (Nat.le_refl _)
 have l0:=T.zero h.st.gd n (Nat.le_refl _)
 have il:r.2.length=k:=h.oQ.len
 have out:=ue h.oQ ll.2 k (Nat.le_refl _)
 have jk:vf (aX r.2 k (az c sizes r.1 (bT Ls m k) n).2 k) k=aC n λe=>aM (vf sizes) (DD r.1) e/(Int.gcd (aM (vf sizes) (DD r.1) e) (vf (az c sizes r.1 (bT Ls m k) e).1 e):Nat):=by
  rw[out k (Nat.le_refl _) hk];exact zf.2
 have pos:∀ e,e<n->0<aM (vf sizes) (DD r.1) e/(Int.gcd (aM (vf sizes) (DD r.1) e) (vf (az c sizes r.1 (bT Ls m k) e).1 e):Nat):=λe he=>by
  have p:=h.st.gd.pos he
  have s:=h.st.sm e he
  exact(jR p.1 (by omega)).1
 have pr:aC (k+1) (λj=>II (r.2++[aX r.2 k (az c sizes r.1 (bT Ls m k) n).2 k]) j j)*aC n (aM (vf sizes) (DD (cJ c sizes r.1 (bT Ls m k) n)))=aC n (vf sizes):=by
  rw[aC,show II (r.2++[aX r.2 k (az c sizes r.1 (bT Ls m k) n).2 k]) k=vf (aX r.2 k (az c sizes r.1 (bT Ls m k) n).2 k) by rw[← il];exact jS]
  rw[cy (g:=λj=>II r.2 j j) λj hj=>by rw[iI (by omega)],← h.pr,jk]
  rw[cy (g:=λd=>((Int.gcd (aM (vf sizes) (DD r.1) d) (vf (az c sizes r.1 (bT Ls m k) d).1 d):Nat):Int)) λd hd=>T.step h.st.gd hd]
  rw[rm (f:=aM (vf sizes) (DD r.1)) (g:=λd=>((Int.gcd (aM (vf sizes) (DD r.1) d) (vf (az c sizes r.1 (bT Ls m k) d).1 d):Nat):Int)) (h:=λe=>aM (vf sizes) (DD r.1) e/(Int.gcd (aM (vf sizes) (DD r.1) e) (vf (az c sizes r.1 (bT Ls m k) e).1 e):Nat)) λd hd=>(Int.mul_ediv_cancel' (Int.gcd_dvd_left ..)).symm]
  grind
 have jpos:0<vf (aX r.2 k (az c sizes r.1 (bT Ls m k) n).2 k) k:=by rw[jk];exact fG pos
 have St':=h.st.next L cb hn
 have jle:vf (aX r.2 k (az c sizes r.1 (bT Ls m k) n).2 k) k<2^60:=by
  have b:aC n (vf sizes)<=360^n:=uQ λi hi=>⟨h.st.gd.sp i hi,h.st.sm i hi⟩
  have b2:(360:Int)^n<=360^6:=KY hn
  have b3:(360:Int)^6<2^60:=by decide
  rw[aC,show II (r.2++[aX r.2 k (az c sizes r.1 (bT Ls m k) n).2 k]) k=vf (aX r.2 k (az c sizes r.1 (bT Ls m k) n).2 k) by rw[← il];exact jS] at pr
  have p1:0<aC k (λj=>II (r.2++[aX r.2 k (az c sizes r.1 (bT Ls m k) n).2 k]) j j):=fG λj hj=>by rw[iI (by omega)];exact h.oQ.pos j hj
  have p2:0<aC n (aM (vf sizes) (DD (cJ c sizes r.1 (bT Ls m k) n))):=fG λd hd=>(St'.gd.pos hd).1
  generalize aC k (λj=>II (r.2++[aX r.2 k (az c sizes r.1 (bT Ls m k) n).2 k]) j j)=a at *
  generalize aC n (aM (vf sizes) (DD (cJ c sizes r.1 (bT Ls m k) n)))=b' at *
  generalize vf (aX r.2 k (az c sizes r.1 (bT Ls m k) n).2 k) k=x at *
  have e1:1*x<=a*x:=Int.mul_le_mul_of_nonneg_right (by omega) (by omega)
  have e2:a*x*1<=a*x*b':=Int.mul_le_mul_of_nonneg_left (by omega) (by omega)
  omega
 refine⟨St',⟨by simp[il],λj hj=>?_,λj hj=>?_,λj hj=>?_,λj hj l h1 h2=>?_,λj hj l hl=>?_,λj hj=>?_⟩,pr,λj hj P hz hP=>?_⟩
 all_goals
  rcases Nat.lt_or_ge j k with q | q
 ·rw[zF (by omega)];exact h.oQ.l2 j q
 ·obtain rfl:j=r.2.length:=by omega
  rw[AS];exact span_len h.oQ ll.2 k (Nat.le_refl _)
 ·rw[iI (by omega)];exact h.oQ.pos j q
 ·obtain rfl:j=r.2.length:=by omega
  rw[jS,il];exact jpos
 ·rw[iI (by omega)];exact h.oQ.le j q
 ·obtain rfl:j=r.2.length:=by omega
  rw[jS,il];exact jle
 ·rw[iI (by omega)];exact h.oQ.zero j q l h1 h2
 ·obtain rfl:j=r.2.length:=by omega
  rw[jS,out l (by omega) h2];exact zf.1 l (by omega) h2
 ·rw[iI (by omega),iI (by omega)];exact h.oQ.nf j q l hl
 ·obtain rfl:j=r.2.length:=by omega
  rw[jS,iI (by omega)];exact sv h.oQ ll.2 (by omega) k (Nat.le_refl _) l (by omega) (by omega)
 ·rw[iI (by omega)];exact h.oQ.oQ j q
 ·obtain rfl:j=r.2.length:=by omega
  rw[jS]
  refine n5 h.oQ ll.2 (λi hi=>?_) k (Nat.le_refl _)
  have:=led i hi
  rw[show vf (az c sizes r.1 (bT Ls m k) n).1 i=0 from l0 i hi] at this
  exact this
 ·rw[iI (by omega)];exact h.ord j q P hz hP
 ·obtain rfl:j=k:=by omega
  rw[show II (r.2++[aX r.2 j (az c sizes r.1 (bT Ls m j) n).2 j]) j=vf (aX r.2 j (az c sizes r.1 (bT Ls m j) n).2 j) by rw[← il];exact jS,jk]
  have:=T.order h.st.gd n 0 (P j) (by omega) ?_
  ·rwa [aC,Int.mul_one] at this
  ·refine h.st.gd.kT (by omega) (λi hi=>?_) (G.mul (-1) (by omega) (G.sum (A:=AA Ls) (P:=P) h.st.gd j h.st.cl))
   have e:=hP i hi
   rw[n9 hk λl h1 h2=>by rw[hz l (by omega) h2,Int.zero_mul]] at e
   obtain⟨x,hx⟩:=e
   have hx:(0:Int)-(bo j (λl=>P l*AA Ls l i)+P j*AA Ls j i)=vf sizes i*x:=hx
   show vf sizes i∣P j*AA Ls j i - -1*bo j λl=>P l*AA Ls l i
   exact⟨-x,by rw[Int.mul_neg];omega⟩
theorem z6.start(hs:sizes.length=n)(hp:∀ i,i<n->0<vf sizes i/\vf sizes i<=360):z6 n m sizes Ls 0 (List.replicate n (List.replicate n 0,List.replicate m 0),[]):=by
 have rw0:∀ d,d<n->row (List.replicate n (List.replicate n 0,List.replicate m 0)) d=(List.replicate n 0,List.replicate m 0):=λd hd=>by
  rw[fF (by simpa using hd)];simp
 have D0:∀ d,d<n->∀ i,DD (List.replicate n (List.replicate n 0,List.replicate m 0)) d i=0:=λd hd i=>by
  unfold DD;rw[rw0 d hd];exact eP n i
 have P0:∀ d,d<n->∀ i,PP (List.replicate n (List.replicate n 0,List.replicate m 0)) d i=0:=λd hd i=>by
  unfold PP;rw[rw0 d hd];exact eP m i
 have st:∀ d,d<n->aM (vf sizes) (DD (List.replicate n (List.replicate n 0,List.replicate m 0))) d=vf sizes d:=λd hd=>by
  unfold aM;rw[if_pos (D0 d hd d)]
 refine⟨⟨⟨by simp,λr hr=>by rw[List.eq_of_mem_replicate hr];simp,λr hr=>by rw[List.eq_of_mem_replicate hr];simp⟩,hs,λi hi=>(hp i hi).2,⟨λi hi=>(hp i hi).1,λd hd i hi=>?_,λd hd i hi=>D0 d hd i,λd hd=>by rw[st d hd];exact Int.dvd_refl _,λd k hn=>?_⟩,λd hd i hi=>?_,λd hd l _ _=>P0 d hd l,λd hd=>?_,λl hl=>by omega⟩,⟨rfl,λj hj=>by omega,λj hj=>by omega,λj hj=>by omega,λj hj=>by omega,λj hj=>by omega,λj hj=>by omega⟩,?_,λj hj=>by omega⟩
 ·rw[D0 d hd i];have:=(hp i hi).1;omega
 ·exact G.ext (by omega) (λi hi=>by rw[D0 d (by omega) i,Int.mul_zero]) (G.zero (by omega))
 ·rw[D0 d hd i,bB (g:=λ_=>0) λl hl=>by rw[P0 d hd l,Int.zero_mul],dR];exact Int.dvd_zero _
 ·rw[rw0 d hd]
  intro x hx
  rw[List.eq_of_mem_replicate hx];exact Nat.two_pow_pos _
 ·rw[aC,Int.one_mul];exact cy λd hd=>st d hd
theorem z6.all(hs:sizes.length=n)(hp:∀ i,i<n->0<vf sizes i/\vf sizes i<=360)(LL:HL n m sizes Ls)(cb:CB c)(hn:n<=6):∀ k,k<=m->z6 n m sizes Ls k (RK c sizes Ls n m k)
 | 0,_=>z6.start hs hp
 | k+1,hk=>(z6.all hs hp LL cb hn k (by omega)).next LL cb hn (by omega)
end
end Rg
namespace Rg
section
variable{n:Nat}{s:bx}{D:Nat->bx}
theorem mG{a b:Int}(h:b∣a)(h1:-b<a)(h2:a<b):a=0:=by
 obtain⟨c,rfl⟩:=h
 rcases Int.lt_trichotomy c 0 with q | q | q
 ·have:b*c<=b*(-1):=Int.mul_le_mul_of_nonneg_left (by omega) (by omega)
  omega
 ·rw[q,Int.mul_zero]
 ·have:b*1<=b*c:=Int.mul_le_mul_of_nonneg_left (by omega) (by omega)
  omega
theorem G.diff(Gd:Good n s D):∀ k d (v:bx),d+k=n->(∀ i,i<n->-(s i)<v i/\v i<s i)->(∀ i,d<=i->i<n->-(aM s D i)<v i/\v i<aM s D i)->G n s D k d v->∀ i,i<n->v i=0
 | 0,d,v,hn,h0,_,g,i,hi=>mG (g i hi) (h0 i hi).1 (h0 i hi).2
 | k+1,d,v,hn,h0,h1,g,i,hi=>by
  have z:=mG g.1 (h1 d (Nat.le_refl _) (by omega)).1 (h1 d (Nat.le_refl _) (by omega)).2
  refine G.diff Gd k (d+1) v (by omega) h0 (λi hi=>h1 i (by omega)) (G.ext (by omega) (λi _=>?_) g.2) i hi
  show v i-v d/aM s D d*D d i=v i
  rw[z];simp
end
end Rg
namespace Rg
def eM(n:Nat)(s:bx)(Q:Int)(w v:bx):Int:=bo n λi=>w i*v i*(Q/s i)
section
variable{n:Nat}{s:bx}{D:Nat->bx}{Q:Int}{w v u:bx}
theorem lK(a b:Int){x:bx}(h:∀ i,i<n->x i=a*v i+b*u i):eM n s Q w x=a*eM n s Q w v+b*eM n s Q w u :=
 gb a b _ _ _ n λi hi=>by rw[h i hi];grind
theorem uW{f:Nat->Int}{q:Int}:∀ {m:Nat},(∀ l,l<m->q∣f l)->q∣bo m f
 | 0,_=>Int.dvd_zero _
 | m+1,h=>Int.dvd_add (uW λl hl=>h l (by omega)) (h m (by omega))
theorem xn(hq:∀ i,i<n->s i∣Q)(h:∀ i,i<n->s i∣v i):Q∣eM n s Q w v:=uW λi hi=>by
 obtain⟨c,hc⟩:=h i hi
 obtain⟨e,he⟩:=hq i hi
 by_cases z:s i=0
 ·rw[hc,z];simp
 ·rw[hc,he,Int.mul_ediv_cancel_left _ z]
  exact⟨w i*c,by grind⟩
theorem um(hq:∀ i,i<n->s i∣Q)(h:∀ i,i<n->s i∣v i-u i):Q∣eM n s Q w v-eM n s Q w u:=by
 have:=lK (s:=s) (Q:=Q) (w:=w) (n:=n) 1 (-1) (v:=v) (u:=u) (x:=λi=>v i-u i) λi _=>by omega
 have h2:=xn (w:=w) hq h
 rw[this] at h2
 rw[show eM n s Q w v-eM n s Q w u=1*eM n s Q w v+-1*eM n s Q w u by omega]
 exact h2
theorem uI(hq:∀ i,i<n->s i∣Q):∀ (k d:Nat) (v:bx),d+k=n->(∀ b,d<=b->b<n->Q∣eM n s Q w (D b))->G n s D k d v->Q∣eM n s Q w v
 | 0,d,v,_,_,g=>xn hq g
 | k+1,d,v,hn,hD,g=>by
  have h1:=uI hq k (d+1) _ (by omega) (λb h1 h2=>hD b (by omega) h2) g.2
  have h2:=hD d (Nat.le_refl _) (by omega)
  have e:=lK (s:=s) (Q:=Q) (w:=w) (n:=n) 1 (v d/aM s D d) (v:=λi=>v i-v d/aM s D d*D d i) (u:=D d) (x:=v) λi _=>by omega
  rw[e]
  exact Int.dvd_add (Int.dvd_trans h1 (Int.dvd_mul_left _ _)) (Int.dvd_trans h2 (Int.dvd_mul_left _ _))
theorem Ct{c:Nat}(hc:c<n){x:Int}{w':bx}(h0:w c=0)(h1:w' c=x)(h2:∀ i,i<n->i≠c->w' i=w i):eM n s Q w' v=eM n s Q w v+x*v c*(Q/s c):=by
 have e1:eM n s Q w' v=1*eM n s Q w v+1*bo n λi=>if i=c then x*v c*(Q/s c) else 0:=gb 1 1 _ _ _ n λi hi=>by
  by_cases z:i=c
  ·rw[z,h1,h0];simp
  ·rw[h2 i hi z];simp[z]
 have e2:=dU c (x*v c*(Q/s c)) n hc (λi=>if i=c then x*v c*(Q/s c) else 0) λ_ _=>rfl
 rw[e1,e2];omega
theorem tV(h:∀ i,i<n->w i*v i=0):eM n s Q w v=0:=by
 unfold eM
 rw[bB (g:=λ_=>0) λi hi=>by rw[h i hi];simp,dR]
def eK(s:bx)(D:Nat->bx)(d:Nat):Int:=s d/aM s D d
theorem iy(g:Good n s D){d:Nat}(h:d<n):eK s D d*aM s D d=s d/\0<eK s D d/\eK s D d<=s d:=by
 have p:=g.pos h
 obtain⟨c,hc⟩:=g.dv d h
 have e:eK s D d=c:=by unfold eK;rw[hc,Int.mul_ediv_cancel_left _ (by omega)]
 have sp:=g.sp d h
 have c0:0<c:=by
  rcases Int.lt_trichotomy c 0 with q | q | q
  ·have:=Int.mul_neg_of_pos_of_neg p.1 q;omega
  ·rw[q] at hc;omega
  ·exact q
 refine⟨by rw[e,hc,Int.mul_comm],by omega,?_⟩
 rw[e]
 have:1*c<=aM s D d*c:=Int.mul_le_mul_of_nonneg_right (by omega) (by omega)
 omega
structure Wk (n:Nat) (s:bx) (D:Nat->bx) (Q:Int) (dial a:Nat) (w:bx):Prop where
 beh:∀ i,dial<i->i<n->w i=0
 at_:w dial=eK s D dial%s dial
 ah:∀ i,a<=i->i<dial->0<=w i/\w i<eK s D i
 no:∀ i,i<a->w i=0
 kill:∀ b,a<=b->b<n->Q∣eM n s Q w (D b)
theorem Wk.start(g:Good n s D)(hq:∀ i,i<n->s i∣Q){dial:Nat}(hd:dial<n){w:bx}(h:∀ i,i<n->w i=if i=dial then eK s D dial%s dial else 0):Wk n s D Q dial dial w where
 beh:=λi h1 h2=>by rw[h i h2,if_neg (by omega)]
 at_:=by rw[h dial hd,if_pos rfl]
 ah:=λi h1 h2=>by omega
 no:=λi hi=>by rw[h i (by omega),if_neg (by omega)]
 kill:=λb h1 h2=>by
  by_cases z:b=dial
  ·subst z
   obtain⟨f1,f2,f3⟩:=iy g h2
   obtain⟨e,he⟩:=hq b h2
   obtain⟨x,hx⟩:=g.diag h2
   obtain⟨y,hy⟩:=dI (eK s D b) (s b)
   have sp:=g.sp b h2
   have e1:eM n s Q w (D b)=1*bo n (λi=>if i=b then (eK s D b%s b)*D b b*(Q/s b) else 0)+0*0:=by
    have:=gb 1 0 (λi=>if i=b then (eK s D b%s b)*D b b*(Q/s b) else 0) (λ_=>0) (λi=>w i*D b i*(Q/s i)) n λi hi=>by
     rw[h i hi]
     by_cases z:i=b
     ·subst z;simp
     ·simp[z]
    rw[show eM n s Q w (D b)=bo n λi=>w i*D b i*(Q/s i) from rfl,this];omega
   rw[e1,dU b _ n h2 _ λ_ _=>rfl,he,Int.mul_ediv_cancel_left _ (by omega)]
   have hy':eK s D b%s b=eK s D b+s b*y:=by omega
   have Pz:D b b=aM s D b+s b*x:=by omega
   refine⟨1+eK s D b*x+y*D b b,?_⟩
   rw[hy',Pz]
   generalize eK s D b=F at *
   generalize aM s D b=T at *
   generalize s b=S at *
   subst f1
   grind
  ·rw[tV λi hi=>?_]
   ·exact Int.dvd_zero _
   ·rcases Nat.lt_or_ge i b with q | q
    ·rw[g.rj b h2 i q];simp
    ·rw[h i hi,if_neg (by omega)];simp
theorem Wk.next(g:Good n s D)(hQ:0<Q)(hq:∀ i,i<n->s i∣Q){dial c:Nat}(hd:dial<n){w w':bx}(W:Wk n s D Q dial (c+1) w)(hc:c<dial)(h1:w' c=-(eM n s Q w (D c)%Q/(Q/eK s D c))%eK s D c)(h2:∀ i,i<n->i≠c->w' i=w i):Wk n s D Q dial c w':=by
 obtain⟨f1,f2,f3⟩:=iy g (show c<n by omega)
 obtain⟨e,he⟩:=hq c (by omega)
 have sp:=g.sp c (by omega)
 have sh:Q/eK s D c=aM s D c*e:=by
  rw[he,← f1,Int.mul_assoc,Int.mul_ediv_cancel_left _ (by omega)]
 have hs:Q/s c=e:=by rw[he,Int.mul_ediv_cancel_left _ (by omega)]
 have fQ:eK s D c*(aM s D c*e)=Q:=by rw[← Int.mul_assoc,f1,he]
 have sh0:0<aM s D c*e:=by
  rcases Int.lt_trichotomy (aM s D c*e) 0 with q | q | q
  ·have:=Int.mul_neg_of_pos_of_neg f2 q;omega
  ·rw[q] at fQ;omega
  ·exact q
 have cl:=g.IM c (n-(c+1)) (by omega)
 have k1:=uI (w:=w) hq (n-(c+1)) (c+1) _ (by omega) (λb h1 h2=>W.kill b h1 h2) cl
 rw[lK (s:=s) (Q:=Q) (w:=w) (n:=n) (eK s D c) 0 (v:=D c) (u:=D c) (x:=λi=>s c/aM s D c*D c i) λi _=>by unfold eK;omega] at k1
 obtain⟨x,hx⟩:=k1
 have dv:(aM s D c*e)∣eM n s Q w (D c):=⟨x,by
  have:eK s D c*eM n s Q w (D c)=eK s D c*(aM s D c*e*x):=by
   rw[← Int.mul_assoc,fQ];omega
  exact Int.eq_of_mul_eq_mul_left (by omega) this⟩
 have ed:=Int.emod_def (eM n s Q w (D c)) Q
 have dv2:(aM s D c*e)∣eM n s Q w (D c)%Q:=by
  rw[ed]
  exact Int.dvd_sub dv (Int.dvd_trans ⟨eK s D c,by rw[Int.mul_comm];exact fQ.symm⟩ (Int.dvd_mul_right _ _))
 obtain⟨q,NQ⟩:=dv2
 rw[sh] at h1
 have eq1:eM n s Q w (D c)%Q/(aM s D c*e)=q:=by rw[NQ,Int.mul_ediv_cancel_left _ (by omega)]
 rw[eq1] at h1
 obtain⟨y,hy⟩:=dI (-q) (eK s D c)
 obtain⟨z,hz⟩:=g.diag (show c<n by omega)
 refine⟨λi a b=>?_,?_,λi a b=>?_,λi a=>?_,λb a1 a2=>?_⟩
 ·rw[h2 i b (by omega)];exact W.beh i a b
 ·rw[h2 dial hd (by omega)];exact W.at_
 ·by_cases q2:i=c
  ·rw[q2,h1]
   exact⟨Int.emod_nonneg _ (by omega),Int.emod_lt_of_pos _ f2⟩
  ·rw[h2 i (by omega) q2];exact W.ah i (by omega) b
 ·rw[h2 i (by omega) (by omega)];exact W.no i (by omega)
 ·rw[Ct (w:=w) (show c<n by omega) (W.no c (by omega)) rfl h2]
  by_cases q2:b=c
  ·subst q2
   rw[hs]
   have e1:w' b=-q+eK s D b*y:=by omega
   have e2:D b b=aM s D b+s b*z:=by omega
   have e3:eM n s Q w (D b)=Q*(eM n s Q w (D b)/Q)+aM s D b*e*q:=by omega
   refine⟨eM n s Q w (D b)/Q+y+w' b*z,?_⟩
   rw[e2]
   generalize eM n s Q w (D b)/Q=p at *
   rw[e3,e1]
   generalize eK s D b=F at *
   generalize aM s D b=T at *
   generalize s b=S at *
   subst f1
   rw[he]
   grind
  ·rw[g.rj b a2 c (by omega)]
   simp only[Int.mul_zero,Int.zero_mul,Int.add_zero]
   exact W.kill b (by omega) a2
theorem Wk.first(g:Good n s D)(hQ:0<Q)(hq:∀ i,i<n->s i∣Q){dial:Nat}(hd:dial<n){w l:bx}(W:Wk n s D Q dial 0 w)(l0:∀ i,i<dial->l i=0)(l1:0<l dial)(l2:l dial<aM s D dial):¬ Q∣eM n s Q w l:=by
 obtain⟨f1,f2,f3⟩:=iy g hd
 obtain⟨e,he⟩:=hq dial hd
 have sp:=g.sp dial hd
 have lt:eK s D dial<s dial:=by
  rcases Int.lt_or_eq_of_le f3 with q | q
  ·exact q
  ·rw[q] at f1
   have:aM s D dial=1:=by
    have:s dial*aM s D dial=s dial*1:=by rw[Int.mul_one];exact f1
    exact Int.eq_of_mul_eq_mul_left (by omega) this
   omega
 have wd:w dial=eK s D dial:=by rw[W.at_,Int.emod_eq_of_lt (by omega) lt]
 have e1:eM n s Q w l=bo n (λi=>if i=dial then eK s D dial*l dial*e else 0):=bB λi hi=>by
  by_cases z:i=dial
  ·rw[z,wd,he,Int.mul_ediv_cancel_left _ (by omega)];simp
  ·rcases Nat.lt_or_ge i dial with q | q
   ·rw[l0 i q];simp[z]
   ·rw[W.beh i (by omega) hi];simp[z]
 rw[e1,dU dial _ n hd _ λ_ _=>rfl]
 rintro⟨c,hc⟩
 have e0:0<e:=by
  rcases Int.lt_trichotomy e 0 with q | q | q
  ·have:=Int.mul_neg_of_pos_of_neg sp q;omega
  ·rw[q] at he;omega
  ·exact q
 have e2:eK s D dial*e*l dial=eK s D dial*e*(aM s D dial*c):=by
  rw[he,← f1] at hc
  grind
 have e3:l dial=aM s D dial*c:=Int.eq_of_mul_eq_mul_left (by
  have:=Int.mul_pos f2 e0;omega) e2
 have:=i7 (a:=l dial) (b:=aM s D dial) (by omega) l2 ⟨c,e3⟩
 omega
end
end Rg
namespace Rg
section
variable{n:Nat}{s:bx}{D:Nat->bx}{Q:Int}
theorem cn(w v:bx):eM n s Q w v=eM n s Q v w:=bB λi _=>by rw[Int.mul_comm (w i)]
theorem FJ{u:bx}(g:Good n s D){d:Nat}(hd:d<n)(z:∀ i,d<i->i<n->u i=0):eM n s Q u (D d)=u d*D d d*(Q/s d) :=
 dU d _ n hd _ λi hi=>by
  by_cases e:i=d
  ·rw[e];simp
  ·rcases Nat.lt_or_ge i d with q | q
   ·rw[g.rj d hd i q];simp[e]
   ·rw[z i (by omega) hi];simp[e]
theorem yB(hQ:0<Q){x:Int}(hx:0<x)(h:x∣Q):0<Q/x/\Q=x*(Q/x):=by
 obtain⟨c,hc⟩:=h
 have e:Q/x=c:=by rw[hc,Int.mul_ediv_cancel_left _ (by omega)]
 refine⟨?_,by rw[e];exact hc⟩
 rw[e]
 rcases Int.lt_trichotomy c 0 with q | q | q
 ·have:=Int.mul_neg_of_pos_of_neg hx q;omega
 ·rw[q] at hc;omega
 ·exact q
theorem Dw{u:bx}(g:Good n s D)(hQ:0<Q)(hq:∀ i,i<n->s i∣Q){d:Nat}(hd:d<n)(z:∀ i,d<i->i<n->u i=0)(k:Q∣eM n s Q u (D d)):eK s D d∣u d:=by
 obtain⟨f1,f2,f3⟩:=iy g hd
 have p:=g.pos hd
 by_cases h0:D d d=0
 ·have e1:aM s D d=s d:=by unfold aM;rw[if_pos h0]
  have e2:eK s D d=1:=by
   have:eK s D d*s d=1*s d:=by rw[e1] at f1;omega
   exact Int.eq_of_mul_eq_mul_right (by have:=g.sp d hd;omega) this
  rw[e2];exact Int.one_dvd _
 ·have e1:D d d=aM s D d:=by unfold aM;rw[if_neg h0]
  rw[FJ g hd z,e1] at k
  obtain⟨e0,eq⟩:=yB hQ (g.sp d hd) (hq d hd)
  obtain⟨c,hc⟩:=k
  generalize Q/s d=e at *
  refine⟨c,?_⟩
  have:aM s D d*e*u d=aM s D d*e*(eK s D d*c):=by
   rw[eq,← f1] at hc
   grind
  exact Int.eq_of_mul_eq_mul_left (by have:=Int.mul_pos p.1 e0;omega) this
variable{W:Nat->bx}
theorem wI(hq:∀ i,i<n->s i∣Q){m:Nat}{A:Nat->bx}{P v w:bx}(hA:∀ l,l<m->Q∣eM n s Q w (A l))(h:∀ i,i<n->s i∣v i-bo m λl=>P l*A l i):Q∣eM n s Q w v:=by
 have c1:=um (n:=n) (s:=s) (Q:=Q) (w:=w) hq h
 have key:∀ k,k<=m->Q∣eM n s Q w (λi=>bo k λd=>P d*A d i):=λk=>by
  induction k with
  | zero =>
   intro _
   rw[tV λi _=>by simp[bo]];exact Int.dvd_zero _
  | succ k ih =>
   intro hm
   have l1:=lK (n:=n) (s:=s) (Q:=Q) (w:=w) 1 (P k) (v:=λi=>bo k λd=>P d*A d i) (u:=A k) (x:=λi=>bo (k+1) λd=>P d*A d i) λi _=>by simp[bo]
   rw[l1]
   exact Int.dvd_add (Int.dvd_mul_of_dvd_right (ih (by omega))) (Int.dvd_mul_of_dvd_right (hA k (by omega)))
 have:=Int.dvd_add c1 (key m (Nat.le_refl _))
 rw[Int.sub_add_cancel] at this
 exact this
theorem B6(hq:∀ i,i<n->s i∣Q)(hW:∀ d,d<n->Wk n s D Q d 0 (W d)){t u:bx}(h:∀ i,i<n->s i∣u i-bo n λd=>t d*W d i){b:Nat}(hb:b<n):Q∣eM n s Q u (D b):=by
 rw[cn]
 exact wI hq (λd hd=>by rw[cn];exact(hW d hd).kill b (Nat.zero_le _) hb) h
end
end Rg
namespace Rg
section
variable{n:Nat}{s:bx}{D D':Nat->bx}{Q:Int}{W:Nat->bx}
theorem fE(hq:∀ i,i<n->s i∣Q){u x y:bx}{a b:Int}(h:∀ i,i<n->s i∣u i-(a*x i+b*y i)){v:bx}(hx:Q∣eM n s Q x v)(hy:Q∣eM n s Q y v):Q∣eM n s Q u v:=by
 rw[cn] at hx hy ⊢
 have c:=um (n:=n) (s:=s) (Q:=Q) (w:=v) hq h
 rw[lK a b (v:=x) (u:=y) (x:=λi=>a*x i+b*y i) λ_ _=>rfl] at c
 have:=Int.dvd_add c (Int.dvd_add (Int.dvd_mul_of_dvd_right (a:=Q) (b:=a) hx) (Int.dvd_mul_of_dvd_right (b:=b) hy))
 rwa [Int.sub_add_cancel] at this
theorem kQ(g:Good n s D)(hQ:0<Q)(hq:∀ i,i<n->s i∣Q)(hW:∀ d,d<n->Wk n s D Q d 0 (W d)):∀ j,j<=n->∀ u:bx,(∀ i,j<=i->i<n->u i=0)->(∀ b,b<n->Q∣eM n s Q u (D b))->∃ t:bx,(∀ d,j<=d->t d=0)/\∀ i,i<n->s i∣u i-bo n λd=>t d*W d i
 | 0,_,u,z,_=>⟨λ_=>0,λ_ _=>rfl,λi hi=>by
   rw[z i (by omega) hi,bB (g:=λ_=>0) λd _=>by simp,dR];exact⟨0,by simp⟩⟩
 | j+1,hj,u,z,k=>by
  have hjn:j<n:=by omega
  obtain⟨q,NQ⟩:=Dw g hQ hq hjn (λi h1 h2=>z i (by omega) h2) (k j hjn)
  have w:=hW j hjn
  have eu:∀ i,i<n->s i∣(if i<j then u i-q*W j i else 0)-(1*u i+(-q)*W j i):=λi hi=>by
   rcases Nat.lt_trichotomy i j with c | c | c
   ·rw[if_pos c];exact⟨0,by rw[Int.neg_mul];omega⟩
   ·subst c
    rw[if_neg (by omega),w.at_,NQ]
    obtain⟨x,hx⟩:=l5 (eK s D i) (s i)
    refine⟨-(q*x),?_⟩
    rw[show eK s D i%s i=eK s D i-s i*x by omega]
    generalize eK s D i=r
    grind
   ·rw[if_neg (by omega),z i (by omega) hi,w.beh i c hi];exact⟨0,by simp⟩
  obtain⟨t,t0,ht⟩:=kQ g hQ hq hW j (by omega) (λi=>if i<j then u i-q*W j i else 0) (λi h1 _=>if_neg (by omega)) λb hb=>fE hq eu (k b hb) (w.kill b (Nat.zero_le _) hb)
  refine⟨λd=>if d=j then q else t d,λd hd=>by show (if d=j then q else t d)=0;rw[if_neg (by omega)];exact t0 d (by omega),λi hi=>?_⟩
  have e:bo n (λd=>(if d=j then q else t d)*W d i)=1*bo n (λd=>t d*W d i)+1*bo n (λd=>if d=j then q*W j i else 0):=gb 1 1 _ _ _ n λd hd=>by
   by_cases x:d=j
   ·subst x;simp[t0 d (Nat.le_refl _)]
   ·simp[x]
  rw[dU j (q*W j i) n hjn (λd=>if d=j then q*W j i else 0) λ_ _=>rfl] at e
  obtain⟨a,ha⟩:=eu i hi
  obtain⟨b,hb⟩:=ht i hi
  refine⟨b-a,?_⟩
  rw[Int.mul_sub,← ha,← hb,e,Int.neg_mul]
  omega
theorem C4(g:Good n s D)(hQ:0<Q)(hq:∀ i,i<n->s i∣Q)(hW:∀ d,d<n->Wk n s D Q d 0 (W d)){J:Nat->bx}(pos:∀ j,j<n->0<J j j)(zero:∀ j,j<n->∀ l,j<l->l<n->J j l=0)(oQ:∀ j,j<n->Led n s n W (λ_=>0) (J j))
  (ord:∀ j,j<n->∀ P:bx,Zf (j+1) n P->Led n s n W (λ_=>0) P->J j j∣P j):∀ j,j<n->J j j=aM s D j:=λj hj=>by
 have w:=hW j hj
 obtain⟨f1,f2,f3⟩:=iy g hj
 have p:=g.pos hj
 obtain⟨x,hx⟩:=l5 (eK s D j) (s j)
 refine Int.dvd_antisymm (by have:=pos j hj;omega) (by omega) ?_ ?_
 ·have eu:∀ i,i<n->s i∣(if i<j then aM s D j*W j i else 0)-(aM s D j*W j i+0*W j i):=λi hi=>by
   rcases Nat.lt_trichotomy i j with c | c | c
   ·rw[if_pos c];exact⟨0,by omega⟩
   ·subst c
    rw[if_neg (by omega),w.at_]
    refine⟨aM s D i*x-1,?_⟩
    rw[show eK s D i%s i=eK s D i-s i*x by omega]
    grind
   ·rw[if_neg (by omega),w.beh i c hi];exact⟨0,by simp⟩
  obtain⟨t,t0,ht⟩:=kQ g hQ hq hW j (by omega) (λi=>if i<j then aM s D j*W j i else 0) (λi h1 _=>if_neg (by omega)) λb hb=>fE hq eu (w.kill b (Nat.zero_le _) hb) (w.kill b (Nat.zero_le _) hb)
  have:=ord j hj (λd=>(if d=j then aM s D j else 0)-t d) (λl h1 _=>by show (if l=j then aM s D j else 0)-t l=0;rw[if_neg (by omega),t0 l (by omega)];rfl) λi hi=>by
   have e:bo n (λd=>((if d=j then aM s D j else 0)-t d)*W d i)=(-1)*bo n (λd=>t d*W d i)+1*bo n (λd=>if d=j then aM s D j*W j i else 0):=gb (-1) 1 _ _ _ n λd hd=>by
    by_cases y:d=j
    ·subst y;simp[t0 d (Nat.le_refl _)]
    ·simp[y,Int.neg_mul]
   rw[dU j (aM s D j*W j i) n hj (λd=>if d=j then aM s D j*W j i else 0) λ_ _=>rfl] at e
   obtain⟨a,ha⟩:=eu i hi
   obtain⟨b,hb⟩:=ht i hi
   refine⟨a-b,?_⟩
   show 0-bo n (λd=>((if d=j then aM s D j else 0)-t d)*W d i)=_
   rw[Int.mul_sub,← ha,← hb,e]
   omega
  simp only[if_pos,t0 j (Nat.le_refl _),Int.sub_zero] at this
  exact this
 ·obtain⟨y,hy⟩:=oQ j hj j hj
  rw[dU j (J j j*W j j) n hj _ λl hl=>by
   rcases Nat.lt_trichotomy l j with c | c | c
   ·rw[(hW l hl).beh j c hj,if_neg (by omega)];simp
   ·subst c;rw[if_pos rfl]
   ·rw[zero j hj l c hl,if_neg (by omega)];simp] at hy
  rw[w.at_,show eK s D j%s j=eK s D j-s j*x by omega] at hy
  refine⟨J j j*x-y,?_⟩
  have:eK s D j*J j j=eK s D j*(aM s D j*(J j j*x-y)):=by
   rw[← Int.mul_assoc,f1];grind
  exact Int.eq_of_mul_eq_mul_left (by omega) this
theorem vZ(g':Good n s D')(h:∀ d,d<n->G n s D' n 0 (D d)):∀ k d (v:bx),d+k=n->G n s D k d v->G n s D' n 0 v
 | 0,d,v,_,hv=>g'.kT (by omega) (λi hi=>by rw[Int.sub_zero];exact hv i hi) (G.zero (by omega))
 | k+1,d,v,hn,hv=>by
  have a:=vZ g' h k (d+1) _ (by omega) hv.2
  exact G.ext (by omega) (λi _=>by omega) (G.add (by omega) a (G.mul (v d/aM s D d) (by omega) (h d (by omega))))
theorem G.at_{j:Nat}:∀ {k d:Nat} {v:bx},G n s D k d v->(∀ i,d<=i->i<j->v i=0)->d<=j->j<d+k->aM s D j∣v j
 | 0,d,v,_,_,h1,h2=>by omega
 | k+1,d,v,g,h0,h1,h2=>by
  rcases Nat.lt_or_eq_of_le h1 with q | q
  ·have z:=h0 d (Nat.le_refl _) q
   have e:(λi=>v i-v d/aM s D d*D d i)=v:=by funext i;rw[z];simp
   have g2:=g.2
   rw[e] at g2
   exact G.at_ g2 (λi a b=>h0 i (by omega) b) (by omega) (by omega)
  ·subst q;exact g.1
theorem xo(g:Good n s D)(g':Good n s D')(h:∀ d,d<n->G n s D n 0 (D' d)){d:Nat}(hd:d<n):aM s D d∣aM s D' d:=by
 have a:=G.at_ (h d hd) (j:=d) (λi _ hi=>g'.rj d hd i hi) (Nat.zero_le _) (by omega)
 have e:aM s D' d=if D' d d=0 then s d else D' d d:=rfl
 rw[e]
 split
 ·exact g.dv d hd
 ·exact a
theorem vC(g:Good n s D)(g':Good n s D')(h:∀ d,d<n->G n s D n 0 (D' d))(h':∀ d,d<n->G n s D' n 0 (D d)):∀ d,d<n->aM s D d=aM s D' d:=λd hd =>
 Int.dvd_antisymm (by have:=g.pos hd;omega) (by have:=g'.pos hd;omega) (xo g g' h hd) (xo g' g h' hd)
end
end Rg
namespace vk
open PySem L2 PyProof.Rows Rg
local macro_rules | `(tactic| dsimp? [$ts,*])=>`(tactic| simp only[cI,bq,ax,k8,ao,tQ,tP,retS,br,qa,kJ,jo,aq,M.aO,M.bind_some,M.bind_none,M.AO,M.bind_assoc,ae,ak,af,aa,aj,CV,Dl,GC,Hz,Hw,Hh,GY,Fd,Fi,FD,Gk,GV,GJ,G1,Fy,FZ,ee,hZ,Hv,Ci,GW,B5,LJ,yn,kB,IL,kS,Dx,itemsOf,jH,Du,Cp,yG,DM,C9,Aw,zZ,BJ,CU,C6,Bs,tM,Bl,dy,dq,xu,Gs,List.length_cons,List.length_nil,List.map_cons,List.map_nil,List.cons_append,List.nil_append,List.replicate,List.getElem?_cons_zero,List.getElem?_cons_succ,List.getElem?_nil,List.set_cons_zero,List.set_cons_succ,List.set_nil,Nat.reduceAdd,Nat.reduceSub,if_true,if_false,Bool.not_true,Bool.not_false,Bool.false_eq_true,ite_true,ite_false,reduceIte,reduceCtorEq,Nat.sub_self,kY,cM,cw,Option.map_some,Option.map_none,EI,Fu,GD,D4,DA,DG,F6,Ef,C1,CT,qp,List.any_cons,List.any_nil,String.reduceBEq,Bool.or_false,Bool.or_true,Bool.true_or,Bool.false_or,Bool.and_true,Bool.and_false,Bool.true_and,Bool.false_and,CW,DT,Gj,GO,Dy,Dq,Ds,Dr,zu,Ah,i_,qg,List.foldl_cons,List.foldl_nil,sR,av trivial,$(⟨ts.elemsAndSeps⟩),*])
theorem lZ(i:Int):fq [.int i]=M.ok (.bl true):=by rfl
theorem xi{α:Type}{inj:α->PV}{h:α->Bool}{p:PV}(xs:List α)(n:Int)(hp:p=.tup (xs.map inj)\/p=.lst (xs.map inj))(H:∀ a∈xs,fq [inj a]=M.ok (.bl (h a)))(hz:xs.length<=sizeLine):f9 [p,.int n]=M.ok (.bl (decide ((xs.length:Int)=n)&&xs.all h)):=by
 have key:bJ (bX 0) none (af fq (aa (ae 0) aj)) (xs.map inj) [none]=M.ok (xs.map λa=>.bl (h a)):=fu xs λa ha=>by dsimp? [H a ha]
 have key2:tW [.lst (xs.map λa=>.bl (h a))]=M.ok (.bl (xs.all h)):=by
  have:=tN (xs.map h)
  rw[List.map_map] at this
  rw[show (λa=>PV.bl (h a))=PV.bl∘h from rfl,this]
  simp[List.all_map]
 unfold f9 jU
 rcases hp with rfl | rfl
 all_goals
  dsimp? [List.length_map]
  by_cases e:(xs.length:Int)=n
  ·simp only[e,decide_true,Bool.not_true,M.aO,Bool.false_eq_true,if_false,tQ,Bool.true_and]
   dsimp? [List.length_map,av hz,key,key2]
  ·simp only[e,decide_false,Bool.not_false,M.aO,if_true,tP,Bool.false_and]
   dsimp? []
theorem zz(xs:List Int)(n:Int)(hz:xs.length<=sizeLine):f9 [tI xs,.int n]=M.ok (.bl (decide ((xs.length:Int)=n))):=by
 exact(xi (p:=tI xs) (h:=λ_=>true) xs n (.inl rfl) (λa _=>lZ a) hz).trans (by rw[List.all_eq_true.mpr λ_ _=>rfl,Bool.and_true])
theorem GK(xs:List Int)(n:Int)(hz:xs.length<=sizeLine):f9 [lI xs,.int n]=M.ok (.bl (decide ((xs.length:Int)=n))):=by
 exact(xi (p:=lI xs) (h:=λ_=>true) xs n (.inr rfl) (λa _=>lZ a) hz).trans (by rw[List.all_eq_true.mpr λ_ _=>rfl,Bool.and_true])
theorem Jr{f:List Int->PV}(hf:f=tI\/f=lI)(xs:List Int)(n:Int)(hz:xs.length<=sizeLine):f9 [f xs,.int n]=M.ok (.bl (decide ((xs.length:Int)=n))):=by
 rcases hf with rfl | rfl
 ·exact zz xs n hz
 ·exact GK xs n hz
theorem Ei{f:List Int->PV}(hf:f=tI\/f=lI)(xs:List Int):bO (f xs)=some (xs.map PV.int):=by rcases hf with rfl | rfl <;> rfl
theorem within_int(x a b:Int):dD [.int x,.int a,.int b]=M.ok (.bl (decide (a<=x/\x<=b))):=by
 unfold dD eJ
 dsimp? [lZ]
 by_cases h:a<=x
 ·simp only[h,decide_true,if_true,true_and];dsimp? []
 ·simp only[h,decide_false,false_and];dsimp? []
theorem i8{p:PV}{xs:List PV}(h:bO p=some xs):rM p=M.ok (.int xs.length):=by
 cases p <;> first | (cases h;rfl) | cases h
theorem p7{p:PV}(xs:List Int)(hp:bO p=some (xs.map PV.int))(h1:1<=xs.length)(h6:xs.length<=6)(hx:∀ x∈xs,2<=x/\x<=360):gJ [p]=M.ok .cp:=by
 unfold gJ gK
 have a1:¬ (6:Int)<xs.length:=by omega
 have a2:¬ (xs.length:Int)=0:=by omega
 dsimp? [a1,a2,decide_false,i8 hp,List.length_map,sQ xs hp]
 refine fH xs.zipIdx (λzs env=>(∃ b c,env=[some (.sh p),b,c])/\∀ z∈zs,2<=z.1/\z.1<=360) ⟨⟨_,_,rfl⟩,λz hz=>hx z.1 (List.fst_mem_of_mem_zipIdx hz)⟩ ?_ ?_
 ·rintro⟨a,i⟩ r env ⟨⟨b,c,rfl⟩,hz⟩
  have ha:=hz (a,i) List.mem_cons_self
  refine⟨_,[some (.sh p),some (.sh (.int i)),some (.sh (.int a))],rfl,?_,⟨_,_,rfl⟩,λz N5=>hz z (List.mem_cons_of_mem _ N5)⟩
  dsimp? [within_int,ha,and_self,decide_true]
 ·rintro L8 ⟨⟨b,c,rfl⟩,_⟩;rfl
theorem oB{f:List Int->PV}(hf:f=tI\/f=lI)(n:Nat)(xs:List (List Int))(h8:xs.length<=8)(hx:∀ x∈xs,x.length=n)(hn:n<=100):fW [.lst (xs.map f),.int n]=M.ok .cp:=by
 unfold fW f7
 have a1:¬ (8:Int)<xs.length:=by omega
 dsimp? [a1,decide_false,List.length_map,nX]
 refine fH xs.zipIdx (λzs env=>(∃ b c,env=[some (.sh (.lst (xs.map f))),some (.sh (.int n)),b,c])/\∀ z∈zs,z.1.length=n) ⟨⟨_,_,rfl⟩,λz hz=>hx z.1 (List.fst_mem_of_mem_zipIdx hz)⟩ ?_ ?_
 ·rintro⟨a,i⟩ r env ⟨⟨b,c,rfl⟩,hz⟩
  have ha:a.length=n:=hz (a,i) List.mem_cons_self
  refine⟨_,[some (.sh (.lst (xs.map f))),some (.sh (.int n)),some (.sh (.int i)),some (.sh (f a))],rfl,?_,⟨_,_,rfl⟩,λz N5=>hz z (List.mem_cons_of_mem _ N5)⟩
  dsimp? [Jr hf a n (aL (by omega)),ha,decide_true]
 ·rintro L8 ⟨⟨b,c,rfl⟩,_⟩;rfl
theorem pd(n:Nat)(p:PV):(List.replicate n [p]).flatten=List.replicate n p:=by
 induction n with
 | zero=>rfl
 | succ n ih=>rw[List.replicate_succ,List.flatten_cons,ih];rfl
theorem mul_one(p:PV)(n:Nat)(h8:n<=1000):bR (.tup [p]) (.int (n:Int))=M.ok (.tup (List.replicate n p)):=by
 have h2:[p].length*(n:Int).toNat<=sizeLine:=by
  rw[Int.toNat_natCast]
  exact aL (by show 1*n<=1000;omega)
 have h3:(n:Int)<2^63:=Int.lt_of_le_of_lt (Int.ofNat_le.mpr h8) (by decide)
 have h4:-(2^63)<=(n:Int):=Int.le_trans (by decide) (Int.natCast_nonneg n)
 rw[bR,av ⟨rfl,h4,h3,h2⟩,Int.toNat_natCast,pd]
theorem ko(xs:List PV)(h8:xs.length<=8):gP [.lst xs,.cp]=M.ok (tI (List.replicate xs.length 1)):=by
 unfold gP gN
 dsimp? [u5,w8,mul_one (.int 1) xs.length (by omega)]
 rw[tI,List.map_replicate]
def wU(xs sizes:List Int):List Int:=(xs.zip sizes).map λz=>z.1%z.2
theorem uz(p q:PV)(xs sizes:List Int)(hp:bO p=some (xs.map PV.int))(hq:bO q=some (sizes.map PV.int))(hs:∀ s∈sizes,0<s)(hz:xs.length<=1000):kj [p,q]=M.ok (tI (wU xs sizes)):=by
 have key:bJ (bV 0 1) none (ak dh (ae 0) (ae 1)) ((xs.zip sizes).map λz=>.tup [.int z.1,.int z.2]) [none,none]=M.ok ((xs.zip sizes).map λz=>.int (z.1%z.2)):=by
  refine iH (p:=λz:Int×Int=>PV.int z.1) (q:=λz:Int×Int=>PV.int z.2) (xs.zip sizes) λz hz=>?_
  have:=hs z.2 (List.of_mem_zip (a:=z.1) (b:=z.2) hz).2
  dsimp? [bb this]
 unfold kj lG
 have hl:(xs.zip sizes).length<=sizeLine:=by rw[List.length_zip];exact aL (Nat.le_trans (Nat.min_le_left _ _) hz)
 dsimp? [fc xs sizes hp hq,List.length_map,av hl,key]
 rw[tI,wU,List.map_map];rfl
theorem vN(a b c:PV):aB (.tup [a,b,c]) (.int 0)=M.ok a:=aW (j:=0) rfl rfl
theorem Ga(a b c:PV):aB (.tup [a,b,c]) (.int 1)=M.ok b:=aW (j:=1) rfl rfl
theorem E4(a b c:PV):aB (.tup [a,b,c]) (.int 2)=M.ok c:=aW (j:=2) rfl rfl
theorem qE(a b:Int)(ha:a.natAbs<2^60)(hb:b.natAbs<2^60):∃ s t,f_ [.int a,.int b]=M.ok (.tup [.int (Int.gcd a b),.int s,.int t])/\s*a+t*b=Int.gcd a b/\s.natAbs<=b.natAbs+1/\t.natAbs<=a.natAbs+(b.natAbs+1)*a.natAbs+b.natAbs+1:=by
 let J:ai->Prop:=λenv=>∃ r s t r' s' t' x y,env=[some (.sh (.int a)),some (.sh (.int b)),some (.sh ((PV.tup [PV.int r,PV.int s,PV.int t]))),some (.sh ((PV.tup [PV.int r',PV.int s',PV.int t']))),x,y]/\Eu.St a b r s t r' s' t'
 let m:ai->Nat:=λenv=>match env with
  | [_,_,_,some (.sh (.tup [.int r,_,_])),_,_]=>r.natAbs
  | _=>0
 have hk:(b.natAbs+1)*a.natAbs<=2^60*2^60:=Nat.mul_le_mul (by omega) (by omega)
 have hk2:(2:Nat)^60*2^60=2^120:=by decide
 have start:J [some (.sh (.int a)),some (.sh (.int b)),some (.sh ((PV.tup [PV.int a,PV.int 1,PV.int 0]))),some (.sh ((PV.tup [PV.int b,PV.int 0,PV.int 1]))),none,none]:=⟨_,_,_,_,_,_,_,_,rfl,Eu.start a b⟩
 have loop:=yh (u:=ee (ak p6 (ak aB (ae 3) (λ_=>M.ok (.int 0))) (λ_=>M.ok (.int 0)))) (b:=(ao (br 4 (ak bM (ak aB (ae 2) (λ_=>M.ok (.int 0))) (ak aB (ae 3) (λ_=>M.ok (.int 0)))))
  (ao (br 5 (jO (aa (ak kN (ak aB (ae 2) (λ_=>M.ok (.int 0))) (ak bR (ae 4) (ak aB (ae 3) (λ_=>M.ok (.int 0))))) (aa (ak kN (ak aB (ae 2) (λ_=>M.ok (.int 1))) (ak bR (ae 4) (ak aB (ae 3) (λ_=>M.ok (.int 1))))) (aa (ak kN (ak aB (ae 2) (λ_=>M.ok (.int 2))) (ak bR (ae 4) (ak aB (ae 3) (λ_=>M.ok (.int 2))))) aj)))))
  (ao (br 2 (ae 3))
  (ao (br 3 (ae 5))
  aq))))) J m ?_ _ start
 ·obtain⟨L8,e1,⟨r,s,t,r',s',t',x,y,rfl,st⟩,e2⟩:=loop
  have hr':r'=0:=by
   revert e2
   dsimp? [vN]
   intro e2
   have:(!decide (r'=0))=false:=by injection e2 with e2;injection e2
   simpa using this
  subst hr'
  obtain⟨d1,d2⟩:=Eu.done st
  have hg:(r.natAbs:Int)=Int.gcd a b:=by
   have h1:r.natAbs∣Int.gcd a b:=Int.dvd_gcd (Int.natAbs_dvd.mpr d1) (Int.natAbs_dvd.mpr d2)
   have h2:((Int.gcd a b:Nat):Int)∣r:=by
    rw[st.c0]
    exact Int.dvd_add (Int.dvd_trans (Int.gcd_dvd_left ..) (Int.dvd_mul_left _ _)) (Int.dvd_trans (Int.gcd_dvd_right ..) (Int.dvd_mul_left _ _))
   have h3:Int.gcd a b∣r.natAbs:=Int.ofNat_dvd_left.mp h2
   rw[Nat.dvd_antisymm h1 h3]
  unfold f_ jT
  dsimp? []
  rw[e1]
  dsimp? [vN,Ga,E4]
  by_cases hneg:r<0
  ·refine⟨-s,-t,?_,?_,by rw[Int.natAbs_neg];exact st.b0,by rw[Int.natAbs_neg];exact st.d0⟩
   ·simp only[hneg,decide_true,if_true];dsimp? []
    rw[show -r=(Int.gcd a b:Int) by omega]
   ·have:=st.c0
    rw[Int.neg_mul,Int.neg_mul];omega
  ·refine⟨s,t,?_,?_,st.b0,st.d0⟩
   ·simp only[hneg,decide_false,Bool.false_eq_true,if_false];dsimp? []
    rw[show r=(Int.gcd a b:Int) by omega]
   ·have:=st.c0;omega
 ·rintro env ⟨r,s,t,r',s',t',x,y,rfl,st⟩
  by_cases h0:r'=0
  ·refine .inl ?_
   dsimp? [vN]
   simp[h0]
  ·refine .inr ⟨?_,?_⟩
   ·dsimp? [vN]
    simp[h0]
   ·obtain⟨OQ,lt⟩:=Eu.turn st h0
    have b1:=st.m1;have b0:=st.m0;have c1:=st.b1;have c2:=st.d1;have c3:=OQ.m1
    have q1:(r.fdiv r').natAbs<=r.natAbs+1:=by
     obtain⟨f1,f2,f3⟩:=Eu.q_ r r' h0
     generalize r.fdiv r'=q at *
     have e:q*r'=r-(r-q*r'):=by omega
     have e2:(q*r').natAbs<=r.natAbs+(r-q*r').natAbs:=by omega
     rw[Int.natAbs_mul] at e2
     have:q.natAbs*1<=q.natAbs*r'.natAbs:=Nat.mul_le_mul_left _ (by omega)
     rcases Nat.lt_or_ge (r.natAbs+1) q.natAbs with h | h
     ·have h5:(r.natAbs+2)*r'.natAbs<=q.natAbs*r'.natAbs:=Nat.mul_le_mul_right _ (by omega)
      have h6:r.natAbs*1<=r.natAbs*r'.natAbs:=Nat.mul_le_mul_left _ (by omega)
      rw[Nat.add_mul] at h5
      omega
     ·exact h
    have q2:(r.fdiv r').natAbs<2^200:=by omega
    refine⟨[some (.sh (.int a)),some (.sh (.int b)),some (.sh ((PV.tup [PV.int r',PV.int s',PV.int t']))),some (.sh ((PV.tup [PV.int (r-r.fdiv r'*r'),PV.int (s-r.fdiv r'*s'),PV.int (t-r.fdiv r'*t')]))),some (.sh (.int (r.fdiv r'))),some (.sh ((PV.tup [PV.int (r-r.fdiv r'*r'),PV.int (s-r.fdiv r'*s'),PV.int (t-r.fdiv r'*t')])))],?_,⟨_,_,_,_,_,_,_,_,rfl,OQ⟩,lt⟩
    dsimp? [vN,Ga,E4,mh h0 (Nat.lt_of_lt_of_le (show r'.natAbs<2^200 by omega) (Nat.pow_le_pow_right (by decide) (by decide))),bu (k:=200) (l:=200) q2 (show r'.natAbs<2^200 by omega),bu (k:=200) (l:=200) q2 (show s'.natAbs<2^200 by omega),bu (k:=200) (l:=200) q2 (show t'.natAbs<2^200 by omega)]
def R(sizes:List Int):Int:=(Lc.AN (sizes.map Int.toNat):Nat)
structure Sz (sizes:List Int):Prop where
 h1:1<=sizes.length
 h6:sizes.length<=6
 hx:∀ x∈sizes,2<=x/\x<=360
theorem vd{sizes:List Int}(h:Sz sizes):0<R sizes:=by
 refine Int.ofNat_lt.mpr (Lc.lcm_pos λn hn=>?_)
 obtain⟨x,hx,rfl⟩:=List.mem_map.mp hn
 have:=h.hx x hx;omega
theorem IS{sizes:List Int}(h:Sz sizes):R sizes<2^60:=by
 have h1:=Lc.oo 9 (sizes.map Int.toNat) 1 0 (by decide) (by decide) λn hn=>by
  obtain⟨x,hx,rfl⟩:=List.mem_map.mp hn
  have:=h.hx x hx;omega
 have h2:(2:Nat)^(0+9*(sizes.map Int.toNat).length)<=2^54:=Nat.pow_le_pow_right (by decide) (by rw[List.length_map];have:=h.h6;omega)
 have h3:Lc.AN (sizes.map Int.toNat)<=2^54:=Nat.le_trans h1 h2
 unfold R;omega
theorem IV{sizes:List Int}(h:Sz sizes){x:Int}(hx:x∈sizes):x∣R sizes:=by
 have h1:=Lc.lcm_dvd (ns:=sizes.map Int.toNat) (List.mem_map.mpr ⟨x,hx,rfl⟩)
 have h2:=Int.ofNat_dvd.mpr h1
 rw[Int.toNat_of_nonneg (by have:=h.hx x hx;omega)] at h2
 exact h2
structure Acc (sizes r:List Int) (acc:Nat):Prop where
 pos:0<acc
 le:acc<=2^(9*(6-r.length))
 len:r.length<=6
 val:(r.map Int.toNat).foldl Nat.lcm acc=Lc.AN (sizes.map Int.toNat)
 iO:∀ x∈r,2<=x/\x<=360
theorem Acc.start{sizes:List Int}(h:Sz sizes):Acc sizes sizes 1:=⟨by decide,Nat.one_le_two_pow,h.h6,rfl,h.hx⟩
theorem Acc.lt{sizes r:List Int}{acc:Nat}(h:Acc sizes r acc):acc<2^60:=by
 have h2:(2:Nat)^(9*(6-r.length))<=2^54:=Nat.pow_le_pow_right (by decide) (by omega)
 have:=h.le;omega
theorem Acc.turn{sizes r:List Int}{x:Int}{acc:Nat}(h:Acc sizes (x::r) acc):Acc sizes r (Nat.lcm acc x.toNat)/\(acc:Int)/(Int.gcd acc x:Nat)*x=(Nat.lcm acc x.toNat:Nat)/\(acc:Int)/(Int.gcd acc x:Nat)<=acc/\0<Int.gcd acc x:=by
 have hx:=h.iO x List.mem_cons_self
 have hp:=h.pos
 obtain⟨n,rfl⟩:=Int.eq_ofNat_of_zero_le (show 0<=x by omega)
 have hg:Int.gcd (acc:Int) (n:Int)=Nat.gcd acc n:=rfl
 refine⟨⟨Nat.lcm_pos hp (by omega),?_,?_,h.val,λy hy=>h.iO y (List.mem_cons_of_mem _ hy)⟩,?_,?_,?_⟩
 ·have h1:Nat.lcm acc n<=acc*n:=Nat.le_of_dvd (Nat.mul_pos hp (by omega)) (Nat.lcm_dvd (Nat.dvd_mul_right ..) (Nat.dvd_mul_left ..))
  have h2:acc*n<=2^(9*(6-(r.length+1)))*2^9:=Nat.mul_le_mul h.le (by omega)
  have hl:r.length+1<=6:=h.len
  rw[← Nat.pow_add,show 9*(6-(r.length+1))+9=9*(6-r.length) by omega] at h2
  exact Nat.le_trans h1 h2
 ·have hl:r.length+1<=6:=h.len
  omega
 ·rw[hg,Int.toNat_natCast,← Lc.BQ];norm_cast
 ·rw[hg]
  exact Int.ofNat_le.mpr (Nat.div_le_self acc (Nat.gcd acc n))
 ·rw[hg];exact Nat.gcd_pos_of_pos_left _ hp
theorem ia{p:PV}(sizes:List Int)(hp:bO p=some (sizes.map PV.int))(h:Sz sizes):fU [p]=M.ok (.int (R sizes)):=by
 unfold fU fV
 dsimp? [hp]
 refine fH sizes (λr env=>∃ acc x,env=[some (.sh p),some (.sh (.int (acc:Nat))),x]/\Acc sizes r acc) ⟨1,_,rfl,.start h⟩ ?_ ?_
 ·rintro a r env ⟨acc,x,rfl,A⟩
  obtain⟨A2,e1,e2,e3⟩:=A.turn
  have l1:=A.lt
  have ha:=A.iO a List.mem_cons_self
  obtain⟨s,t,ec,_,_,_⟩:=qE (acc:Int) a (by omega) (by omega)
  have g1:Int.gcd acc a<=acc:=Nat.le_of_dvd A.pos (Int.ofNat_dvd.mp (Int.gcd_dvd_left ..))
  have d0:0<=(acc:Int)/(Int.gcd acc a:Nat):=Int.ediv_nonneg (by omega) (by omega)
  refine⟨_,[some (.sh p),some (.sh (.int (Nat.lcm acc a.toNat:Nat))),some (.sh (.int a))],rfl,?_,_,_,rfl,A2⟩
  dsimp? [ec,vN,aT (i:=(acc:Int)) (show (0:Int)<(Int.gcd acc a:Nat) by omega) (show ((Int.gcd acc a:Nat):Int)<2^64 by omega),bu (k:=64) (l:=64) (show ((acc:Int)/(Int.gcd acc a:Nat)).natAbs<2^64 by omega) (show a.natAbs<2^64 by omega),e1]
 ·rintro L8 ⟨acc,x,rfl,A⟩
  dsimp? []
  have:=A.val
  rw[R,← this];rfl
def oS(sizes:List Int)(levers:List (List Int)):List (Str×PV):=[("dial_sizes", tI sizes),("lever_settings", .tup (levers.map tI)),("lever_prices", tI (List.replicate levers.length 1)),("least_round", .int (R sizes))]
def cx(sizes:List Int)(levers:List (List Int)):PV:=.obj ar (oS sizes levers)
structure Cg (sizes xs:List Int):Prop where
 len:xs.length=sizes.length
 iO:∀ z∈xs.zip sizes,0<=z.1/\z.1<z.2
theorem o4{sizes xs:List Int}(h:Cg sizes xs):wU xs sizes=xs:=by
 obtain⟨hl,hr⟩:=h
 unfold wU
 induction xs generalizing sizes with
 | nil=>rfl
 | cons x r ih =>
  cases sizes with
  | nil=>cases hl
  | cons s t =>
   have h1:=hr (x,s) (by simp)
   rw[List.zip_cons_cons,List.map_cons,ih (Nat.succ.inj hl) λz hz=>hr z (by rw[List.zip_cons_cons];exact List.mem_cons_of_mem _ hz)]
   rw[show ((x,s):Int×Int).1%((x,s):Int×Int).2=x from Int.emod_eq_of_lt h1.1 h1.2]
theorem tK(f:Str)(p:PV):∀ fs:List (Str×PV),(sU f p fs).length<=fs.length+1
 | []=>by simp[sU]
 | (g,q)::r=>by
  have:=tK f p r
  unfold sU
  split
  ·simp
  ·simp;omega
theorem jm{f:Str}{p:PV}{fs:List (Str×PV)}{n:Nat}(h:fs.length<=n):(sU f p fs).length<=n+1:=Nat.le_trans (tK f p fs) (by omega)
theorem jr(a C:Addr)(f:Str)(p:PV)(fs:List (Str×PV))(r:ai)(h:fs.length<1000):AZ 0 C f p (some (.bd a C fs)::r)=M.ok (.nx (some (.bd a C (sU f p fs))::r)):=by
 show cV _ _=_
 rw[av ⟨rfl,h⟩];rfl
theorem Cm{p:PV}{f:List Int->PV}(hf:f=tI\/f=lI)(sizes:List Int)(levers:List (List Int))(hp:bO p=some (sizes.map PV.int))(h:Sz sizes)(h8:levers.length<=8)(hl:∀ l∈levers,l.length=sizes.length):c6 ar b_ [.cp] [p,.lst (levers.map f)]=M.ok (cx sizes (levers.map λl=>wU l sizes)):=by
 have key:∀ a,b_ a ([p,.lst (levers.map f)]++[.cp])=M.ok (oS sizes (levers.map λl=>wU l sizes)):=by
  intro a
  have e1:bJ (bX 0) none (af kj (aa (ae 0) (aa (ae 1) aj))) (levers.map f) [none,some (.sh p)]=M.ok (levers.map λl=>tI (wU l sizes)):=by
   refine fu levers λl hm=>?_
   have hs:=hl l hm
   have:=uz (f l) p l sizes (Ei hf l) hp (λs hs=>by have:=h.hx s hs;omega) (by rw[hs];have:=h.h6;omega)
   dsimp? [this]
  unfold b_ jb
  simp only[rQ]
  rw[av (show ([p,PV.lst (levers.map f)]++[PV.cp]).length+1=4 from rfl)]
  simp only[yQ,yW]
  dsimp? [hp,i8 hp,p7 sizes hp h.h1 h.h6 h.hx,oB hf sizes.length levers h8 hl (by have:=h.h6;omega),k4,hp,i8 hp,List.length_map,av (aL (show levers.length<=1000 by omega)),e1,ko _ (show (levers.map f).length<=8 by rw[List.length_map];exact h8),ia sizes hp h]
  rw[jr _ _ _ _ _ _ (by simp)]
  dsimp? [k4,hp,i8 hp,List.length_map,av (aL (show levers.length<=1000 by omega)),e1,ko _ (show (levers.map f).length<=8 by rw[List.length_map];exact h8),ia sizes hp h]
  rw[jr _ _ _ _ _ _ (Nat.lt_of_le_of_lt (jm (Nat.zero_le 0)) (by decide))]
  dsimp? [k4,hp,i8 hp,List.length_map,av (aL (show levers.length<=1000 by omega)),e1,ko _ (show (levers.map f).length<=8 by rw[List.length_map];exact h8),ia sizes hp h]
  rw[jr _ _ _ _ _ _ (Nat.lt_of_le_of_lt (jm (jm (Nat.zero_le 0))) (by decide))]
  dsimp? [k4,hp,i8 hp,List.length_map,av (aL (show levers.length<=1000 by omega)),e1,ko _ (show (levers.map f).length<=8 by rw[List.length_map];exact h8),ia sizes hp h]
  rw[jr _ _ _ _ _ _ (Nat.lt_of_le_of_lt (jm (jm (jm (Nat.zero_le 0)))) (by decide))]
  dsimp? []
  show cV _ _=_
  rw[av ⟨rfl,rfl⟩]
  rw[oS,List.map_map,List.length_map]
  rfl
 unfold c6
 rw[A6 key];rfl
theorem zX(sizes:List Int)(levers:List (List Int)):(oS sizes levers).lookup (Str.ofString "dial_sizes")=some (tI sizes):=rfl
theorem yq(sizes:List Int)(levers:List (List Int)):(oS sizes levers).lookup (Str.ofString "lever_settings")=some (.tup (levers.map tI)):=rfl
theorem zi(sizes:List Int)(levers:List (List Int)):(oS sizes levers).lookup (Str.ofString "least_round")=some (.int (R sizes)):=rfl
theorem Jf(sizes:List Int)(levers:List (List Int)):(oS sizes levers).lookup (Str.ofString "sizes")=none:=rfl
theorem Ic(sizes:List Int)(levers:List (List Int)):(oS sizes levers).lookup (Str.ofString "levers")=none:=rfl
theorem uv(sizes:List Int)(levers:List (List Int)):aE [cx sizes levers]=M.ok (tI sizes):=by
 unfold aE aZ
 dsimp? [eB,cx,beq_self_eq_true,zX]
theorem rA(sizes:List Int)(levers:List (List Int)):aQ [cx sizes levers]=M.ok (.tup (levers.map tI)):=by
 unfold aQ bw
 dsimp? [eB,cx,beq_self_eq_true,yq]
theorem nZ{g:ai->M PV}{env:ai}{sizes:List Int}{levers:List (List Int)}(h:g env=M.ok (cx sizes levers)):bp ar "sizes" aE g aj env=M.ok (tI sizes):=by
 have:=uv sizes levers
 rw[bp,h,M.aO]
 show cV _ (M.bind (aj env) _)=_
 rw[av ⟨rfl,Jf sizes levers⟩]
 exact this
theorem oN{g:ai->M PV}{env:ai}{sizes:List Int}{levers:List (List Int)}(h:g env=M.ok (cx sizes levers)):bp ar "levers" aQ g aj env=M.ok (.tup (levers.map tI)):=by
 have:=rA sizes levers
 rw[bp,h,M.aO]
 show cV _ (M.bind (aj env) _)=_
 rw[av ⟨rfl,Ic sizes levers⟩]
 exact this
def Dc(sizes xs:List Int):Bool:=decide ((xs.length:Int)=sizes.length)&&(xs.zip sizes).all λz=>decide (0<=z.1/\z.1<z.2)
theorem DR{sizes xs:List Int}:Dc sizes xs=true ↔ Cg sizes xs:=by
 unfold Dc
 constructor
 ·intro h
  simp only[Bool.and_eq_true,decide_eq_true_eq,List.all_eq_true] at h
  exact⟨by omega,h.2⟩
 ·intro h
  simp only[Bool.and_eq_true,decide_eq_true_eq,List.all_eq_true]
  exact⟨by rw[h.len],h.iO⟩
theorem BB(x s:Int):∀ env:ai,env=[some (.sh (.int x)),some (.sh (.int s))]->kS Eg AE (λ_=>M.ok (.int 0)) (ae 0) (ae 1) env=M.ok (.bl (decide (0<=x/\x<s))):=by
 rintro env rfl
 dsimp? []
 by_cases h:0<=x
 ·simp only[h,decide_true,if_true,true_and]
  try dsimp? []
 ·simp only[h,decide_false,false_and]
  try dsimp? []
theorem Gw{α:Type}(h:α->Bool)(xs:List α):tW [.lst (xs.map λa=>.bl (h a))]=M.ok (.bl (xs.all h)):=by
 have:=tN (xs.map h)
 rw[List.map_map] at this
 rw[show (λa=>PV.bl (h a))=PV.bl∘h from rfl,this]
 simp[List.all_map]
section
variable{sizes:List Int}{levers:List (List Int)}
theorem wg(h:Sz sizes)(xs:List Int)(hz:xs.length<=1000):gE [cx sizes levers,tI xs]=M.ok (.bl (Dc sizes xs)):=by
 have key:bJ (bV 0 1) none (kS Eg AE (λ_=>M.ok (.int 0)) (ae 0) (ae 1)) ((xs.zip sizes).map λz=>.tup [.int z.1,.int z.2]) [none,none]=M.ok ((xs.zip sizes).map λz=>.bl (decide (0<=z.1/\z.1<z.2))) :=
  iH (p:=λz:Int×Int=>PV.int z.1) (q:=λz:Int×Int=>PV.int z.2) (xs.zip sizes) λz hz=>BB z.1 z.2 _ rfl
 have hl:(xs.zip sizes).length<=sizeLine:=by rw[List.length_zip];exact aL (Nat.le_trans (Nat.min_le_left _ _) hz)
 unfold gE gD
 dsimp? [nZ (sizes:=sizes) (levers:=levers) (g:=ae 0) (env:=[some (.sh (cx sizes levers)),some (.sh (tI xs)),none]) rfl,zz xs sizes.length (aL hz)]
 unfold Dc
 by_cases e:(xs.length:Int)=sizes.length
 ·simp only[e,decide_true,Bool.not_true,Bool.false_eq_true,if_false,Bool.true_and]
  dsimp? [fc (p:=tI xs) (q:=tI sizes) xs sizes rfl rfl,List.length_map,av hl,key,Gw]
 ·simp only[e,decide_false,Bool.not_false,if_true,Bool.false_and]
  dsimp? []
theorem r0(h:Sz sizes){xs:List Int}(hs:Cg sizes xs):cX [cx sizes levers,tI xs]=M.ok .cp:=by
 unfold cX dG
 dsimp? [wg (levers:=levers) h xs (by rw[hs.len];have:=h.h6;omega),DR.mpr hs]
end
theorem j5{xs ys:List Int}{z:Int×Int}(h:z∈xs.zip ys):z.1∈xs/\z.2∈ys:=List.of_mem_zip (a:=z.1) (b:=z.2) h
theorem sZ{sizes xs:List Int}(h:Sz sizes)(hs:Cg sizes xs){x:Int}(hx:x∈xs):0<=x/\x<360:=by
 obtain⟨i,hi,rfl⟩:=List.mem_iff_getElem.mp hx
 have hj:i<sizes.length:=by rw[← hs.len];exact hi
 have:=hs.iO (xs[i],sizes[i]) (by
  rw[List.mem_iff_getElem]
  exact⟨i,by rw[List.length_zip];omega,by rw[List.getElem_zip]⟩)
 have h2:=h.hx sizes[i] (List.getElem_mem hj)
 exact⟨this.1,by have:=this.2;simp only at this;omega⟩
theorem zx(xs sizes:List Int):wU xs sizes=zc xs sizes:=rfl
def cf(a b:Int):Int×Int:=open Classical in if h:∃ p:Int×Int,f_ [.int a,.int b]=M.ok (.tup [.int (Int.gcd a b),.int p.1,.int p.2])/\p.1*a+p.2*b=Int.gcd a b/\p.1.natAbs<=b.natAbs+1/\p.2.natAbs<=a.natAbs+(b.natAbs+1)*a.natAbs+b.natAbs+1 then h.choose else (0,0)
theorem Ew(a b:Int)(ha:a.natAbs<2^60)(hb:b.natAbs<2^60):f_ [.int a,.int b]=M.ok (.tup [.int (Int.gcd a b),.int (cf a b).1,.int (cf a b).2])/\(cf a b).1*a+(cf a b).2*b=Int.gcd a b/\(cf a b).1.natAbs<=b.natAbs+1/\(cf a b).2.natAbs<=a.natAbs+(b.natAbs+1)*a.natAbs+b.natAbs+1:=by
 have h:∃ p:Int×Int,f_ [.int a,.int b]=M.ok (.tup [.int (Int.gcd a b),.int p.1,.int p.2])/\p.1*a+p.2*b=Int.gcd a b/\p.1.natAbs<=b.natAbs+1/\p.2.natAbs<=a.natAbs+(b.natAbs+1)*a.natAbs+b.natAbs+1:=by
  obtain⟨s,t,h⟩:=qE a b ha hb
  exact⟨(s,t),h⟩
 unfold cf
 rw[dif_pos h]
 exact h.choose_spec
theorem AI:CB cf:=λa b h1 h2 h3 h4=>by
 obtain⟨_,e,b1,b2⟩:=Ew a b (by omega) (by omega)
 refine⟨e,by omega,?_⟩
 have:(b.natAbs+1)*a.natAbs<=361*360:=Nat.mul_le_mul (by omega) (by omega)
 omega
def mk(r:Row):PV:=.tup [tI r.1,tI r.2]
theorem oU(r:Row):aB (mk r) (.int 0)=M.ok (tI r.1):=aW (p:=mk r) (j:=0) rfl rfl
theorem zW(r:Row):aB (mk r) (.int 1)=M.ok (tI r.2):=aW (p:=mk r) (j:=1) rfl rfl
theorem j0{xs:List Int}{i:Nat}(h:i<xs.length):aB (tI xs) (.int (i:Int))=M.ok (.int (vf xs i)) :=
 aW (p:=tI xs) rfl (by rw[List.getElem?_map,List.getElem?_eq_getElem h,a_ h];rfl)
theorem o_{rows:List Row}{d:Nat}(h:d<rows.length):aB (.lst (rows.map mk)) (.int (d:Int))=M.ok (mk (row rows d)) :=
 aW (p:=.lst (rows.map mk)) rfl (by rw[List.getElem?_map,List.getElem?_eq_getElem h,fF h];rfl)
theorem oF{A B:Nat}(p q:PV)(xs ys:List Int)(a b:Int)(hp:bO p=some (xs.map PV.int))(hq:bO q=some (ys.map PV.int))(hx:Bd B xs)(hy:Bd B ys)(ha:a.natAbs<2^A)(hb:b.natAbs<2^A)(hB:B<=9000)(hA:A<=9000)(hz:xs.length<=1000):kb [p,.int a,q,.int b]=M.ok (tI (nA xs a ys b)):=by
 have key:bJ (bV 0 1) none (ak dQ (ak bR (ae 2) (ae 0)) (ak bR (ae 3) (ae 1))) ((xs.zip ys).map λz=>.tup [.int z.1,.int z.2]) [none,none,some (.sh (.int a)),some (.sh (.int b))]=M.ok ((xs.zip ys).map λz=>.int (a*z.1+b*z.2)):=by
  refine iH (p:=λz:Int×Int=>PV.int z.1) (q:=λz:Int×Int=>PV.int z.2) (xs.zip ys) λz hz=>?_
  have m:=List.of_mem_zip (a:=z.1) (b:=z.2) hz
  dsimp? [bu (k:=A) (l:=B) ha (hx _ m.1) hA hB,bu (k:=A) (l:=B) hb (hy _ m.2) hA hB]
 have hl:(xs.zip ys).length<=sizeLine:=by rw[List.length_zip];exact aL (Nat.le_trans (Nat.min_le_left _ _) hz)
 unfold kb lC
 dsimp? [fc xs ys hp hq,List.length_map,av hl,key]
 rw[tI,nA,List.map_map];rfl
theorem vv{A B:Nat}{sizes:List Int}{r q:Row}{a b:Int}(hs:∀ s∈sizes,0<s)(h1:Bd B r.1)(h2:Bd B r.2)(h3:Bd B q.1)(h4:Bd B q.2)(ha:a.natAbs<2^A)(hb:b.natAbs<2^A)(hB:B<=9000)(hA:A<=9000)(z1:r.1.length<=100)(z2:r.2.length<=100):dX [tI sizes,mk r,.int a,mk q,.int b]=M.ok (mk (pV sizes r a q b)):=by
 unfold dX eT
 dsimp? [oU,zW,oF (tI r.1) (tI q.1) r.1 q.1 a b rfl rfl h1 h3 ha hb hB hA (by omega),oF (tI r.2) (tI q.2) r.2 q.2 a b rfl rfl h2 h4 ha hb hB hA (by omega),uz (tI (nA r.1 a q.1 b)) (tI sizes) (nA r.1 a q.1 b) sizes rfl rfl hs (by rw[bY];omega)]
 rfl
theorem si{sizes:List Int}{rows:List Row}{n m d:Nat}(w:Wf n m rows)(hs:sizes.length=n)(hd:d<n):dO [tI sizes,.lst (rows.map mk),.int (d:Int)]=M.ok (.int (aM (vf sizes) (DD rows) d)):=by
 unfold dO eH
 have e1:=w.mP hd
 dsimp? [o_ (rows:=rows) (d:=d) (by rw[w.len];exact hd),oU,j0 (xs:=(row rows d).1) (i:=d) (by omega)]
 unfold aM
 by_cases z:DD rows d d=0
 ·have z':vf (row rows d).1 d=0:=z
  simp only[z',z,decide_true,if_true]
  dsimp? [j0 (xs:=sizes) (i:=d) (by omega)]
 ·have z':¬ vf (row rows d).1 d=0:=z
  simp only[z',z,decide_false,Bool.false_eq_true,if_false]
  dsimp? []
  rfl
theorem drop_cons{α:Type}{xs:List α}{d:Nat}{a:α}{r:List α}(h:xs.drop d=a::r):d<xs.length/\xs[d]?=some a/\xs.drop (d+1)=r:=by
 have hd:d<xs.length:=by
  rcases Nat.lt_or_ge d xs.length with q | q
  ·exact q
  ·rw[List.drop_eq_nil_of_le q] at h;cases h
 rw[List.drop_eq_getElem_cons hd] at h
 injection h with h1 h2
 exact⟨hd,by rw[List.getElem?_eq_getElem hd,h1],h2⟩
theorem gR(env:ai):kM aj env=M.ok []:=by
 simp only[kM,aj,M.aO]
 exact if_pos (Nat.zero_le _)
theorem rV{i:Nat}{f:ai->M PV}{env:ai}{xs:List PV}{p:PV}(h:env[i]?=some (some (.ow xs)))(hf:f env=M.ok p)(hz:xs.length<1000):jQ i f env=M.ok (.nx (env.set i (some (.ow (xs++[p]))))):=by
 unfold jQ
 rw[h]
 show M.bind (f env) _=_
 rw[hf,M.aO,if_pos (lX (Nat.le_of_lt hz))]
theorem sO{n:Nat}{sizes xs:List Int}(hl:xs.length=n)(h:∀ i,i<n->0<=vf xs i/\vf xs i<vf sizes i)(hs:∀ i,i<n->vf sizes i<=360):Bd 9 xs:=λx hx=>by
 obtain⟨i,hi,rfl⟩:=List.mem_iff_getElem.mp hx
 have h1:=h i (by omega);have h2:=hs i (by omega)
 rw[a_ hi] at h1
 omega
theorem AH{a b:Int}(h1:-1000<=a)(h2:a<=1000)(h3:-1000<=b)(h4:b<=1000):xJ [.int a,.int b]=M.ok ((List.range (b-a).toNat).map λ(i:Nat)=>.int (a+(i:Int))):=by
 have h:-(2^62)<=a/\a<2^62/\-(2^62)<=b/\b<2^62:=by omega
 show cV (-(2^62)<=a/\a<2^62/\-(2^62)<=b/\b<2^62) _=_
 rw[av h]
section
variable{n m k:Nat}{sizes:List Int}{A:Nat->bx}{rows:List Row}{left:Row}
theorem St.zD(h:St n m sizes A k rows){d:Nat}(hd:d<n):Bd 9 (row rows d).1:=sO (h.wf.mP hd) (λi hi=>h.gd.iO d hd i hi) h.sm
theorem Ar(h:St n m sizes A k rows):∀ s∈sizes,0<s:=λs hs=>by
 obtain⟨i,hi,rfl⟩:=List.mem_iff_getElem.mp hs
 have:=h.gd.sp i (by rw[← h.hs];exact hi)
 rwa [a_ hi] at this
theorem AJ(h:St n m sizes A k rows)(L:Lv n m sizes A k left)(hn:n<=6)(hm:m<=8):jg [tI sizes,.lst (rows.map mk),mk left]=M.ok (.tup [.lst ((cJ cf sizes rows left n).map mk),tI (az cf sizes rows left n).2]):=by
 have rl:=h.wf.len
 have hkm:=L.km
 unfold jg jd
 dsimp? [gR,nX]
 refine fH rows.zipIdx (λzs env=>∃ d x4 x5 x6 x7 x8,d<=n/\rows.zipIdx.drop d=zs/\env=[some (.sh (tI sizes)),some (.sh (.lst (rows.map mk))),some (.sh (mk (az cf sizes rows left d))),some (.ow ((cJ cf sizes rows left d).map mk)),x4,x5,x6,x7,x8]) ⟨0,none,none,none,none,none,Nat.zero_le _,rfl,rfl⟩ ?_ ?_
 ·rintro⟨a,i⟩ zs env ⟨d,x4,x5,x6,x7,x8,hd,NO,rfl⟩
  obtain⟨h1,h2,h3⟩:=drop_cons NO
  rw[List.length_zipIdx,rl] at h1
  have h4:a=row rows d/\i=d:=by
   rw[List.getElem?_zipIdx] at h2
   rw[fF (by rw[rl];exact h1)]
   rw[List.getElem?_eq_getElem (by rw[rl];exact h1)] at h2
   simp at h2
   exact⟨h2.1.symm,h2.2.symm⟩
  obtain⟨rfl,rfl⟩:=h4
  have ll:=de (c:=cf) h.wf h.hs L.l1 L.l2 i (by omega)
  have lk:=j_ (c:=cf) h L i (by omega)
  have lb:=nO (c:=cf) h L hn i (by omega)
  have st:=h.gd.pos h1
  have sm:=h.sm i h1
  have nt:=lk i h1
  have e1:=h.wf.mP h1;have e2:=h.wf.at2 h1
  generalize Mu:aM (vf sizes) (DD rows) i=M3 at *
  generalize hnt:vf (az cf sizes rows left i).1 i=nt' at *
  obtain⟨c1,c2,c3,c4⟩:=Ew M3 nt' (by omega) (by omega)
  have cb:=AI M3 nt' st.1 (by omega) nt.1 (by omega)
  have gp:=gL (b:=nt') st.1
  have gl:(Int.gcd M3 nt':Int)<=M3:=Int.le_of_dvd st.1 (Int.gcd_dvd_left ..)
  have a1:=jR (b:=nt') st.1 (by omega)
  have a2:=lL (b:=nt') st.1 nt.1 (by omega)
  have B1:Bd 1300 (row rows i).1:=(St.zD h h1).mono (by omega)
  have B2:Bd 1300 (row rows i).2:=(h.bd i h1).mono (by omega)
  have B3:Bd 1300 (az cf sizes rows left i).1:=(sO ll.1 lk h.sm).mono (by omega)
  have B4:Bd 1300 (az cf sizes rows left i).2:=lb.mono (by omega)
  have w1:=vv (A:=20) (sizes:=sizes) (Ar h) B1 B2 B3 B4 cb.2.1 cb.2.2 (by decide) (by decide) (by omega) (by omega)
  have w2:=vv (A:=20) (sizes:=sizes) (a:=M3/(Int.gcd M3 nt':Nat)) (b:=-(nt'/(Int.gcd M3 nt':Nat))) (Ar h) B3 B4 B1 B2 (by omega) (by omega) (by decide) (by decide) (by omega) (by omega)
  have ew:eD cf sizes rows left i=pV sizes (row rows i) (cf M3 nt').1 (az cf sizes rows left i) (cf M3 nt').2:=by
   simp only[eD,Mu,hnt]
  have el:az cf sizes rows left (i+1)=pV sizes (az cf sizes rows left i) (M3/(Int.gcd M3 nt':Nat)) (row rows i) (-(nt'/(Int.gcd M3 nt':Nat))):=by
   simp only[az,Mu,hnt]
  refine⟨_,[some (.sh (tI sizes)),some (.sh (.lst (rows.map mk))),some (.sh (mk (az cf sizes rows left (i+1)))),some (.ow ((cJ cf sizes rows left (i+1)).map mk)),some (.sh (.int i)),some (.sh (mk (row rows i))),some (.sh (.int M3)),some (.sh (.int nt')),some (.sh (.tup [.int (Int.gcd M3 nt'),.int (cf M3 nt').1,.int (cf M3 nt').2]))],rfl,?_,i+1,_,_,_,_,_,by omega,h3,rfl⟩
  have sok:=si h.wf h.hs h1
  rw[Mu] at sok
  have nok:=j0 (xs:=(az cf sizes rows left i).1) (i:=i) (by omega)
  rw[hnt] at nok
  dsimp? [sok,oU,nok,c1]
  rw[rV (i:=3) rfl (p:=mk (eD cf sizes rows left i)) (by dsimp? [Ga,E4,w1,ew]) (by simp[cJ];omega)]
  dsimp? [vN,aT (i:=M3) gp (by omega),aT (i:=nt') gp (by omega),w2,el]
  rw[cJ,cJ,List.range_succ,List.map_append,List.map_append]
  rfl
 ·rintro env ⟨d,x4,x5,x6,x7,x8,hd,NO,rfl⟩
  have OL:d=n:=by
   have:=congrArg List.length NO
   rw[List.length_drop,List.length_zipIdx,rl] at this
   simp at this
   omega
  subst OL
  dsimp? [zW]
def bg(sizes:List Int)(rows:List Row)(r:Row)(f:Nat):Nat->Row
 | 0=>r
 | c+1 =>
  let l:=bg sizes rows r f c
  pV sizes l 1 (row rows (f+c)) (-(vf l.1 (f+c)/aM (vf sizes) (DD rows) (f+c)))
theorem ij(h:St n m sizes A k rows){r:Row}{f:Nat}(h1:r.1.length=n)(h2:r.2.length=m):∀ c,f+c<=n->(bg sizes rows r f c).1.length=n/\(bg sizes rows r f c).2.length=m
 | 0,_=>⟨h1,h2⟩
 | c+1,hc=>by
  obtain⟨i1,i2⟩:=ij h (f:=f) h1 h2 c (by omega)
  have e1:=h.wf.mP (d:=f+c) (by omega);have e2:=h.wf.at2 (d:=f+c) (by omega)
  have hs:=h.hs
  simp only[bg,pV]
  rw[jJ,bY,bY]
  exact⟨by omega,by omega⟩
theorem mz(h:St n m sizes A k rows){r:Row}{f:Nat}(h1:r.1.length=n)(h2:r.2.length=m)(h0:∀ i,i<n->0<=vf r.1 i/\vf r.1 i<vf sizes i):Dn n (vf sizes) (DD rows) f (λd=>vf (bg sizes rows r f (d-f)).1) where
 w0:=λi hi=>by rw[Nat.sub_self];exact h0 i hi
 ws:=λd hf hd i hi=>by
  obtain⟨c,rfl⟩:∃ c,d=f+c:=⟨d-f,by omega⟩
  obtain⟨i1,i2⟩:=ij h (f:=f) h1 h2 c (by omega)
  have e1:=h.wf.mP (d:=f+c) (by omega)
  have hs:=h.hs
  show vf (bg sizes rows r f (f+c+1-f)).1 i=_
  rw[show f+c+1-f=c+1 by omega,show f+c-f=c by omega]
  simp only[bg,pV]
  rw[jP (by rw[bY];omega) (by omega),fz (by omega) (by omega)]
  rfl
theorem tf(h:St n m sizes A k rows){r:Row}{f:Nat}(h1:r.1.length=n)(h2:r.2.length=m){P₀:bx}{B:bx}(hl:Led n (vf sizes) m A (λi=>vf r.1 i-B i) (λl=>vf r.2 l-P₀ l)):∀ c,f+c<=n->Led n (vf sizes) m A (λi=>vf (bg sizes rows r f c).1 i-B i) (λl=>vf (bg sizes rows r f c).2 l-P₀ l)
 | 0,_=>hl
 | c+1,hc=>by
  obtain⟨i1,i2⟩:=ij h (f:=f) h1 h2 c (by omega)
  have e1:=h.wf.mP (d:=f+c) (by omega);have e2:=h.wf.at2 (d:=f+c) (by omega)
  have hs:=h.hs
  refine Led.mix (a:=1) (b:=-(vf (bg sizes rows r f c).1 (f+c)/aM (vf sizes) (DD rows) (f+c))) (tf h (f:=f) h1 h2 hl c (by omega)) (h.led (f+c) (by omega)) (λi hi=>?_) λl hl=>?_
  ·simp only[bg,pV]
   rw[jP (by rw[bY];omega) (by omega),fz (by omega) (by omega)]
   obtain⟨z,hz⟩:=dI (1*vf (bg sizes rows r f c).1 i+-(vf (bg sizes rows r f c).1 (f+c)/aM (vf sizes) (DD rows) (f+c))*vf (row rows (f+c)).1 i) (vf sizes i)
   refine⟨z,?_⟩
   rw[← hz]
   unfold DD
   grind
  ·simp only[bg,pV]
   rw[fz (by omega) (by omega)]
   unfold PP
   grind
theorem s_(h:St n m sizes A k rows){r:Row}{f B:Nat}(h1:r.1.length=n)(h2:r.2.length=m)(h0:∀ i,i<n->0<=vf r.1 i/\vf r.1 i<vf sizes i)(hB:150*k+1<=B)(hb:Bd B r.2):∀ c,f+c<=n->Bd (B+11*c) (bg sizes rows r f c).2
 | 0,_=>hb
 | c+1,hc=>by
  have k0:=(mz h (f:=f) h1 h2 h0).kept h.gd (f+c) (by omega) (by omega) (f+c) (by omega)
  rw[show f+c-f=c by omega] at k0
  have sm:=h.sm (f+c) (by omega)
  have p:=h.gd.pos (d:=f+c) (by omega)
  have q:=Int.ediv_le_self (aM (vf sizes) (DD rows) (f+c)) k0.1
  have q0:=Int.ediv_nonneg k0.1 (Int.le_of_lt p.1)
  have:=Bd.mix (A:=10) (s_ h (f:=f) h1 h2 h0 hB hb c (by omega)) ((h.bd (f+c) (by omega)).mono (show 150*k+1<=B+11*c by omega)) (a:=1) (b:=-(vf (bg sizes rows r f c).1 (f+c)/aM (vf sizes) (DD rows) (f+c))) (by decide) (by omega)
  exact this.mono (by omega)
theorem pK(h:St n m sizes A k rows){r:Row}{f B:Nat}(hn:n<=6)(hm:m<=8)(h1:r.1.length=n)(h2:r.2.length=m)(h0:∀ i,i<n->0<=vf r.1 i/\vf r.1 i<vf sizes i)(hB:150*k+1<=B)(hB2:B<=8000)(hb:Bd B r.2)(hf:f<=n):fL [tI sizes,.lst (rows.map mk),mk r,.int (f:Int)]=M.ok (mk (bg sizes rows r f (n-f))):=by
 have hs:=h.hs
 have rl:=h.wf.len
 unfold fL iU
 have iO:xJ [.int (f:Int),.int (sizes.length:Int)]=M.ok ((List.range (n-f)).map λ(i:Nat)=>.int ((f+i:Nat):Int)):=by
  rw[AH (by omega) (by omega) (by omega) (by omega),hs,show ((n:Int)-(f:Int)).toNat=n-f by omega]
  simp
 dsimp? [iO]
 refine fH (List.range (n-f)) (λzs env=>∃ c x4 x5,c<=n-f/\(List.range (n-f)).drop c=zs/\env=[some (.sh (tI sizes)),some (.sh (.lst (rows.map mk))),some (.sh (mk (bg sizes rows r f c))),some (.sh (.int (f:Int))),x4,x5]) ⟨0,none,none,Nat.zero_le _,rfl,rfl⟩ ?_ ?_
 ·rintro i zs env ⟨c,x4,x5,hc,NO,rfl⟩
  obtain⟨c1,c2,c3⟩:=drop_cons NO
  rw[List.length_range] at c1
  obtain rfl:i=c:=by
   rw[List.getElem?_range c1] at c2;exact(Option.some.inj c2).symm
  have OM:f+i<n:=by omega
  have ll:=ij h (f:=f) h1 h2 i (by omega)
  have lk:=(mz h (f:=f) h1 h2 h0).kept h.gd (f+i) (by omega) (by omega)
  rw[show f+i-f=i by omega] at lk
  have k0:=lk (f+i) OM
  have sm:=h.sm (f+i) OM
  have p:=h.gd.pos OM
  have e1:=h.wf.mP OM;have e2:=h.wf.at2 OM
  have B1:Bd 8200 (row rows (f+i)).1:=(St.zD h OM).mono (by omega)
  have B2:Bd 8200 (row rows (f+i)).2:=(h.bd _ OM).mono (by omega)
  have B3:Bd 8200 (bg sizes rows r f i).1:=(sO ll.1 lk h.sm).mono (by omega)
  have B4:Bd 8200 (bg sizes rows r f i).2:=(s_ h (f:=f) h1 h2 h0 hB hb i (by omega)).mono (by omega)
  have q:=Int.ediv_le_self (aM (vf sizes) (DD rows) (f+i)) k0.1
  have q0:=Int.ediv_nonneg k0.1 (Int.le_of_lt p.1)
  have w:=vv (A:=20) (sizes:=sizes) (a:=1) (b:=-(vf (bg sizes rows r f i).1 (f+i)/aM (vf sizes) (DD rows) (f+i))) (Ar h) B3 B4 B1 B2 (by decide) (by omega) (by decide) (by decide) (by omega) (by omega)
  refine⟨_,[some (.sh (tI sizes)),some (.sh (.lst (rows.map mk))),some (.sh (mk (bg sizes rows r f (i+1)))),some (.sh (.int (f:Int))),some (.sh (.int ((f+i:Nat):Int))),some (.sh (.int (vf (bg sizes rows r f i).1 (f+i)/aM (vf sizes) (DD rows) (f+i))))],rfl,?_,i+1,_,_,by omega,c3,rfl⟩
  dsimp? [oU,j0 (xs:=(bg sizes rows r f i).1) (i:=f+i) (by omega),si h.wf h.hs OM,aT (i:=vf (bg sizes rows r f i).1 (f+i)) p.1 (by omega),o_ (rows:=rows) (d:=f+i) (by omega),w]
  rfl
 ·rintro env ⟨c,x4,x5,hc,NO,rfl⟩
  have:c=n-f:=by
   have:=congrArg List.length NO
   rw[List.length_drop,List.length_range] at this
   simp at this
   omega
  subst this
  dsimp? []
end
theorem CZ(m k:Nat)(hm:m<=1000):je [.int (m:Int),.int (k:Int)]=M.ok (tI (mM m k)):=by
 have key:bJ (bX 0) none (yn (ee (ak pU (ae 0) (ae 1))) (λ_=>M.ok (.int 1)) (λ_=>M.ok (.int 0))) ((List.range m).map λ(i:Nat)=>.int (i:Int)) [none,some (.sh (.int (k:Int)))]=M.ok ((List.range m).map λ(i:Nat)=>.int (if i=k then 1 else 0)):=by
  refine fu (inj:=λ(i:Nat)=>PV.int (i:Int)) (List.range m) λi hi=>?_
  dsimp? []
  by_cases z:i=k
  ·subst z;simp only[decide_true,if_true]
  ·have z':¬ (i:Int)=(k:Int):=by omega
   simp only[z,z',decide_false,Bool.false_eq_true,if_false]
 unfold je jq
 dsimp? [hV (n:=(m:Int)) (by omega) (by omega),Int.toNat_natCast,List.length_map,List.length_range,av (aL hm),key]
 rw[tI,mM,List.map_map];rfl
theorem qy{n:Int}(h:0<=n):Builtin.Range.rangeSize (n-1) (-1) (-1)=n:=by
 unfold Builtin.Range.rangeSize
 rw[if_neg (by decide)]
 split
 ·rw[show -(-1:Int)=1 from rfl,Int.ediv_one];omega
 ·omega
theorem Ec{n:Int}(h:0<=n)(h2:n<=1000):C3 (n-1) (-1) (-1)=true:=by
 unfold C3 Builtin.Range.small
 have f:∀ x:Int,-(2^40)<x->x<2^40->Builtin.Range.rangeFitsLong x=true:=λx h1 h2=>by
  unfold Builtin.Range.rangeFitsLong
  simp only[Bool.and_eq_true,decide_eq_true_eq]
  omega
 simp only[qy h,f (n-1) (by omega) (by omega),f (-1) (by decide) (by decide),f n (by omega) (by omega),f (n-1+n*-1) (by omega) (by omega),Bool.and_true,Bool.true_and,Bool.and_self,Bool.and_eq_true,decide_eq_true_eq]
 refine⟨by decide,?_⟩
 rw[if_neg (by decide),f (-1+(-1+1)) (by decide) (by decide),Bool.or_true]
theorem tF(k:Nat)(hk:k<=1000):yZ [.int ((k:Int)-1),.int (-1),.int (-1)]=M.ok ((List.range k).map λ(i:Nat)=>.int ((k:Int)-1+(i:Int)*-1)):=by
 show cV (C3 ((k:Int)-1) (-1) (-1)=true) _=_
 rw[av (Ec (by omega) (by omega)),qy (by omega),Int.toNat_natCast]
theorem Co{idle:List (List Int)}{j:Nat}(h:j<idle.length):aB (.lst (idle.map tI)) (.int (j:Int))=M.ok (tI (idle.getD j [])) :=
 aW (p:=.lst (idle.map tI)) rfl (by rw[List.getElem?_map,List.getElem?_eq_getElem h,List.getD_eq_getElem?_getD,List.getElem?_eq_getElem h];rfl)
theorem uT{n m k B:Nat}{s:bx}{A:Nat->bx}{idle:List (List Int)}{P:List Int}(h:xa n m s A k idle)(hP:P.length=m)(hm:m<=8)(hk:k<=m)(hB:60<=B)(hB2:B<=8000)(hb:Bd B P):g8 [tI P,.lst (idle.map tI)]=M.ok (tI (aX idle k P k)):=by
 have il:=h.len
 unfold g8 hU
 dsimp? [List.length_map,il,tF k (by omega)]
 refine fH (List.range k) (λzs env=>∃ c x2 x3,c<=k/\(List.range k).drop c=zs/\env=[some (.sh (tI (aX idle k P c))),some (.sh (.lst (idle.map tI))),x2,x3]) ⟨0,none,none,Nat.zero_le _,rfl,rfl⟩ ?_ ?_
 ·rintro i zs env ⟨c,x2,x3,hc,NO,rfl⟩
  obtain⟨c1,c2,c3⟩:=drop_cons NO
  rw[List.length_range] at c1
  obtain rfl:i=c:=by
   rw[List.getElem?_range c1] at c2;exact(Option.some.inj c2).symm
  have hj:k-1-i<k:=by omega
  have ej:(k:Int)-1+(i:Int)*-1=((k-1-i:Nat):Int):=by omega
  have sl:=span_len h hP i (by omega)
  have rl:=h.l2 (k-1-i) hj
  have p:=h.pos (k-1-i) hj
  have pl60:=h.le (k-1-i) hj
  have zb:=xv h hP hk hB hb i (by omega)
  have B1:Bd 8600 (aX idle k P i):=zb.mono (by omega)
  have B2:Bd 8600 (idle.getD (k-1-i) []):=(h.bd hj hk).mono (by omega)
  have q:(-(vf (aX idle k P i) (k-1-i)/vf (idle.getD (k-1-i) []) (k-1-i))).natAbs<2^8600:=by
   rw[Int.natAbs_neg]
   exact Nat.lt_of_le_of_lt (Int.natAbs_ediv_le_natAbs ..) (B1.vf _)
  have w:=oF (A:=8600) (tI (aX idle k P i)) (tI (idle.getD (k-1-i) [])) (aX idle k P i) (idle.getD (k-1-i) []) 1 (-(vf (aX idle k P i) (k-1-i)/vf (idle.getD (k-1-i) []) (k-1-i))) rfl rfl B1 B2 (Nat.one_lt_two_pow (by decide)) q (by decide) (by decide) (by omega)
  refine⟨_,[some (.sh (tI (aX idle k P (i+1)))),some (.sh (.lst (idle.map tI))),some (.sh (.int ((k-1-i:Nat):Int))),some (.sh (tI (idle.getD (k-1-i) [])))],rfl,?_,i+1,_,_,by omega,c3,rfl⟩
  rw[ej]
  dsimp? [Co (idle:=idle) (j:=k-1-i) (by omega),j0 (xs:=aX idle k P i) (i:=k-1-i) (by omega),j0 (xs:=idle.getD (k-1-i) []) (i:=k-1-i) (by omega),aT (i:=vf (aX idle k P i) (k-1-i)) (j:=vf (idle.getD (k-1-i) []) (k-1-i)) p (by show II idle (k-1-i) (k-1-i)<2^64;omega),w]
  rfl
 ·rintro env ⟨c,x2,x3,hc,NO,rfl⟩
  have:c=k:=by
   have:=congrArg List.length NO
   rw[List.length_drop,List.length_range] at this
   simp at this
   omega
  subst this
  dsimp? []
section
variable{sizes:List Int}{Ls:List (List Int)}
theorem kq(h:sizes.length<=6):gZ [cx sizes Ls]=M.ok (tI (List.replicate sizes.length 0)):=by
 unfold gZ i9
 dsimp? [nZ (sizes:=sizes) (levers:=Ls) (g:=ae 0) (env:=[some (.sh (cx sizes Ls))]) rfl,mul_one (.int 0) sizes.length (by omega)]
 rw[tI,List.map_replicate]
theorem mL(hm:Ls.length<=8)(xs:List Int):fJ [cx sizes Ls,tI xs]=M.ok (mk (xs,List.replicate Ls.length 0)):=by
 unfold fJ gY
 dsimp? [oN (sizes:=sizes) (levers:=Ls) (g:=ae 0) (env:=[some (.sh (cx sizes Ls)),some (.sh (tI xs))]) rfl,List.length_map,mul_one (.int 0) Ls.length (by omega)]
 rw[mk,tI,tI,List.map_replicate]
theorem C5(hm:Ls.length<=8){k:Nat}(hk:k<Ls.length):fN [cx sizes Ls,.int (k:Int)]=M.ok (mk (bT Ls Ls.length k)):=by
 have e:aB (.tup (Ls.map tI)) (.int (k:Int))=M.ok (tI (Ls.getD k [])):=aW (p:=.tup (Ls.map tI)) rfl (by rw[List.getElem?_map,List.getElem?_eq_getElem hk,List.getD_eq_getElem?_getD,List.getElem?_eq_getElem hk];rfl)
 unfold fN fX
 dsimp? [oN (sizes:=sizes) (levers:=Ls) (g:=ae 0) (env:=[some (.sh (cx sizes Ls)),some (.sh (.int (k:Int))),none]) rfl,List.length_map,e,CZ Ls.length k (by omega)]
 rfl
end
theorem AK:∀ xs:List Int,oH (tI xs)=true:=by
 intro xs
 have:∀ ys:List Int,mH (ys.map PV.int)=true:=by
  intro ys
  induction ys with
  | nil=>rfl
  | cons a r ih=>simp[mH,oH,ih]
 exact this xs
theorem HP(x y:PV):aB (.tup [x,y]) (.int 0)=M.ok x:=aW (j:=0) rfl rfl
theorem IT(x y:PV):aB (.tup [x,y]) (.int 1)=M.ok y:=aW (j:=1) rfl rfl
def my(sizes:List Int)(rows:List Row)(n:Nat):List Row:=(List.range n).map λd=>bg sizes rows (row rows d) (d+1) (n-(d+1))
def uo(V:PV)(rows:List Row)(idle:List (List Int)):List (Str×PV):=[("vault", V),("made_rows", .lst (rows.map mk)),("idle_rows", .lst (idle.map tI))]
section
variable{sizes:List Int}{Ls:List (List Int)}
theorem zG(hn1:1<=sizes.length)(hn:sizes.length<=6)(hm:Ls.length<=8)(hp:∀ i,i<sizes.length->0<vf sizes i/\vf sizes i<=360)(LL:HL sizes.length Ls.length sizes Ls) :
  c6 au bU [] [cx sizes Ls]=M.ok (.obj au (uo (cx sizes Ls) (my sizes (RK cf sizes Ls sizes.length Ls.length Ls.length).1 sizes.length) (RK cf sizes Ls sizes.length Ls.length Ls.length).2)):=by
 have all:=λk hk=>z6.all (c:=cf) rfl hp LL AI hn k hk
 have key:∀ a,bU a ([cx sizes Ls]++[])=M.ok (uo (cx sizes Ls) (my sizes (RK cf sizes Ls sizes.length Ls.length Ls.length).1 sizes.length) (RK cf sizes Ls sizes.length Ls.length Ls.length).2):=by
  intro a
  have e1:bJ (bX 0) none (af fJ (aa (ae 1) (aa (af gZ (aa (ae 1) aj)) aj))) (sizes.map PV.int) [none,some (.sh (cx sizes Ls))]=M.ok ((List.replicate sizes.length ((List.replicate sizes.length (0:Int)),(List.replicate Ls.length (0:Int)))).map mk):=by
   rw[fu (h:=λ_=>mk (List.replicate sizes.length 0,List.replicate Ls.length 0)) sizes λx _=>by dsimp? [kq (Ls:=Ls) hn,mL (sizes:=sizes) hm (List.replicate sizes.length 0)]]
   congr 1
   rw[List.map_const',List.map_replicate]
  have e2:bJ (bV 0 1) none (af fL (aa (ae 2) (aa (ae 3) (aa (ae 1) (aa (ak dQ (ae 0) (λ_=>M.ok (.int 1))) aj))))) ((RK cf sizes Ls sizes.length Ls.length Ls.length).1.zipIdx.map λz=>.tup [.int (z.2:Int),mk z.1]) [none,none,some (.sh (tI sizes)),some (.sh (.lst ((RK cf sizes Ls sizes.length Ls.length Ls.length).1.map mk)))]=M.ok ((my sizes (RK cf sizes Ls sizes.length Ls.length Ls.length).1 sizes.length).map mk):=by
   have I:=all Ls.length (Nat.le_refl _)
   generalize RK cf sizes Ls sizes.length Ls.length Ls.length=rk at *
   have rl:=I.st.wf.len
   rw[iH (p:=λz:Row×Nat=>PV.int (z.2:Int)) (q:=λz:Row×Nat=>mk z.1) (h:=λz:Row×Nat=>mk (bg sizes rk.1 z.1 (z.2+1) (sizes.length-(z.2+1)))) rk.1.zipIdx λz hz=>?_]
   ·congr 1
    rw[my,List.map_map]
    refine List.ext_getElem (by simp[rl]) λi h1 h2=>?_
    have hi:i<rk.1.length:=by simpa using h1
    simp[fF hi]
   ·obtain⟨i,hi,e⟩:=List.mem_iff_getElem.mp hz
    rw[List.length_zipIdx] at hi
    rw[List.getElem_zipIdx] at e
    have ez:z=(row rk.1 i,i):=by rw[← e,fF hi];simp
    subst ez
    have hin:i<sizes.length:=by omega
    have:=pK (f:=i+1) (B:=150*Ls.length+1) I.st hn hm (I.st.wf.mP hin) (I.st.wf.at2 hin) (λj hj=>I.st.gd.iO i hin j hj) (Nat.le_refl _) (by omega) (I.st.bd i hin) (by omega)
    rw[show ((i+1:Nat):Int)=(i:Int)+1 by omega] at this
    dsimp? [this]
  have zl:sizes.length<=sizeLine:=aL (by omega)
  have I:=all Ls.length (Nat.le_refl _)
  have rl:=I.st.wf.len
  unfold bU jt
  simp only[rQ]
  rw[av (show ([cx sizes Ls]++([]:List PV)).length+1=2 from rfl)]
  simp only[yQ,yW]
  dsimp? [nZ (sizes:=sizes) (levers:=Ls) (g:=ae 1) (env:=[some (.bd a au []),some (.sh (cx sizes Ls)),none,none,none,none,none]) rfl,List.length_map,av zl,e1,gR,oN (sizes:=sizes) (levers:=Ls) (g:=ae 1) (env:=[some (.bd a au []),some (.sh (cx sizes Ls)),some (.sh (tI sizes)),some (.sh (.lst ((List.replicate sizes.length ((List.replicate sizes.length (0:Int)),(List.replicate Ls.length (0:Int)))).map mk))),some (.ow []),none,none]) rfl,hV (n:=(Ls.length:Int)) (by omega) (by omega),Int.toNat_natCast]
  refine fH (List.range Ls.length) (λzs env=>∃ k x5 x6,k<=Ls.length/\(List.range Ls.length).drop k=zs/\env=[some (.bd a au []),some (.sh (cx sizes Ls)),some (.sh (tI sizes)),some (.sh (.lst ((RK cf sizes Ls sizes.length Ls.length k).1.map mk))),some (.ow ((RK cf sizes Ls sizes.length Ls.length k).2.map tI)),x5,x6]) ⟨0,none,none,Nat.zero_le _,rfl,rfl⟩ ?_ ?_
  ·rintro i zs env ⟨k,x5,x6,hk,NO,rfl⟩
   obtain⟨c1,c2,c3⟩:=drop_cons NO
   rw[List.length_range] at c1
   obtain rfl:i=k:=by
    rw[List.getElem?_range c1] at c2;exact(Option.some.inj c2).symm
   have J:=all i hk
   have L:Lv sizes.length Ls.length sizes (AA Ls) i (bT Ls Ls.length i):=⟨LL.at_ i c1,by simp[bT,mM],c1,λj hj=>rfl,LL.iO i c1,λl hl=>uZ hl⟩
   have tk:=AJ J.st L hn hm
   have ll:=de (c:=cf) J.st.wf J.st.hs L.l1 L.l2 sizes.length (Nat.le_refl _)
   have lb:=nO (c:=cf) J.st L hn sizes.length (Nat.le_refl _)
   have sp:=uT (B:=1400) J.oQ ll.2 hm (by omega) (by decide) (by decide) (lb.mono (by omega))
   have il:=J.oQ.len
   refine⟨_,[some (.bd a au []),some (.sh (cx sizes Ls)),some (.sh (tI sizes)),some (.sh (.lst ((RK cf sizes Ls sizes.length Ls.length (i+1)).1.map mk))),some (.ow ((RK cf sizes Ls sizes.length Ls.length (i+1)).2.map tI)),some (.sh (.int (i:Int))),some (.sh (.tup [.lst ((cJ cf sizes (RK cf sizes Ls sizes.length Ls.length i).1 (bT Ls Ls.length i) sizes.length).map mk),tI (az cf sizes (RK cf sizes Ls sizes.length Ls.length i).1 (bT Ls Ls.length i) sizes.length).2]))],rfl,?_,i+1,_,_,by omega,c3,rfl⟩
   dsimp? [C5 (sizes:=sizes) hm c1,tk,HP]
   rw[rV (i:=4) rfl (p:=tI (aX (RK cf sizes Ls sizes.length Ls.length i).2 i (az cf sizes (RK cf sizes Ls sizes.length Ls.length i).1 (bT Ls Ls.length i) sizes.length).2 i)) (by
    dsimp? [t7,ownAt,IT,sp]
    exact av (AK _)) (by simp[il];omega)]
   dsimp? [RK,List.map_append]
  ·rintro env ⟨k,x5,x6,hk,NO,rfl⟩
   have:k=Ls.length:=by
    have:=congrArg List.length NO
    rw[List.length_drop,List.length_range] at this
    simp at this
    omega
   subst this
   dsimp? [k4]
   rw[jr _ _ _ _ _ _ (by simp)]
   dsimp? [k4,nX,List.length_map,List.length_zipIdx,rl,av zl,e2]
   rw[jr _ _ _ _ _ _ (Nat.lt_of_le_of_lt (jm (Nat.zero_le 0)) (by decide))]
   dsimp? [k4]
   rw[jr _ _ _ _ _ _ (Nat.lt_of_le_of_lt (jm (jm (Nat.zero_le 0))) (by decide))]
   dsimp? []
   show cV _ _=_
   rw[av ⟨rfl,rfl⟩]
   rfl
 unfold c6
 rw[A6 key];rfl
end
section
variable{n m:Nat}{sizes:List Int}{A:Nat->bx}{rows:List Row}
theorem ly{d:Nat}(h:d<n):row (my sizes rows n) d=bg sizes rows (row rows d) (d+1) (n-(d+1)):=by
 rw[fF (by simp[my,h])];simp[my]
theorem Gn(h:St n m sizes A m rows)(hn:n<=6)(hA:∀ i,A m i=0):St n m sizes A (m+1) (my sizes rows n):=by
 have hl:∀ d,d<n->(bg sizes rows (row rows d) (d+1) (n-(d+1))).1.length=n/\(bg sizes rows (row rows d) (d+1) (n-(d+1))).2.length=m:=λd hd=>ij h (h.wf.mP hd) (h.wf.at2 hd) _ (by omega)
 have lg:=uY (D':=DD (my sizes rows n)) h.gd (λd e=>vf (bg sizes rows (row rows d) (d+1) (e-(d+1))).1) (λd hd=>mz h (h.wf.mP hd) (h.wf.at2 hd) λi hi=>h.gd.iO d hd i hi) (λd hd i hi=>by
  show vf (bg sizes rows (row rows d) (d+1) (d+1-(d+1))).1 i=_
  rw[Nat.sub_self];rfl) λd hd i hi=>by
  unfold DD;rw[ly hd]
 refine⟨⟨by simp[my],λr hr=>?_,λr hr=>?_⟩,h.hs,h.sm,lg.1,λd hd=>?_,λd hd l h1 h2=>by omega,λd hd=>?_,λl hl=>?_⟩
 ·obtain⟨d,hd,rfl⟩:=List.mem_map.mp hr
  exact(hl d (List.mem_range.mp hd)).1
 ·obtain⟨d,hd,rfl⟩:=List.mem_map.mp hr
  exact(hl d (List.mem_range.mp hd)).2
 ·unfold DD PP
  rw[ly hd]
  have:=tf h (f:=d+1) (h.wf.mP hd) (h.wf.at2 hd) (P₀:=λ_=>0) (B:=λ_=>0) (by
   have q:=h.led d hd
   intro i hi
   have:=q i hi
   simp only[Int.sub_zero];exact this) (n-(d+1)) (by omega)
  intro i hi
  have:=this i hi
  simp only[Int.sub_zero] at this
  exact this
 ·rw[ly hd]
  exact(s_ h (f:=d+1) (h.wf.mP hd) (h.wf.at2 hd) (λi hi=>h.gd.iO d hd i hi) (Nat.le_refl _) (h.bd d hd) (n-(d+1)) (by omega)).mono (by omega)
 ·rcases Nat.lt_or_ge l m with q | q
  ·exact lg.2.2.2.2 n 0 (by omega) _ (h.cl l q)
  ·obtain rfl:l=m:=by omega
   exact G.ext (by omega) (λi _=>(hA i).symm) (G.zero (by omega))
end
def gj(sizes:List Int)(Ls:List (List Int))(R:List Row)(idle:List (List Int)):PV:=.obj au (uo (cx sizes Ls) R idle)
section
variable{sizes:List Int}{Ls:List (List Int)}{R:List Row}{idle:List (List Int)}
theorem Ie:(uo (cx sizes Ls) R idle).lookup (Str.ofString "vault")=some (cx sizes Ls):=rfl
theorem Ig:(uo (cx sizes Ls) R idle).lookup (Str.ofString "made_rows")=some (.lst (R.map mk)):=rfl
theorem Iw:(uo (cx sizes Ls) R idle).lookup (Str.ofString "idle_rows")=some (.lst (idle.map tI)):=rfl
theorem Kr:(uo (cx sizes Ls) R idle).lookup (Str.ofString "brought_down")=none:=rfl
theorem Kd{g:ai->M PV}{env:ai}(h:g env=M.ok (gj sizes Ls R idle)):eB (λc=>c==au) "vault" g env=M.ok (cx sizes Ls):=by
 rw[eB,h,M.aO]
 show cV _ (fg (List.lookup _ _))=_
 rw[av (beq_self_eq_true _),Ie];rfl
theorem LM{g:ai->M PV}{env:ai}(h:g env=M.ok (gj sizes Ls R idle)):eB (λc=>c==au) "made_rows" g env=M.ok (.lst (R.map mk)):=by
 rw[eB,h,M.aO]
 show cV _ (fg (List.lookup _ _))=_
 rw[av (beq_self_eq_true _),Ig];rfl
theorem Ly{g:ai->M PV}{env:ai}(h:g env=M.ok (gj sizes Ls R idle)):eB (λc=>c==au) "idle_rows" g env=M.ok (.lst (idle.map tI)):=by
 rw[eB,h,M.aO]
 show cV _ (fg (List.lookup _ _))=_
 rw[av (beq_self_eq_true _),Iw];rfl
theorem xj{A:Nat->bx}{k:Nat}(S:Sz sizes)(hm:Ls.length<=8)(h:St sizes.length Ls.length sizes A k R)(hk:k<=9){xs:List Int}(hx:Cg sizes xs)(h0:∀ i,i<sizes.length->0<=vf xs i/\vf xs i<vf sizes i) :
  bF [gj sizes Ls R idle,tI xs]=M.ok (mk (bg sizes R (xs,List.replicate Ls.length 0) 0 sizes.length)):=by
 have lo:=pK (f:=0) (B:=150*k+1) (r:=(xs,List.replicate Ls.length 0)) h S.h6 hm hx.len (by simp) h0 (Nat.le_refl _) (by omega) (λx hx=>by rw[List.eq_of_mem_replicate hx];exact Nat.two_pow_pos _) (Nat.zero_le _)
 rw[Nat.sub_zero] at lo
 unfold bF bQ
 dsimp? [Kd (sizes:=sizes) (Ls:=Ls) (R:=R) (idle:=idle) (g:=ae 0) (env:=[some (.sh (gj sizes Ls R idle)),some (.sh (tI xs))]) rfl,LM (sizes:=sizes) (Ls:=Ls) (R:=R) (idle:=idle) (g:=ae 0) (env:=[some (.sh (gj sizes Ls R idle)),some (.sh (tI xs))]) rfl,r0 (levers:=Ls) S hx,mL (sizes:=sizes) hm xs,nZ (sizes:=sizes) (levers:=Ls) (g:=eB (λc=>c==au) "vault" (ae 0)) (env:=[some (.sh (gj sizes Ls R idle)),some (.sh (tI xs))]) (Kd (R:=R) (idle:=idle) rfl),show fL [tI sizes,.lst (R.map mk),mk (xs,List.replicate Ls.length 0),.int 0]=_ from lo]
end
def pJ(xs:List Int):List Int:=xs.map λx=>-x
theorem Gf(xs:List Int)(i:Nat):vf (pJ xs) i=-vf xs i:=by
 rcases Nat.lt_or_ge i xs.length with h | h
 ·rw[a_ (by simpa [pJ] using h),a_ h];simp[pJ]
 ·rw[pN (by simpa [pJ] using h),pN h];rfl
theorem F5{B:Nat}{xs:List Int}(h:Bd B xs):Bd B (pJ xs):=λx hx=>by
 obtain⟨y,hy,rfl⟩:=List.mem_map.mp hx
 rw[Int.natAbs_neg];exact h y hy
section
variable{sizes:List Int}{Ls:List (List Int)}{R:List Row}{idle:List (List Int)}
def told(sizes:List Int)(Ls:List (List Int))(R:List Row)(idle:List (List Int))(xs:List Int):List Int:=aX idle Ls.length (pJ (bg sizes R (xs,List.replicate Ls.length 0) 0 sizes.length).2) Ls.length
theorem zq{A:Nat->bx}{k:Nat}(S:Sz sizes)(hm:Ls.length<=8)(h:St sizes.length Ls.length sizes A k R)(hk:k<=9)(I:xa sizes.length Ls.length (vf sizes) A Ls.length idle){xs:List Int}(hx:Cg sizes xs)(h0:∀ i,i<sizes.length->0<=vf xs i/\vf xs i<vf sizes i)(hg:G sizes.length (vf sizes) (DD R) sizes.length 0 (vf xs)) :
  ck [gj sizes Ls R idle,tI xs]=M.ok (tI (told sizes Ls R idle xs))/\(told sizes Ls R idle xs).length=Ls.length/\Led sizes.length (vf sizes) Ls.length A (vf xs) (vf (told sizes Ls R idle xs))/\∀ l,l<Ls.length->0<=vf (told sizes Ls R idle xs) l/\vf (told sizes Ls R idle xs) l<II idle l l:=by
 have l6:=S.h6
 have r2:(List.replicate Ls.length (0:Int)).length=Ls.length:=by simp
 have ll:=ij h (f:=0) (r:=(xs,List.replicate Ls.length 0)) hx.len r2 sizes.length (by omega)
 have dn:=mz h (f:=0) (r:=(xs,List.replicate Ls.length 0)) hx.len r2 h0
 have z:=dn.run h.gd sizes.length 0 (Nat.le_refl _) (by omega) (by rw[Nat.sub_self];exact hg)
 rw[Nat.sub_zero] at z
 have nz:(bg sizes R (xs,List.replicate Ls.length 0) 0 sizes.length).1=List.replicate sizes.length 0:=n8 (by rw[ll.1];simp) λi hi=>by rw[z i (by omega),eP]
 have b:=s_ h (f:=0) (B:=150*k+1) (r:=(xs,List.replicate Ls.length 0)) hx.len r2 h0 (Nat.le_refl _) (λx hx=>by rw[List.eq_of_mem_replicate hx];exact Nat.two_pow_pos _) sizes.length (by omega)
 have nl:(pJ (bg sizes R (xs,List.replicate Ls.length 0) 0 sizes.length).2).length=Ls.length:=by rw[pJ,List.length_map];exact ll.2
 have sp:=uT (B:=1500) I nl hm (Nat.le_refl _) (by decide) (by decide) (F5 (b.mono (by omega)))
 have led:=tf h (f:=0) (r:=(xs,List.replicate Ls.length 0)) hx.len r2 (P₀:=λ_=>0) (B:=vf xs) (by
  intro i hi
  rw[bB (g:=λ_=>0) λl hl=>by
   show (vf (List.replicate Ls.length 0) l-0)*A l i=0
   rw[eP];simp,dR]
  show vf sizes i∣vf xs i-vf xs i-0
  rw[Int.sub_self];exact Int.dvd_zero _) sizes.length (by omega)
 have led2:Led sizes.length (vf sizes) Ls.length A (vf xs) (vf (pJ (bg sizes R (xs,List.replicate Ls.length 0) 0 sizes.length).2)):=by
  refine Led.mix (a:=-1) (b:=0) led led (λi hi=>?_) λl hl=>?_
  ·rw[z i hi]
   exact⟨0,by omega⟩
  ·rw[Gf];omega
 refine⟨?_,span_len I nl _ (Nat.le_refl _),n5 I nl led2 _ (Nat.le_refl _),λl hl=>sv I nl (Nat.le_refl _) _ (Nat.le_refl _) l (by omega) hl⟩
 have dk:=xj (idle:=idle) S hm h hk hx h0
 have md:∀ y,bp au "brought_down" bF (ae 0) (aa (ae 1) aj) [some (.sh (gj sizes Ls R idle)),some (.sh (tI xs)),y]=M.ok (mk (bg sizes R (xs,List.replicate Ls.length 0) 0 sizes.length)):=λy=>by
  show M.bind (M.ok (gj sizes Ls R idle)) _=_
  rw[M.aO]
  show cV _ (M.bind (M.ok [tI xs]) _)=_
  rw[av ⟨rfl,Kr⟩,M.aO]
  exact dk
 have cm:bJ (bX 0) none (kB (ae 0)) ((bg sizes R (xs,List.replicate Ls.length 0) 0 sizes.length).2.map PV.int) [none]=M.ok ((bg sizes R (xs,List.replicate Ls.length 0) 0 sizes.length).2.map λx=>.int (-x)):=fu _ λx _=>by dsimp? []
 have lz:(bg sizes R (xs,List.replicate Ls.length 0) 0 sizes.length).2.length<=sizeLine:=by rw[ll.2];exact aL (by omega)
 have en:PV.tup ((bg sizes R (xs,List.replicate Ls.length 0) 0 sizes.length).2.map λx=>PV.int (-x))=tI (pJ (bg sizes R (xs,List.replicate Ls.length 0) 0 sizes.length).2):=by rw[tI,pJ,List.map_map];rfl
 unfold ck cR
 dsimp? [md,oU,zW,Kd (sizes:=sizes) (Ls:=Ls) (R:=R) (idle:=idle) (g:=ae 0) (env:=[some (.sh (gj sizes Ls R idle)),some (.sh (tI xs)),some (.sh (mk (bg sizes R (xs,List.replicate Ls.length 0) 0 sizes.length)))]) rfl,kq (Ls:=Ls) l6,nz,ot,decide_true,Ly (sizes:=sizes) (Ls:=Ls) (R:=R) (idle:=idle) (g:=ae 0) (env:=[some (.sh (gj sizes Ls R idle)),some (.sh (tI xs)),some (.sh (mk (bg sizes R (xs,List.replicate Ls.length 0) 0 sizes.length)))]) rfl,List.length_map,av lz,cm,en,sp]
 rfl
end
theorem xR{i j:Int}(h0:0<j)(h:j<2^200):bM (.int i) (.int j)=M.ok (.int (i/j)):=by
 rw[mh (by omega) (Nat.lt_of_lt_of_le (show j.natAbs<2^200 by omega) (Nat.pow_le_pow_right (by decide) (by decide))),Int.fdiv_eq_ediv_of_nonneg _ (by omega)]
theorem xq(ns:List Int)(k:Nat):∃ c,cY [.jD (ns.map PV.int),.int (k:Int)]=M.ok (.int c):=by
 unfold cY ic
 by_cases h:k<ns.length
 ·refine⟨ns[k],?_⟩
  have h':(k:Int)<((ns.length:Nat):Int):=by omega
  have e:=aW (p:=.jD (ns.map PV.int)) (xs:=ns.map PV.int) (j:=k) (x:=.int ns[k]) rfl (by rw[List.getElem?_map,List.getElem?_eq_getElem h];rfl)
  dsimp? [List.length_map,h',decide_true,e]
 ·refine⟨0,?_⟩
  have h':¬ (k:Int)<((ns.length:Nat):Int):=by omega
  dsimp? [List.length_map,h',decide_false]
theorem mE(c:Int)(p:PV)(bases:List Int)(hp:bO p=some (bases.map PV.int))(hb:∀ b∈bases,0<b/\b<2^200)(hl:bases.length<=100):∃ xs:List Int,dm [.int c,p]=M.ok (lI xs)/\xs.length=bases.length/\∀ z∈xs.zip bases,0<=z.1/\z.1<z.2:=by
 suffices h:∃ L8:ai,ja (bX 4) (ao (jQ 2 (ak dh (ae 3) (ae 4))) (ao (br 3 (ak bM (ae 3) (ae 4))) aq)) (bases.map PV.int) [some (.sh (.int c)),some (.sh p),some (.ow []),some (.sh (.int c)),none]=M.ok (.nx L8)/\∃ (d xs:List Int) (left:Int) (y:Option SV),L8=[some (.sh (.int c)),some (.sh p),some (.ow (xs.map PV.int)),some (.sh (.int left)),y]/\bases=d++[]/\xs.length=d.length/\∀ z∈xs.zip d,0<=z.1/\z.1<z.2 by
  obtain⟨L8,e,d,xs,left,y,rfl,hd,hx,hz⟩:=h
  rw[List.append_nil] at hd
  subst hd
  refine⟨xs,?_,hx,hz⟩
  unfold dm dj
  dsimp? [gR,hp,e]
  rfl
 refine lT (λr env=>∃ (d xs:List Int) (left:Int) (y:Option SV),env=[some (.sh (.int c)),some (.sh p),some (.ow (xs.map PV.int)),some (.sh (.int left)),y]/\bases=d++r/\xs.length=d.length/\∀ z∈xs.zip d,0<=z.1/\z.1<z.2) ?_ bases _ ⟨[],[],c,none,rfl,rfl,rfl,λ_ h=>nomatch h⟩
 rintro b r env ⟨d,xs,left,y,rfl,hd,hx,hz⟩
 have O5:=hb b (by rw[hd];simp)
 have dl:d.length<=100:=by
  have:=congrArg List.length hd
  rw[List.length_append] at this;omega
 refine⟨_,[some (.sh (.int c)),some (.sh p),some (.ow ((xs++[left%b]).map PV.int)),some (.sh (.int (left/b))),some (.sh (.int b))],rfl,?_,d++[b],xs++[left%b],left/b,_,rfl,by rw[hd];simp,by simp[hx],λz N5=>?_⟩
 ·dsimp? []
  rw[rV (i:=2) rfl (p:=.int (left%b)) (by dsimp? [bb (i:=left) O5.1]) (by simp;omega)]
  dsimp? [xR (i:=left) O5.1 O5.2,List.map_append]
 ·rw[List.zip_append hx] at N5
  rcases List.mem_append.mp N5 with q | q
  ·exact hz z q
  ·rw[List.zip_cons_cons,List.zip_nil_left] at q
   rw[List.mem_singleton.mp q]
   exact⟨Int.emod_nonneg _ (by omega),Int.emod_lt_of_pos _ O5.1⟩
def ug(sizes xs ys:List Int)(t:Int):List Int:=(xs.zip (ys.zip sizes)).map λz=>(z.1+t*z.2.1)%z.2.2
theorem uM{sizes xs ys:List Int}{t:Int}(h1:xs.length=sizes.length)(h2:ys.length=sizes.length):(ug sizes xs ys t).length=sizes.length:=by
 simp[ug];omega
theorem zR{sizes xs ys:List Int}{t:Int}{i:Nat}(h1:xs.length=sizes.length)(h2:ys.length=sizes.length)(hi:i<sizes.length):vf (ug sizes xs ys t) i=(vf xs i+t*vf ys i)%vf sizes i:=by
 rw[a_ (by rw[uM h1 h2];exact hi),a_ (by omega),a_ (by omega),a_ hi]
 simp[ug]
theorem BR{sizes xs ys:List Int}{t:Int}{q:PV}(hs:∀ s∈sizes,0<s)(hl:sizes.length<=6)(h1:xs.length=sizes.length)(hq:bO q=some (ys.map PV.int))(hy:Bd 200 ys)(ht:t.natAbs<2^200):eV [lI sizes,tI xs,q,.int t]=M.ok (tI (ug sizes xs ys t)):=by
 have k1:bJ (qK 0 1 2) none (ak dh (ak dQ (ae 0) (ak bR (ae 3) (ae 1))) (ae 2)) ((xs.zip (ys.zip sizes)).map λz=>.tup [.int z.1,.int z.2.1,.int z.2.2]) [none,none,none,some (.sh (.int t))]=M.ok ((xs.zip (ys.zip sizes)).map λz=>.int ((z.1+t*z.2.1)%z.2.2)):=by
  refine F9 (p:=λz:Int×Int×Int=>PV.int z.1) (q:=λz:Int×Int×Int=>PV.int z.2.1) (s:=λz:Int×Int×Int=>PV.int z.2.2) (xs.zip (ys.zip sizes)) λz hz=>?_
  obtain⟨m1,m2⟩:=List.of_mem_zip (a:=z.1) (b:=z.2) hz
  obtain⟨m3,m4⟩:=List.of_mem_zip (a:=z.2.1) (b:=z.2.2) m2
  dsimp? [bu (k:=200) (l:=200) ht (hy _ m3),bb (i:=z.1+t*z.2.1) (hs _ m4)]
 have z1:(xs.zip (ys.zip sizes)).length<=sizeLine:=by rw[List.length_zip];exact aL (Nat.le_trans (Nat.min_le_left _ _) (by omega))
 unfold eV gO
 dsimp? [zC (p:=tI xs) (q:=q) (r:=lI sizes) xs ys sizes rfl hq rfl,List.length_map,av z1,k1]
 rw[tI,ug,List.map_map];rfl
theorem qM{sizes xs P:List Int}{raw:List (List Int)}{q p1:PV}{f:List Int->PV}(hf:f=tI\/f=lI)(JW:bO p1=some (raw.map f))(hs:∀ s∈sizes,0<s)(hl:sizes.length<=6)(h1:xs.length=sizes.length)(hq:bO q=some (xs.map PV.int))(hk:∀ i,i<sizes.length->0<=vf xs i/\vf xs i<vf sizes i)
  (hr:∀ l∈raw,l.length=sizes.length/\Bd 200 l) (hP:Bd 200 P) (hm:P.length=raw.length) {p2:PV} (EG:bO p2=some (P.map PV.int)):∃ F:List Int,cL [lI sizes,p1,q,p2]=M.ok (tI F)/\F.length=sizes.length/\(∀ i,i<sizes.length->0<=vf F i/\vf F i<vf sizes i)/\∀ i,i<sizes.length->vf sizes i∣vf F i-(vf xs i+bo raw.length λl=>vf P l*vf (raw.getD l []) i):=by
 have sp:∀ i,i<sizes.length->0<vf sizes i:=λi hi=>by rw[a_ hi];exact hs _ (List.getElem_mem hi)
 suffices h:∃ L8:ai,ja (bV 5 6) (ao (br 4 (af eV (aa (ae 0) (aa (ae 4) (aa (ae 5) (aa (ae 6) aj)))))) aq) ((raw.zip P).map λz=>.tup [f z.1,.int z.2]) [some (.sh (lI sizes)),some (.sh p1),some (.sh q),some (.sh p2),some (.sh (tI xs)),none,none]=M.ok (.nx L8)/\∃ (c:Nat) (F:List Int) (y z:Option SV),L8=[some (.sh (lI sizes)),some (.sh p1),some (.sh q),some (.sh p2),some (.sh (tI F)),y,z]/\c<=raw.length/\(raw.zip P).drop c=[]/\F.length=sizes.length/\(∀ i,i<sizes.length->0<=vf F i/\vf F i<vf sizes i)/\∀ i,i<sizes.length->vf sizes i∣vf F i-(vf xs i+bo c λl=>vf P l*vf (raw.getD l []) i) by
  obtain⟨L8,e,c,F,y,z,rfl,hc,hd,fl,fk,fd⟩:=h
  have:c=raw.length:=by
   have:=congrArg List.length hd
   rw[List.length_drop,List.length_zip] at this
   simp at this
   omega
  subst this
  refine⟨F,?_,fl,fk,fd⟩
  have e0:zip2 [p1,p2]=M.ok ((raw.zip P).map λz=>.tup [f z.1,.int z.2]):=fc (p:=p1) (q:=p2) raw P JW EG
  unfold cL eh
  dsimp? [hq,e0]
  rw[show (PV.tup (xs.map PV.int))=tI xs from rfl,e]
  dsimp? []
 refine lT (λzs env=>∃ (c:Nat) (F:List Int) (y z:Option SV),env=[some (.sh (lI sizes)),some (.sh p1),some (.sh q),some (.sh p2),some (.sh (tI F)),y,z]/\c<=raw.length/\(raw.zip P).drop c=zs/\F.length=sizes.length/\(∀ i,i<sizes.length->0<=vf F i/\vf F i<vf sizes i)/\∀ i,i<sizes.length->vf sizes i∣vf F i-(vf xs i+bo c λl=>vf P l*vf (raw.getD l []) i)) ?_ (raw.zip P) _ ⟨0,xs,none,none,rfl,Nat.zero_le _,rfl,h1,hk,λi hi=>by rw[bo];exact⟨0,by omega⟩⟩
 rintro⟨l,t⟩ r env ⟨c,F,y,z,rfl,hc,hd,fl,fk,fd⟩
 obtain⟨c1,c2,c3⟩:=drop_cons hd
 rw[List.length_zip] at c1
 have hcr:c<raw.length:=by omega
 have hcp:c<P.length:=by omega
 have el:l=raw[c]/\t=P[c]:=by
  rw[List.getElem?_eq_getElem (by rw[List.length_zip];omega),List.getElem_zip] at c2
  have:=Option.some.inj c2
  injection this with a b
  exact⟨a.symm,b.symm⟩
 have lr:=hr l (by rw[el.1];exact List.getElem_mem _)
 have tb:t.natAbs<2^200:=by rw[el.2];exact hP _ (List.getElem_mem _)
 refine⟨_,[some (.sh (lI sizes)),some (.sh p1),some (.sh q),some (.sh p2),some (.sh (tI (ug sizes F l t))),some (.sh (f l)),some (.sh (.int t))],rfl,?_,c+1,ug sizes F l t,_,_,rfl,by omega,c3,uM fl lr.1,λi hi=>?_,λi hi=>?_⟩
 ·dsimp? [BR (q:=f l) hs hl fl (Ei hf l) lr.2 tb]
 ·rw[zR fl lr.1 hi]
  have:=sp i hi
  exact⟨Int.emod_nonneg _ (by omega),Int.emod_lt_of_pos _ this⟩
 ·rw[zR fl lr.1 hi,bo]
  obtain⟨a,ha⟩:=fd i hi
  obtain⟨b,hb⟩:=dI (vf F i+t*vf l i) (vf sizes i)
  have e1:vf P c=t:=by rw[a_ hcp,el.2]
  have e2:raw.getD c []=l:=by rw[List.getD_eq_getElem?_getD,List.getElem?_eq_getElem hcr,el.1];rfl
  rw[e1,e2]
  exact⟨a+b,by rw[Int.mul_add];omega⟩
theorem j4(c:Int)(m:Nat)(hm:m<=100):jC (cj [.int c,.int (m:Int)]) λp=>∃ xs:List Int,p=lI xs/\xs.length=m/\∀ x∈xs,0<=x/\x<2^31:=by
 unfold cj cH
 dsimp? [gR,bb (j:=2147483629) (i:=c) (by decide),hV (n:=(m:Int)) (by omega) (by omega)]
 refine jC.loop (xs:=List.range (m:Int).toNat) (inj:=λ(i:Nat)=>.int (i:Int)) (λzs env=>∃ (xs:List Int) (u:Int) (y:Option SV),env=[some (.sh (.int c)),some (.sh (.int (m:Int))),some (.ow (xs.map PV.int)),some (.sh (.int u)),y]/\xs.length+zs.length=m/\(∀ z∈zs,z<m)/\0<=u/\u<2^31/\∀ x∈xs,0<=x/\x<2^31) ⟨[],c%2147483629+17,none,rfl,by simp,λz hz=>by simpa using hz,by omega,by omega,λx hx=>nomatch hx⟩ ?_ ?_
 ·rintro a r env ⟨xs,u,y,rfl,hl,hz,u0,u1,hx⟩
  have ha:=hz a List.mem_cons_self
  dsimp? [bX,bu (i:=u) (j:=48271) (k:=31) (l:=31) (by omega) (by decide),bu (i:=7919) (j:=(a:Int)) (k:=31) (l:=31) (by decide) (by omega),bb (i:=u*48271+7919*(a:Int)+1) (j:=2147483647) (by decide),aT (i:=(u*48271+7919*(a:Int)+1)%2147483647) (j:=5) (by decide) (by decide),kn,ownAt,j9 (xs:=xs.map PV.int) (by simp at hl ⊢;omega),gT]
  exact⟨_,rfl,_,_,_,rfl,by simp at hl ⊢;omega,λz h=>hz z (List.mem_cons_of_mem _ h),by omega,by omega,λx Pz=>by
    rcases List.mem_append.mp Pz with h | h
    ·exact hx x h
    ·rw[List.mem_singleton] at h;omega⟩
 ·rintro env ⟨xs,u,y,rfl,hl,_,_,_,hx⟩
  exact⟨_,rfl,xs,rfl,by simpa using hl,hx⟩
theorem zy(p:PV)(n:Nat)(h8:n<=1000):bR (.lst [p]) (.int (n:Int))=M.ok (.lst (List.replicate n p)):=by
 have h2:[p].length*(n:Int).toNat<=sizeLine:=by
  rw[Int.toNat_natCast]
  exact aL (by show 1*n<=1000;omega)
 have h3:(n:Int)<2^63:=Int.lt_of_le_of_lt (Int.ofNat_le.mpr h8) (by decide)
 have h4:-(2^63)<=(n:Int):=Int.le_trans (by decide) (Int.natCast_nonneg n)
 rw[bR,av ⟨h4,h3,h2⟩,Int.toNat_natCast,pd]
theorem Cs{n:Nat}{a b:Int}(h:b∈List.replicate n a):b=a:=List.eq_of_mem_replicate h
theorem HS:Bx (.int 10) (.int 30)=M.ok (.int (10^30)):=by
 show cV (decide ((0:Int)<=30/\(30:Int)<=1000000/\(10:Int).natAbs<2^64)=true) _=_
 exact av (by decide)
theorem A3(i:Int)(h0:0<=i)(h:i<2^60):jC (gH [.int i]) λp=>∃ x:Int,p=.int x/\x.natAbs<2^199:=by
 unfold gH gu
 dsimp? [bu (i:=i) (j:=618033988749894848204586834365) (k:=60) (l:=200) (by omega) (by decide),HS,bu (i:=2) (j:=10^30) (k:=60) (l:=200) (by decide) (by decide),bb (i:=i*618033988749894848204586834365) (j:=2*10^30-1) (by decide)]
 exact⟨_,rfl,_,rfl,by omega⟩
theorem pick(l:List Int)(c:Int)(n:Nat)(hn:l.length=n)(h0:0<n):∃ x,x∈l/\aB (.lst (l.map PV.int)) (.int (c%(n:Int)))=M.ok (.int x):=by
 have h1:0<=c%(n:Int):=Int.emod_nonneg _ (by omega)
 have h2:c%(n:Int)<n:=Int.emod_lt_of_pos _ (by omega)
 obtain⟨j,hj⟩:=Int.eq_ofNat_of_zero_le h1
 have hj':j<l.length:=by omega
 refine⟨l[j],List.getElem_mem _,?_⟩
 rw[hj]
 exact aW (p:=.lst (l.map PV.int)) (j:=j) rfl (by rw[List.getElem?_map,List.getElem?_eq_getElem hj'];rfl)
theorem two{c:Int}:c%2=0\/c%2=1:=by omega
theorem yc(c:Int):jC (gM [.int c]) λp=>∃ xs:List Int,p=lI xs/\Sz xs:=by
 obtain⟨m,em,m1,m6⟩:∃ m:Nat,1+c/2%6=(m:Int)/\1<=m/\m<=6:=⟨(1+c/2%6).toNat,by omega,by omega,by omega⟩
 unfold gM gG
 dsimp? [aT (i:=c) (j:=2) (by decide) (by decide),bb (i:=c/2) (j:=6) (by decide),em,bb (i:=c) (j:=2) (by decide),aT (i:=c) (j:=12) (by decide) (by decide)]
 rcases two (c:=c) with h | h
 ·simp only[h,show ¬ (0:Int)=1 by decide,decide_false]
  obtain⟨_,es,xs,rfl,xl,xb⟩:=j4 (c/12) m (by omega)
  dsimp? [gR,es,aT (i:=c) (j:=12) (by decide) (by decide)]
  refine jC.loop (xs:=xs) (inj:=PV.int) (λzs env=>∃ (ss:List Int) (y:Option SV),env=[some (.sh (.int c)),some (.sh (.int (m:Int))),some (.ow (ss.map PV.int)),y]/\ss.length+zs.length=m/\(∀ s∈ss,2<=s/\s<=360)) ⟨[],none,rfl,by simpa using xl,λ_ h=>nomatch h⟩ ?_ ?_
  ·rintro a r env ⟨ss,y,rfl,hl,hs⟩
   have O8:(ss.map PV.int).length<1000:=by simp at hl ⊢;omega
   have fin:∀ v:Int,2<=v/\v<=360->(ss++[v]).length+r.length=m/\∀ s∈ss++[v],2<=s/\s<=360:=λv hv=>⟨by simp at hl ⊢;omega,λs h'=>by
    rcases List.mem_append.mp h' with q | q
    ·exact hs s q
    ·rw[List.mem_singleton.mp q];exact hv⟩
   dsimp? [bX,aT (i:=c) (j:=12) (by decide) (by decide),bb (i:=c/12) (j:=2) (by decide)]
   rcases two (c:=c/12) with h2 | h2
   ·obtain⟨v,hv,ev⟩:=pick [2,3,4,6,8,9,12,16,24,27,32,36,64,72,81,128,243,256,360] a 19 rfl (by decide)
    simp only[h2,decide_true]
    dsimp? [bb (i:=a) (j:=19) (by decide),kn,ownAt]
    rw[show ((19:Nat):Int)=19 from rfl] at ev
    simp only[List.map_cons,List.map_nil] at ev
    rw[ev]
    dsimp? [j9 O8,gT]
    obtain⟨f1,f2⟩:=fin v (by simp at hv;omega)
    exact⟨_,rfl,_,_,rfl,f1,f2⟩
   ·simp only[h2,show ¬ (1:Int)=0 by decide,decide_false]
    dsimp? [bb (i:=a) (j:=30) (by decide),bu (i:=12) (j:=1+a%30) (k:=31) (l:=31) (by decide) (by omega),kn,ownAt,j9 O8,gT]
    obtain⟨f1,f2⟩:=fin (12*(1+a%30)) (by omega)
    exact⟨_,rfl,_,_,rfl,f1,f2⟩
  ·rintro env ⟨ss,y,rfl,hl,hs⟩
   refine⟨_,rfl,ss,rfl,?_,?_,hs⟩
   ·simp at hl;omega
   ·simp at hl;omega
 ·simp only[h,decide_true]
  obtain⟨xs,ex,xl,xb⟩:=mE (c/12) (.lst (List.replicate m (.int 359))) (List.replicate m 359) (by rw[List.map_replicate];rfl) (λb hb=>by rw[Cs hb];decide) (by simp;omega)
  rw[List.length_replicate] at xl
  dsimp? [aT (i:=c) (j:=12) (by decide) (by decide),zy (.int 359) m (by omega),ex,List.length_map,av (aL (show xs.length<=1000 by omega)),fu (f:=ak dQ (λ_=>M.ok (.int 2)) (ae 0)) (inj:=PV.int) (h:=λx=>.int (2+x)) (rest:=[]) (x0:=none) xs λa _=>by dsimp? []]
  refine⟨_,rfl,xs.map (2+·),by rw[lI,List.map_map];rfl,by simp;omega,by simp;omega,λx hx=>?_⟩
  obtain⟨y,hy,rfl⟩:=List.mem_map.mp hx
  obtain⟨i,hi,rfl⟩:=List.mem_iff_getElem.mp hy
  have:=xb (xs[i],359) (List.mem_iff_getElem.mpr ⟨i,by simp;omega,by simp⟩)
  simp at this;omega
theorem xZ{sizes:List Int}(S:Sz sizes)(c:Int):jC (c_ [.int c,lI sizes]) λp=>∃ xs:List Int,p=lI xs/\xs.length=sizes.length/\Bd 200 xs:=by
 have l6:=S.h6
 obtain⟨_,es,xs,rfl,xl,xb⟩:=j4 c sizes.length (by omega)
 unfold c_ gQ
 dsimp? [gR,es,fc (p:=lI xs) (q:=lI sizes) xs sizes rfl rfl]
 refine jC.loop (xs:=xs.zip sizes) (inj:=λz=>.tup [.int z.1,.int z.2]) (λzs env=>∃ (ss:List Int) (y1 y2 y3:Option SV),env=[some (.sh (.int c)),some (.sh (lI sizes)),some (.ow (ss.map PV.int)),y1,y2,y3]/\ss.length+zs.length=sizes.length/\Bd 200 ss/\∀ z∈zs,z.1∈xs/\z.2∈sizes) ⟨[],none,none,none,rfl,by simp;omega,(λ_ h=>nomatch h),λz hz=>j5 hz⟩ ?_ ?_
 ·rintro⟨a,s⟩ r env ⟨ss,y1,y2,y3,rfl,hl,hs,hm⟩
  obtain⟨ma,ms⟩:=hm (a,s) List.mem_cons_self
  have ha:=xb a ma
  have hz:=S.hx s ms
  have hm':∀ z∈r,z.1∈xs/\z.2∈sizes:=λz hz=>hm z (List.mem_cons_of_mem _ hz)
  have O8:(ss.map PV.int).length<1000:=by simp at hl ⊢;omega
  have fin:∀ v:Int,v.natAbs<2^200->(ss++[v]).length+r.length=sizes.length/\Bd 200 (ss++[v]):=λv hv=>⟨by simp at hl ⊢;omega,λs h'=>by
   rcases List.mem_append.mp h' with q | q
   ·exact hs s q
   ·rw[List.mem_singleton.mp q];exact hv⟩
  dsimp? [bV,bb (i:=a) (j:=4) (by decide)]
  by_cases h0:a%4=0
  ·obtain⟨_,eg,v,rfl,hv⟩:=A3 (a/4) (by omega) (by omega)
   simp only[h0,decide_true]
   dsimp? [aT (i:=a) (j:=4) (by decide) (by decide),eg,kn,ownAt,j9 O8,gT]
   obtain⟨f1,f2⟩:=fin v (by omega)
   exact⟨_,rfl,_,_,_,_,rfl,f1,f2,hm'⟩
  ·simp only[h0,decide_false]
   dsimp? [bb (i:=a) (j:=4) (by decide)]
   by_cases h1:a%4=1
   ·simp only[h1,decide_true]
    dsimp? [kn,ownAt,j9 O8,gT]
    obtain⟨f1,f2⟩:=fin 0 (by decide)
    exact⟨_,rfl,_,_,_,_,rfl,f1,f2,hm'⟩
   ·simp only[h1,decide_false]
    obtain⟨v,hv,ev⟩:=pick [1,1,2,3,4,6,12] (a/4) 7 rfl (by decide)
    rw[show ((7:Nat):Int)=7 from rfl] at ev
    simp only[List.map_cons,List.map_nil] at ev
    have O_:1<=v/\v<=12:=by simp at hv;omega
    dsimp? [aT (i:=a) (j:=4) (by decide) (by decide),bb (i:=a/4) (j:=7) (by decide)]
    rw[ev]
    have b1:0<=a/28%s:=Int.emod_nonneg _ (by omega)
    have b2:a/28%s<s:=Int.emod_lt_of_pos _ (by omega)
    have b3:0<=a/28%s*v%s:=Int.emod_nonneg _ (by omega)
    have b4:a/28%s*v%s<s:=Int.emod_lt_of_pos _ (by omega)
    dsimp? [aT (i:=a) (j:=28) (by decide) (by decide),bb (i:=a/28) (j:=s) (by omega),bu (i:=a/28%s) (j:=v) (k:=31) (l:=31) (by omega) (by omega),bb (i:=a/28%s*v) (j:=s) (by omega),kn,ownAt,j9 O8,gT]
    obtain⟨f1,f2⟩:=fin (a/28%s*v%s) (by omega)
    exact⟨_,rfl,_,_,_,_,rfl,f1,f2,hm'⟩
 ·rintro env ⟨ss,y1,y2,y3,rfl,hl,hs,_⟩
  exact⟨_,rfl,ss,rfl,by simpa using hl,hs⟩
theorem Al{xs:List Int}{i:Nat}(h:i<xs.length):aB (lI xs) (.int (i:Int))=M.ok (.int (vf xs i)) :=
 aW (p:=lI xs) rfl (by rw[List.getElem?_map,List.getElem?_eq_getElem h,a_ h];rfl)
theorem getD_at{α β:Type}(f:α->β){xs:List α}{a:α}{b:β}{l:Nat}(h:l<xs.length):(xs.map f).getD l b=f (xs.getD l a):=by
 rw[List.getD_eq_getElem?_getD,List.getD_eq_getElem?_getD,List.getElem?_map,List.getElem?_eq_getElem h];rfl
theorem getD_mem{α:Type}{xs:List α}{a:α}{l:Nat}(h:l<xs.length):xs.getD l a∈xs:=by
 rw[List.getD_eq_getElem?_getD,List.getElem?_eq_getElem h];exact List.getElem_mem h
theorem Bm{sizes:List Int}{raw:List (List Int)}(S:Sz sizes)(hr:∀ l∈raw,l.length=sizes.length/\Bd 200 l):HL sizes.length raw.length sizes (raw.map λl=>wU l sizes)/\∀ l,l<raw.length->∀ i,i<sizes.length->AA (raw.map λl=>wU l sizes) l i=vf (raw.getD l []) i%vf sizes i:=by
 have e:∀ l,l<raw.length->∀ i,i<sizes.length->AA (raw.map λl=>wU l sizes) l i=vf (raw.getD l []) i%vf sizes i:=λl hl i hi=>by
  unfold AA
  rw[getD_at (a:=[]) _ hl,zx,jP (by rw[(hr _ (getD_mem hl)).1];exact hi) hi]
 refine⟨⟨by simp,λl hl=>?_,λl hl i hi=>?_⟩,e⟩
 ·rw[getD_at (a:=[]) _ hl,zx,jJ,(hr _ (getD_mem hl)).1];omega
 ·rw[e l hl i hi]
  have:=S.hx _ (List.getElem_mem hi)
  rw[← a_ hi] at this
  exact⟨Int.emod_nonneg _ (by omega),Int.emod_lt_of_pos _ (by omega)⟩
theorem o3{sizes:List Int}(S:Sz sizes):∀ i,i<sizes.length->0<vf sizes i/\vf sizes i<=360:=λi hi=>by
 have:=S.hx _ (List.getElem_mem hi)
 rw[← a_ hi] at this
 omega
theorem rW{sizes xs:List Int}(h:xs.length=sizes.length)(h0:∀ i,i<sizes.length->0<=vf xs i/\vf xs i<vf sizes i):Cg sizes xs:=⟨h,λz hz=>by
 obtain⟨i,hi,rfl⟩:=List.mem_iff_getElem.mp hz
 rw[List.length_zip] at hi
 have:=h0 i (by omega)
 rw[a_ (by omega),a_ (by omega)] at this
 simpa using this⟩
def pS(ns:List Int)(a b:Nat):List Int:=(ns.drop (HT.dw ns.length 0 (some (a:Int)))).take (HT.dw ns.length ns.length (some (b:Int))-HT.dw ns.length 0 (some (a:Int)))
theorem CF(ns:List Int)(a b:Nat):HC (.jD (ns.map PV.int)) (some (a:Int)) (some (b:Int))=M.ok (.lst ((pS ns a b).map PV.int)):=by
 show M.ok (PV.lst (lx (ns.map PV.int) _ _))=_
 rw[lx,pS,List.map_take,List.map_drop,List.length_map]
theorem qV(ns:List Int)(a b:Nat):(pS ns a b).length<=b-a:=by
 unfold pS
 rw[List.length_take,List.length_drop,HT.nY,HT.nY]
 omega
theorem xT(xs:List Int)(h:xs.length<=100):dQ (.lst (xs.map PV.int)) (.lst [.int 0])=M.ok (lI (xs++[0])):=by
 rw[dQ,av (aL (by simp;omega)),lI,List.map_append];rfl
theorem vK{xs:List Int}{z:Int×Nat}(h:z∈xs.zipIdx):z.2<xs.length:=by
 obtain⟨i,hi,rfl⟩:=List.mem_iff_getElem.mp h
 simp at hi ⊢;exact hi
theorem E9(Ls:List (List Int))(i:Nat):AA Ls Ls.length i=0:=by
 unfold AA
 rw[List.getD_eq_getElem?_getD,List.getElem?_eq_none (Nat.le_refl _)]
 exact pN (Nat.zero_le _)
section
variable{sizes:List Int}{Ls:List (List Int)}{R:List Row}{idle:List (List Int)}{A:Nat->bx}{k:Nat}
theorem tR{m:Str}{sem:List PV->M PV}{x:M (List PV)}(h:(uo (cx sizes Ls) R idle).lookup m=none):qx au m sem (gj sizes Ls R idle) x=x.bind λps=>sem (gj sizes Ls R idle::ps):=kh h
theorem JE:BC (λc=>c==au) "vault" (gj sizes Ls R idle)=M.ok (cx sizes Ls):=oG (beq_self_eq_true _) Ie
theorem K9:BC (λc=>c==au) "made_rows" (gj sizes Ls R idle)=M.ok (.lst (R.map mk)):=oG (beq_self_eq_true _) Ig
theorem LN:BC (λc=>c==au) "idle_rows" (gj sizes Ls R idle)=M.ok (.lst (idle.map tI)):=oG (beq_self_eq_true _) Iw
theorem F8:qx ar "sizes" aE (cx sizes Ls) (M.ok [])=M.ok (tI sizes):=(kh (fl:=oS sizes Ls) rfl).trans (uv sizes Ls)
def lst(sizes:List Int)(Ls:List (List Int))(R:List Row)(xs:List Int):List Int:=(bg sizes R (xs,List.replicate Ls.length 0) 0 sizes.length).1
theorem qO(h:St sizes.length Ls.length sizes A k R){xs:List Int}(hl:xs.length=sizes.length)(h0:∀ i,i<sizes.length->0<=vf xs i/\vf xs i<vf sizes i) :
  (lst sizes Ls R xs).length=sizes.length/\(∀ i,i<sizes.length->0<=vf (lst sizes Ls R xs) i/\vf (lst sizes Ls R xs) i<aM (vf sizes) (DD R) i)/\(∀ i,i<sizes.length->0<=vf (lst sizes Ls R xs) i/\vf (lst sizes Ls R xs) i<vf sizes i)/\G sizes.length (vf sizes) (DD R) sizes.length 0 (λi=>vf xs i-vf (lst sizes Ls R xs) i):=by
 have r2:(List.replicate Ls.length (0:Int)).length=Ls.length:=by simp
 have ll:=ij h (f:=0) (r:=(xs,List.replicate Ls.length 0)) hl r2 sizes.length (by omega)
 have dn:=mz h (f:=0) (r:=(xs,List.replicate Ls.length 0)) hl r2 h0
 exact⟨ll.1,λi hi=>dn.low h.gd sizes.length (Nat.zero_le _) (Nat.le_refl _) i (Nat.zero_le _) hi,λi hi=>dn.kept h.gd sizes.length (Nat.zero_le _) (Nat.le_refl _) i hi,dn.away h.gd sizes.length (Nat.zero_le _) (Nat.le_refl _) sizes.length (by omega)⟩
def lJ(sizes:List Int)(R:List Row):List Int:=(List.range sizes.length).map λd=>aM (vf sizes) (DD R) d
theorem jY:(lJ sizes R).length=sizes.length:=by simp[lJ]
theorem wL{i:Nat}(h:i<sizes.length):vf (lJ sizes R) i=aM (vf sizes) (DD R) i:=by
 rw[a_ (by rw[jY];exact h)];simp[lJ]
def Ck(idle:List (List Int)):List Int:=idle.zipIdx.map λz=>vf z.1 z.2
theorem nP:(Ck idle).length=idle.length:=by simp[Ck]
theorem Ag{i:Nat}(h:i<idle.length):vf (Ck idle) i=II idle i i:=by
 rw[a_ (by rw[nP];exact h)]
 simp only[Ck,List.getElem_map,List.getElem_zipIdx,Nat.zero_add]
 unfold II
 rw[List.getD_eq_getElem?_getD,List.getElem?_eq_getElem h];rfl
theorem BY(S:Sz sizes)(h:St sizes.length Ls.length sizes A k R):fZ [gj sizes Ls R idle]=M.ok (tI (lJ sizes R)):=by
 have l6:=S.h6
 have key:bJ (bX 0) none (af dO (aa (ae 2) (aa (eB (λc=>c==au) "made_rows" (ae 1)) (aa (ae 0) aj)))) ((List.range sizes.length).map λ(i:Nat)=>.int (i:Int)) [none,some (.sh (gj sizes Ls R idle)),some (.sh (tI sizes))]=M.ok ((List.range sizes.length).map λd=>.int (aM (vf sizes) (DD R) d)):=by
  refine fu (inj:=λ(i:Nat)=>PV.int (i:Int)) (List.range sizes.length) λi hi=>?_
  dsimp? [jj,K9,si h.wf h.hs (List.mem_range.mp hi)]
 unfold fZ fY
 dsimp? [jj,JE,bN,F8,hV (n:=(sizes.length:Int)) (by omega) (by omega),Int.toNat_natCast,List.length_map,List.length_range,av (aL (show sizes.length<=1000 by omega)),key]
 rw[tI,lJ,List.map_map];rfl
theorem xP(hm:Ls.length<=8)(I:xa sizes.length Ls.length (vf sizes) A Ls.length idle):fO [gj sizes Ls R idle]=M.ok (tI (Ck idle)):=by
 have il:=I.len
 have key:bJ (bV 0 1) none (ak aB (ae 1) (ae 0)) (idle.zipIdx.map λz=>.tup [.int (z.2:Int),tI z.1]) [none,none]=M.ok (idle.zipIdx.map λz=>.int (vf z.1 z.2)):=by
  refine iH (p:=λz:List Int×Nat=>PV.int (z.2:Int)) (q:=λz:List Int×Nat=>tI z.1) idle.zipIdx λz hz=>?_
  obtain⟨i,hi,rfl⟩:=List.mem_iff_getElem.mp hz
  rw[List.length_zipIdx] at hi
  have:=I.l2 i (by omega)
  rw[List.getD_eq_getElem?_getD,List.getElem?_eq_getElem hi] at this
  simp only[List.getElem_zipIdx,Nat.zero_add]
  dsimp? [j0 (xs:=idle[i]) (i:=i) (by rw[show idle[i].length=Ls.length from this];omega)]
 unfold fO fM
 dsimp? [jj,LN,nX,List.length_map,List.length_zipIdx,av (aL (show idle.length<=1000 by omega)),key]
 rw[tI,Ck,List.map_map];rfl
theorem A0(S:Sz sizes)(hm:Ls.length<=8)(h:St sizes.length Ls.length sizes A k R)(hk:k<=9){xs:List Int}(hl:xs.length=sizes.length)(h0:∀ i,i<sizes.length->0<=vf xs i/\vf xs i<vf sizes i)(hn:lst sizes Ls R xs≠List.replicate sizes.length 0) :
  ck [gj sizes Ls R idle,tI xs]=M.ok .cp:=by
 have dk:=xj (idle:=idle) S hm h hk (rW hl h0) h0
 unfold ck cR
 dsimp? [bN,tR (m := "brought_down") rfl,dk,oU,jj,JE,kq (Ls:=Ls) S.h6,ot]
 simp only[show ¬ (bg sizes R (xs,List.replicate Ls.length 0) 0 sizes.length).1=List.replicate sizes.length 0 from hn,decide_false]
 dsimp? []
end
section
variable{sizes:List Int}{raw Ls:List (List Int)}{R:List Row}{k:Nat}
theorem vX(S:Sz sizes):∀ s∈sizes,0<s:=λs hs=>by have:=S.hx s hs;omega
theorem Di(n:Nat):(List.replicate n (0:Int)).length=n:=by simp
theorem uD(S:Sz sizes):∀ i,i<sizes.length->0<=vf (List.replicate sizes.length 0) i/\vf (List.replicate sizes.length 0) i<vf sizes i:=λi hi=>by rw[eP];have:=o3 S i hi;omega
theorem D_{F F':List Int}(h:F.length=sizes.length)(h':F'.length=sizes.length)(k:∀ i,i<sizes.length->0<=vf F i/\vf F i<vf sizes i)(k':∀ i,i<sizes.length->0<=vf F' i/\vf F' i<vf sizes i)(d:∀ i,i<sizes.length->vf sizes i∣vf F i-vf F' i):F=F' :=
 n8 (h.trans h'.symm) λi hi=>by
  have:=k i (by omega);have:=k' i (by omega)
  have:=mG (d i (by omega)) (by omega) (by omega)
  omega
theorem Jt{idle:List (List Int)}{A:Nat->bx}(I:xa sizes.length Ls.length (vf sizes) A Ls.length idle){T:List Int}(hT:T.length=Ls.length)(nf:∀ l,l<Ls.length->0<=vf T l/\vf T l<II idle l l):Bd 200 T:=λx hx=>by
 obtain⟨i,hi,rfl⟩:=List.mem_iff_getElem.mp hx
 have h2:=nf i (by omega)
 rw[a_ hi] at h2
 have h3:=I.le i (by omega)
 omega
theorem vD(S:Sz sizes){F:List Int}(h:F.length=sizes.length)(k:∀ i,i<sizes.length->0<=vf F i/\vf F i<vf sizes i):Bd 200 F:=λx hx=>by
 obtain⟨i,hi,rfl⟩:=List.mem_iff_getElem.mp hx
 have h2:=k i (by omega)
 rw[a_ hi] at h2
 have:=o3 S i (by omega)
 omega
structure fj (ns:List Int) (sizes:List Int) (raw Ls:List (List Int)) (R:List Row) (idle:List (List Int)):Prop where
 S:Sz sizes
 hr:∀ l∈raw,l.length=sizes.length/\Bd 200 l
 eL:Ls=raw.map λl=>wU l sizes
 hm:raw.length=Ls.length
 m8:Ls.length<=8
 eA:∀ l,l<raw.length->∀ i,i<sizes.length->AA Ls l i=vf (raw.getD l []) i%vf sizes i
 LL:HL sizes.length Ls.length sizes Ls
 st:St sizes.length Ls.length sizes (AA Ls) (Ls.length+1) R
 I:xa sizes.length Ls.length (vf sizes) (AA Ls) Ls.length idle
 pr:aC Ls.length (λj=>II idle j j)*aC sizes.length (aM (vf sizes) (DD R))=aC sizes.length (vf sizes)
 ord:∀ j,j<Ls.length->∀ P:bx,Zf (j+1) Ls.length P->Led sizes.length (vf sizes) Ls.length (AA Ls) (λ_=>0) P->II idle j j∣P j
 low:∀ d,d<sizes.length->∀ e,d<e->e<sizes.length->DD R d e<aM (vf sizes) (DD R) e
 nul:∀ d,d<sizes.length->DD R d d=0->∀ i,i<sizes.length->DD R d i=0
 Gx:∀ {p:PV} {f:List Int->PV},(f=tI\/f=lI)->bO p=some (sizes.map PV.int)->c6 ar b_ [.cp] [p,.lst (raw.map f)]=M.ok (cx sizes Ls)
 ze:c6 au bU [] [cx sizes Ls]=M.ok (gj sizes Ls R idle)
theorem fj.get(ns:List Int){sizes:List Int}(S:Sz sizes){raw:List (List Int)}(r8:raw.length<=8)(hr:∀ l∈raw,l.length=sizes.length/\Bd 200 l):∃ Ls R idle,fj ns sizes raw Ls R idle:=by
 have l6:=S.h6
 have sp:=o3 S
 obtain⟨LL,eA⟩:=Bm S hr
 have Gx:=λ{p:PV} {f:List Int->PV} (hf:f=tI\/f=lI) hp=>Cm (p:=p) hf sizes raw hp S r8 λl h=>(hr l h).1
 have hm:raw.length=(raw.map λl=>wU l sizes).length:=by simp
 generalize hLs:(raw.map λl=>wU l sizes)=Ls at *
 rw[hm] at LL r8
 have K:=z6.all (c:=cf) rfl sp LL AI l6 Ls.length (Nat.le_refl _)
 have ze:=zG S.h1 l6 r8 sp LL
 generalize RK cf sizes Ls sizes.length Ls.length Ls.length=rk at *
 have h:=K.st
 have hl:∀ d,d<sizes.length->(bg sizes rk.1 (row rk.1 d) (d+1) (sizes.length-(d+1))).1.length=sizes.length:=λd hd=>(ij h (h.wf.mP hd) (h.wf.at2 hd) _ (by omega)).1
 have lg:=uY (D':=DD (my sizes rk.1 sizes.length)) h.gd (λd e=>vf (bg sizes rk.1 (row rk.1 d) (d+1) (e-(d+1))).1) (λd hd=>mz h (h.wf.mP hd) (h.wf.at2 hd) λi hi=>h.gd.iO d hd i hi) (λd hd i hi=>by
  show vf (bg sizes rk.1 (row rk.1 d) (d+1) (d+1-(d+1))).1 i=_
  rw[Nat.sub_self];rfl) (λd hd i hi=>by unfold DD;rw[ly hd])
 refine⟨Ls,my sizes rk.1 sizes.length,rk.2,S,hr,hLs.symm,hm,r8,eA,LL,Gn K.st l6 (E9 Ls),K.oQ,?_,K.ord,?_,?_,Gx,ze⟩
 ·rw[cy (f:=aM (vf sizes) (DD (my sizes rk.1 sizes.length))) (g:=aM (vf sizes) (DD rk.1)) lg.2.1]
  exact K.pr
 ·intro d hd e h1 h2
  rw[lg.2.1 e h2]
  exact lg.2.2.1 d hd e h1 h2
 ·exact lg.2.2.2.1
end
theorem t_{sizes:List Int}(S:Sz sizes)(c:Int):jC (eX [.int c,lI sizes]) λp=>∃ xs:List Int,p=tI xs/\xs.length=sizes.length/\∀ i,i<sizes.length->0<=vf xs i/\vf xs i<vf sizes i:=by
 have l6:=S.h6
 unfold eX e7
 dsimp? [bb (i:=c) (j:=2) (by decide)]
 rcases two (c:=c) with h | h
 ·simp only[h,show ¬ (0:Int)=1 by decide,decide_false]
  obtain⟨_,es,xs,rfl,xl,xb⟩:=j4 (c/2) sizes.length (by omega)
  have key:bJ (bV 0 1) none (ak dh (ae 0) (ae 1)) ((xs.zip sizes).map λz=>.tup [.int z.1,.int z.2]) [none,none]=M.ok ((xs.zip sizes).map λz=>.int (z.1%z.2)):=by
   refine iH (p:=λz:Int×Int=>PV.int z.1) (q:=λz:Int×Int=>PV.int z.2) (xs.zip sizes) λz hz=>?_
   dsimp? [bb (i:=z.1) (vX S _ (j5 hz).2)]
  have hz:(xs.zip sizes).length<=sizeLine:=by rw[List.length_zip];exact aL (Nat.le_trans (Nat.min_le_left _ _) (by omega))
  dsimp? [aT (i:=c) (j:=2) (by decide) (by decide),es,fc (p:=lI xs) (q:=lI sizes) xs sizes rfl rfl,List.length_map,av hz,key]
  refine⟨_,rfl,(xs.zip sizes).map λz=>z.1%z.2,by rw[tI,List.map_map];rfl,by simp;omega,λi hi=>?_⟩
  have:=o3 S i hi
  rw[a_ (by simp;omega)]
  simp only[List.getElem_map,List.getElem_zip]
  rw[a_ hi] at this ⊢
  exact⟨Int.emod_nonneg _ (by omega),Int.emod_lt_of_pos _ (by omega)⟩
 ·simp only[h,decide_true]
  obtain⟨xs,ex,xl,xb⟩:=mE (c/2) (lI sizes) sizes rfl (λb hb=>by have:=S.hx b hb;omega) (by omega)
  dsimp? [aT (i:=c) (j:=2) (by decide) (by decide),ex]
  refine⟨_,rfl,xs,rfl,xl,λi hi=>?_⟩
  have:=xb (xs[i]'(by omega),sizes[i]) (List.mem_iff_getElem.mpr ⟨i,by simp;omega,by simp⟩)
  rw[a_ (by omega),a_ hi]
  exact this
theorem yO(sizes:List Int)(levers:List (List Int)):cT [cx sizes levers]=M.ok (.int (R sizes)):=by
 unfold cT dE
 dsimp? [eB,cx,beq_self_eq_true,zi]
theorem Lg{sizes:List Int}{Ls:List (List Int)}:qx ar "around" cT (cx sizes Ls) (M.ok [])=M.ok (.int (R sizes)):=(kh (fl:=oS sizes Ls) rfl).trans (yO sizes Ls)
def JH(sizes ws xs:List Int):Int:=((((ws.zip sizes).map λz=>z.1*(R sizes/z.2)).zip xs).map λz=>z.1*z.2).sum%R sizes
theorem uC{sizes:List Int}(h:Sz sizes){s:Int}(hs:s∈sizes):0<=R sizes/s/\R sizes/s<2^60:=by
 have h1:=vd h;have h2:=IS h;have h3:=h.hx s hs
 refine⟨Int.ediv_nonneg (by omega) (by omega),Int.lt_of_le_of_lt (Int.ediv_le_self s (by omega)) h2⟩
theorem B7{sizes:List Int}(h:Sz sizes){w s:Int}(hw:0<=w/\w<360)(hs:s∈sizes):(w*(R sizes/s)).natAbs<2^80:=by
 have h1:=uC h hs
 rw[Int.natAbs_mul]
 have:w.natAbs*(R sizes/s).natAbs<=2^9*2^60:=Nat.mul_le_mul (by omega) (by omega)
 exact Nat.lt_of_le_of_lt this (by decide)
theorem zo{sizes:List Int}{levers:List (List Int)}(h:Sz sizes){ws xs:List Int}(hw:Cg sizes ws)(hs:Cg sizes xs):nV [cx sizes levers,tI ws,tI xs]=M.ok (.int (JH sizes ws xs)):=by
 have l6:=h.h6
 have k1:bJ (bV 0 1) none (ak bR (ae 0) (ak bM (ae 2) (ae 1))) ((ws.zip sizes).map λz=>.tup [.int z.1,.int z.2]) [none,none,some (.sh (.int (R sizes)))]=M.ok ((ws.zip sizes).map λz=>.int (z.1*(R sizes/z.2))):=by
  refine iH (p:=λz:Int×Int=>PV.int z.1) (q:=λz:Int×Int=>PV.int z.2) (ws.zip sizes) λz hz=>?_
  obtain⟨m1,m2⟩:=j5 hz
  have a1:=h.hx z.2 m2;have a2:=sZ h hw m1;have a3:=uC h m2
  dsimp? [aT (i:=R sizes) (show 0<z.2 by omega) (show z.2<2^64 by omega),bu (k:=64) (l:=64) (show z.1.natAbs<2^64 by omega) (show (R sizes/z.2).natAbs<2^64 by omega)]
 have z1:(ws.zip sizes).length<=sizeLine:=by rw[List.length_zip];exact aL (Nat.le_trans (Nat.min_le_right _ _) (by omega))
 let us:=(ws.zip sizes).map λz=>z.1*(R sizes/z.2)
 have k2:bJ (bV 0 1) none (ak bR (ae 0) (ae 1)) ((us.zip xs).map λz=>.tup [.int z.1,.int z.2]) [none,none]=M.ok ((us.zip xs).map λz=>.int (z.1*z.2)):=by
  refine iH (p:=λz:Int×Int=>PV.int z.1) (q:=λz:Int×Int=>PV.int z.2) (us.zip xs) λz hz=>?_
  obtain⟨m1,m2⟩:=j5 hz
  obtain⟨y,hy,e⟩:=List.mem_map.mp m1
  obtain⟨n1,n2⟩:=j5 hy
  have a1:=B7 h (sZ h hw n1) n2
  rw[e] at a1
  have a2:=sZ h hs m2
  dsimp? [bu (k:=80) (l:=64) a1 (show z.2.natAbs<2^64 by omega)]
 have z2:(us.zip xs).length<=sizeLine:=by rw[List.length_zip];exact aL (Nat.le_trans (Nat.min_le_right _ _) (by rw[hs.len];omega))
 have k3:ji [.lst ((ws.zip sizes).map λz=>.int (z.1*(R sizes/z.2))),tI xs,.int (R sizes)]=M.ok (.int (JH sizes ws xs)):=by
  have e0:bO (.lst ((ws.zip sizes).map λz=>PV.int (z.1*(R sizes/z.2))))=some (us.map PV.int):=by
   rw[tM,List.map_map];rfl
  have e1:yM [.lst ((us.zip xs).map λz=>PV.int (z.1*z.2))]=M.ok (.int ((us.zip xs).map λz=>z.1*z.2).sum):=by
   have:=Aq ((us.zip xs).map λz=>z.1*z.2)
   rw[List.map_map] at this
   exact this
  unfold ji jv
  dsimp? [fc (q:=tI xs) us xs e0 rfl,List.length_map,av z2,k2,e1,bb (vd h)]
  rfl
 unfold nV nQ
 dsimp? [r0 (levers:=levers) h hw,r0 (levers:=levers) h hs,bN,Lg,F8,fc (p:=tI ws) (q:=tI sizes) ws sizes rfl rfl,List.length_map,av z1,k1,k3]
theorem tY(xs:List Int):∀ m,m<=xs.length->(xs.take m).sum=bo m (vf xs)
 | 0,_=>by simp[bo]
 | m+1,h=>by
  rw[bo,← tY xs m (by omega),List.take_succ_eq_append_getElem (by omega),List.sum_append,a_ (by omega)];simp
theorem zQ(xs:List Int):xs.sum=bo xs.length (vf xs):=by
 rw[← tY xs _ (Nat.le_refl _),List.take_length]
theorem DP{sizes ws xs:List Int}(h1:ws.length=sizes.length)(h2:xs.length=sizes.length):JH sizes ws xs=eM sizes.length (vf sizes) (R sizes) (vf ws) (vf xs)%R sizes:=by
 unfold JH eM
 rw[zQ]
 have hl:((((ws.zip sizes).map λz=>z.1*(R sizes/z.2)).zip xs).map λz=>z.1*z.2).length=sizes.length:=by simp;omega
 rw[hl]
 congr 1
 refine bB λi hi=>?_
 rw[a_ (by rw[hl];exact hi),a_ (by omega),a_ (by omega),a_ (by omega)]
 simp only[List.getElem_map,List.getElem_zip]
 rw[Int.mul_assoc,Int.mul_comm (R sizes/_),← Int.mul_assoc]
section
variable{ns:List Int}{sizes:List Int}{raw Ls:List (List Int)}{T:List Row}{idle:List (List Int)}
theorem v_(S:Sz sizes):∀ i,i<sizes.length->vf sizes i∣R sizes:=λi hi=>by rw[a_ hi];exact IV S (List.getElem_mem hi)
def rT(sizes:List Int)(T:List Row):List Int:=(sizes.zip (lJ sizes T)).map λz=>z.1/z.2
theorem oI:(rT sizes T).length=sizes.length:=by simp[rT,jY]
theorem xw{i:Nat}(h:i<sizes.length):vf (rT sizes T) i=eK (vf sizes) (DD T) i:=by
 have e:=wL (R:=T) h
 rw[a_ (by rw[jY];exact h)] at e
 rw[a_ (by rw[oI];exact h)]
 simp only[rT,List.getElem_map,List.getElem_zip]
 rw[e,← a_ h];rfl
theorem Fh{n j:Nat}(h:j<n):zh n (j:Int)=some j:=by
 unfold zh;rw[if_pos (by omega),if_pos (by omega)];simp
theorem uc{i j:Nat}{xs:List Int}{v:Int}{env:ai}(h:j<xs.length):EL i (xs.map PV.int) (.int v) env (.int (j:Int))=M.ok (.nx (env.set i (some (.ow ((xs.set j v).map PV.int))))):=by
 show (match zh (xs.map PV.int).length (j:Int) with | some j=>_ | none=>_)=_
 rw[List.length_map,Fh h,List.map_set]
theorem pO{xs:List Int}{j i:Nat}{v:Int}(h:i<xs.length):vf (xs.set j v) i=if i=j then v else vf xs i:=by
 rw[a_ (by rw[List.length_set];exact h),List.getElem_set,a_ h]
 by_cases z:i=j
 ·rw[if_pos z,if_pos z.symm]
 ·rw[if_neg z,if_neg (Ne.symm z)]
theorem BV(x:Int):Bu (M.ok (.int x))=M.ok (.int x):=Eq.trans rfl rfl
theorem wt(Q:fj ns sizes raw Ls T idle){d:Nat}(hd:d<sizes.length):jC (bD [gj sizes Ls T idle,.int (d:Int)]) λp=>∃ W:List Int,p=tI W/\W.length=sizes.length/\(∀ i,i<sizes.length->0<=vf W i/\vf W i<vf sizes i)/\Wk sizes.length (vf sizes) (DD T) (R sizes) d 0 (vf W):=by
 have l6:=Q.S.h6
 have l1:=Q.S.h1
 have g:=Q.st.gd
 have rl:=Q.st.wf.len
 have qd:=v_ Q.S
 have q0:=vd Q.S
 have q1:=IS Q.S
 have so:=BY (idle:=idle) Q.S Q.st
 have fl:∀ i,i<sizes.length->0<eK (vf sizes) (DD T) i/\eK (vf sizes) (DD T) i<=vf sizes i/\vf sizes i<=360:=λi hi=>⟨(iy g hi).2.1,(iy g hi).2.2,(o3 Q.S i hi).2⟩
 have key:bJ (bV 0 1) none (ak bM (ae 0) (ae 1)) ((sizes.zip (lJ sizes T)).map λz=>.tup [.int z.1,.int z.2]) [none,none]=M.ok ((sizes.zip (lJ sizes T)).map λz=>.int (z.1/z.2)):=by
  refine iH (p:=λz:Int×Int=>PV.int z.1) (q:=λz:Int×Int=>PV.int z.2) (sizes.zip (lJ sizes T)) λz hz=>?_
  obtain⟨i,hi,e⟩:=List.mem_iff_getElem.mp (j5 hz).2
  rw[jY] at hi
  have e2:=wL (R:=T) hi
  rw[a_ (by rw[jY];exact hi),e] at e2
  have p:=g.pos hi
  have:=o3 Q.S i hi
  dsimp? [aT (i:=z.1) (j:=z.2) (by omega) (by omega)]
 have zl:(sizes.zip (lJ sizes T)).length<=sizeLine:=by rw[List.length_zip];exact aL (Nat.le_trans (Nat.min_le_left _ _) (by omega))
 have ef:PV.lst ((sizes.zip (lJ sizes T)).map λz=>PV.int (z.1/z.2))=lI (rT sizes T):=by rw[lI,rT,List.map_map];rfl
 have wi:dD [.int (d:Int),.int 0,.int ((sizes.length:Int)-1)]=M.ok (.bl true):=by
  rw[within_int,decide_eq_true (by omega)]
 have e0:Bt (.lst [.int 0]) (.int (sizes.length:Int))=M.ok ((List.replicate sizes.length 0).map PV.int):=by
  rw[Bt,av ⟨by omega,by omega,by rw[Int.toNat_natCast];exact aL (by show 1*sizes.length<=1000;omega)⟩,Int.toNat_natCast,pd,List.map_replicate]
 unfold bD c9
 dsimp? [jj,JE,bN,F8,wi,tR (m := "steps") rfl,so,fc (p:=tI sizes) (q:=tI (lJ sizes T)) sizes (lJ sizes T) rfl rfl,List.length_map,av zl,key,ef,F7,e0,HX,ownAt,Al (xs:=rT sizes T) (i:=d) (by rw[oI];exact hd),xw hd,j0 (xs:=sizes) (i:=d) hd,bb (i:=eK (vf sizes) (DD T) d) (j:=vf sizes d) (by have:=fl d hd;omega),uc (i:=4) (xs:=List.replicate sizes.length 0) (j:=d) (by simp;exact hd),tF d (by omega)]
 refine jC.loop (xs:=List.range d) (inj:=λ(i:Nat)=>.int ((d:Int)-1+(i:Int)*-1)) (λzs env=>∃ (c:Nat) (W:List Int) (y5 y6 y7:Option SV),env=[some (.sh (gj sizes Ls T idle)),some (.sh (.int (d:Int))),some (.sh (tI sizes)),some (.sh (lI (rT sizes T))),some (.ow (W.map PV.int)),y5,y6,y7]/\c<=d/\zs=(List.range d).drop c/\W.length=sizes.length/\(∀ i,i<sizes.length->0<=vf W i/\vf W i<vf sizes i)/\Wk sizes.length (vf sizes) (DD T) (R sizes) d (d-c) (vf W)) ⟨0,_,_,_,_,rfl,by omega,rfl,by simp,λi hi=>?_,Wk.start g qd hd λi hi=>?_⟩ ?_ ?_
 ·rw[pO (by simp;exact hi),eP]
  have:=fl i hi
  split
  ·rename_i z;subst z;exact⟨Int.emod_nonneg _ (by omega),Int.emod_lt_of_pos _ (by omega)⟩
  ·omega
 ·rw[pO (by simp;exact hi),eP]
 ·rintro k r env ⟨c,W,y5,y6,y7,rfl,hc,hz,Wl,W0,Wt⟩
  obtain⟨c1,c2,c3⟩:=drop_cons hz.symm
  rw[List.length_range] at c1
  have ek:k=c:=by rw[List.getElem?_range c1] at c2;exact(Option.some.inj c2).symm
  subst ek
  obtain⟨a,ha⟩:∃ a,a=d-1-k:=⟨_,rfl⟩
  have ea:((d:Int)-1+(k:Int)*-1)=(a:Int):=by omega
  have an:a<sizes.length:=by omega
  have fa:=fl a an
  have r1:=Q.st.wf.mP an
  have rk:∀ i,i<sizes.length->0<=vf (row T a).1 i/\vf (row T a).1 i<vf sizes i:=λi hi=>g.iO a an i hi
  have we:=zo (levers:=Ls) Q.S (rW Wl W0) (rW r1 rk)
  rw[DP Wl r1] at we
  have eq:vf (row T a).1=DD T a:=rfl
  rw[eq] at we
  have p0:0<=eM sizes.length (vf sizes) (R sizes) (vf W) (DD T a)%R sizes:=Int.emod_nonneg _ (by omega)
  have p1:eM sizes.length (vf sizes) (R sizes) (vf W) (DD T a)%R sizes<R sizes:=Int.emod_lt_of_pos _ q0
  have fR:eK (vf sizes) (DD T) a∣R sizes:=Int.dvd_trans ⟨_,(iy g an).1.symm⟩ (qd a an)
  have s0:0<R sizes/eK (vf sizes) (DD T) a:=by
   obtain⟨x,hx⟩:=fR
   rw[hx,Int.mul_ediv_cancel_left _ (by omega)]
   rcases Int.lt_trichotomy x 0 with q | q | q
   ·have:=Int.mul_neg_of_pos_of_neg fa.1 q;omega
   ·rw[q] at hx;omega
   ·exact q
  have s1:R sizes/eK (vf sizes) (DD T) a<=R sizes:=Int.ediv_le_self _ (by omega)
  have tw:PV.tup (W.map PV.int)=tI W:=rfl
  dsimp? [bX,ea,t7,ownAt,sR,jj,JE,tw,K9,o_ (rows:=T) (d:=a) (by omega),oU,we,BV,bN,Lg,Al (xs:=rT sizes T) (i:=a) (by rw[oI];exact an),xw an,aT (i:=R sizes) (j:=eK (vf sizes) (DD T) a) (by omega) (by omega),aT (i:=eM sizes.length (vf sizes) (R sizes) (vf W) (DD T a)%R sizes) (j:=R sizes/eK (vf sizes) (DD T) a) (by omega) (by omega),bb (i:=-(eM sizes.length (vf sizes) (R sizes) (vf W) (DD T a)%R sizes/(R sizes/eK (vf sizes) (DD T) a))) (j:=eK (vf sizes) (DD T) a) (by omega),HX,uc (i:=4) (xs:=W) (j:=a) (by omega)]
  refine⟨_,rfl,k+1,_,_,_,_,rfl,by omega,c3.symm,by simpa using Wl,λi hi=>?_,?_⟩
  ·rw[pO (by omega)]
   split
   ·rename_i z;subst z
    have h1:=Int.emod_nonneg (-(eM sizes.length (vf sizes) (R sizes) (vf W) (DD T i)%R sizes/(R sizes/eK (vf sizes) (DD T) i))) (show eK (vf sizes) (DD T) i≠0 by omega)
    have h2:=Int.emod_lt_of_pos (-(eM sizes.length (vf sizes) (R sizes) (vf W) (DD T i)%R sizes/(R sizes/eK (vf sizes) (DD T) i))) fa.1
    omega
   ·exact W0 i hi
  ·rw[show d-(k+1)=a by omega]
   refine Wk.next g q0 qd hd (w:=vf W) (by rw[show a+1=d-k by omega];exact Wt) (by omega) ?_ λi hi NX=>?_
   ·rw[pO (by omega),if_pos rfl]
   ·rw[pO (by omega),if_neg NX]
 ·rintro env ⟨c,W,y5,y6,y7,rfl,hc,hz,Wl,W0,Wt⟩
  have:c=d:=by
   have:=congrArg List.length hz
   rw[List.length_drop,List.length_range] at this
   simp at this;omega
  subst this
  rw[Nat.sub_self] at Wt
  exact⟨_,rfl,W,rfl,Wl,W0,Wt⟩
end
section
variable{ns:List Int}{sizes:List Int}{raw Ls:List (List Int)}{T:List Row}{idle:List (List Int)}
theorem HA:qx ar "levers" aQ (cx sizes Ls) (M.ok [])=M.ok (.tup (Ls.map tI)):=(kh (fl:=oS sizes Ls) rfl).trans (rA sizes Ls)
structure Ws (sizes:List Int) (T:List Row) (d:Nat) (W:List Int):Prop where
 len:W.length=sizes.length
 iO:∀ i,i<sizes.length->0<=vf W i/\vf W i<vf sizes i
 wk:Wk sizes.length (vf sizes) (DD T) (R sizes) d 0 (vf W)
end
section
variable{ns:List Int}{sizes:List Int}{raw Ls:List (List Int)}{T:List Row}{idle:List (List Int)}
def Kp(sizes xs:List Int):Prop:=xs.length=sizes.length/\∀ i,i<sizes.length->0<=vf xs i/\vf xs i<vf sizes i
theorem Kp.Jz{xs:List Int}(h:Kp sizes xs):Cg sizes xs:=rW h.1 h.2
theorem Kp.bd(S:Sz sizes){xs:List Int}(h:Kp sizes xs):Bd 200 xs:=vD S h.1 h.2
end
section
variable{ns:List Int}{sizes:List Int}{raw Ls MA:List (List Int)}{T T':List Row}{idle Me:List (List Int)}{P W:List Int}
theorem uN(Q:fj ns sizes raw Ls T idle){d:List Int}(h:Kp sizes d):lst sizes Ls T d=List.replicate sizes.length 0 ↔ G sizes.length (vf sizes) (DD T) sizes.length 0 (vf d):=by
 obtain⟨b1,b2,b3,b4⟩:=qO Q.st h.1 h.2
 constructor
 ·intro z
  exact G.ext (by omega) (λi hi=>by rw[z,eP];omega) b4
 ·intro gx
  refine n8 (by simpa using b1) λi hi=>?_
  have g:=Q.st.gd.sub (by omega) gx b4
  have:=G.diff Q.st.gd sizes.length 0 (λi=>vf (lst sizes Ls T d) i) (by omega) (λi hi=>by have:=b3 i hi;omega) (λi _ hi=>by have:=b2 i hi;omega) (G.ext (by omega) (λi _=>by omega) g) i (by omega)
  rw[eP];exact this
theorem r_{xs:List Int}(hx:∀ x∈xs,0<x/\x<2^60):∀ c,c<=xs.length->0<aC c (vf xs)/\aC c (vf xs)<2^(60*c+1)
 | 0,_=>⟨show (0:Int)<1 by decide,show (1:Int)<2^1 by decide⟩
 | c+1,h=>by
  obtain⟨a,b⟩:=r_ hx c (by omega)
  have q:=hx (vf xs c) (by rw[a_ (by omega)];exact List.getElem_mem _)
  show 0<aC c (vf xs)*vf xs c/\aC c (vf xs)*vf xs c<_
  refine⟨Int.mul_pos a q.1,?_⟩
  have e:(2:Int)^(60*(c+1)+1)=2^(60*c+1)*2^60:=by rw[show 60*(c+1)+1=60*c+1+60 by omega,Int.pow_add]
  rw[e]
  exact Int.lt_of_lt_of_le (Int.mul_lt_mul_of_pos_right b q.1) (Int.mul_le_mul_of_nonneg_left (by omega) (Int.le_of_lt (Int.lt_trans a b)))
theorem mB{a:Int}{k:Nat}(h:0<a/\a<2^k):a.natAbs<2^k:=by
 have:(a.natAbs:Int)<((2^k:Nat):Int):=by
  rw[Int.natAbs_of_nonneg (by omega)];push_cast;exact h.2
 exact Int.ofNat_lt.mp this
theorem wy{xs:List Int}(hl:xs.length<=8)(hx:∀ x∈xs,0<x/\x<2^60):gI [tI xs]=M.ok (.int (aC xs.length (vf xs))):=by
 refine jC.eq ?_
 unfold gI gA
 dsimp? []
 refine jC.loop (xs:=xs) (inj:=PV.int) (λzs env=>∃ (c:Nat) (y:Option SV),env=[some (.sh (tI xs)),some (.sh (.int (aC c (vf xs)))),y]/\zs=xs.drop c/\c<=xs.length) ⟨0,_,rfl,rfl,by omega⟩ ?_ ?_
 ·rintro a r env ⟨c,y,rfl,hd,hc⟩
  obtain⟨c1,c2,c3⟩:=drop_cons hd.symm
  rw[List.getElem?_eq_getElem c1] at c2
  have e2:xs[c]=a:=Option.some.inj c2
  have ha:=hx a (by rw[← e2];exact List.getElem_mem _)
  have b:=mB (r_ hx c hc)
  have b':(aC c (vf xs)).natAbs<2^490:=Nat.lt_of_lt_of_le b (Nat.pow_le_pow_right (by decide) (by omega))
  have ep:aC c (vf xs)*a=aC (c+1) (vf xs):=by show _=aC c (vf xs)*vf xs c;rw[a_ c1,e2]
  dsimp? [bX,bu (i:=aC c (vf xs)) (j:=a) (k:=490) (l:=60) b' (mB ha),ep]
  exact⟨_,rfl,c+1,_,rfl,c3.symm,by omega⟩
 ·rintro env ⟨c,y,rfl,hd,hc⟩
  have:=congrArg List.length hd
  rw[List.length_drop] at this
  simp at this
  obtain rfl:c=xs.length:=by omega
  dsimp? []
  exact⟨_,rfl,rfl⟩
theorem mR(Q:fj ns sizes raw Ls T idle):(Ck idle).length=Ls.length/\(∀ x∈Ck idle,0<x/\x<2^60)/\aC Ls.length (vf (Ck idle))=aC Ls.length λj=>II idle j j:=by
 have il:=Q.I.len
 refine⟨by rw[nP,il],λx hx=>?_,cy λj hj=>Ag (by omega)⟩
 obtain⟨i,hi,rfl⟩:=List.mem_iff_getElem.mp hx
 rw[nP,il] at hi
 have:=Ag (idle:=idle) (i:=i) (by omega)
 rw[a_ (by rw[nP];omega)] at this
 rw[this]
 exact⟨Q.I.pos i hi,Q.I.le i hi⟩
theorem iD(Q:fj ns sizes raw Ls T idle):aY [cx sizes Ls]=M.ok (.int (aC Ls.length λj=>II idle j j)):=by
 obtain⟨a,b,c⟩:=mR Q
 have p:=wy (xs:=Ck idle) (by have:=Q.m8;omega) b
 rw[a,c] at p
 unfold aY d_
 dsimp? [Q.ze,bN,tR (m := "spans") rfl,xP (R:=T) Q.m8 Q.I,p]
theorem D5{α:Type}{t:ai->M Bool}{f:ai->M PV}{inj h:α->PV}{b:α->Bool}{rest:ai}{x0:Option SV}(xs:List α)(Ht:∀ a∈xs,t (some (.sh (inj a))::rest)=M.ok (b a))(H:∀ a∈xs,f (some (.sh (inj a))::rest)=M.ok (h a)):bJ (bX 0) (some t) f (xs.map inj) (x0::rest)=M.ok ((xs.filter b).map h):=by
 induction xs generalizing x0 with
 | nil=>rfl
 | cons a r ih =>
  have i:=ih (x0:=some (.sh (inj a))) (λc hc=>Ht c (List.mem_cons_of_mem _ hc)) λc hc=>H c (List.mem_cons_of_mem _ hc)
  rw[List.map_cons,bJ]
  show M.bind (M.ok ((x0::rest).set 0 (some (.sh (inj a))))) _=_
  rw[M.aO,List.set_cons_zero]
  show M.bind (t _) _=_
  rw[Ht a List.mem_cons_self,M.aO]
  cases e:b a with
  | true=>rw[if_pos rfl,H a List.mem_cons_self,M.aO,i,List.filter_cons_of_pos e];rfl
  | false=>rw[if_neg (by simp),i,List.filter_cons_of_neg (by simp[e])]
theorem sy(h:T.length<=1000):dY [gj sizes Ls T idle]=M.ok (.lst (T.map λr=>tI r.1)):=by
 have key:bJ (bX 0) none (ak aB (ae 0) (λ_=>M.ok (.int 0))) (T.map mk) [none]=M.ok (T.map λr=>tI r.1):=fu T λr _=>by dsimp? [show aB (mk r) (.int 0)=M.ok (tI r.1) from aW (j:=0) rfl rfl]
 unfold dY fe
 dsimp? [jj,K9,List.length_map,av (aL h),key]
def nz(n:Nat)(T:List Row):List (List Int):=(T.filter λr=>!decide (r.1=List.replicate n 0)).map (·.1)
theorem vm{n:Nat}{l:List Int}(h:l∈nz n T):∃ d,d<T.length/\(row T d).1=l:=by
 obtain⟨r,hr,rfl⟩:=List.mem_map.mp h
 obtain⟨d,hd,e⟩:=List.mem_iff_getElem.mp (List.mem_filter.mp hr).1
 exact⟨d,hd,by rw[fF hd,e]⟩
theorem BX{n d:Nat}(h:d<T.length)(z:(row T d).1≠List.replicate n 0):(row T d).1∈nz n T :=
 List.mem_map.mpr ⟨row T d,List.mem_filter.mpr ⟨by rw[fF h];exact List.getElem_mem _,by simpa using z⟩,rfl⟩
theorem mO(Q:fj ns sizes raw Ls T idle):∃ Wf:Nat->List Int,∀ d,d<sizes.length->bD [gj sizes Ls T idle,.int (d:Int)]=M.ok (tI (Wf d))/\Ws sizes T d (Wf d):=by
 have h:∀ d:Nat,∃ W,d<sizes.length->bD [gj sizes Ls T idle,.int (d:Int)]=M.ok (tI W)/\Ws sizes T d W:=λd=>by
  by_cases hd:d<sizes.length
  ·obtain⟨_,e,W,rfl,a,b,c⟩:=wt Q hd
   exact⟨W,λ_=>⟨e,a,b,c⟩⟩
  ·exact⟨[],λh=>absurd h hd⟩
 exact⟨λd=>Classical.choose (h d),λd hd=>Classical.choose_spec (h d) hd⟩
theorem sq{n m:Nat}{A:Nat->bx}{v P:bx}(g:Good n (vf sizes) (DD T))(h:∀ l,l<m->G n (vf sizes) (DD T) n 0 (A l))(led:∀ i,i<n->vf sizes i∣v i-bo m λl=>P l*A l i):G n (vf sizes) (DD T) n 0 v :=
 g.kT (by omega) led (G.sum (A:=A) (P:=P) g m h)
theorem cancel{a x y c:Int}(ha:0<a)(h1:a*x=c)(h2:y*a=c):x=y:=by
 rw[Int.mul_comm] at h2
 exact Int.eq_of_mul_eq_mul_left (by omega) (h1.trans h2.symm)
theorem nR{Ls:List (List Int)}{l:List Int}(h:l∈Ls):∃ k,k<Ls.length/\AA Ls k=vf l:=by
 obtain⟨k,hk,e⟩:=List.mem_iff_getElem.mp h
 exact⟨k,hk,by unfold AA;rw[List.getD_eq_getElem?_getD,List.getElem?_eq_getElem hk,Option.getD_some,e]⟩
theorem uS(Q:fj ns sizes raw Ls T idle):∃ MA T' Me,j7 [cx sizes Ls]=M.ok (cx sizes MA)/\fj ns sizes (nz sizes.length T) MA T' Me/\MA=nz sizes.length T:=by
 have tl:=Q.st.wf.len
 have l6:=Q.S.h6
 have kp:∀ l∈nz sizes.length T,Kp sizes l:=λl hl=>by
  obtain⟨d,hd,rfl⟩:=vm hl
  exact⟨Q.st.wf.mP (by omega),Q.st.gd.iO d (by omega)⟩
 have nl:(nz sizes.length T).length<=T.length:=by unfold nz;rw[List.length_map];exact List.length_filter_le _ _
 obtain⟨MA,T',Me,Q'⟩:=fj.get ns Q.S (raw:=nz sizes.length T) (by omega) λl hl=>⟨(kp l hl).1,(kp l hl).bd Q.S⟩
 refine⟨MA,T',Me,?_,Q',?_⟩
 ·have key:bJ (bX 0) (some (ee (ak p6 (ae 0) (ae 1)))) (ae 0) (T.map λr=>tI r.1) [none,some (.sh (tI (List.replicate sizes.length 0)))]=M.ok ((nz sizes.length T).map tI):=by
   have:=D5 (t:=ee (ak p6 (ae 0) (ae 1))) (f:=ae 0) (inj:=λr:Row=>tI r.1) (h:=λr:Row=>tI r.1) (b:=λr=>!decide (r.1=List.replicate sizes.length 0)) (rest:=[some (.sh (tI (List.replicate sizes.length 0)))]) (x0:=none) T (λr _=>by dsimp? [ot]) (λr _=>by dsimp? [])
   rw[this,nz,List.map_map];rfl
  unfold j7 lA
  dsimp? [kq (Ls:=Ls) Q.S.h6,bN,F8,Q.ze,tR (m := "rows") rfl,sy (T:=T) (by omega),List.length_map,av (aL (show T.length<=1000 by omega)),key,Q'.Gx (f:=tI) (p:=tI sizes) (.inl rfl) rfl]
 ·rw[Q'.eL];exact(List.map_congr_left λl hl=>o4 (kp l hl).Jz).trans (List.map_id _)
structure Lx (ns sizes:List Int) (Ls:List (List Int)) (T:List Row) (idle:List (List Int)) (MA:List (List Int)) (T':List Row) (Me:List (List Int)):Prop where
 Q:(∃ M1,fj ns sizes M1 MA T' Me)/\MA.length<=sizes.length
 ev:cU [cx sizes Ls]=M.ok (cx sizes MA)
 c2:aC MA.length (λj=>II Me j j)=aC sizes.length (aM (vf sizes) (DD T))
 c3:aC sizes.length (aM (vf sizes) (DD T'))=aC Ls.length λj=>II idle j j
 dead:∀ l,l<MA.length->∀ b,b<sizes.length->R sizes∣eM sizes.length (vf sizes) (R sizes) (AA MA l) (DD T b)
 all:∀ u:bx,(∀ b,b<sizes.length->R sizes∣eM sizes.length (vf sizes) (R sizes) u (DD T b))->G sizes.length (vf sizes) (DD T') sizes.length 0 u
theorem ym(Q:fj ns sizes raw Ls T idle):∃ MA T' Me,Lx ns sizes Ls T idle MA T' Me:=by
 have S:=Q.S
 have l6:=S.h6
 have g:=Q.st.gd
 have hq:=v_ S
 have hQ:=vd S
 obtain⟨Wf,hW⟩:=mO Q
 have kp:∀ l∈(List.range sizes.length).map Wf,Kp sizes l:=λl hl=>by
  obtain⟨d,hd,rfl⟩:=List.mem_map.mp hl
  exact⟨(hW d (List.mem_range.mp hd)).2.len,(hW d (List.mem_range.mp hd)).2.iO⟩
 obtain⟨MZ,T1,OP,Q1⟩:=fj.get ns S (raw:=(List.range sizes.length).map Wf) (by simp;omega) λl hl=>⟨(kp l hl).1,(kp l hl).bd S⟩
 have eL:MZ=(List.range sizes.length).map Wf:=by rw[Q1.eL];exact(List.map_congr_left λl hl=>o4 (kp l hl).Jz).trans (List.map_id _)
 have L1:MZ.length=sizes.length:=by rw[eL];simp
 have eA:∀ d,d<sizes.length->AA MZ d=vf (Wf d):=λd hd=>by
  unfold AA;rw[eL,List.getD_eq_getElem?_getD,List.getElem?_map,List.getElem?_range hd];rfl
 have wk:∀ d,d<sizes.length->Wk sizes.length (vf sizes) (DD T) (R sizes) d 0 (AA MZ d):=λd hd=>by rw[eA d hd];exact(hW d hd).2.wk
 have I1:=Q1.I
 have o1:=Q1.ord
 have p1:=Q1.pr
 have s1:=Q1.st
 rw[L1] at I1 o1 p1 s1
 have sp:=C4 g hQ hq wk (J:=II OP) I1.pos I1.zero I1.oQ o1
 obtain⟨MA,T',Me,ec,Q',OR⟩:=uS Q1
 have g1:=s1.gd
 have g':=Q'.st.gd
 have t1:=s1.wf.len
 have a1:∀ l,l<MA.length->∃ d,d<sizes.length/\AA MA l=DD T1 d:=λl hl=>by
  obtain⟨d,hd,e⟩:=vm (T:=T1) (n:=sizes.length) (l:=MA[l]) (by rw[← OR];exact List.getElem_mem _)
  refine⟨d,by omega,?_⟩
  unfold AA DD
  rw[List.getD_eq_getElem?_getD,List.getElem?_eq_getElem hl,Option.getD_some,e]
 have i1:∀ d,d<sizes.length->G sizes.length (vf sizes) (DD T1) sizes.length 0 (DD T' d):=λd hd=>sq g1 (λl hl=>by
  obtain⟨e,he,ea⟩:=a1 l hl
  rw[ea];exact g1.row he (by omega) (Nat.zero_le _)) (Q'.st.led d hd)
 have i2:∀ d,d<sizes.length->G sizes.length (vf sizes) (DD T') sizes.length 0 (DD T1 d):=λd hd=>by
  by_cases z:(row T1 d).1=List.replicate sizes.length 0
  ·exact G.ext (by omega) (λi hi=>by show 0=vf (row T1 d).1 i;rw[z,eP]) (G.zero (by omega))
  ·obtain⟨k,hk,e⟩:=nR (Ls:=MA) (l:=(row T1 d).1) (by rw[OR];exact BX (by omega) z)
   show G sizes.length (vf sizes) (DD T') sizes.length 0 (vf (row T1 d).1)
   rw[← e];exact Q'.st.cl k (by omega)
 have se:=vC g1 g' i1 i2
 have pe:aC sizes.length (λj=>II OP j j)=aC sizes.length (aM (vf sizes) (DD T)):=cy sp
 have pa:0<aC sizes.length (aM (vf sizes) (DD T)):=fG λl hl=>(g.pos hl).1
 have c3:aC sizes.length (aM (vf sizes) (DD T'))=aC Ls.length λj=>II idle j j:=by
  rw[← cy se]
  exact cancel pa (by rw[← pe];exact p1) Q.pr
 have pb:0<aC Ls.length (λj=>II idle j j):=fG λl hl=>Q.I.pos l hl
 refine⟨MA,T',Me,⟨⟨_,Q'⟩,by rw[OR,← t1];unfold nz;rw[List.length_map];exact List.length_filter_le _ _⟩,?_,?_,c3,λl hl b hb=>?_,λu hu=>?_⟩
 ·have key:bJ (bX 0) none (bp au "weights_at" bD (ae 1) (aa (ae 0) aj)) ((List.range sizes.length).map λ(i:Nat)=>.int (i:Int)) [none,some (.sh (gj sizes Ls T idle))]=M.ok (((List.range sizes.length).map Wf).map tI):=by
   rw[List.map_map]
   refine fu (inj:=λ(i:Nat)=>PV.int (i:Int)) (List.range sizes.length) λi hi=>?_
   dsimp? [bN,tR (m := "weights_at") rfl,(hW i (List.mem_range.mp hi)).1]
   rfl
  unfold cU jZ
  dsimp? [Q.ze,bN,F8,hV (n:=(sizes.length:Int)) (by omega) (by omega),Int.toNat_natCast,List.length_map,List.length_range,av (aL (show sizes.length<=1000 by omega)),key,Q1.Gx (f:=tI) (p:=tI sizes) (.inl rfl) rfl,ec]
 ·have:=Q'.pr
  rw[c3] at this
  exact(cancel pb Q.pr this).symm
 ·obtain⟨d,hd,e⟩:=a1 l hl
  rw[e]
  exact B6 hq wk (t:=PP T1 d) (s1.led d hd) hb
 ·obtain⟨t,_,ht⟩:=kQ g hQ hq wk sizes.length (Nat.le_refl _) u (λi h1 h2=>by omega) hu
  exact sq g' (λd hd=>vZ g' i2 sizes.length 0 _ (by omega) (s1.cl d (by omega))) ht
theorem fj.kp(Q:fj ns sizes raw Ls T idle):∀ l∈Ls,Kp sizes l:=λl hl=>by
 obtain⟨k,hk,e⟩:=nR hl
 have a:=Q.LL.at_ k hk
 have b:=Q.LL.iO k hk
 rw[e] at b
 obtain⟨k',ON,e'⟩:=List.mem_iff_getElem.mp hl
 have c:=Q.LL.at_ k' ON
 rw[List.getD_eq_getElem?_getD,List.getElem?_eq_getElem ON,Option.getD_some,e'] at c
 exact⟨c,b⟩
theorem v8(Q:fj ns sizes raw Ls T idle){one other:List Int}(h1:Kp sizes one)(h2:Kp sizes other)(hP:P.length=Ls.length)(hb:Bd 200 P){v:bx}(hv:∀ i,i<sizes.length->vf sizes i∣v i-(vf other i-vf one i))(led:Led sizes.length (vf sizes) Ls.length (AA Ls) v (vf P)):cL [lI sizes,.tup (Ls.map tI),tI one,tI P]=M.ok (tI other):=by
 obtain⟨F,e,F1,F2,ld⟩:=qM (.inl rfl) (p1:=.tup (Ls.map tI)) rfl (q:=tI one) (p2:=tI P) (vX Q.S) Q.S.h6 h1.1 rfl h1.2 (λl hl=>⟨(Q.kp l hl).1,(Q.kp l hl).bd Q.S⟩) hb hP rfl
 rw[e,D_ F1 h2.1 F2 h2.2 λi hi=>by
  obtain⟨a,ha⟩:=ld i hi
  obtain⟨b,hb⟩:=led i hi
  obtain⟨c,hc⟩:=hv i hi
  unfold AA at hb
  exact⟨a-b+c,by rw[Int.mul_add,Int.mul_sub,← ha,← hb,← hc];omega⟩]
theorem BI(S:Sz sizes):Kp sizes (List.replicate sizes.length 0):=⟨by simp,uD S⟩
theorem qY(S:Sz sizes):bR (.tup [.int 0]) (.int (sizes.length:Int))=M.ok (tI (List.replicate sizes.length 0)):=by
 have z:=mul_one (.int 0) sizes.length (by have:=S.h6;omega)
 rwa [show PV.tup (List.replicate sizes.length (.int 0))=tI (List.replicate sizes.length 0) by rw[tI,List.map_replicate]] at z
end
section
variable{ns:List Int}{sizes:List Int}{raw Ls MA:List (List Int)}{T T':List Row}{idle Me:List (List Int)}{p q:PV}{H K:bx->Prop}
abbrev GT(sizes:List Int)(T:List Row)(v:bx):Prop:=G sizes.length (vf sizes) (DD T) sizes.length 0 v
theorem fj.led(Q:fj ns sizes raw Ls T idle){v:bx}(h:GT sizes T v):∃ P,Led sizes.length (vf sizes) Ls.length (AA Ls) v P:=by
 have key:∀ k d (v:bx),d+k=sizes.length->G sizes.length (vf sizes) (DD T) k d v->∃ P,Led sizes.length (vf sizes) Ls.length (AA Ls) v P:=by
  intro k
  induction k with
  | zero=>intro d v _ h;exact⟨λ_=>0,λi hi=>by rw[bB (g:=λ_=>0) λl _=>by simp,dR];simpa using h i hi⟩
  | succ k ih =>
   intro d v hn h
   obtain⟨P,hP⟩:=ih (d+1) _ (by omega) h.2
   exact⟨_,Led.mix (a:=1) (b:=v d/aM (vf sizes) (DD T) d) hP (Q.st.led d (by omega)) (λi hi=>⟨0,by omega⟩) λl _=>rfl⟩
 exact key _ 0 v (by omega) h
theorem fj.kX(Q:fj ns sizes raw Ls T idle)(g':Good sizes.length (vf sizes) (DD T'))(h:∀ l,l<Ls.length->GT sizes T' (AA Ls l)){v:bx}(hv:GT sizes T v):GT sizes T' v:=by
 obtain⟨P,hP⟩:=Q.led hv
 exact sq g' h hP
theorem fj.qQ(Q:fj ns sizes raw Ls T idle){l:Nat}(h:l<Ls.length):GT sizes T (AA Ls l):=Q.st.cl l (by omega)
theorem fj.kept(ns:List Int)(S:Sz sizes){L:List (List Int)}(h8:L.length<=8)(h:∀ l∈L,Kp sizes l):∃ T idle,fj ns sizes L L T idle:=by
 obtain⟨Ls,T,idle,Q⟩:=fj.get ns S h8 λl hl=>⟨(h l hl).1,(h l hl).bd S⟩
 have e:Ls=L:=by rw[Q.eL];exact(List.map_congr_left λl hl=>o4 (h l hl).Jz).trans (List.map_id _)
 subst e
 exact⟨T,idle,Q⟩
theorem DH(Q:fj ns sizes raw Ls T idle):∃ M1 MA T' Me,j7 [cx sizes Ls]=M.ok (cx sizes MA)/\fj ns sizes M1 MA T' Me/\MA.length<=sizes.length/\∀ v,GT sizes T' v ↔ GT sizes T v:=by
 obtain⟨MA,T',Me,ec,Q',OR⟩:=uS Q
 have t1:=Q.st.wf.len
 have g1:=Q.st.gd
 have g':=Q'.st.gd
 refine⟨_,MA,T',Me,ec,Q',by rw[OR,← t1];unfold nz;rw[List.length_map];exact List.length_filter_le _ _,λv=>⟨Q'.kX g1 λl hl=>?_,vZ g' (λd hd=>?_) sizes.length 0 v (by omega)⟩⟩
 ·obtain⟨d,hd,e⟩:=vm (T:=T) (n:=sizes.length) (l:=MA[l]) (by rw[← OR];exact List.getElem_mem _)
  have ea:AA MA l=DD T d:=by
   unfold AA DD
   rw[List.getD_eq_getElem?_getD,List.getElem?_eq_getElem hl,Option.getD_some,e]
  rw[ea];exact g1.row (by omega) (by omega) (Nat.zero_le _)
 ·by_cases z:(row T d).1=List.replicate sizes.length 0
  ·exact G.ext (by omega) (λi hi=>by show 0=vf (row T d).1 i;rw[z,eP]) (G.zero (by omega))
  ·obtain⟨k,hk,e⟩:=nR (Ls:=MA) (l:=(row T d).1) (by rw[OR];exact BX (by omega) z)
   show G sizes.length (vf sizes) (DD T') sizes.length 0 (vf (row T d).1)
   rw[← e];exact Q'.qQ hk
theorem sep(Q:fj ns sizes raw Ls T idle){v:bx}(h:∀ u:bx,(∀ b,b<sizes.length->R sizes∣eM sizes.length (vf sizes) (R sizes) u (DD T b))->R sizes∣eM sizes.length (vf sizes) (R sizes) u v):GT sizes T v:=by
 have S:=Q.S
 have hq:=v_ S
 obtain⟨xs,kx,dv⟩:∃ xs,Kp sizes xs/\∀ i,i<sizes.length->vf sizes i∣vf xs i-v i:=by
  have e:∀ i,i<sizes.length->vf ((List.range sizes.length).map λi=>v i%vf sizes i) i=v i%vf sizes i:=λi hi=>by
   rw[a_ (by simpa using hi)];simp
  refine⟨(List.range sizes.length).map λi=>v i%vf sizes i,⟨by simp,λi hi=>?_⟩,λi hi=>?_⟩
  ·rw[e i hi];have:=o3 S i hi;exact⟨Int.emod_nonneg _ (by omega),Int.emod_lt_of_pos _ (by omega)⟩
  ·rw[e i hi];exact dI _ _
 suffices gx:GT sizes T (vf xs) from Q.st.gd.kT (by omega) (λi hi=>by
  obtain⟨x,hx⟩:=dv i hi
  exact⟨-x,by rw[Int.mul_neg,← hx];omega⟩) gx
 apply Classical.byContradiction
 intro ng
 obtain⟨b1,b2,b3,b4⟩:=qO Q.st kx.1 kx.2
 have z:¬ lst sizes Ls T xs=List.replicate sizes.length 0:=λe=>ng ((uN Q kx).mp e)
 have ex:∃ c,c<sizes.length/\(∀ i,i<c->vf (lst sizes Ls T xs) i=0)/\vf (lst sizes Ls T xs) c≠0:=by
  have:¬ ∀ c,c<=sizes.length->∀ i,i<c->vf (lst sizes Ls T xs) i=0:=λh=>z (n8 (by simpa using b1) λi hi=>by rw[eP];exact h sizes.length (Nat.le_refl _) i (by omega))
  apply Classical.byContradiction
  intro no
  refine this λc=>?_
  induction c with
  | zero=>intro _ i hi;omega
  | succ c ih =>
   intro hc i hi
   rcases Nat.lt_or_eq_of_le (Nat.le_of_lt_succ hi) with q | q
   ·exact ih (by omega) i q
   ·subst q
    apply Classical.byContradiction
    intro nz
    exact no ⟨i,by omega,ih (by omega),nz⟩
 obtain⟨c,hc,c0,c1⟩:=ex
 obtain⟨Wf,hW⟩:=mO Q
 have w:=(hW c hc).2
 have r:=b3 c hc
 refine Wk.first Q.st.gd (vd S) hq hc w.wk c0 (by omega) (b2 c hc).2 ?_
 have k1:=h (vf (Wf c)) λb hb=>w.wk.kill b (Nat.zero_le _) hb
 have k2:=uI (w:=vf (Wf c)) hq sizes.length 0 _ (by omega) (λb _ hb=>w.wk.kill b (Nat.zero_le _) hb) b4
 rw[cn] at k1 k2 ⊢
 exact fE hq (a:=1) (b:=-1) (λi hi=>by
  obtain⟨x,hx⟩:=dv i hi
  exact⟨x,by rw[← hx];omega⟩) k1 k2
def Vr(ns sizes:List Int)(p:PV)(H:bx->Prop):Prop:=∃ raw Ls T idle,p=cx sizes Ls/\fj ns sizes raw Ls T idle/\Ls.length<=3/\∀ v,H v ↔ GT sizes T v
def An(sizes:List Int)(H:bx->Prop)(u:bx):Prop:=∀ v,H v->R sizes∣eM sizes.length (vf sizes) (R sizes) u v
theorem gX(hn:sizes.length<=3)(h:Vr ns sizes p H):∃ r,cU [p]=M.ok r/\Vr ns sizes r (An sizes H):=by
 obtain⟨raw,Ls,T,idle,rfl,Q,l3,hH⟩:=h
 obtain⟨MA,T',Me,E⟩:=ym Q
 obtain⟨⟨M1,Q'⟩,ln⟩:=E.Q
 have hq:=v_ Q.S
 refine⟨_,E.ev,M1,MA,T',Me,rfl,Q',by omega,λu=>⟨λh=>E.all u λb hb=>h _ ((hH _).mpr (Q.st.gd.row hb (by omega) (Nat.zero_le _))),λh v hv=>?_⟩⟩
 obtain⟨P,hP⟩:=Q'.led h
 rw[cn]
 refine wI hq (λl hl=>?_) hP
 rw[cn]
 exact uI hq sizes.length 0 v (by omega) (λb _ hb=>E.dead l hl b hb) ((hH v).mp hv)
theorem Vr.an(h:Vr ns sizes p H){v:bx}(k:∀ u,An sizes H u->R sizes∣eM sizes.length (vf sizes) (R sizes) u v):H v:=by
 obtain⟨raw,Ls,T,idle,rfl,Q,l3,hH⟩:=h
 exact(hH v).mpr (sep Q λu hu=>k u λw hw=>uI (v_ Q.S) sizes.length 0 w (by omega) (λb _ hb=>hu b hb) ((hH w).mp hw))
theorem Vr.ext(h:Vr ns sizes p H)(e:∀ v,H v ↔ K v):Vr ns sizes p K:=by
 obtain⟨raw,Ls,T,idle,rfl,Q,l3,hH⟩:=h
 exact⟨raw,Ls,T,idle,rfl,Q,l3,λv=>(e v).symm.trans (hH v)⟩
end
theorem BW(xs ys:List (List Int)):pU (.lst (xs.map tI)) (.lst (ys.map tI))=M.ok (.bl (decide (xs=ys))):=by
 simp only[pU,p9,dat,xW,Option.map_some,FP]
 rw[av (by have a:=pq xs;have b:=pq ys;simp[SeqAt.shaped,PyData.canLay0,PyData.depth,uU,SeqAt.noMix,og];omega)]
 unfold Spec.same
 rw[qL];rfl
theorem Ad(xs ys:List (List Int))(f:List Int->PV)(h:xs.length+ys.length<=1000):dQ (.lst (xs.map f)) (.lst (ys.map f))=M.ok (.lst ((xs++ys).map f)):=by
 rw[dQ,av (aL (by simpa using h)),List.map_append]
theorem Ca(xs ys:List (List Int))(f:List Int->PV)(h:xs.length+ys.length<=1000):dQ (.tup (xs.map f)) (.tup (ys.map f))=M.ok (.tup ((xs++ys).map f)):=by
 rw[dQ,av (aL (by simpa using h)),List.map_append]
theorem eY{X Y:List (List Int)}{l:Nat}(h:l<X.length):AA (X++Y) l=AA X l:=by
 unfold AA;rw[List.getD_eq_getElem?_getD,List.getD_eq_getElem?_getD,List.getElem?_append_left h]
theorem eO{X Y:List (List Int)}{l:Nat}:AA (X++Y) (X.length+l)=AA Y l:=by
 unfold AA;rw[List.getD_eq_getElem?_getD,List.getD_eq_getElem?_getD,List.getElem?_append_right (by omega),Nat.add_sub_cancel_left]
theorem g9(f:Nat->Int)(a:Nat):∀ b,bo (a+b) f=bo a f+bo b λl=>f (a+l)
 | 0=>by simp[bo]
 | b+1=>by rw[← Nat.add_assoc,bo,g9 f a b,bo];omega
section
variable{ns:List Int}{sizes:List Int}{raw Ls MA L:List (List Int)}{T T' TL:List Row}{idle Me iL:List (List Int)}{p q:PV}{H K:bx->Prop}
def Sm(sizes:List Int)(H K:bx->Prop)(v:bx):Prop:=∃ a b:bx,H a/\K b/\∀ i,i<sizes.length->vf sizes i∣v i-(a i+b i)
theorem tD(hn:sizes.length<=3)(QL:fj ns sizes L L TL iL):∃ raw Ls T idle,hG [tI sizes,.tup (L.map tI)]=M.ok (cx sizes Ls)/\fj ns sizes raw Ls T idle/\Ls.length<=3/\∀ v,GT sizes T v ↔ GT sizes TL v:=by
 suffices h:jC (hG [tI sizes,.tup (L.map tI)]) λp=>∃ raw Ls T idle,p=cx sizes Ls/\fj ns sizes raw Ls T idle/\Ls.length<=3/\∀ v,GT sizes T v ↔ GT sizes TL v by
  obtain⟨_,e,raw,Ls,T,idle,rfl,h⟩:=h
  exact⟨raw,Ls,T,idle,e,h⟩
 have S:=QL.S
 obtain⟨T0,i0,Q0⟩:=fj.kept ns S (L:=[]) (by simp) (by simp)
 unfold hG jf
 dsimp? [show c6 ar b_ [.cp] [tI sizes,.lst []]=M.ok (cx sizes []) from Q0.Gx (f:=tI) (p:=tI sizes) (.inl rfl) rfl]
 refine jC.loop (xs:=L) (inj:=tI) (λzs env=>∃ (y3:Option SV) (raw LC:List (List Int)) (TC:List Row) (iC:List (List Int)) (c:Nat),env=[some (.sh (tI sizes)),some (.sh (.tup (L.map tI))),some (.sh (cx sizes LC)),y3]/\fj ns sizes raw LC TC iC/\LC.length<=3/\zs=L.drop c/\(∀ j,j<c->j<L.length->GT sizes TC (AA L j))/\∀ v,GT sizes TC v->GT sizes TL v) ⟨_,_,_,_,_,0,rfl,Q0,by simp,rfl,λj hj=>by omega,λv hv=>Q0.kX QL.st.gd (λl hl=>by simp at hl) hv⟩ ?_ ?_
 ·rintro l r env ⟨y3,raw,LC,TC,iC,c,rfl,QC,l3,hz,hd,hi⟩
  obtain⟨c1,c2,c3⟩:=drop_cons hz.symm
  rw[List.getElem?_eq_getElem c1] at c2
  have el:L[c]=l:=Option.some.inj c2
  have ea:AA L c=vf l:=by unfold AA;rw[List.getD_eq_getElem?_getD,List.getElem?_eq_getElem c1,Option.getD_some,el]
  have kl:Kp sizes l:=QL.kp l (by rw[← el];exact List.getElem_mem _)
  obtain⟨T1,i1,Q1⟩:=fj.kept ns S (L:=LC++[l]) (by simp;omega) λx hx=>by
   rcases List.mem_append.mp hx with h | h
   ·exact QC.kp x h
   ·rw[List.mem_singleton.mp h];exact kl
  obtain⟨M1,LC',TC',iC',ec,QC',ln,eq⟩:=DH Q1
  have al:AA (LC++[l]) LC.length=vf l:=by
   have:=eO (X:=LC) (Y:=[l]) (l:=0)
   rw[Nat.add_zero] at this
   rw[this];rfl
  have big:∀ v,GT sizes TC v->GT sizes TC' v:=λv hv=>(eq v).mpr (QC.kX Q1.st.gd (λj hj=>by
   rw[← eY (Y:=[l]) hj];exact Q1.qQ (by simp;omega)) hv)
  dsimp? [bX,bN,HA,show dQ (.lst (LC.map tI)) (.lst [tI l])=M.ok (.lst ((LC++[l]).map tI)) from Ad LC [l] tI (by simp;omega),Q1.Gx (f:=tI) (p:=tI sizes) (.inl rfl) rfl,ec]
  refine⟨_,rfl,_,M1,LC',TC',iC',c+1,rfl,QC',by omega,c3.symm,λj h1 h2=>?_,λv hv=>Q1.kX QL.st.gd (λj hj=>?_) ((eq v).mp hv)⟩
  ·rcases Nat.lt_or_eq_of_le (Nat.le_of_lt_succ h1) with h | h
   ·exact big _ (hd j h h2)
   ·subst h
    rw[ea,← al];exact(eq _).mpr (Q1.qQ (by simp))
  ·rcases Nat.lt_or_ge j LC.length with h | h
   ·rw[eY h];exact hi _ (QC.qQ h)
   ·obtain rfl:j=LC.length:=by simp at hj;omega
    rw[al,← ea];exact QL.qQ c1
 ·rintro env ⟨y3,raw,LC,TC,iC,c,rfl,QC,l3,hz,hd,hi⟩
  have hc:L.length<=c:=List.drop_eq_nil_iff.mp hz.symm
  dsimp? []
  exact⟨_,rfl,raw,LC,TC,iC,rfl,QC,l3,λv=>⟨hi v,QL.kX QC.st.gd λj hj=>hd j (by omega) hj⟩⟩
theorem qN:cB [tI sizes,tI sizes]=M.ok .cp:=by
 unfold cB cA
 dsimp? [ot,decide_true]
theorem gW(hn:sizes.length<=3)(h:Vr ns sizes p H)(k:Vr ns sizes q K):∃ r,bj [p,q]=M.ok r/\Vr ns sizes r (Sm sizes H K):=by
 obtain⟨O0,MZ,T1,i1,rfl,Q1,l1,h1⟩:=h
 obtain⟨O1,NB,T2,i2,rfl,Q2,l2,h2⟩:=k
 have S:=Q1.S
 obtain⟨TL,iL,QL⟩:=fj.kept ns S (L:=MZ++NB) (by simp;omega) λx hx=>by
  rcases List.mem_append.mp hx with h | h
  ·exact Q1.kp x h
  ·exact Q2.kp x h
 obtain⟨raw,Ls,T,idle,ec,Q,l3,eq⟩:=tD hn QL
 refine⟨cx sizes Ls,?_,raw,Ls,T,idle,rfl,Q,l3,λv=>?_⟩
 ·unfold bj fK
  dsimp? [bN,F8,HA,qN,Ca MZ NB tI (by omega),ec]
 rw[eq v]
 constructor
 ·rintro⟨a,b,ha,hb,e⟩
  refine QL.st.gd.kT (by omega) e (G.add (by omega) (Q1.kX QL.st.gd (λl hl=>?_) ((h1 a).mp ha)) (Q2.kX QL.st.gd (λl hl=>?_) ((h2 b).mp hb)))
  ·rw[← eY (Y:=NB) hl];exact QL.qQ (by simp;omega)
  ·rw[← eO (X:=MZ) (l:=l)];exact QL.qQ (by simp;omega)
 ·intro g
  obtain⟨P,hP⟩:=QL.led g
  refine⟨λi=>bo MZ.length λl=>P l*AA MZ l i,λi=>bo NB.length λl=>P (MZ.length+l)*AA NB l i,(h1 _).mpr (G.sum Q1.st.gd _ λl hl=>Q1.qQ hl),(h2 _).mpr (G.sum (P:=λl=>P (MZ.length+l)) Q2.st.gd _ λl hl=>Q2.qQ hl),λi hi=>?_⟩
  have:=hP i hi
  rw[List.length_append,g9,bB (g:=λl=>P l*AA MZ l i) λl hl=>by rw[eY hl],bB (m:=NB.length) (g:=λl=>P (MZ.length+l)*AA NB l i) λl hl=>by rw[eO]] at this
  exact this
end
section
variable{ns:List Int}{sizes:List Int}{raw Ls M1 MA L:List (List Int)}{T T' TL:List Row}{idle Me iL:List (List Int)}{p q:PV}{H K:bx->Prop}
theorem Vr.S(h:Vr ns sizes p H):Sz sizes:=by obtain⟨_,_,_,_,_,Q,_⟩:=h;exact Q.S
theorem Vr.JU(h:Vr ns sizes p H){a b v:bx}(x y:Int)(ha:H a)(hb:H b)(e:∀ i,i<sizes.length->vf sizes i∣v i-(x*a i+y*b i)):H v:=by
 obtain⟨raw,Ls,T,idle,rfl,Q,l3,hH⟩:=h
 exact(hH v).mpr (Q.st.gd.kT (by omega) e (G.add (by omega) (G.mul x (by omega) ((hH a).mp ha)) (G.mul y (by omega) ((hH b).mp hb))))
theorem Vr.zero(h:Vr ns sizes p H):H λ_=>0:=by
 obtain⟨raw,Ls,T,idle,rfl,Q,l3,hH⟩:=h
 exact(hH _).mpr (G.zero (by omega))
theorem ip(hn:sizes.length<=3)(h:Vr ns sizes p H)(k:Vr ns sizes q K):∃ r,eS [p,q]=M.ok r/\Vr ns sizes r λv=>H v/\K v:=by
 obtain⟨r1,e1,v1⟩:=gX hn h
 obtain⟨r2,e2,v2⟩:=gX hn k
 obtain⟨r3,e3,v3⟩:=gW hn v1 v2
 obtain⟨r4,e4,v4⟩:=gX hn v3
 have hq:=v_ h.S
 refine⟨r4,?_,v4.ext λv=>⟨λh'=>⟨h.an λu hu=>?_,k.an λu hu=>?_⟩,?_⟩⟩
 ·unfold eS pv
  dsimp? [e1,e2,e3,e4]
 ·rw[cn];exact h' u ⟨u,_,hu,v2.zero,λi hi=>⟨0,by omega⟩⟩
 ·rw[cn];exact h' u ⟨_,u,v1.zero,hu,λi hi=>⟨0,by omega⟩⟩
 ·rintro⟨a,b⟩ u ⟨x,y,hx,hy,e⟩
  rw[cn]
  exact fE hq (a:=1) (b:=1) (λi hi=>by rw[Int.one_mul,Int.one_mul];exact e i hi) (hx v a) (hy v b)
theorem CK(Q:fj ns sizes raw Ls T idle)(Q':fj ns sizes M1 MA T' Me)(h:∀ v,GT sizes T v ↔ GT sizes T' v):T.map (·.1)=T'.map (·.1):=by
 have g:=Q.st.gd
 have g':=Q'.st.gd
 have t:=Q.st.wf.len
 have t':=Q'.st.wf.len
 have se:=vC g g' (λd hd=>(h _).mpr (g'.row hd (by omega) (Nat.zero_le _))) (λd hd=>(h _).mp (g.row hd (by omega) (Nat.zero_le _)))
 refine List.ext_getElem (by simp;omega) λd h1 h2=>?_
 simp only[List.length_map] at h1 h2
 rw[List.getElem_map,List.getElem_map,← fF h1,← fF h2]
 have hd:d<sizes.length:=by omega
 refine n8 (by rw[Q.st.wf.mP hd,Q'.st.wf.mP hd]) λi hi=>?_
 rw[Q.st.wf.mP hd] at hi
 show DD T d i=DD T' d i
 have sd:=se d hd
 have r:=g.iO d hd d hd
 have r':=g'.iO d hd d hd
 have dg:DD T d d=DD T' d d:=by
  unfold aM at sd
  split at sd <;> split at sd <;> omega
 by_cases z:DD T d d=0
 ·rw[Q.nul d hd z i hi,Q'.nul d hd (by omega) i hi]
 ·have gv:=g.sub (by omega) (g.row hd (by omega) (Nat.zero_le _)) ((h _).mpr (g'.row hd (by omega) (Nat.zero_le _)))
  have:=G.diff g sizes.length 0 (λi=>DD T d i-DD T' d i) (by omega) (λi hi=>by have:=g.iO d hd i hi;have:=g'.iO d hd i hi;omega) (λi _ hi=>by
   have p:=g.pos hi
   rcases Nat.lt_trichotomy i d with c | c | c
   ·rw[g.rj d hd i c,g'.rj d hd i c];omega
   ·subst c;omega
   ·have a:=Q.low d hd i c hi
    have b:=Q'.low d hd i c hi
    rw[← se i hi] at b
    have:=g.iO d hd i hi;have:=g'.iO d hd i hi
    omega) gv i hi
  omega
theorem CO(h:T.map (·.1)=T'.map (·.1)):DD T=DD T':=by
 have:∀ (T:List Row) d,DD T d=vf ((T.map (·.1)).getD d []):=λT d=>by
  unfold DD row
  rw[List.getD_eq_getElem?_getD,List.getD_eq_getElem?_getD,List.getElem?_map]
  cases T[d]? <;> rfl
 funext d
 rw[this,this,h]
theorem wJ(h:Vr ns sizes p H)(k:Vr ns sizes q K):∃ b:Bool,bf [p,q]=M.ok (.bl b)/\(b=true ↔ ∀ v,H v ↔ K v):=by
 obtain⟨O0,MZ,T1,i1,rfl,Q1,l1,h1⟩:=h
 obtain⟨O1,NB,T2,i2,rfl,Q2,l2,h2⟩:=k
 have a:=Q1.st.wf.len
 have b:=Q2.st.wf.len
 have l6:=Q1.S.h6
 have f:∀ T:List Row,(T.map λr=>tI r.1)=(T.map (·.1)).map tI:=λT=>by rw[List.map_map];rfl
 refine⟨decide (T1.map (·.1)=T2.map (·.1)),?_,?_⟩
 ·unfold bf iY
  dsimp? [bN,F8,qN,Q1.ze,Q2.ze,tR (m := "rows") rfl,sy (T:=T1) (by omega),sy (T:=T2) (by omega),f,BW]
 ·rw[decide_eq_true_iff]
  constructor
  ·intro e v
   rw[h1,h2,GT,GT,CO e]
  ·intro e
   exact CK Q1 Q2 λv=>(h1 v).symm.trans ((e v).trans (h2 v))
theorem eI(h:Vr ns sizes p H)(k:Vr ns sizes q K)(e:∀ v,H v ↔ K v):bf [p,q]=M.ok (.bl true):=by
 obtain⟨b,eb,hb⟩:=wJ h k
 rw[eb,hb.mpr e]
end
theorem mJ(f:Nat->Int)(a:Nat):∀ b,aC (a+b) f=aC a f*aC b λl=>f (a+l)
 | 0=>by simp[aC]
 | b+1=>by rw[← Nat.add_assoc,aC,mJ f a b,aC,Int.mul_assoc]
theorem xr{a b:Int}(ha:0<a)(hb:0<b)(h:∀ k,a∣k ↔ b∣k):a=b:=Int.dvd_antisymm (by omega) (by omega) ((h b).mpr (Int.dvd_refl b)) ((h a).mp (Int.dvd_refl a))
section
variable{ns:List Int}{sizes:List Int}{raw Ls M1 MA X Y rX:List (List Int)}{T T' TX:List Row}{idle Me iX:List (List Int)}{p q r s:PV}{H K:bx->Prop}
theorem J6(Q:fj ns sizes raw Ls T idle){j:Nat}(hj:j<Ls.length)(k:Int):II idle j j∣k ↔ ∃ P:bx,Zf (j+1) Ls.length P/\P j=k/\Led sizes.length (vf sizes) Ls.length (AA Ls) (λ_=>0) P:=by
 constructor
 ·rintro⟨c,rfl⟩
  refine⟨λl=>c*II idle j l,λl h1 h2=>by show c*II idle j l=0;rw[Q.I.zero j hj l (by omega) h2,Int.mul_zero],Int.mul_comm _ _,Led.mix (a:=c) (b:=0) (Q.I.oQ j hj) (Q.I.oQ j hj) (λi _=>⟨0,by simp⟩) λl _=>by simp⟩
 ·rintro⟨P,z,rfl,led⟩
  exact Q.ord j hj P z led
theorem tZ(Q:fj ns sizes raw (X++Y) T idle)(QX:fj ns sizes rX X TX iX){j:Nat}(hj:j<X.length):II idle j j=II iX j j:=by
 refine xr (Q.I.pos j (by simp;omega)) (QX.I.pos j hj) λk=>?_
 rw[J6 Q (by simp;omega) k,J6 QX hj k]
 have sx:∀ (P:bx) i,bo X.length (λl=>P l*AA (X++Y) l i)=bo X.length λl=>P l*AA X l i:=λP i=>bB λl hl=>by rw[eY hl]
 constructor
 ·rintro⟨P,z,e,led⟩
  refine⟨P,λl h1 h2=>z l h1 (by simp;omega),e,λi hi=>?_⟩
  have:=led i hi
  rwa [List.length_append,g9,sx,bB (m:=Y.length) (g:=λ_=>0) λl hl=>by rw[z (X.length+l) (by omega) (by simp;omega),Int.zero_mul],dR,Int.add_zero] at this
 ·rintro⟨P,z,e,led⟩
  refine⟨λl=>if l<X.length then P l else 0,λl h1 h2=>?_,by show (if j<X.length then P j else 0)=k;rw[if_pos hj,e],λi hi=>?_⟩
  ·show (if l<X.length then P l else 0)=0
   split
   ·rename_i h;exact z l h1 h
   ·rfl
  ·rw[List.length_append,g9,bB (m:=X.length) (g:=λl=>P l*AA X l i) λl hl=>by rw[eY hl];show (if l<X.length then P l else 0)*_=_;rw[if_pos hl],bB (m:=Y.length) (g:=λ_=>0) λl hl=>by show (if X.length+l<X.length then P (X.length+l) else 0)*_=0;rw[if_neg (by omega),Int.zero_mul],dR,Int.add_zero]
   exact led i hi
theorem qD(Q:fj ns sizes raw (X++Y) T idle)(QX:fj ns sizes rX X TX iX){j:Nat}(hj:j<Y.length)(k:Int):II idle (X.length+j) (X.length+j)∣k ↔ ∃ P:bx,Zf (j+1) Y.length P/\P j=k/\GT sizes TX λi=>bo Y.length λl=>P l*AA Y l i:=by
 rw[J6 Q (by simp;omega) k]
 constructor
 ·rintro⟨P,z,e,led⟩
  refine⟨λl=>P (X.length+l),λl h1 h2=>z _ (by omega) (by simp;omega),e,?_⟩
  refine QX.st.gd.kT (by omega) (λi hi=>?_) (G.mul (-1) (by omega) (G.sum (P:=P) QX.st.gd X.length λl hl=>QX.qQ hl))
  obtain⟨c,hc⟩:=led i hi
  rw[List.length_append,g9,bB (m:=X.length) (g:=λl=>P l*AA X l i) λl hl=>by rw[eY hl],bB (m:=Y.length) (g:=λl=>P (X.length+l)*AA Y l i) λl hl=>by rw[eO]] at hc
  replace hc:(0:Int)-(bo X.length (λl=>P l*AA X l i)+bo Y.length λl=>P (X.length+l)*AA Y l i)=vf sizes i*c:=hc
  exact⟨-c,by show bo Y.length (λl=>P (X.length+l)*AA Y l i) - -1*bo X.length (λl=>P l*AA X l i)=vf sizes i*-c;rw[Int.mul_neg,← hc];omega⟩
 ·rintro⟨P,z,e,g⟩
  obtain⟨S,hS⟩:=QX.led g
  refine⟨λl=>if l<X.length then -(S l) else P (l-X.length),λl h1 h2=>?_,?_,λi hi=>?_⟩
  ·show (if l<X.length then -(S l) else P (l-X.length))=0
   rw[if_neg (by omega)];exact z _ (by omega) (by simp at h2;omega)
  ·show (if X.length+j<X.length then -(S (X.length+j)) else P (X.length+j-X.length))=k
   rw[if_neg (by omega),Nat.add_sub_cancel_left,e]
  ·obtain⟨c,hc⟩:=hS i hi
   have e1:=gb (-1) 0 (λl=>S l*AA X l i) (λl=>S l*AA X l i) (λl=>(if l<X.length then -(S l) else P (l-X.length))*AA (X++Y) l i) X.length λl hl=>by rw[eY hl,if_pos hl,Int.neg_mul];omega
   rw[List.length_append,g9,e1,bB (m:=Y.length) (g:=λl=>P l*AA Y l i) λl hl=>by rw[eO];show (if X.length+l<X.length then _ else _)*_=_;rw[if_neg (by omega),Nat.add_sub_cancel_left]]
   exact⟨-c,by rw[Int.mul_neg,← hc];show 0-_=-(bo Y.length (λl=>P l*AA Y l i)-_);omega⟩
theorem BE(Q:fj ns sizes raw Ls T idle)(Q':fj ns sizes M1 MA T' Me)(h:∀ v,GT sizes T v ↔ GT sizes T' v):aC Ls.length (λj=>II idle j j)=aC MA.length λj=>II Me j j:=by
 have g:=Q.st.gd
 have g':=Q'.st.gd
 have se:=vC g g' (λd hd=>(h _).mpr (g'.row hd (by omega) (Nat.zero_le _))) (λd hd=>(h _).mp (g.row hd (by omega) (Nat.zero_le _)))
 have p:=Q.pr
 rw[cy se] at p
 exact cancel (a:=aC sizes.length (aM (vf sizes) (DD T'))) (fG λl hl=>(g'.pos hl).1) (by rw[Int.mul_comm];exact p) Q'.pr
theorem y4(h:Vr ns sizes p H)(k:Vr ns sizes q K)(hr:Vr ns sizes r λv=>H v/\K v)(hs:Vr ns sizes s (Sm sizes H K)):∃ a b c d:Int,aY [p]=M.ok (.int a)/\aY [q]=M.ok (.int b)/\aY [r]=M.ok (.int c)/\aY [s]=M.ok (.int d)/\a*b=d*c/\(0<a/\a<2^200)/\(0<b/\b<2^200)/\(0<c/\c<2^200)/\(0<d/\d<2^200):=by
 obtain⟨O0,MZ,T1,i1,rfl,Q1,l1,h1⟩:=h
 obtain⟨O1,NB,T2,i2,rfl,Q2,l2,h2⟩:=k
 obtain⟨raw3,Ow,T3,i3,rfl,Q3,l3,h3⟩:=hr
 obtain⟨raw4,Ls4,T4,i4,rfl,Q4,l4,h4⟩:=hs
 have S:=Q1.S
 obtain⟨T5,i5,Q5⟩:=fj.kept ns S (L:=NB++MZ) (by simp;omega) λx hx=>(List.mem_append.mp hx).elim (Q2.kp x) (Q1.kp x)
 obtain⟨T6,i6,Q6⟩:=fj.kept ns S (L:=Ow++MZ) (by simp;omega) λx hx=>(List.mem_append.mp hx).elim (Q3.kp x) (Q1.kp x)
 have g5:∀ v,GT sizes T4 v ↔ GT sizes T5 v:=λv=>by
  rw[← h4 v]
  constructor
  ·rintro⟨a,b,ha,hb,e⟩
   refine Q5.st.gd.kT (by omega) e (G.add (by omega) (Q1.kX Q5.st.gd (λl hl=>?_) ((h1 a).mp ha)) (Q2.kX Q5.st.gd (λl hl=>?_) ((h2 b).mp hb)))
   ·rw[← eO (X:=NB) (l:=l)];exact Q5.qQ (by simp;omega)
   ·rw[← eY (Y:=MZ) hl];exact Q5.qQ (by simp;omega)
  ·intro g
   obtain⟨P,hP⟩:=Q5.led g
   refine⟨λi=>bo MZ.length λl=>P (NB.length+l)*AA MZ l i,λi=>bo NB.length λl=>P l*AA NB l i,(h1 _).mpr (G.sum (P:=λl=>P (NB.length+l)) Q1.st.gd _ λl hl=>Q1.qQ hl),(h2 _).mpr (G.sum Q2.st.gd _ λl hl=>Q2.qQ hl),λi hi=>?_⟩
   have:=hP i hi
   rw[List.length_append,g9,bB (g:=λl=>P l*AA NB l i) λl hl=>by rw[eY hl],bB (m:=MZ.length) (g:=λl=>P (NB.length+l)*AA MZ l i) λl hl=>by rw[eO],Int.add_comm] at this
   exact this
 have g6:∀ v,GT sizes T1 v ↔ GT sizes T6 v:=λv=>⟨Q1.kX Q6.st.gd λl hl=>by rw[← eO (X:=Ow) (l:=l)];exact Q6.qQ (by simp;omega),Q6.kX Q1.st.gd λl hl=>by
  rcases Nat.lt_or_ge l Ow.length with c | c
  ·rw[eY c];exact(h1 _).mp ((h3 _).mpr (Q3.qQ c)).1
  ·obtain⟨m,rfl⟩:∃ m,l=Ow.length+m:=⟨l-Ow.length,by omega⟩
   rw[eO];exact Q1.qQ (by simp at hl;omega)⟩
 have e5:=BE Q4 Q5 g5
 have e6:=BE Q1 Q6 g6
 rw[List.length_append,mJ,cy (m:=NB.length) (g:=λj=>II i2 j j) λj hj=>tZ Q5 Q2 hj] at e5
 rw[List.length_append,mJ,cy (m:=Ow.length) (g:=λj=>II i3 j j) λj hj=>tZ Q6 Q3 hj] at e6
 have ef:aC MZ.length (λl=>II i5 (NB.length+l) (NB.length+l))=aC MZ.length λl=>II i6 (Ow.length+l) (Ow.length+l):=cy λj hj=>xr (Q5.I.pos _ (by simp;omega)) (Q6.I.pos _ (by simp;omega)) λk=>by
  rw[qD Q5 Q2 hj k,qD Q6 Q3 hj k]
  have key:∀ P:bx,GT sizes T2 (λi=>bo MZ.length λl=>P l*AA MZ l i) ↔ GT sizes T3 λi=>bo MZ.length λl=>P l*AA MZ l i:=λP=>by
   rw[← h2,← h3]
   exact⟨λh=>⟨(h1 _).mpr (G.sum Q1.st.gd _ λl hl=>Q1.qQ hl),h⟩,λh=>h.2⟩
  exact⟨λ⟨P,a,b,c⟩=>⟨P,a,b,(key P).mp c⟩,λ⟨P,a,b,c⟩=>⟨P,a,b,(key P).mpr c⟩⟩
 have bd:∀ {raw Ls T idle},fj ns sizes raw Ls T idle->Ls.length<=3->0<aC Ls.length (λj=>II idle j j)/\aC Ls.length (λj=>II idle j j)<2^200:=λ{raw Ls T idle} Q l=>by
  obtain⟨x,y,z⟩:=mR Q
  have:=r_ y Ls.length (by omega)
  rw[z] at this
  refine⟨this.1,Int.lt_of_lt_of_le this.2 ?_⟩
  have:(2:Nat)^(60*Ls.length+1)<=2^200:=Nat.pow_le_pow_right (by decide) (by omega)
  exact_mod_cast this
 refine⟨_,_,_,_,iD Q1,iD Q2,iD Q3,iD Q4,?_,bd Q1 l1,bd Q2 l2,bd Q3 l3,bd Q4 l4⟩
 rw[e5,e6,ef]
 generalize aC MZ.length (λl=>II i6 (Ow.length+l) (Ow.length+l))=f
 grind
end
section
variable{ns:List Int}{sizes:List Int}{raw Ls M1 MA L:List (List Int)}{T T':List Row}{idle Me:List (List Int)}{p q r:PV}{H K N:bx->Prop}
theorem o6(Q:fj ns sizes raw Ls T idle){xs:List Int}(hx:Kp sizes xs):∃ b:Bool,dH [lI sizes,cx sizes Ls,gj sizes Ls T idle,tI xs]=M.ok (.int (if b then 1 else 0))/\(b=true ↔ GT sizes T (vf xs)):=by
 have m8:=Q.m8
 by_cases g:GT sizes T (vf xs)
 ·obtain⟨et,tl,led,tn⟩:=zq (k:=Ls.length+1) Q.S m8 Q.st (by omega) Q.I hx.Jz hx.2 g
  have e:=v8 Q (BI Q.S) hx tl (Jt Q.I tl tn) (λi hi=>⟨0,by rw[eP];omega⟩) led
  refine⟨true,?_,⟨λ_=>g,λ_=>rfl⟩⟩
  unfold dH fI
  dsimp? [bN,HA,tR (m := "pulls_to") rfl,et,show ∀ xs:List Int,u5 (tI xs) .cp=M.ok (.bl false) from λ_=>rfl,qY Q.S,e,ot,decide_true]
 ·have en:=A0 (idle:=idle) Q.S m8 Q.st (by omega) hx.1 hx.2 λz=>g ((uN Q hx).mp z)
  refine⟨false,?_,⟨λh=>absurd h (by simp),λh=>absurd h g⟩⟩
  unfold dH fI
  dsimp? [bN,tR (m := "pulls_to") rfl,en,show u5 .cp .cp=M.ok (.bl true) from rfl]
theorem oE(Q:fj ns sizes raw Ls T idle)(hL:∀ l∈L,Kp sizes l):∃ b:Bool,cP [lI sizes,cx sizes Ls,.tup (L.map tI)]=M.ok (.bl b)/\(b=true ↔ ∀ l∈L,GT sizes T (vf l)):=by
 suffices h:jC (cP [lI sizes,cx sizes Ls,.tup (L.map tI)]) λp=>∃ b:Bool,p=.bl b/\(b=true ↔ ∀ l∈L,GT sizes T (vf l)) by
  obtain⟨_,e,b,rfl,hb⟩:=h
  exact⟨b,e,hb⟩
 unfold cP e_
 dsimp? [Q.ze]
 refine jC.IZ (xs:=L) (inj:=tI) (λls env=>∃ y,env=[some (.sh (lI sizes)),some (.sh (cx sizes Ls)),some (.sh (.tup (L.map tI))),some (.sh (gj sizes Ls T idle)),y]/\(∀ l∈ls,l∈L)/\((∀ l∈ls,GT sizes T (vf l)) ↔ ∀ l∈L,GT sizes T (vf l))) ⟨_,rfl,λ_ h=>h,Iff.rfl⟩ ?_ ?_
 ·rintro l rs env ⟨y,rfl,hm,hi⟩
  obtain⟨b,ec,hb⟩:=o6 Q (hL l (hm l List.mem_cons_self))
  cases b with
  | true =>
   rw[if_pos rfl] at ec
   dsimp? [bX,ec,decide_true]
   refine⟨_,rfl,_,rfl,λa h=>hm a (List.mem_cons_of_mem _ h),Iff.trans ⟨λh a ha=>?_,λh a ha=>h a (List.mem_cons_of_mem _ ha)⟩ hi⟩
   rcases List.mem_cons.mp ha with rfl | ha
   ·exact hb.mp rfl
   ·exact h a ha
  | false =>
   rw[if_neg (by simp)] at ec
   dsimp? [bX,ec,show ¬ (0:Int)=1 by decide,decide_false]
   exact⟨_,rfl,_,rfl,false,rfl,⟨λh=>absurd h (by simp),λh=>hb.mpr (h l (hm l List.mem_cons_self))⟩⟩
 ·rintro env ⟨y,rfl,_,hi⟩
  dsimp? []
  exact⟨_,rfl,true,rfl,⟨λ_=>hi.mp (by simp),λ_=>rfl⟩⟩
theorem qA(h:Vr ns sizes p H)(k:Vr ns sizes q K):cS [lI sizes,p,q]=M.ok (.bl true):=by
 obtain⟨b,eb,hb⟩:=wJ h k
 obtain⟨O0,MZ,T1,i1,rfl,Q1,l1,h1⟩:=h
 obtain⟨O1,NB,T2,i2,rfl,Q2,l2,h2⟩:=k
 obtain⟨b1,e1,O4⟩:=oE Q1 Q2.kp
 obtain⟨b2,e2,hb2⟩:=oE Q2 Q1.kp
 have inc:∀ {raw M1 Ls MA T T' idle Me},fj ns sizes raw Ls T idle->fj ns sizes M1 MA T' Me->((∀ l∈MA,GT sizes T (vf l)) ↔ ∀ v,GT sizes T' v->GT sizes T v):=λ{raw M1 Ls MA T T' idle Me} Q Q'=>⟨λh v=>Q'.kX Q.st.gd λl hl=>by
  unfold AA
  rw[List.getD_eq_getElem?_getD,List.getElem?_eq_getElem hl,Option.getD_some]
  exact h _ (List.getElem_mem _),λh l hl=>by
  obtain⟨j,hj,e⟩:=nR hl
  rw[← e];exact h _ (Q'.qQ hj)⟩
 rw[inc Q1 Q2] at O4
 rw[inc Q2 Q1] at hb2
 have:b=(b1&&b2):=by
  rw[Bool.eq_iff_iff,Bool.and_eq_true,hb,O4,hb2]
  exact⟨λh=>⟨λv hv=>(h1 v).mp ((h v).mpr ((h2 v).mpr hv)),λv hv=>(h2 v).mp ((h v).mp ((h1 v).mpr hv))⟩,λ⟨x,y⟩ v=>⟨λhv=>(h2 v).mpr (y v ((h1 v).mp hv)),λhv=>(h1 v).mpr (x v ((h2 v).mp hv))⟩⟩
 subst this
 unfold cS dZ
 cases b1 with
 | true=>dsimp? [bN,HA,e1,e2,eb,decide_true]
 | false=>dsimp? [bN,HA,e1,e2,eb,decide_true]
theorem yl(hn:sizes.length<=3)(h:Vr ns sizes p H)(k:Vr ns sizes q K)(l:Vr ns sizes r N):dc [p,q,r]=M.ok (.bl true):=by
 have hq:=v_ h.S
 obtain⟨low,elow,PQ⟩:=ip hn h l
 obtain⟨t12,e12,PN⟩:=gW hn h k
 obtain⟨t21,e21,v21⟩:=gW hn k h
 obtain⟨b12,f12,w12⟩:=ip hn h k
 obtain⟨b21,f21,w21⟩:=ip hn k h
 obtain⟨t23,e23,v23⟩:=gW hn k l
 obtain⟨t1,e1,v1⟩:=gW hn h v23
 obtain⟨t2,e2,v2⟩:=gW hn PN l
 obtain⟨b1,f1,w1⟩:=ip hn h PN
 obtain⟨t3,e3,v3⟩:=gW hn h w12
 obtain⟨b23,f23,w23⟩:=ip hn k l
 obtain⟨t4,e4,v4⟩:=gW hn PQ w23
 obtain⟨t5,e5,v5⟩:=gW hn PQ k
 obtain⟨b5,f5,w5⟩:=ip hn v5 l
 obtain⟨s12,g12,x12⟩:=gX hn PN
 obtain⟨s1,g1,x1⟩:=gX hn h
 obtain⟨s2,g2,x2⟩:=gX hn k
 obtain⟨b6,f6,w6⟩:=ip hn x1 x2
 obtain⟨s3,g3,x3⟩:=gX hn w12
 obtain⟨t6,e6,v6⟩:=gW hn x1 x2
 obtain⟨a,b,c,d,ca,cb,cc,cd,eq,ha,hb,hc,hd⟩:=y4 h k w12 PN
 have z:∀ i,i<sizes.length->∀ x:Int,vf sizes i∣x-(x+0):=λi _ x=>⟨0,by omega⟩
 have d1:bf [t12,t21]=M.ok (.bl true):=eI PN v21 λv=>⟨λ⟨a,b,ha,hb,e⟩=>⟨b,a,hb,ha,λi hi=>by rw[Int.add_comm];exact e i hi⟩,λ⟨a,b,ha,hb,e⟩=>⟨b,a,hb,ha,λi hi=>by rw[Int.add_comm];exact e i hi⟩⟩
 have d2:bf [b12,b21]=M.ok (.bl true):=eI w12 w21 λv=>And.comm
 have d3:bf [t1,t2]=M.ok (.bl true):=eI v1 v2 λv=>⟨λ⟨a,b,ha,⟨b1,b2,O4,hb2,e'⟩,e⟩=>⟨λi=>a i+b1 i,b2,⟨a,b1,ha,O4,λi hi=>⟨0,by dsimp only;omega⟩⟩,hb2,λi hi=>by
   obtain⟨x,hx⟩:=e i hi
   obtain⟨y,hy⟩:=e' i hi
   exact⟨x+y,by rw[Int.mul_add,← hx,← hy];dsimp only;omega⟩⟩,λ⟨a,b,⟨a1,a2,ha1,ha2,e'⟩,hb,e⟩=>⟨a1,λi=>a2 i+b i,ha1,⟨a2,b,ha2,hb,λi hi=>⟨0,by dsimp only;omega⟩⟩,λi hi=>by
   obtain⟨x,hx⟩:=e i hi
   obtain⟨y,hy⟩:=e' i hi
   exact⟨x+y,by rw[Int.mul_add,← hx,← hy];dsimp only;omega⟩⟩⟩
 have d4:bf [b1,p]=M.ok (.bl true):=eI w1 h λv=>⟨λx=>x.1,λx=>⟨x,v,_,x,k.zero,λi hi=>⟨0,by omega⟩⟩⟩
 have d5:bf [t3,p]=M.ok (.bl true):=eI v3 h λv=>⟨λ⟨a,b,ha,hb,e⟩=>h.JU 1 1 ha hb.1 λi hi=>by rw[Int.one_mul,Int.one_mul];exact e i hi,λx=>⟨v,_,x,⟨h.zero,k.zero⟩,λi hi=>⟨0,by omega⟩⟩⟩
 have d6:bf [t4,b5]=M.ok (.bl true):=eI v4 w5 λv=>⟨λ⟨a,b,ha,hb,e⟩=>⟨⟨a,b,ha,hb.1,e⟩,l.JU 1 1 ha.2 hb.2 λi hi=>by rw[Int.one_mul,Int.one_mul];exact e i hi⟩,λ⟨⟨a,b,ha,hb,e⟩,hv⟩=>⟨a,b,ha,⟨hb,l.JU 1 (-1) hv ha.2 λi hi=>by
   obtain⟨x,hx⟩:=e i hi
   exact⟨-x,by rw[Int.mul_neg,← hx];omega⟩⟩,e⟩⟩
 have an:∀ {X Y:bx->Prop} {u:bx},(∀ a b,X a->Y b->R sizes∣eM sizes.length (vf sizes) (R sizes) u a/\R sizes∣eM sizes.length (vf sizes) (R sizes) u b)->An sizes (Sm sizes X Y) u:=λ{X Y u} h v ⟨a,b,ha,hb,e⟩=>by
  rw[cn]
  refine fE hq (a:=1) (b:=1) (x:=a) (y:=b) (λi hi=>by rw[Int.one_mul,Int.one_mul];exact e i hi) ?_ ?_
  ·rw[cn];exact(h a b ha hb).1
  ·rw[cn];exact(h a b ha hb).2
 have d7:bf [s12,b6]=M.ok (.bl true):=eI x12 w6 λu=>⟨λx=>⟨λv hv=>x v ⟨v,_,hv,k.zero,λi hi=>⟨0,by omega⟩⟩,λv hv=>x v ⟨_,v,h.zero,hv,λi hi=>⟨0,by omega⟩⟩⟩,λx=>an λa b ha hb=>⟨x.1 a ha,x.2 b hb⟩⟩
 have d8:bf [s3,t6]=M.ok (.bl true):=eI x3 v6 λu=>⟨λx=>v6.an λv hv=>by
   have hv1:H v:=h.an λw hw=>by rw[cn];exact hv w ⟨w,_,hw,x2.zero,λi hi=>⟨0,by omega⟩⟩
   have hv2:K v:=k.an λw hw=>by rw[cn];exact hv w ⟨_,w,x1.zero,hw,λi hi=>⟨0,by omega⟩⟩
   rw[cn];exact x v ⟨hv1,hv2⟩,λ⟨a,b,ha,hb,e⟩ v hv=>fE hq (a:=1) (b:=1) (λi hi=>by rw[Int.one_mul,Int.one_mul];exact e i hi) (ha v hv.1) (hb v hv.2)⟩
 have m1:=bu (i:=a) (j:=b) (k:=200) (l:=200) (mB ha) (mB hb)
 have m2:=bu (i:=d) (j:=c) (k:=200) (l:=200) (mB hd) (mB hc)
 rw[← eq] at m2
 unfold dc da
 dsimp? [elow,e12,e21,d1,f12,f21,d2,e23,e1,e2,d3,f1,d4,e3,d5,f23,e4,e5,f5,d6,g12,g1,g2,f6,d7,g3,e6,d8,ca,cb,cd,cc,show aB (.lst [.int a,.int b,.int d]) (.int 0)=M.ok (.int a) from aW (j:=0) rfl rfl,show aB (.lst [.int a,.int b,.int d]) (.int 1)=M.ok (.int b) from aW (j:=1) rfl rfl,show aB (.lst [.int a,.int b,.int d]) (.int 2)=M.ok (.int d) from aW (j:=2) rfl rfl,m1,m2,decide_true]
end
theorem CY(xs:List Int)(m:Nat)(h:xs.length*m<=1000)(hm:m<=1000):bR (lI xs) (.int (m:Int))=M.ok (lI (List.replicate m xs).flatten):=by
 have h2:(xs.map PV.int).length*(m:Int).toNat<=sizeLine:=by rw[Int.toNat_natCast,List.length_map];exact aL h
 have h3:(m:Int)<2^63:=Int.lt_of_le_of_lt (Int.ofNat_le.mpr hm) (by decide)
 have h4:-(2^63)<=(m:Int):=Int.le_trans (by decide) (Int.natCast_nonneg m)
 rw[lI,bR,av ⟨h4,h3,h2⟩,Int.toNat_natCast,lI,List.map_flatten,List.map_replicate]
theorem F3(xs:List Int)(a n:Nat)(h:a+n<=xs.length):HC (lI xs) (some (a:Int)) (some ((a:Int)+(n:Int)))=M.ok (lI ((xs.drop a).take n)):=by
 show M.ok (PV.lst (lx (xs.map PV.int) _ _))=_
 rw[lx,List.length_map,← Int.natCast_add,HT.nY,HT.nY,Nat.min_eq_left h,Nat.min_eq_left (show a<=xs.length by omega),Nat.add_sub_cancel_left,lI,List.map_take,List.map_drop]
theorem Kj(xs:List Int):HC (lI xs) none (some 3)=M.ok (lI (xs.take 3)):=by
 have e1:HT.dw (xs.map PV.int).length (xs.map PV.int).length (some 3)=min 3 xs.length:=by
  rw[List.length_map]
  unfold HT.dw
  simp
 have e0:HT.dw (xs.map PV.int).length 0 none=0:=rfl
 show M.ok (PV.lst (lx (xs.map PV.int) none (some 3)))=_
 rw[lx,e1,e0,List.drop_zero,Nat.sub_zero,lI,List.map_take]
 congr 2
 rcases Nat.le_total 3 xs.length with h | h
 ·rw[Nat.min_eq_left h]
 ·rw[Nat.min_eq_right h,List.take_of_length_le (by simp),List.take_of_length_le (by simpa using h)]
theorem Sz.take{xs:List Int}(S:Sz xs):Sz (xs.take 3):=⟨by have:=S.h1;rw[List.length_take];omega,by have:=S.h6;rw[List.length_take];omega,λx h=>S.hx x (List.mem_of_mem_take h)⟩
section
variable{ns:List Int}{sizes:List Int}
theorem Bz(S:Sz sizes)(hn:sizes.length<=3)(c:Int):jC (dN [.int c,lI sizes]) λp=>∃ raw:List (List Int),p=.lst (raw.map lI)/\raw.length<=2/\∀ l∈raw,l.length=sizes.length/\Bd 200 l:=by
 obtain⟨m,hm⟩:=Int.eq_ofNat_of_zero_le (Int.emod_nonneg c (show (3:Int)≠0 by decide))
 have m2:m<=2:=by omega
 have zr:(List.range m).length<=sizeLine:=by rw[List.length_range];exact aL (by omega)
 have em:dh (.int c) (.int 3)=M.ok (.int (m:Int)):=by rw[bb (by decide),hm]
 have rg:=hV (n:=(m:Int)) (by omega) (by omega)
 rw[Int.toNat_natCast] at rg
 unfold dN ig
 by_cases z:c/3%2=0
 ·have h:∀ k:Nat,∃ l,c_ [.int (c/6+7919*(k:Int)),lI sizes]=M.ok (lI l)/\l.length=sizes.length/\Bd 200 l:=λk=>by
   obtain⟨_,e,l,rfl,a⟩:=xZ S (c/6+7919*(k:Int))
   exact⟨l,e,a⟩
  obtain⟨Lf,hL⟩:∃ Lf:Nat->List Int,∀ k:Nat,c_ [.int (c/6+7919*(k:Int)),lI sizes]=M.ok (lI (Lf k))/\(Lf k).length=sizes.length/\Bd 200 (Lf k):=⟨λk=>Classical.choose (h k),λk=>Classical.choose_spec (h k)⟩
  have key:bJ (bX 0) none (af c_ (aa (ak dQ (ak bM (ae 1) (λ_=>M.ok (.int 6))) (ak bR (λ_=>M.ok (.int 7919)) (ae 0))) (aa (ae 2) aj))) ((List.range m).map λ(i:Nat)=>.int (i:Int)) [none,some (.sh (.int c)),some (.sh (lI sizes))]=M.ok (((List.range m).map Lf).map lI):=by
   rw[List.map_map]
   refine fu (inj:=λ(i:Nat)=>PV.int (i:Int)) (List.range m) λi hi=>?_
   have:=List.mem_range.mp hi
   dsimp? [aT (i:=c) (j:=6) (by decide) (by decide),bu (i:=7919) (j:=(i:Int)) (k:=31) (l:=31) (by decide) (by omega),(hL i).1]
   rfl
  dsimp? [aT (i:=c) (j:=3) (by decide) (by decide),bb (i:=c/3) (j:=2) (by decide),z,decide_true,em,rg,List.length_map,av zr,key]
  refine⟨_,rfl,_,rfl,by simp;omega,λl hl=>?_⟩
  obtain⟨k,_,rfl⟩:=List.mem_map.mp hl
  exact(hL k).2
 ·have fl:(List.replicate m sizes).flatten.length=m*sizes.length:=by simp
  have hb:∀ b∈(List.replicate m sizes).flatten,2<=b/\b<=360:=λb hb=>by
   obtain⟨l,hl,h2⟩:=List.mem_flatten.mp hb
   rw[List.eq_of_mem_replicate hl] at h2
   exact S.hx b h2
  have ml:m*sizes.length<=6:=Nat.mul_le_mul m2 hn
  obtain⟨ds,ed,dl,dr⟩:=mE (c/6) (lI (List.replicate m sizes).flatten) (List.replicate m sizes).flatten rfl (λb h=>by have:=hb b h;omega) (by omega)
  rw[fl] at dl
  have key:bJ (bX 0) none (kZ (ae 2) (iJ (ak bR (af dy (aa (ae 1) aj)) (ae 0))) (iJ (ak dQ (ak bR (af dy (aa (ae 1) aj)) (ae 0)) (af dy (aa (ae 1) aj))))) ((List.range m).map λ(i:Nat)=>.int (i:Int)) [none,some (.sh (lI sizes)),some (.sh (lI ds))]=M.ok (((List.range m).map λk=>(ds.drop (sizes.length*k)).take sizes.length).map lI):=by
   rw[List.map_map]
   refine fu (inj:=λ(i:Nat)=>PV.int (i:Int)) (List.range m) λi hi=>?_
   have hi:=List.mem_range.mp hi
   have le:sizes.length*i+sizes.length<=ds.length:=by
    rw[dl,← Nat.mul_succ,Nat.mul_comm m];exact Nat.mul_le_mul_left _ hi
   have:=F3 ds (sizes.length*i) sizes.length le
   rw[Int.natCast_mul] at this
   dsimp? [kZ,iJ,Hy,bu (i:=(sizes.length:Int)) (j:=(i:Int)) (k:=31) (l:=31) (by omega) (by omega),this]
   rfl
  dsimp? [aT (i:=c) (j:=3) (by decide) (by decide),bb (i:=c/3) (j:=2) (by decide),z,decide_false,em,CY sizes m (by rw[Nat.mul_comm];omega) (by omega),aT (i:=c) (j:=6) (by decide) (by decide),ed,rg,List.length_map,av zr,key]
  refine⟨_,rfl,_,rfl,by simp;omega,λl hl=>?_⟩
  obtain⟨k,hk,rfl⟩:=List.mem_map.mp hl
  have hk:=List.mem_range.mp hk
  have le:sizes.length*k+sizes.length<=ds.length:=by
   rw[dl,← Nat.mul_succ,Nat.mul_comm m];exact Nat.mul_le_mul_left _ hk
  refine⟨by rw[List.length_take,List.length_drop];omega,λx hx=>?_⟩
  obtain⟨i,hi,rfl⟩:=List.mem_iff_getElem.mp (List.mem_of_mem_drop (List.mem_of_mem_take hx))
  have hz:=dr (ds[i],(List.replicate m sizes).flatten[i]'(by rw[fl,← dl];exact hi)) (by
   rw[← List.getElem_zip (h:=by rw[List.length_zip,fl,dl];omega)];exact List.getElem_mem _)
  have:=hb _ (List.getElem_mem (l:=(List.replicate m sizes).flatten) (n:=i) (by rw[fl,← dl];exact hi))
  simp only at hz
  omega
end
abbrev oz(b:Bool):Int:=if b then 1 else 0
theorem Lp(a b c d:Bool):J1 false (.int 2) (.lst [.int (oz a),.int (oz b),.int (oz c),.int (oz d)])=M.ok (.bl false):=by cases a <;> cases b <;> cases c <;> cases d <;> rfl
abbrev Z:=List (List Int)×List Row×List (List Int)
theorem IK{b0 b1 b3 b4:Bool}(h:b3=(b0&&b1))(h':(b0||b1)=true->b4=true):bR (.int (oz b0)) (.int (oz b1))=M.ok (.int (oz b3))/\wO (λi j=>if j>i then j else i) [.int (oz b0),.int (oz b1)]=M.ok (.int (oz (b0||b1)))/\¬ oz b4<oz (b0||b1):=by
 subst h
 refine⟨?_,?_,?_⟩
 ·rw[bu (k:=4) (l:=4) (by cases b0 <;> decide) (by cases b1 <;> decide)];cases b0 <;> cases b1 <;> rfl
 ·cases b0 <;> cases b1 <;> rfl
 ·cases e:(b0||b1) with
  | true=>rw[h' e];decide
  | false=>cases b4 <;> decide
section
variable{ns:List Int}{sizes:List Int}{raw Ls:List (List Int)}{T:List Row}{idle:List (List Int)}
def Vz(ns sizes:List Int)(z:Z)(H:bx->Prop):Prop:=(∃ raw,fj ns sizes raw z.1 z.2.1 z.2.2)/\z.1.length<=3/\∀ v,H v ↔ GT sizes z.2.1 v
theorem Vr.z{p:PV}{H:bx->Prop}(h:Vr ns sizes p H):∃ z:Z,p=cx sizes z.1/\Vz ns sizes z H:=by
 obtain⟨raw,Ls,T,idle,rfl,Q,l3,hH⟩:=h
 exact⟨(Ls,T,idle),rfl,⟨raw,Q⟩,l3,hH⟩
theorem yi(ns:List Int)(S:Sz sizes)(hn:sizes.length<=3)(k:Nat):∃ (c:Int) (w p:PV) (H:bx->Prop),cY [.jD (ns.map PV.int),.int (1+(k:Int))]=M.ok (.int c)/\dN [.int c,lI sizes]=M.ok w/\c6 ar b_ [.cp] [lI sizes,w]=M.ok p/\Vr ns sizes p H:=by
 obtain⟨c,ec⟩:=xq ns (1+k)
 rw[Int.natCast_add,show ((1:Nat):Int)=1 from rfl] at ec
 obtain⟨_,er,raw,rfl,r2,hr⟩:=Bz S hn c
 obtain⟨Ls,T,idle,Q⟩:=fj.get ns S (by omega) hr
 exact⟨c,_,_,GT sizes T,ec,er,Q.Gx (f:=lI) (p:=lI sizes) (.inr rfl) rfl,raw,Ls,T,idle,rfl,Q,by have:=Q.hm;omega,λv=>Iff.rfl⟩
theorem vx(Q:fj ns sizes raw Ls T idle)(l3:Ls.length<=3)(c:Int):∃ ps:PV,cj [.int c,.int (Ls.length:Int)]=M.ok ps/\∃ F,cL [lI sizes,.tup (Ls.map tI),tI (List.replicate sizes.length 0),ps]=M.ok (tI F)/\Kp sizes F/\GT sizes T (vf F):=by
 obtain⟨_,es,P,rfl,Pl,Pb⟩:=j4 c Ls.length (by omega)
 obtain⟨F,e,F1,F2,ld⟩:=qM (.inl rfl) (p1:=.tup (Ls.map tI)) rfl (q:=tI (List.replicate sizes.length 0)) (p2:=lI P) (vX Q.S) Q.S.h6 (Di _) rfl (uD Q.S) (λl hl=>⟨(Q.kp l hl).1,(Q.kp l hl).bd Q.S⟩) (λx hx=>by have:=Pb x hx;omega) Pl rfl
 refine⟨_,es,F,e,⟨F1,F2⟩,sq Q.st.gd (P:=vf P) (λl hl=>Q.qQ hl) λi hi=>?_⟩
 have:=ld i hi
 rw[eP,Int.zero_add] at this
 exact this
theorem FC(ns:List Int):qT [.jD (ns.map PV.int)]=M.ok (.bl true):=by
 obtain⟨c0,ec⟩:=xq ns 0
 rw[show ((0:Nat):Int)=0 from rfl] at ec
 obtain⟨_,es,xs,rfl,S0⟩:=yc c0
 have S:=S0.take
 have cu:=Kj xs
 have hn:(xs.take 3).length<=3:=by rw[List.length_take];omega
 generalize xs.take 3=sizes at *
 have l1:=S.h1
 obtain⟨cf,wf,pf,Hf,hf⟩:∃ (cf:Nat->Int) (wf pf:Nat->PV) (Hf:Nat->bx->Prop),∀ k:Nat,cY [.jD (ns.map PV.int),.int (1+(k:Int))]=M.ok (.int (cf k))/\dN [.int (cf k),lI sizes]=M.ok (wf k)/\c6 ar b_ [.cp] [lI sizes,wf k]=M.ok (pf k)/\Vr ns sizes (pf k) (Hf k):=by
  have h:=λk=>yi (sizes:=sizes) ns S hn k
  exact⟨λk=>Classical.choose (h k),λk=>Classical.choose (Classical.choose_spec (h k)),λk=>Classical.choose (Classical.choose_spec (Classical.choose_spec (h k))),λk=>Classical.choose (Classical.choose_spec (Classical.choose_spec (Classical.choose_spec (h k)))),λk=>Classical.choose_spec (Classical.choose_spec (Classical.choose_spec (Classical.choose_spec (h k))))⟩
 have kv:bJ (bX 0) none (af (c6 ar b_ [.cp]) (aa (ae 2) (aa (af dN (aa (af cY (aa (ae 1) (aa (ak dQ (λ_=>M.ok (.int 1)) (ae 0)) aj))) (aa (ae 2) aj))) aj))) ((List.range 3).map λ(i:Nat)=>.int (i:Int)) [none,some (.sh (.jD (ns.map PV.int))),some (.sh (lI sizes))]=M.ok [pf 0,pf 1,pf 2]:=by
  refine fu (inj:=λ(i:Nat)=>PV.int (i:Int)) (h:=pf) (List.range 3) λi hi=>?_
  dsimp? [(hf i).1,(hf i).2.1,(hf i).2.2.1]
 have v0:=(hf 0).2.2.2
 have v1:=(hf 1).2.2.2
 have v2:=(hf 2).2.2.2
 generalize pf 0=p0 at *
 generalize pf 1=p1 at *
 generalize pf 2=p2 at *
 have eo:=yl hn v0 v1 v2
 have s1:=qA v0 v1
 have s2:=qA v2 v0
 obtain⟨p3,e3,v3⟩:=ip hn v0 v1
 obtain⟨p4,e4,v4⟩:=gW hn v0 v1
 have i0:aB (.lst [p0,p1,p2]) (.int 0)=M.ok p0:=aW (j:=0) rfl rfl
 have i1:aB (.lst [p0,p1,p2]) (.int 1)=M.ok p1:=aW (j:=1) rfl rfl
 have i2:aB (.lst [p0,p1,p2]) (.int 2)=M.ok p2:=aW (j:=2) rfl rfl
 have z1:=v0.zero
 have z2:=v1.zero
 obtain⟨a0,rfl,⟨_,Q0⟩,l0,g0⟩:=v0.z
 obtain⟨a1,rfl,⟨_,Q1⟩,l1',g1⟩:=v1.z
 obtain⟨a3,rfl,⟨_,Q3⟩,l3,g3⟩:=v3.z
 obtain⟨a4,rfl,⟨_,Q4⟩,l4,g4⟩:=v4.z
 have kr:bJ (bX 0) none (af (c6 au bU []) (aa (ae 0) aj)) [cx sizes a0.1,cx sizes a1.1,cx sizes a3.1,cx sizes a4.1] [none]=M.ok [gj sizes a0.1 a0.2.1 a0.2.2,gj sizes a1.1 a1.2.1 a1.2.2,gj sizes a3.1 a3.2.1 a3.2.2,gj sizes a4.1 a4.2.1 a4.2.2]:=by
  refine fu (α:=Z) (inj:=λz=>cx sizes z.1) (h:=λz=>gj sizes z.1 z.2.1 z.2.2) [a0,a1,a3,a4] λz hz=>?_
  simp only[List.mem_cons,List.not_mem_nil,or_false] at hz
  rcases hz with rfl | rfl | rfl | rfl
  ·dsimp? [Q0.ze]
  ·dsimp? [Q1.ze]
  ·dsimp? [Q3.ze]
  ·dsimp? [Q4.ze]
 have rg:=hV (n:=(3:Int)) (by decide) (by decide)
 refine jC.eq ?_
 unfold qT zH
 dsimp? [ec,es,kZ,Fw,iJ,Hy,cu,rg,show ((3:Int).toNat)=3 from rfl,List.length_map,List.length_range,av (aL (show 3<=1000 by decide)),kv,i0,i1,i2,eo,s1,s2,e3,e4,av (aL (show 4<=1000 by decide)),kr,show HC (.jD (ns.map PV.int)) (some 6) (some 30)=M.ok (.lst ((pS ns 6 30).map PV.int)) from CF ns 6 30,xT (pS ns 6 30) (by have:=qV ns 6 30;omega),GF]
 refine jC.loop (xs:=(pS ns 6 30++[0]).zipIdx) (inj:=λz=>.tup [.int (z.2:Int),.int z.1]) (λzs env=>∃ (y5 y6 y7 y8 y9:Option SV),env=[some (.sh (.jD (ns.map PV.int))),some (.sh (lI sizes)),some (.sh (.lst [cx sizes a0.1,cx sizes a1.1,p2])),some (.sh (.lst [cx sizes a0.1,cx sizes a1.1,cx sizes a3.1,cx sizes a4.1])),some (.sh (.lst [gj sizes a0.1 a0.2.1 a0.2.2,gj sizes a1.1 a1.2.1 a1.2.2,gj sizes a3.1 a3.2.1 a3.2.2,gj sizes a4.1 a4.2.1 a4.2.2])),y5,y6,y7,y8,y9]/\∀ z∈zs,z.2<100) ⟨_,_,_,_,_,rfl,λz hz=>by have:=vK hz;have:=qV ns 6 30;simp at *;omega⟩ ?_ ?_
 ·rintro⟨a,k⟩ r env ⟨y5,y6,y7,y8,y9,rfl,hz⟩
  have hk:=hz (a,k) List.mem_cons_self
  have N5:∀ z∈r,z.2<100:=λz h=>hz z (List.mem_cons_of_mem _ h)
  simp only at hk
  obtain⟨_,ex,one,rfl,xl,x0⟩:=t_ S (a/5+48271*(k:Int))
  have h1:Kp sizes one:=⟨xl,x0⟩
  have key:∀ xs,Kp sizes xs->∃ b0 b1 b3 b4:Bool,bJ (bV 0 1) none (af dH (aa (ae 2) (aa (ae 0) (aa (ae 1) (aa (ae 3) aj))))) [.tup [cx sizes a0.1,gj sizes a0.1 a0.2.1 a0.2.2],.tup [cx sizes a1.1,gj sizes a1.1 a1.2.1 a1.2.2],.tup [cx sizes a3.1,gj sizes a3.1 a3.2.1 a3.2.2],.tup [cx sizes a4.1,gj sizes a4.1 a4.2.1 a4.2.2]] [none,none,some (.sh (lI sizes)),some (.sh (tI xs))]=M.ok [.int (oz b0),.int (oz b1),.int (oz b3),.int (oz b4)]/\(b0=true ↔ GT sizes a0.2.1 (vf xs))/\(b1=true ↔ GT sizes a1.2.1 (vf xs))/\(b3=true ↔ GT sizes a3.2.1 (vf xs))/\(b4=true ↔ GT sizes a4.2.1 (vf xs))/\b3=(b0&&b1)/\((b0||b1)=true->b4=true):=λxs hx=>by
   obtain⟨b0,c0,d0⟩:=o6 Q0 hx
   obtain⟨b1,c1,d1⟩:=o6 Q1 hx
   obtain⟨b3,c3,d3⟩:=o6 Q3 hx
   obtain⟨b4,c4,d4⟩:=o6 Q4 hx
   refine⟨b0,b1,b3,b4,?_,d0,d1,d3,d4,?_,λh=>?_⟩
   ·have:=iH (α:=Z×Bool) (f:=af dH (aa (ae 2) (aa (ae 0) (aa (ae 1) (aa (ae 3) aj))))) (p:=λz=>cx sizes z.1.1) (q:=λz=>gj sizes z.1.1 z.1.2.1 z.1.2.2) (h:=λz=>.int (oz z.2)) (rest:=[some (.sh (lI sizes)),some (.sh (tI xs))]) (x0:=none) (x1:=none) [(a0,b0),(a1,b1),(a3,b3),(a4,b4)] λz hz=>by
     simp only[List.mem_cons,List.not_mem_nil,or_false] at hz
     rcases hz with rfl | rfl | rfl | rfl
     ·dsimp? [c0]
     ·dsimp? [c1]
     ·dsimp? [c3]
     ·dsimp? [c4]
    exact this
   ·rw[Bool.eq_iff_iff,Bool.and_eq_true,d0,d1,d3,← g3,← g0,← g1]
   ·rw[d4,← g4]
    rcases(Bool.or_eq_true _ _).mp h with h | h
    ·exact⟨_,_,(g0 _).mpr (d0.mp h),z2,λi hi=>⟨0,by omega⟩⟩
    ·exact⟨_,_,z1,(g1 _).mpr (d1.mp h),λi hi=>⟨0,by omega⟩⟩
  have zp:zip2 [.lst [cx sizes a0.1,cx sizes a1.1,cx sizes a3.1,cx sizes a4.1],.lst [gj sizes a0.1 a0.2.1 a0.2.2,gj sizes a1.1 a1.2.1 a1.2.2,gj sizes a3.1 a3.2.1 a3.2.2,gj sizes a4.1 a4.2.1 a4.2.2]]=M.ok [.tup [cx sizes a0.1,gj sizes a0.1 a0.2.1 a0.2.2],.tup [cx sizes a1.1,gj sizes a1.1 a1.2.1 a1.2.2],.tup [cx sizes a3.1,gj sizes a3.1 a3.2.1 a3.2.2],.tup [cx sizes a4.1,gj sizes a4.1 a4.2.1 a4.2.2]]:=rfl
  have ix:∀ x0 x1 x3 x4:Int,aB (.lst [.int x0,.int x1,.int x3,.int x4]) (.int 0)=M.ok (.int x0)/\aB (.lst [.int x0,.int x1,.int x3,.int x4]) (.int 1)=M.ok (.int x1)/\aB (.lst [.int x0,.int x1,.int x3,.int x4]) (.int 2)=M.ok (.int x3)/\aB (.lst [.int x0,.int x1,.int x3,.int x4]) (.int 3)=M.ok (.int x4):=λx0 x1 x3 x4=>⟨aW (j:=0) rfl rfl,aW (j:=1) rfl rfl,aW (j:=2) rfl rfl,aW (j:=3) rfl rfl⟩
  by_cases h4:a%5<4
  ·
   obtain⟨z,hzv,ei⟩:∃ z:Z,((∃ raw,fj ns sizes raw z.1 z.2.1 z.2.2)/\z.1.length<=3)/\aB (.lst [cx sizes a0.1,cx sizes a1.1,cx sizes a3.1,cx sizes a4.1]) (.int (a%5))=M.ok (cx sizes z.1)/\∀ b0 b1 b3 b4:Bool,∀ xs,(b0=true ↔ GT sizes a0.2.1 (vf xs))->(b1=true ↔ GT sizes a1.2.1 (vf xs))->(b3=true ↔ GT sizes a3.2.1 (vf xs))->(b4=true ↔ GT sizes a4.2.1 (vf xs))->GT sizes z.2.1 (vf xs)->aB (.lst [.int (oz b0),.int (oz b1),.int (oz b3),.int (oz b4)]) (.int (a%5))=M.ok (.int 1):=by
    have:a%5=0\/a%5=1\/a%5=2\/a%5=3:=by omega
    rcases this with q | q | q | q <;> rw[q]
    ·exact⟨a0,⟨⟨_,Q0⟩,l0⟩,aW (j:=0) rfl rfl,λb0 b1 b3 b4 xs d0 d1 d3 d4 g=>by rw[(ix _ _ _ _).1,d0.mpr g];rfl⟩
    ·exact⟨a1,⟨⟨_,Q1⟩,l1'⟩,aW (j:=1) rfl rfl,λb0 b1 b3 b4 xs d0 d1 d3 d4 g=>by rw[(ix _ _ _ _).2.1,d1.mpr g];rfl⟩
    ·exact⟨a3,⟨⟨_,Q3⟩,l3⟩,aW (j:=2) rfl rfl,λb0 b1 b3 b4 xs d0 d1 d3 d4 g=>by rw[(ix _ _ _ _).2.2.1,d3.mpr g];rfl⟩
    ·exact⟨a4,⟨⟨_,Q4⟩,l4⟩,aW (j:=3) rfl rfl,λb0 b1 b3 b4 xs d0 d1 d3 d4 g=>by rw[(ix _ _ _ _).2.2.2,d4.mpr g];rfl⟩
   obtain⟨⟨_,Qz⟩,lz⟩:=hzv
   obtain⟨ps,est,F,eF,kF,gF⟩:=vx Qz lz (a/5+(k:Int))
   obtain⟨b0,b1,b3,b4,ek,d0,d1,d3,d4,eb,ebr⟩:=key F kF
   obtain⟨f1,f2,f3⟩:=IK eb ebr
   have ed:=ei.2 b0 b1 b3 b4 F d0 d1 d3 d4 gF
   dsimp? [bV,aT (i:=a) (j:=5) (by decide) (by decide),bu (i:=48271) (j:=(k:Int)) (k:=31) (l:=31) (by decide) (by omega),ex,bb (i:=a) (j:=5) (by decide),h4,decide_true,ei.1,bN,HA,qY S,List.length_map,est,eF,zp,av (aL (show 4<=1000 by decide)),ek,Lp,ix,f1,f2,f3,decide_false,ed]
   exact⟨_,rfl,_,_,_,_,_,rfl,N5⟩
  ·obtain⟨b0,b1,b3,b4,ek,d0,d1,d3,d4,eb,ebr⟩:=key one h1
   obtain⟨f1,f2,f3⟩:=IK eb ebr
   dsimp? [bV,aT (i:=a) (j:=5) (by decide) (by decide),bu (i:=48271) (j:=(k:Int)) (k:=31) (l:=31) (by decide) (by omega),ex,bb (i:=a) (j:=5) (by decide),h4,decide_false,zp,av (aL (show 4<=1000 by decide)),ek,Lp,ix,f1,f2,f3,decide_true]
   exact⟨_,rfl,_,_,_,_,_,rfl,N5⟩
 ·rintro env ⟨y5,y6,y7,y8,y9,rfl,_⟩
  dsimp? []
  exact⟨_,rfl,rfl⟩
end
end vk
theorem PySem.Challenge.cw_dialvault_k92_whole_order_of_vaults_holds : PySem.Challenge.rw_dialvault_k92_whole_order_of_vaults.Holds :=
  vk.hold HD.said λns _ _ => vk.FC ns
end