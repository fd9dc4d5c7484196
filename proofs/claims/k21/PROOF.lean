import PyProof.Rows.All
import Wide.All
import OpenK.AllK
import Wide.FinOn
import Lean
import PyProof.EqAt
import PyProof.EqKinds
import PyProof.TupleCall
import PySem.Challenge.RW_dialvault_k21_papers_checked
set_option Elab.async false
set_option linter.all false
set_option maxRecDepth 100000
set_option maxHeartbeats 0
noncomputable section
namespace L2
open PySem PySem.Spec PyProof.Rows
abbrev Key:=Sum Int Str
def CT:Key->Value->Bool
 | .inl k,v=>Value.isInt k v
 | .inr x,v=>Value.isStrOf x v
def Iw(w:World):Key->Int
 | .inl k=>hashInt k
 | .inr x=>hashStr w x
theorem bR:∀ {k:Key} {v:Value},CT k v=true->(∃ i t,k=Sum.inl i/\v=Value.int i t)\/(∃ x t,k=Sum.inr x/\v=Value.str x t)
 | .inl i,v,h=>by
  obtain⟨t,e⟩:=Value.isInt_shape (k:=i) (v:=v) h
  exact .inl ⟨i,t,rfl,e⟩
 | .inr x,v,h=>by
  obtain⟨t,e⟩:=Value.isStrOf_shape (x:=x) (v:=v) h
  exact .inr ⟨x,t,rfl,e⟩
theorem Dz(a b:Int):decide ((Sum.inl a:Key)=Sum.inl b)=(a==b):=by
 by_cases e:a=b
 ·subst e;simp
 ·have h:¬ (Sum.inl a:Key)=Sum.inl b:=λq=>e (Sum.inl.inj q)
  rw[decide_eq_false h]
  exact(beq_eq_false_iff_ne.mpr e).symm
theorem C7(a b:Str):decide ((Sum.inr a:Key)=Sum.inr b)=decide (a=b):=by
 by_cases e:a=b
 ·subst e;simp
 ·have h:¬ (Sum.inr a:Key)=Sum.inr b:=λq=>e (Sum.inr.inj q)
  rw[decide_eq_false h,decide_eq_false e]
theorem DZ(a:Int)(b:Str):decide ((Sum.inl a:Key)=Sum.inr b)=false:=decide_eq_false (λq=>nomatch q)
theorem C8(a:Str)(b:Int):decide ((Sum.inr a:Key)=Sum.inl b)=false:=decide_eq_false (λq=>nomatch q)
def qE(prog:Program)(w:World):PySem.KeyKind prog w Key where
 is:=CT
 hash:=Iw w
 inj:=λv a b ha hb=>by
  rcases bR ha with ⟨i,t,rfl,rfl⟩ | ⟨x,t,rfl,rfl⟩
  ·rcases bR hb with ⟨j,u,rfl,e⟩ | ⟨y,u,rfl,e⟩
   ·injection e with e1 _;rw[e1]
   ·exact nomatch e
  ·rcases bR hb with ⟨j,u,rfl,e⟩ | ⟨y,u,rfl,e⟩
   ·exact nomatch e
   ·injection e with e1 _;rw[e1]
 byValue:=λk v h=>by
  rcases bR h with ⟨i,t,rfl,rfl⟩ | ⟨x,t,rfl,rfl⟩ <;> rfl
 pyHash:=λhv h=>by
  rcases bR hv with ⟨i,t,rfl,rfl⟩ | ⟨x,t,rfl,rfl⟩
  ·exact wpAny_pyHash_int h
  ·exact wpAny_pyHash_str h
 eqBool:=λhu hv h=>by
  rcases bR hu with ⟨i,t,rfl,rfl⟩ | ⟨x,t,rfl,rfl⟩
  ·rcases bR hv with ⟨j,u,rfl,rfl⟩ | ⟨y,u,rfl,rfl⟩
   ·rw[Dz] at h;exact wpAny_eqBool_int h
   ·rw[DZ] at h;exact SeqAt.EqAt.int_str i t y u _ _ _ _ h
  ·rcases bR hv with ⟨j,u,rfl,rfl⟩ | ⟨y,u,rfl,rfl⟩
   ·rw[C8] at h;exact SeqAt.EqAt.str_int x t j u _ _ _ _ h
   ·rw[C7] at h;exact wpAny_eqBool_str h
 «strs»:=λk x t v h=>by
  rcases bR h with ⟨i,u,rfl,e⟩ | ⟨y,u,rfl,e⟩
  ·exact nomatch e
  ·injection e with e1 _
   subst e1
   cases v <;> rfl
end L2
namespace L2
open PySem PySem.Spec PyProof.Rows
inductive V where
 | bZ | bl (b:Bool) | int (i:Int) | str (x:Str) | byt (b:Array UInt8) | CH (b:UInt64) | ref (a:Addr) | ty (n:String)
 deriving DecidableEq
def RelV:V->Value->Prop
 | .bZ,u=>u=Value.none
 | .bl b,u=>u=Value.bool b
 | .int i,u=>∃ t,u=Value.int i t
 | .str x,u=>∃ t,u=Value.str x t
 | .byt b,u=>∃ t,u=Value.bytes b t
 | .CH b,u=>∃ t,u=Value.float b t
 | .ref a,u=>u=Value.ref a
 | .ty n,u=>u=Value.type n
abbrev Vals:List V->List Value->Prop:=Paired RelV
theorem Vals.length{xs:List V}{us:List Value}(r:Vals xs us):xs.length=us.length:=Paired.length r
theorem Vals.get:∀ {xs:List V} {us:List Value} {i:Nat} {x:V},Vals xs us->xs[i]?=some x->∃ u,us[i]?=some u/\RelV x u
 | _,_,_,_,.nil,e=>by simp at e
 | _,_,0,_,.cons r _,e=>by simp at e;subst e;exact⟨_,rfl,r⟩
 | _,_,i+1,x,.cons _ t,e=>by
  obtain⟨u,h1,h2⟩:=Vals.get (i:=i) (x:=x) t (by simpa using e)
  exact⟨u,by simpa using h1,h2⟩
theorem Vals.append:∀ {xs ys:List V} {us ws:List Value},Vals xs us->Vals ys ws->Vals (xs++ys) (us++ws)
 | _,_,_,_,.nil,s=>s
 | _,_,_,_,.cons r t,s=>.cons r (Vals.append t s)
theorem Vals.take:∀ {xs:List V} {us:List Value} (n:Nat),Vals xs us->Vals (xs.take n) (us.take n)
 | _,_,0,_=>.nil
 | _,_,_+1,.nil=>.nil
 | _,_,n+1,.cons r t=>.cons r (Vals.take n t)
theorem Vals.drop:∀ {xs:List V} {us:List Value} (n:Nat),Vals xs us->Vals (xs.drop n) (us.drop n)
 | _,_,0,r=>r
 | _,_,_+1,.nil=>.nil
 | _,_,n+1,.cons _ t=>Vals.drop n t
def lq:Option V->Option Value->Prop
 | some v,some u=>RelV v u
 | none,none=>True
 | _,_=>False
def KV{κ:Type}:List (κ×V)->List (κ×Value)->Prop:=Paired λ(p:κ×V) (q:κ×Value)=>p.1=q.1/\RelV p.2 q.2
def kV:Key->V
 | .inl i=>.int i
 | .inr x=>.str x
inductive HO where
 | lst (xs:List V)
 | tup (xs:List V)
 | dK (KW:List (Key×V)) | dT (KW:List (List Key×V))
 | set (S:Int->Bool) (n:Nat)
 | ins (C dx:Addr) (fs:List (Str×V))
 | own (x:Addr)
 | xd (fs:List (Str×V))
 | met (f x:Addr)
 | sW (lo hi:Int)
 | pA (o:Obj) (u:HO)
 | Cp (ps:Array Value)
 | ext (φ:Heap->Prop)
abbrev Hp:=Addr->Option HO
def upd(H:Hp)(a:Addr)(o:HO):Hp:=λb=>if b=a then some o else H b
theorem az{H:Hp}{a:Addr}{o:HO}:upd H a o a=some o:=by unfold upd;rw[if_pos rfl]
theorem au{H:Hp}{a b:Addr}{o:HO}(h:b≠a):upd H a o b=H b:=by unfold upd;rw[if_neg h]
theorem vR{H:Hp}{a:Addr}{o u:HO}:upd (upd H a o) a u=upd H a u:=by
 funext b;unfold upd;split <;> rfl
theorem bA{H:Hp}{a b:Addr}{o:HO}(h:H a=some o)(h':H b=none):a≠b:=by
 intro e;subst e;rw[h] at h';cases h'
section
variable(P:Program)(w:World)
def bC(H:Hp)(h:Heap)(a:Addr):HO->Prop
 | .lst xs=>xs.length<=sizeLine/\∃ (JU:List Value) (n:Nat),Vals xs JU/\h.get? a=some { cls:=.type "list", data:=.seq JU.toArray n }
 | .tup xs=>xs.length<=sizeLine/\∃ JU:List Value,Vals xs JU/\IsTup h a JU.toArray
 | .dK KW=>KW.length<=sizeLine/\(a==sysModules)=false/\∃ vs,KV KW vs/\h.DictOf (qE P w) a vs
 | .dT KW=>KW.length<=sizeLine/\(a==sysModules)=false/\∃ xs:List (List Key×Addr×Value),
   Paired (λ(p:List Key×V) (q:List Key×Addr×Value)=>p.1=q.1/\H q.2.1=some (.tup (p.1.map kV))/\RelV p.2 q.2.2) KW xs ∧
   ∃ o es ep,h.get? a=some o/\o.ExactDict/\o.data=.dict es ep/\es.toList=xs.map (entryOfKey (tupleKind (qE P w)))/\(xs.map (·.1)).Nodup
 | .set S n=>h.SetOf (intKind P w) a S n
 | .ins C dx fs=>H dx=some (.own a)/\fs.length<=1000/\dx≠a/\h.get? a=some (PySem.W.instObj C dx) ∧
   ∃ mA,h.Ns1 dx mA/\(∀ f,lq (fs.lookup f) (mA f))/\PySem.Within mA (fs.map (·.1))
 | .own _=>∃ o,h.get? a=some o
 | .xd fs=>∃ mA,h.Ns1 a mA/\∀ f,lq (fs.lookup f) (mA f)
 | .sW lo hi=>∃ t u v,h.get? a=some { cls:=.type "range", data:=.fields #[.int lo t,.int hi u,.int 1 v] }
 | .pA o u=>h.get? a=some o/\bC H h a u
 | .Cp ps=>h.get? a=some { cls:=.none,data:=.fields ps }
 | .met f x=>h.get? a=some (PySem.W.methodObj (.ref f) (.ref x))
 | .ext φ=>φ h/\(∃ o,h.get? a=some o)/\∀ h1 h2:Heap,φ h1->(∀ o,h1.get? a=some o->h2.get? a=some o)->φ h2
def lh(H:Hp)(h:Heap):Prop:=∀ a o,H a=some o->bC P w H h a o
end
section
variable{P:Program}{w:World}{H H':Hp}{h h':Heap}{a:Addr}{o:HO}
theorem bC.lt(x:bC P w H h a o):a<h.objs.size:=by
 cases o with
 | lst xs=>obtain⟨_,_,_,_,e⟩:=x;exact Heap.lt_size e
 | tup xs=>obtain⟨_,_,_,p⟩:=x;exact p.lt
 | dK KW=>obtain⟨_,_,_,_,o,_,_,e,_⟩:=x;exact Heap.lt_size e
 | dT KW=>obtain⟨_,_,_,_,o,_,_,e,_⟩:=x;exact Heap.lt_size e
 | set S n=>obtain⟨o,_,_,_,e,_⟩:=x;exact Heap.lt_size e
 | ins C dx fs=>obtain⟨_,_,_,e,_⟩:=x;exact Heap.lt_size e
 | own y=>obtain⟨_,e⟩:=x;exact Heap.lt_size e
 | xd fs=>obtain⟨_,⟨_,_,_,e,_⟩,_⟩:=x;exact Heap.lt_size e
 | sW lo hi=>obtain⟨_,_,_,e⟩:=x;exact Heap.lt_size e
 | pA ob u=>obtain⟨e,_⟩:=x;exact Heap.lt_size e
 | Cp ps=>exact Heap.lt_size (show h.get? a=some _ from x)
 | met f y=>exact Heap.lt_size (show h.get? a=some _ from x)
 | ext φ=>obtain⟨_,⟨_,e⟩,_⟩:=x;exact Heap.lt_size e
theorem Paired.F7{α β:Type}{F G:α->β->Prop}:∀ {l₁:List α} {l₂:List β},Paired F l₁ l₂->(∀ a b,F a b->G a b)->Paired G l₁ l₂
 | _,_,.nil,_=>.nil
 | _,_,.cons r t,f=>.cons (f _ _ r) (Paired.F7 t f)
theorem bC.kP(x:bC P w H h a o)(k:∀ b u,(b=a\/H b=some (.own a))->h.get? b=some u->h'.get? b=some u)
  (ho:∀ b,H b=some (.own a)->H' b=some (.own a)) (ht:∀ b xs,H b=some (.tup xs)->H' b=some (.tup xs)):bC P w H' h' a o:=by
 induction o with
 | lst xs=>obtain⟨z,JU,n,r,e⟩:=x;exact⟨z,JU,n,r,k _ _ (.inl rfl) e⟩
 | tup xs=>obtain⟨z,JU,r,ob,e,c⟩:=x;exact⟨z,JU,r,ob,k _ _ (.inl rfl) e,c⟩
 | dK KW=>obtain⟨z,y,vs,r,ob,es,ep,e,c⟩:=x;exact⟨z,y,vs,r,ob,es,ep,k _ _ (.inl rfl) e,c⟩
 | dT KW =>
  obtain⟨z,y,xs,r,ob,es,ep,e,c⟩:=x
  exact⟨z,y,xs,Paired.F7 r λp q z=>⟨z.1,ht _ _ z.2.1,z.2.2⟩,ob,es,ep,k _ _ (.inl rfl) e,c⟩
 | set S n=>obtain⟨ob,es,ep,t,e,c⟩:=x;exact⟨ob,es,ep,t,k _ _ (.inl rfl) e,c⟩
 | ins C dx fs =>
  obtain⟨d,z,ne,e,mA,⟨od,es,ep,e2,c⟩,r⟩:=x
  exact⟨ho _ d,z,ne,k _ _ (.inl rfl) e,mA,⟨od,es,ep,k _ _ (.inr d) e2,c⟩,r⟩
 | own y=>obtain⟨ob,e⟩:=x;exact⟨ob,k _ _ (.inl rfl) e⟩
 | xd fs=>obtain⟨mA,⟨od,es,ep,e,c⟩,r⟩:=x;exact⟨mA,⟨od,es,ep,k _ _ (.inl rfl) e,c⟩,r⟩
 | sW lo hi=>obtain⟨t,u,v,e⟩:=x;exact⟨t,u,v,k _ _ (.inl rfl) e⟩
 | pA ob u ih=>obtain⟨e,q⟩:=x;exact⟨k _ _ (.inl rfl) e,ih q⟩
 | Cp ps =>
  have e:h.get? a=some { cls:=.none,data:=.fields ps }:=x
  show h'.get? a=some { cls:=.none,data:=.fields ps }
  exact k a _ (.inl rfl) e
 | met f y =>
  have e:h.get? a=some (PySem.W.methodObj (.ref f) (.ref y)):=x
  show h'.get? a=some (PySem.W.methodObj (.ref f) (.ref y))
  exact k a _ (.inl rfl) e
 | ext φ=>obtain⟨p,⟨o,e⟩,st⟩:=x;exact⟨st _ _ p λo q=>k _ _ (.inl rfl) q,⟨o,k _ _ (.inl rfl) e⟩,st⟩
theorem lh.lt(x:lh P w H h)(e:H a=some o):a<h.objs.size:=(x a o e).lt
theorem lh.fresh(x:lh P w H h)(e:h.objs.size<=a):H a=none:=by
 cases q:H a with
 | none=>rfl
 | some u=>exact absurd (Nat.lt_of_lt_of_le (x.lt q) e) (Nat.lt_irrefl _)
theorem lh.kept(x:lh P w H h)(k:∀ b u,h.get? b=some u->h'.get? b=some u):lh P w H h':=λa o e =>
 (x a o e).kP (λb u _ q=>k b u q) (λ_ q=>q) λ_ _ q=>q
theorem lh.laid(x:lh P w H h)(k:∀ b u,h.get? b=some u->h'.get? b=some u)(hp:h.objs.size<=a)(new:bC P w (upd H a o) h' a o):lh P w (upd H a o) h':=λb u e=>by
 have hn:=x.fresh hp
 by_cases hb:b=a
 ·subst hb;rw[az] at e;cases e;exact new
 ·rw[au hb] at e
  exact(x b u e).kP (λc v _ q=>k c v q) (λc q=>by rw[au (bA q hn)];exact q) λc xs q=>by rw[au (bA q hn)];exact q
end
def Rd(H:Hp)(a:Addr)(u:HO):Prop:=H a=some u\/∃ o,H a=some (.pA o u)
theorem Rd.ok{P:Program}{w:World}{H:Hp}{h:Heap}{a:Addr}{u:HO}(r:Rd H a u)(x:lh P w H h):bC P w H h a u:=by
 rcases r with r | ⟨o,r⟩
 ·exact x a u r
 ·obtain⟨_,q⟩:=x a _ r
  exact q
def GZ:Option HO->Prop
 | some (.lst _)=>True
 | some (.dK _)=>True
 | some (.dT _)=>True
 | some (.set _ _)=>True
 | some (.ins _ _ _)=>True
 | some (.ext _)=>True
 | _=>False
section
variable{P:Program}{w:World}{H:Hp}{h h':Heap}{x e:Addr}{o':HO}
theorem lh.write(ok:lh P w H h)(mu:GZ (H x))(he:e=x\/H e=some (.own x))(k:∀ b u,b≠e->h.get? b=some u->h'.get? b=some u)(M4:∃ u,h'.get? e=some u)
  (new:bC P w (upd H x o') h' x o'):lh P w (upd H x o') h':=λb u q=>by
 have NB:∀ c y,H c=some (.own y)->c≠x:=λc y r z=>by subst z;rw[r] at mu;exact mu
 have ntup:∀ c xs,H c=some (.tup xs)->c≠x:=λc xs r z=>by subst z;rw[r] at mu;exact mu
 by_cases hb:b=x
 ·subst hb;rw[az] at q;cases q;exact new
 ·rw[au hb] at q
  by_cases L_:b=e
  ·have q':H b=some (.own x):=by
    rcases he with z | z
    ·exact absurd (L_.trans z) hb
    ·rw[L_];exact z
   rw[q] at q';cases q'
   obtain⟨v,hv⟩:=M4
   exact⟨v,by rw[L_];exact hv⟩
  ·refine(ok b u q).kP (λc v hc r=>k c v ?_ r) (λc r=>by rw[au (NB c b r)];exact r) λc xs r=>by rw[au (ntup c xs r)];exact r
   rcases hc with rfl | hc
   ·exact L_
   ·rintro rfl
    rcases he with z | z
    ·exact NB c b hc z
    ·rw[hc] at z;cases z;exact hb rfl
end
structure Un (fs ex:List Addr) (H H':Hp) (h h':Heap):Prop where
 keep:∀ b o,h.get? b=some o->H b=none->b ∉ fs->b ∉ ex->h'.get? b=some o
 slot:∀ b o,h.get? b=some o->H b=none->b∈fs->b ∉ ex->∃ sl,h'.get? b=some { o with slots:=sl }
 free:∀ b o,h.get? b=some o->H b=none->b ∉ ex->H' b=none
 there:∀ b o,h.get? b=some o->b ∉ ex->∃ o',h'.get? b=some o'
 m_:∀ b xs,H b=some (.tup xs)->H' b=some (.tup xs)
 j2:∀ b o u,H b=some (.pA o u)->H' b=some (.pA o u)
 mX:∀ b ps,H b=some (.Cp ps)->∃ more,H' b=some (.Cp (ps++more))
section
variable{fs MK ex ex':List Addr}{H H1 H2:Hp}{h h1 h2 h':Heap}{a x e:Addr}{o:HO}
theorem Un.any(u:Un fs ex H H1 h h1){b:Addr}{ob:Obj}(q:h.get? b=some ob)(n:H b=none)(hx:b ∉ ex):∃ sl,h1.get? b=some { ob with slots:=sl }:=by
 by_cases hb:b∈fs
 ·exact u.slot b ob q n hb hx
 ·exact⟨ob.slots,u.keep b ob q n hb hx⟩
theorem Un.kept(k:∀ b u,h.get? b=some u->h'.get? b=some u):Un fs ex H H h h' :=
 ⟨λb ob q _ _ _=>k b ob q,λb ob q _ _ _=>⟨ob.slots,k b ob q⟩,λ_ _ _ n _=>n,λb ob q _=>⟨ob,k b ob q⟩,λ_ _ q=>q,λ_ _ _ q=>q,λ_ ps q=>⟨#[],by rw[q];simp⟩⟩
theorem Un.refl:Un fs ex H H h h:=Un.kept λ_ _ q=>q
theorem Un.laid(k:∀ b u,h.get? b=some u->h'.get? b=some u)(hp:h.objs.size<=a)(hn:H a=none):Un fs ex H (upd H a o) h h' where
 keep:=λb u q _ _ _=>k b u q
 slot:=λb u q _ _ _=>⟨u.slots,k b u q⟩
 free:=λb u q n _=>by rw[au (Nat.ne_of_lt (Nat.lt_of_lt_of_le (Heap.lt_size q) hp))];exact n
 there:=λb u q _=>⟨u,k b u q⟩
 m_:=λb xs q=>by rw[au (bA q hn)];exact q
 j2:=λb u xs q=>by rw[au (bA q hn)];exact q
 mX:=λb ps q=>⟨#[],by rw[au (bA q hn),q];simp⟩
theorem Un.write(mu:GZ (H x))(he:e=x\/H e=some (.own x))(k:∀ b u,b≠e->h.get? b=some u->h'.get? b=some u)(M4:∃ u,h'.get? e=some u):Un fs ex H (upd H x o) h h':=by
 have hx:∀ b,H b=none->b≠x:=λb n z=>by subst z;rw[n] at mu;exact mu
 have hb:∀ b,H b=none->b≠e:=λb n z=>by
  subst z
  rcases he with r | r
  ·exact hx b n r
  ·rw[n] at r;cases r
 have hm:∀ b u,H b=some u->¬ GZ (some u)->b≠x:=λb u q nm z=>by subst z;rw[q] at mu;exact nm mu
 refine⟨λb u q n _ _=>k b u (hb b n) q,λb u q n _ _=>⟨u.slots,k b u (hb b n) q⟩,λb u q n _=>by rw[au (hx b n)];exact n,λb u q _=>?_,
  λb xs q=>by rw[au (hm b _ q λz=>z)];exact q,λb u xs q=>by rw[au (hm b _ q λz=>z)];exact q,λb ps q=>⟨#[],by rw[au (hm b _ q λz=>z),q];simp⟩⟩
 by_cases L_:b=e
 ·subst L_;exact M4
 ·exact⟨u,k b u L_ q⟩
end
def GR(h:Heap)(H:Hp):List Addr:=(List.range h.objs.size).filter λa=>(H a).isSome
def rn(h:Heap)(H:Hp):Heap:=PySem.W.hideAll h (GR h H)
theorem wR(h:Heap)(H:Hp):(rn h H).objs.size=h.objs.size:=PySem.W.hideAll_size _ _
theorem yu{h:Heap}{H:Hp}{b:Addr}{o:Obj}(e:h.get? b=some o)(n:H b=none):(rn h H).get? b=some o :=
 PySem.W.hideAll_get _ e λhm=>by
  have q:(H b).isSome=true:=(List.mem_filter.mp hm).2
  rw[n] at q;simp at q
theorem Bh{h:Heap}{H:Hp}{b:Addr}{o:Obj}(e:(rn h H).get? b=some o):h.get? b=some o/\H b=none:=by
 have e':h.get? b=some o:=PySem.W.of_hideAll (GR h H) e
 refine⟨e',?_⟩
 cases q:H b with
 | none=>rfl
 | some x =>
  have hm:b∈GR h H:=List.mem_filter.mpr ⟨List.mem_range.mpr (Heap.lt_size e'),by simp[q]⟩
  have z:(rn h H).get? b=none:=PySem.W.hideAll_none (GR h H) hm
  rw[z] at e;cases e
def AD(g h:Heap)(L:Addr):List (Addr×Obj):=(List.range h.objs.size).filterMap λa=>if a=L\/(g.get? a).isSome=true then none else (h.get? a).map λo=>(a,o)
def rest(g h:Heap)(L d:Addr):List (Addr×Obj):=(AD g h L).filter λp=>decide (p.1≠d)
end L2
namespace L2
open PySem PySem.Spec PyProof.Rows
structure Mod (K:PySem.W.Frag) (mg:Str->Option Value) (base:Heap):Prop where
 CY:K.In base
 glob:base.Ns mainGlobals mg
 blt:∃ mb,base.Ns builtinsNs mb/\∀ x:Str,x ≠ "__name__" -> mb x=bootBuiltins x
 nolimit:base.NoLimit
structure Cx where
 prog:Program
 w:World
 K:PySem.W.Frag
 mg:Str->Option Value
 base:Heap
 A:Around
 N:List Str
 s₀:Shared
 H₀:Hp
 env:Env
 outer:List Env
 stack:List Env
 ex:List Addr
 fn:Str->Bool
 calm:Bool
 pn:List (Addr×Obj)
 xe:Value->Shared->Prop
def t5(l:List Env):List Addr:=l.filterMap (·.frame)
abbrev Cx.fs(X:Cx):List Addr:=t5 X.outer
def A3(sc:Scope)(x:Str):Prop:=sc.names.lookup x=some .local\/sc.names.lookup x=some .cell\/sc.names.lookup x=some .free
def Loc(sc:Scope)(x:Str):Prop:=sc.names.lookup x=some .local\/sc.names.lookup x=some .cell
def Look(env:Env)(h:Heap)(m:Str->Option Value)(x:Str)(u:Value):Prop :=
 (env.kindOf x=some .local/\m x=some u)\/((env.kindOf x=some .cell\/env.kindOf x=some .free)/\∃ c,env.cells.lookup x=some c/\h.IsCell c (some u))
structure Cx.Ok (X:Cx):Prop where
 mod:Mod X.K X.mg X.base
 kind:X.env.scope.kind=.function
 glob:X.env.globals=mainGlobals
 blt:X.env.builtins=builtinsNs
 above:X.s₀.heap.objs.size<=X.env.locals
 inj:∀ x y c,X.env.cells.lookup x=some c->X.env.cells.lookup y=some c->x=y
 has:∀ x,(X.env.kindOf x=some .cell\/X.env.kindOf x=some .free)->∃ c,X.env.cells.lookup x=some c
 CV:∀ x c,X.fn x=true->X.env.cells.lookup x=some c->X.s₀.heap.objs.size<=c
 hd:X.calm=true->X.A.handled=none
 frames:X.A.frames=some X.stack
 DV:X.stack=X.outer\/(X.stack=X.env::X.outer/\X.env.frame=some X.env.locals)
 Fs:∀ b∈X.ex,b≠X.env.locals/\∀ x c,X.env.cells.lookup x=some c->c≠b
 bs:∀ b o,X.base.get? b=some o->X.s₀.heap.get? b=some o/\X.H₀ b=none
 z7:X.base.objs.size<=X.s₀.heap.objs.size
 qV:∀ b o,X.base.get? b=some o->b ∉ X.ex
 sZ:∀ b∈X.ex,b ∉ X.fs
 kj:X.s₀.heap.FunFrames X.base X.outer
 Aw:∀ b∈X.fs,X.H₀ b=none
structure Inv (X:Cx) (JS:List (Addr×Obj)) (σ:List (Option V)) (H:Hp) (s:Shared):Prop where
 ok:X.Ok
 os:s.os=X.s₀.os
 bare:AllBare s.gens
 base:Un X.fs X.ex X.H₀ H X.s₀.heap s.heap
 loc:∃ m,s.heap.Ns X.env.locals m/\∀ (i:Nat) (x:Str) (v:V),X.N[i]?=some x->σ[i]?=some (some v)->A3 X.env.scope x->∃ u,RelV v u/\Look X.env s.heap m x u
 cell:∀ x c,X.env.cells.lookup x=some c->∃ v,s.heap.IsCell c v
 free:H X.env.locals=none
 fH:∀ x c,X.env.cells.lookup x=some c->H c=none
 pin:∀ p∈X.pn++JS,s.heap.get? p.1=some p.2/\H p.1=none/\p.1≠X.env.locals/\p.1 ∉ X.fs/\∀ v,p.2.data≠.cell v
 a_:lh X.prog X.w H s.heap
 len:σ.length=X.N.length
section
variable{X:Cx}{JS:List (Addr×Obj)}{σ:List (Option V)}{H H':Hp}{s:Shared}{h':Heap}
theorem Cx.Ok.HE(ok:X.Ok){b:Addr}{o:Obj}(e:X.base.get? b=some o):b ∉ X.fs:=λhb=>by
 have:=(ok.kj.mem hb).1
 rw[e] at this;cases this
theorem Inv.bs(I:Inv X JS σ H s):∀ b o,X.base.get? b=some o->s.heap.get? b=some o/\H b=none:=λb o e =>
 ⟨I.base.keep b o (I.ok.bs b o e).1 (I.ok.bs b o e).2 (I.ok.HE e) (I.ok.qV b o e),I.base.free b o (I.ok.bs b o e).1 (I.ok.bs b o e).2 (I.ok.qV b o e)⟩
theorem Inv.bk(I:Inv X JS σ H s):∀ b o,X.base.get? b=some o->s.heap.get? b=some o:=λb o e=>(I.bs b o e).1
theorem Inv.mod(I:Inv X JS σ H s):Mod X.K X.mg X.base:=I.ok.mod
theorem Inv.ir(I:Inv X JS σ H s):X.K.In s.heap:=I.ok.mod.CY.keeps I.bk
theorem Inv.lt(I:Inv X JS σ H s):X.env.locals<s.heap.objs.size:=let ⟨_,hn,_⟩:=I.loc;hn.lt
theorem Inv.sz(I:Inv X JS σ H s):X.s₀.heap.objs.size<=s.heap.objs.size:=Nat.le_trans I.ok.above (Nat.le_of_lt I.lt)
theorem Inv.IE(I:Inv X JS σ H s){a:Addr}(h:s.heap.objs.size<=a):a ∉ X.fs:=λhb=>by
 obtain⟨_,o,ho,_⟩:=I.ok.kj.mem hb
 exact absurd (Nat.lt_of_lt_of_le (Heap.lt_size ho) (Nat.le_trans I.sz h)) (Nat.lt_irrefl _)
theorem Inv.y_(I:Inv X JS σ H s):∀ x c,X.env.cells.lookup x=some c->c≠X.env.locals:=λx c e z=>by
 obtain⟨v,o,ho,hd⟩:=I.cell x c e
 obtain⟨m,⟨o',es,ep,LP,Ni,_⟩,_⟩:=I.loc
 rw[z,LP] at ho;cases ho;rw[Ni] at hd;cases hd
theorem Inv.kj(I:Inv X JS σ H s):s.heap.FunFrames X.base X.outer:=by
 have all:∀ (l:List Env),(∀ b∈t5 l,b∈X.fs)->X.s₀.heap.FunFrames X.base l->s.heap.FunFrames X.base l:=by
  intro l
  induction l with
  | nil=>intro _ _;trivial
  | cons env r ih =>
   intro hs hl
   obtain⟨hk,⟨L,o,hf,hn,ho,hd⟩,hr⟩:=hl
   have hL:L∈X.fs:=hs L (by unfold t5;rw[List.filterMap_cons,hf];exact List.mem_cons_self)
   obtain⟨sl,e⟩:=I.base.slot L o ho (I.ok.Aw L hL) hL λz=>I.ok.sZ L z hL
   exact⟨hk,⟨L,_,hf,hn,e,hd⟩,ih (λb hb=>hs b (by unfold t5;rw[List.filterMap_cons,hf];exact List.mem_cons_of_mem _ hb)) hr⟩
 exact all X.outer (λ_ hb=>hb) I.ok.kj
theorem Inv.stack(I:Inv X JS σ H s):s.heap.FunFrames X.base X.stack:=by
 rcases I.ok.DV with e | ⟨e,hf⟩
 ·rw[e];exact I.kj
 ·rw[e]
  obtain⟨m,hn,_⟩:=I.loc
  refine .cons (by rw[I.ok.kind];decide) hf hn ?_ I.kj
  exact Heap.get?_none_of_le (Nat.le_trans I.ok.z7 I.ok.above)
theorem Inv.rg(I:Inv X JS σ H s):∀ b∈t5 X.stack,b∈X.env.locals::X.fs:=λb hb=>by
 rcases I.ok.DV with e | ⟨e,hf⟩
 ·rw[e] at hb;exact List.mem_cons_of_mem _ hb
 ·rw[e] at hb
  unfold t5 at hb
  rw[List.filterMap_cons,hf] at hb
  exact hb
theorem Inv.qy(I:Inv X JS σ H s):∀ b∈t5 X.stack,H b=none:=λb hb=>by
 rcases List.mem_cons.mp (I.rg b hb) with e | hb
 ·rw[e];exact I.free
 ·obtain⟨_,o,ho,_⟩:=I.ok.kj.mem hb
  exact I.base.free b o ho (I.ok.Aw b hb) λz=>I.ok.sZ b z hb
theorem Inv.step{g':Array GenState}{t':Nat}{d':Drawn}{ch:List Addr}(I:Inv X JS σ H s)
  (LJ:∀ b∈ch,(b∈X.ex\/X.s₀.heap.objs.size<=b)/\b≠X.env.locals/\(∀ x c,X.env.cells.lookup x=some c->c≠b)/\∀ p∈X.pn++JS,p.1≠b)
  (keep:∀ b o,b≠X.env.locals->b ∉ X.fs->b ∉ ch->s.heap.get? b=some o->H b=none->h'.get? b=some o)
  (slot:∀ b o,b≠X.env.locals->b∈X.fs->b ∉ ch->s.heap.get? b=some o->H b=none->∃ sl,h'.get? b=some { o with slots:=sl }) (free:∀ b o,b ∉ ch->s.heap.get? b=some o->H b=none->H' b=none)
  (there:∀ b o,b ∉ ch->s.heap.get? b=some o->∃ o',h'.get? b=some o')
  (m_:∀ b xs,H b=some (.tup xs)->H' b=some (.tup xs)) (j2:∀ b o u,H b=some (.pA o u)->H' b=some (.pA o u)) (mX:∀ b ps,H b=some (.Cp ps)->∃ more,H' b=some (.Cp (ps++more)))
  (ns:∀ m,s.heap.Ns X.env.locals m->h'.Ns X.env.locals m) (a_:lh X.prog X.w H' h') (hg:AllBare g') :
  Inv X JS σ H' { s with heap:=h',gens:=g',drawn:=d',toks:=t' }:=by
 have neL:∀ b o,X.s₀.heap.get? b=some o->b≠X.env.locals:=λb o e=>Nat.ne_of_lt (Nat.lt_of_lt_of_le (Heap.lt_size e) I.ok.above)
 have neC:∀ b o,X.s₀.heap.get? b=some o->b ∉ X.ex->b ∉ ch:=λb o e hx hb=>by
  rcases(LJ b hb).1 with z | z
  ·exact hx z
  ·exact absurd (Nat.lt_of_lt_of_le (Heap.lt_size e) z) (Nat.lt_irrefl _)
 have cellK:∀ x c,X.env.cells.lookup x=some c->∀ v,s.heap.IsCell c v->h'.IsCell c v:=λx c e v ⟨o,ho,hd⟩=>by
  have NA:c ∉ ch:=λz=>(LJ c z).2.2.1 x c e rfl
  by_cases hc:c∈X.fs
  ·obtain⟨sl,q⟩:=slot c o (I.y_ x c e) hc NA ho (I.fH x c e)
   exact⟨_,q,hd⟩
  ·exact⟨o,keep c o (I.y_ x c e) hc NA ho (I.fH x c e),hd⟩
 refine⟨I.ok,I.os,hg,⟨λb o e n hb hx=>?_,λb o e n hb hx=>?_,λb o e n hx=>?_,λb o e hx=>?_,λb xs e=>m_ b xs (I.base.m_ b xs e),λb o xs e=>j2 b o xs (I.base.j2 b o xs e),λb ps e=>?_⟩,?_,λx c e=>?_,?_,λx c e=>?_,λp hp=>?_,a_,I.len⟩
 ·exact keep b o (neL b o e) hb (neC b o e hx) (I.base.keep b o e n hb hx) (I.base.free b o e n hx)
 ·obtain⟨sl,e1⟩:=I.base.slot b o e n hb hx
  obtain⟨sl',e2⟩:=slot b _ (neL b o e) hb (neC b o e hx) e1 (I.base.free b o e n hx)
  exact⟨sl',e2⟩
 ·obtain⟨o',e1⟩:=I.base.there b o e hx
  exact free b o' (neC b o e hx) e1 (I.base.free b o e n hx)
 ·obtain⟨o',e1⟩:=I.base.there b o e hx
  exact there b o' (neC b o e hx) e1
 ·obtain⟨m1,e1⟩:=I.base.mX b ps e
  obtain⟨m2,e2⟩:=mX b _ e1
  exact⟨m1++m2,by rw[e2,Array.append_assoc]⟩
 ·obtain⟨m,hn,hl⟩:=I.loc
  refine⟨m,ns m hn,λi x v e1 e2 e3=>?_⟩
  obtain⟨u,r,l⟩:=hl i x v e1 e2 e3
  refine⟨u,r,?_⟩
  rcases l with l | ⟨k,c,e,z⟩
  ·exact .inl l
  ·exact .inr ⟨k,c,e,cellK x c e _ z⟩
 ·obtain⟨v,z⟩:=I.cell x c e
  exact⟨v,cellK x c e v z⟩
 ·obtain⟨m,⟨o,_,_,ho,_⟩,_⟩:=I.loc
  exact free _ o (λz=>(LJ _ z).2.1 rfl) ho I.free
 ·obtain⟨v,o,ho,hd⟩:=I.cell x c e
  exact free c o (λz=>(LJ c z).2.2.1 x c e rfl) ho (I.fH x c e)
 ·obtain⟨e,n,ne,nf,d⟩:=I.pin p hp
  have NA:p.1 ∉ ch:=λz=>(LJ p.1 z).2.2.2 p hp rfl
  exact⟨keep p.1 p.2 ne nf NA e n,free p.1 p.2 NA e n,ne,nf,d⟩
theorem Inv.un{t':Nat}(I:Inv X JS σ H s)(u:Un X.fs [] H H' s.heap h')(a_:lh X.prog X.w H' h'):Inv X JS σ H' { s with heap:=h',toks:=t' }:=by
 obtain⟨m,⟨o,es,ep,ho,r⟩,_⟩:=id I.loc
 obtain⟨sl,hL⟩:=u.any ho I.free (by simp)
 exact I.step (g':=s.gens) (d':=s.drawn) (ch:=[]) (λ_ z=>nomatch z) (λb o _ hb _ e n=>u.keep b o e n hb (by simp)) (λb o _ hb _ e n=>u.slot b o e n hb (by simp)) (λb o _ e n=>u.free b o e n (by simp)) (λb o _ e=>u.there b o e (by simp)) u.m_ u.j2 u.mX (λm' hm=>by
  obtain⟨o',es',ep',LP,r'⟩:=hm
  rw[ho] at LP;cases LP
  exact⟨_,es',ep',hL,r'⟩) a_ I.bare
theorem Inv.call{g':Array GenState}{t':Nat}{d':Drawn}{ch:List Addr}(I:Inv X JS σ H s)(u:Un (t5 X.stack) ch H H' s.heap h')(a_:lh X.prog X.w H' h')(hg:AllBare g')
  (LJ:∀ b∈ch,(b∈X.ex\/X.s₀.heap.objs.size<=b)/\b≠X.env.locals/\(∀ x c,X.env.cells.lookup x=some c->c≠b)/\∀ p∈X.pn++JS,p.1≠b) :
  Inv X JS σ H' { s with heap:=h',gens:=g',drawn:=d',toks:=t' }:=by
 obtain⟨m,⟨o,es,ep,ho,r⟩,_⟩:=id I.loc
 obtain⟨sl,hL⟩:=u.any ho I.free λz=>(LJ _ z).2.1 rfl
 exact I.step (ch:=ch) LJ (λb o hL hb hc e n=>u.keep b o e n (λz=>(List.mem_cons.mp (I.rg b z)).elim hL hb) hc) (λb o _ _ hc e n=>u.any e n hc) (λb o hc e n=>u.free b o e n hc) (λb o hc e=>u.there b o e hc) u.m_ u.j2 u.mX (λm' hm=>by
  obtain⟨o',es',ep',LP,r'⟩:=hm
  rw[ho] at LP;cases LP
  exact⟨_,es',ep',hL,r'⟩) a_ hg
theorem Inv.turned{t':Nat}{it:Addr}(I:Inv X JS σ H s)(k:∀ b o,b≠it->s.heap.get? b=some o->h'.get? b=some o)(hn:H it=none)(hL:it≠X.env.locals)
  (h1:it∈X.ex\/X.s₀.heap.objs.size<=it) (h2:∀ x c,X.env.cells.lookup x=some c->c≠it) (h3:∀ p∈X.pn++JS,p.1≠it):Inv X JS σ H { s with heap:=h',toks:=t' }:=by
 have nit:∀ b u,H b=some u->b≠it:=λb u e z=>by rw[z,hn] at e;cases e
 refine I.step (g':=s.gens) (d':=s.drawn) (ch:=[it]) (λb hb=>?_) (λb o _ _ hc e _=>k b o (λz=>hc (by simp[z])) e) (λb o _ _ hc e _=>⟨o.slots,k b o (λz=>hc (by simp[z])) e⟩) (λ_ _ _ _ n=>n)
  (λb o hc e=>⟨o,k b o (λz=>hc (by simp[z])) e⟩) (λ_ _ e=>e) (λ_ _ _ e=>e) (λb ps e=>⟨#[],by rw[e];simp⟩) (λm hm=>?_) (λb u e=>?_) I.bare
 ·have e:b=it:=by simpa using hb
  subst e
  exact⟨h1,hL,h2,h3⟩
 ·obtain⟨o,es,ep,ho,r⟩:=hm
  exact⟨o,es,ep,k _ o (Ne.symm hL) ho,r⟩
 ·refine(I.a_ b u e).kP (λc v hc q=>k c v ?_ q) (λ_ q=>q) λ_ _ q=>q
  rcases hc with z | z
  ·rw[z];exact nit b u e
  ·exact nit c _ z
theorem Inv.tok(I:Inv X JS σ H s)(t:Nat):Inv X JS σ H { s with toks:=t }:=I.un (h':=s.heap) (t':=t) Un.refl I.a_
theorem Inv.kept{t':Nat}(I:Inv X JS σ H s)(k:∀ b u,s.heap.get? b=some u->h'.get? b=some u):Inv X JS σ H { s with heap:=h',toks:=t' }:=I.un (Un.kept k) (I.a_.kept k)
theorem Inv.laid{a:Addr}{o:HO}{t':Nat}(I:Inv X JS σ H s)(k:∀ b u,s.heap.get? b=some u->h'.get? b=some u)(hp:s.heap.objs.size<=a)(new:bC X.prog X.w (upd H a o) h' a o) :
  Inv X JS σ (upd H a o) { s with heap:=h',toks:=t' }:=I.un (Un.laid k hp (I.a_.fresh hp)) (I.a_.laid k hp new)
theorem Inv.write{x e:Addr}{o:HO}{t':Nat}(I:Inv X JS σ H s)(mu:GZ (H x))(he:e=x\/H e=some (.own x))(k:∀ b u,b≠e->s.heap.get? b=some u->h'.get? b=some u)(M4:∃ u,h'.get? e=some u)
  (new:bC X.prog X.w (upd H x o) h' x o):Inv X JS σ (upd H x o) { s with heap:=h',toks:=t' }:=I.un (Un.write mu he k M4) (I.a_.write mu he k M4 new)
theorem Inv.vy{LN:List (Addr×Obj)}(I:Inv X JS σ H s)(h:∀ p∈LN,s.heap.get? p.1=some p.2/\H p.1=none/\p.1≠X.env.locals/\p.1 ∉ X.fs/\∀ v,p.2.data≠.cell v):Inv X LN σ H s :=
 ⟨I.ok,I.os,I.bare,I.base,I.loc,I.cell,I.free,I.fH,λp hp=>(List.mem_append.mp hp).elim (λz=>I.pin p (List.mem_append_left _ z)) (h p),I.a_,I.len⟩
theorem ot{N:List Str}(hN:N.Nodup){i j:Nat}{x:Str}(a:N[i]?=some x)(b:N[j]?=some x):i=j:=by
 obtain⟨h1,e1⟩:=List.getElem?_eq_some_iff.mp a
 obtain⟨h2,e2⟩:=List.getElem?_eq_some_iff.mp b
 exact(List.getElem_inj hN).mp (e1.trans e2.symm)
theorem qh{M:Model}{A:Around}{E:Value->Shared->Prop}{i:Nat}{x:Str}{v:V}{u:Value}{Q:Unit->Shared->Prop}(I:Inv X JS σ H s)(hN:X.N.Nodup)(hi:X.N[i]?=some x)(hx:Loc X.env.scope x)(r:RelV v u)
  (h:∀ s',Inv X JS (σ.set i (some v)) H s'->(∃ a,Heap.SameBut a s.heap s'.heap/\(a=X.env.locals\/X.env.cells.lookup x=some a))->Q () s') (hf:X.fn x=true\/X.env.scope.names.lookup x=some .local:=by first | exact .inl rfl | exact .inr rfl | assumption):wpAny M A (storeName X.env x u) Q E s:=by
 obtain⟨m,hn,hl⟩:=id I.loc
 have hcls:(X.env.scope.kind==.class||(X.env.scope.kind==.module&&X.env.locals != X.env.globals))=false:=by rw[I.ok.kind];rfl
 have hiσ:i<σ.length:=by rw[I.len];exact(List.getElem?_eq_some_iff.mp hi).1
 have y_:=I.y_
 have tracked:∀ {a:Addr} {h':Heap},(∃ o,s.heap.get? a=some o/\H a=none)->Heap.SameBut a s.heap h'->lh X.prog X.w H h':=λ{a h'} ha hs b ob e=>by
  obtain⟨_,_,L5⟩:=ha
  refine(I.a_ b ob e).kP (λc w' hc q=>(hs.2 c ?_).trans q) (λ_ q=>q) λ_ _ q=>q
  rintro rfl
  rcases hc with rfl | hc
  ·rw[L5] at e;cases e
  ·rw[L5] at hc;cases hc
 rcases hx with hk | hk
 ·refine wpAny_storeName_local hk hn (λh' Nq hs=>?_) hcls
  obtain⟨oL,_,_,hoL,_⟩:=id hn
  refine h _ ⟨I.ok,I.os,I.bare,⟨λb o e n hb hx=>?_,λb o e n hb hx=>?_,I.base.free,λb o e hx=>?_,I.base.m_,I.base.j2,I.base.mX⟩,⟨_,Nq,λj y v' e1 e2 e3=>?_⟩,λy c e=>?_,I.free,I.fH,λp hp=>?_,tracked ⟨oL,hoL,I.free⟩ hs,by simpa using I.len⟩ ⟨_,hs,.inl rfl⟩
  ·exact(hs.2 b (Nat.ne_of_lt (Nat.lt_of_lt_of_le (Heap.lt_size e) I.ok.above))).trans (I.base.keep b o e n hb hx)
  ·obtain⟨sl,e1⟩:=I.base.slot b o e n hb hx
   exact⟨sl,(hs.2 b (Nat.ne_of_lt (Nat.lt_of_lt_of_le (Heap.lt_size e) I.ok.above))).trans e1⟩
  ·obtain⟨o',e1⟩:=I.base.there b o e hx
   exact⟨o',(hs.2 b (Nat.ne_of_lt (Nat.lt_of_lt_of_le (Heap.lt_size e) I.ok.above))).trans e1⟩
  ·by_cases hj:j=i
   ·subst hj
    rw[hi] at e1;cases e1
    rw[List.getElem?_set_self hiσ] at e2
    cases e2
    exact⟨u,r,.inl ⟨hk,by simp⟩⟩
   ·rw[List.getElem?_set_ne (Ne.symm hj)] at e2
    obtain⟨u',r',q⟩:=hl j y v' e1 e2 e3
    refine⟨u',r',?_⟩
    rcases q with ⟨k,e⟩ | ⟨k,c,e,z⟩
    ·refine .inl ⟨k,?_⟩
     have:y≠x:=λe=>hj (ot hN e1 (e▸hi))
     simp[this,e]
    ·exact .inr ⟨k,c,e,z.sameBut hs (y_ y c e)⟩
  ·obtain⟨w',z⟩:=I.cell y c e
   exact⟨w',z.sameBut hs (y_ y c e)⟩
  ·obtain⟨e,n,ne,nf,d⟩:=I.pin p hp
   exact⟨(hs.2 p.1 ne).trans e,n,ne,nf,d⟩
 ·have hfn:X.fn x=true:=by
   rcases hf with z | z
   ·exact z
   ·rw[z] at hk;cases hk
  obtain⟨c,hc⟩:=I.ok.has x (.inl hk)
  obtain⟨w',z⟩:=I.cell x c hc
  refine wpAny_storeName_cell I.ok.kind hk hc z (λh' MD hs=>?_)
  obtain⟨oc,hoc,hocd⟩:=id z
  refine h { s with heap:=h' } ⟨I.ok,I.os,I.bare,⟨λb o e n hb hx=>?_,λb o e n hb hx=>?_,I.base.free,λb o e hx=>?_,I.base.m_,I.base.j2,I.base.mX⟩,⟨m,hn.sameBut hs (Ne.symm (y_ x c hc)),λj y v' e1 e2 e3=>?_⟩,λy c' e=>?_,I.free,I.fH,λp hp=>?_,tracked ⟨oc,hoc,I.fH x c hc⟩ hs,by simpa using I.len⟩ ⟨c,hs,.inr hc⟩
  ·exact(hs.2 b (Nat.ne_of_lt (Nat.lt_of_lt_of_le (Heap.lt_size e) (I.ok.CV x c hfn hc)))).trans (I.base.keep b o e n hb hx)
  ·obtain⟨sl,e1⟩:=I.base.slot b o e n hb hx
   exact⟨sl,(hs.2 b (Nat.ne_of_lt (Nat.lt_of_lt_of_le (Heap.lt_size e) (I.ok.CV x c hfn hc)))).trans e1⟩
  ·obtain⟨o',e1⟩:=I.base.there b o e hx
   exact⟨o',(hs.2 b (Nat.ne_of_lt (Nat.lt_of_lt_of_le (Heap.lt_size e) (I.ok.CV x c hfn hc)))).trans e1⟩
  ·by_cases hj:j=i
   ·subst hj
    rw[hi] at e1;cases e1
    rw[List.getElem?_set_self hiσ] at e2
    cases e2
    exact⟨u,r,.inr ⟨.inl hk,c,hc,MD⟩⟩
   ·rw[List.getElem?_set_ne (Ne.symm hj)] at e2
    obtain⟨u',r',q⟩:=hl j y v' e1 e2 e3
    refine⟨u',r',?_⟩
    rcases q with q | ⟨k,c',e,z'⟩
    ·exact .inl q
    ·refine .inr ⟨k,c',e,z'.sameBut hs ?_⟩
     rintro rfl
     exact hj (ot hN e1 (I.ok.inj _ _ _ e hc▸hi))
  ·by_cases hcc:c'=c
   ·subst hcc;exact⟨_,MD⟩
   ·obtain⟨w2,z2⟩:=I.cell y c' e
    exact⟨w2,z2.sameBut hs hcc⟩
  ·obtain⟨e,n,ne,nf,d⟩:=I.pin p hp
   refine⟨(hs.2 p.1 ?_).trans e,n,ne,nf,d⟩
   intro q
   rw[q,hoc] at e
   have q':oc=p.2:=Option.some.inj e
   exact d w' (by rw[← q'];exact hocd)
theorem fb{M:Model}{A:Around}{E:Value->Shared->Prop}{i:Nat}{x:Str}{v:V}{u:Value}{Q:Unit->Shared->Prop}(I:Inv X JS σ H s)(hN:X.N.Nodup)(hi:X.N[i]?=some x)(hx:Loc X.env.scope x)(r:RelV v u)
  (h:∀ s',Inv X JS (σ.set i (some v)) H s'->Q () s') (hf:X.fn x=true\/X.env.scope.names.lookup x=some .local:=by first | exact .inl rfl | exact .inr rfl | assumption):wpAny M A (storeName X.env x u) Q E s :=
 qh I hN hi hx r (λs' I' _=>h s' I') hf
theorem Inv.yj{s':Shared}{ch:List Addr}(I:Inv X JS σ H s)(ho:s'.os=s.os)(u:Un (t5 X.stack) ch H H' s.heap s'.heap)(a_:lh X.prog X.w H' s'.heap)(hg:AllBare s'.gens)
  (LJ:∀ b∈ch,(b∈X.ex\/X.s₀.heap.objs.size<=b)/\b≠X.env.locals/\(∀ x c,X.env.cells.lookup x=some c->c≠b)/\∀ p∈X.pn++JS,p.1≠b):Inv X JS σ H' s':=by
 obtain⟨h',g',d',t',o'⟩:=s'
 have e:o'=s.os:=ho
 subst e
 exact I.call (g':=g') (t':=t') (d':=d') u a_ hg LJ
end
abbrev XK:=Value->Option Addr->Hp->Prop
abbrev St:=List (Option V)
abbrev VK:=V->Hp->Prop
abbrev TE:=St->Hp->VK->Prop
abbrev TT:=St->Hp->(Bool->Hp->Prop)->Prop
abbrev TA:=St->Hp->(List V->Hp->Prop)->Prop
structure Ends where
 nx:St->Hp->Prop
 rt:VK
 bk:St->Hp->Prop:=λ_ _=>False
 ct:St->Hp->Prop:=λ_ _=>False
abbrev TS:=Ends->St->Hp->Prop
def EP(X:Cx)(JS:List (Addr×Obj))(σ:St)(Q:VK)(u:Value)(s':Shared):Prop:=∃ v H',Inv X JS σ H' s'/\RelV v u/\Q v H'
def TP(X:Cx)(JS:List (Addr×Obj))(σ:St)(Q:Bool->Hp->Prop)(b:Bool)(s':Shared):Prop:=∃ H',Inv X JS σ H' s'/\Q b H'
def AP(X:Cx)(JS:List (Addr×Obj))(σ:St)(Q:List V->Hp->Prop)(us:List Value)(s':Shared):Prop:=∃ vs H',Inv X JS σ H' s'/\Vals vs us/\Q vs H'
def SP(X:Cx)(JS:List (Addr×Obj))(D:Ends)(f:Flow)(s':Shared):Prop :=
 match f with
 | .next=>∃ σ' H',Inv X JS σ' H' s'/\D.nx σ' H'
 | .brk=>∃ σ' H',Inv X JS σ' H' s'/\D.bk σ' H'
 | .cont=>∃ σ' H',Inv X JS σ' H' s'/\D.ct σ' H'
 | .ret u=>∃ v σ' H',Inv X JS σ' H' s'/\RelV v u/\D.rt v H'
def PE(X:Cx)(e:Expr)(t:TE):Prop :=
 ∀ (JS:List (Addr×Obj)) (s:Shared) (σ:St) (H:Hp) (Q:VK),Inv X JS σ H s->t σ H Q->wpAny (model X.prog X.w) X.A (eval e X.env) (EP X JS σ Q) X.xe s
def PT(X:Cx)(e:Expr)(t:TT):Prop :=
 ∀ (JS:List (Addr×Obj)) (s:Shared) (σ:St) (H:Hp) (Q:Bool->Hp->Prop),Inv X JS σ H s->t σ H Q->wpAny (model X.prog X.w) X.A (isTrue e X.env (eval e X.env)) (TP X JS σ Q) X.xe s
def PW(X:Cx)(e:Expr)(t:TT):Prop :=
 ∀ (whole:Sem Value) (JS:List (Addr×Obj)) (s:Shared) (σ:St) (H:Hp) (Q:Bool->Hp->Prop),Inv X JS σ H s->t σ H Q->wpAny (model X.prog X.w) X.A (isTrue e X.env whole) (TP X JS σ Q) X.xe s
theorem PW.pt{X:Cx}{e:Expr}{t:TT}(h:PW X e t):PT X e t:=h _
def PA(X:Cx)(es:List Expr)(t:TA):Prop :=
 ∀ (pos:Pos) (JS:List (Addr×Obj)) (s:Shared) (σ:St) (H:Hp) (Q:List V->Hp->Prop),Inv X JS σ H s->t σ H Q->wpAny (model X.prog X.w) X.A (spliced (backTo pos (starEach es X.env))) (AP X JS σ Q) X.xe s
def PS(X:Cx)(st:Stmt)(t:TS):Prop :=
 ∀ (JS:List (Addr×Obj)) (s:Shared) (σ:St) (H:Hp) (D:Ends),Inv X JS σ H s->t D σ H->wpAny (model X.prog X.w) X.A (exec st X.env) (SP X JS D) X.xe s
def kf(X:Cx)(st:List Stmt)(t:TS):Prop :=
 ∀ (JS:List (Addr×Obj)) (s:Shared) (σ:St) (H:Hp) (D:Ends),Inv X JS σ H s->t D σ H->wpAny (model X.prog X.w) X.A (execs st X.env) (SP X JS D) X.xe s
theorem cN{α:Type}{t:Sem α}{Q Q':α->Shared->Prop}{M:Model}{A:Around}{E:Value->Shared->Prop}{s:Shared}(h:wpAny M A t Q E s)(hQ:∀ a s,Q a s->Q' a s):wpAny M A t Q' E s:=wpAny_mono h hQ λ_ _ x=>x
end L2
namespace L2
open PySem PySem.Spec PyProof.Rows
section
variable{X:Cx}
def HU(i:Nat):TE:=fun σ H Q=>∃ v,σ[i]?=some (some v)/\Q v H
def tC(v:V):TE:=λ_ H Q=>Q v H
theorem nR{i:Nat}{x:Str}{pos:Pos}(hN:X.N[i]?=some x)(hv:A3 X.env.scope x)(hd:(x==("__debug__" : Str))=false:=by decide)(Lh:(x==("__classdict__" : Str))=false:=by decide):PE X (.Name x pos) (HU i):=by
 intro JS s σ H Q I h
 obtain⟨v,e,h⟩:=h
 obtain⟨m,hn,hl⟩:=I.loc
 obtain⟨u,r,l⟩:=hl i x v hN e hv
 have fin:EP X JS σ Q u s:=⟨v,H,I,r,h⟩
 rcases l with ⟨hk,hm⟩ | ⟨hk,c,hc,L4⟩
 ·exact wpAny_Name (wpAny_loadName_local I.ok.kind hk hn hm fin) hd
 ·rcases hk with hk | hk
  ·exact wpAny_Name (wpAny_loadName_cell I.ok.kind hk hc L4 fin) hd
  ·exact wpAny_Name (wpAny_loadName_free I.ok.kind hk hc L4 fin Lh) hd
theorem DT{i j pos}:PE X (.Constant (.int i) j pos) (tC (.int i)):=λ_ _ _ H _ I h=>wpAny_Constant_int ⟨.int i,H,I.tok _,⟨_,rfl⟩,h⟩
theorem FG{b j pos}:PE X (.Constant (.bool b) j pos) (tC (.bl b)):=λ_ _ _ H _ I h=>Constant_bool ⟨.bl b,H,I,rfl,h⟩
theorem DF{j pos}:PE X (.Constant .none j pos) (tC .bZ):=λ_ _ _ H _ I h=>Constant_none ⟨.bZ,H,I,rfl,h⟩
theorem DH{x j pos}:PE X (.Constant (.str x) j pos) (tC (.str x)):=λ_ _ _ H _ I h=>Calls.Constant_str ⟨.str x,H,I.tok _,⟨_,rfl⟩,h⟩
def Gl(X:Cx)(x:Str):Prop:=X.env.kindOf x=some .globalImplicit
theorem hU{E:Value->Shared->Prop}{JS:List (Addr×Obj)}{s:Shared}{σ:St}{H:Hp}{x:Str}{u:Value}{pos:Pos}{Q:Value->Shared->Prop}(I:Inv X JS σ H s)(hg:Gl X x)(hm:X.mg x=some u)(h:Q u s)
  (hd:(x==("__debug__" : Str))=false:=by decide):wpAny (model X.prog X.w) X.A (eval (.Name x pos) X.env) Q E s :=
 Calls.Name_function_global I.ok.kind hg (Calls.loadGlobal_global (by rw[I.ok.glob];exact I.mod.glob.keeps I.bk) hm h) hd
theorem kl{E:Value->Shared->Prop}{JS:List (Addr×Obj)}{s:Shared}{σ:St}{H:Hp}{x:Str}{u:Value}{pos:Pos}{Q:Value->Shared->Prop}(I:Inv X JS σ H s)(hg:Gl X x)(hm:X.mg x=none)(hv:bootBuiltins x=some u)(h:Q u s)
  (hn:x ≠ "__name__" := by decide) (hd:(x==("__debug__" : Str))=false:=by decide):wpAny (model X.prog X.w) X.A (eval (.Name x pos) X.env) Q E s:=by
 obtain⟨mb,h1,h2⟩:=I.mod.blt
 exact Calls.Name_function_global I.ok.kind hg (Calls.loadGlobal_builtin (by rw[I.ok.glob];exact I.mod.glob.keeps I.bk) hm (by rw[I.ok.blt];exact h1.keeps I.bk) ((h2 x hn).trans hv) h) hd
theorem vg{x:Str}{v:V}{u:Value}{pos:Pos}(hg:Gl X x)(hm:X.mg x=some u)(r:RelV v u)(hd:(x==("__debug__" : Str))=false:=by decide):PE X (.Name x pos) (tC v) :=
 λ_ _ _ H _ I h=>hU I hg hm ⟨v,H,I,r,h⟩ hd
theorem c9{x:Str}{v:V}{u:Value}{pos:Pos}(hg:Gl X x)(hm:X.mg x=none)(hv:bootBuiltins x=some u)(r:RelV v u)(hn:x ≠ "__name__" := by decide)(hd:(x==("__debug__" : Str))=false:=by decide):PE X (.Name x pos) (tC v) :=
 λ_ _ _ H _ I h=>kl I hg hm hv ⟨v,H,I,r,h⟩ hn hd
variable{a b:Expr}{ta tb:TE}{pos:Pos}
def tB(t:TE):TT:=fun σ H Q=>t σ H λx H1=>∃ c,x=.bl c/\Q c H1
theorem E8{e:Expr}{t:TE}(h:PE X e t)(he:∀ whole,isTrue e X.env whole=(do let v ← whole;standAt e.pos;holding [v] (truthy v)):=by intro _;rfl):PT X e (tB t):=by
 intro JS s σ H Q I hw
 refine isTrue_plain (cN (h JS s σ H _ I hw) λv s1 ⟨x,H1,I1,r1,q1⟩=>?_) (he _)
 obtain⟨d,rfl,q⟩:=q1
 cases r1
 exact wpAny_truthy_bool ⟨H1,I1,q⟩
variable{tA tB':TT}{rest:List Expr}
def JQ(t u:TT):TT:=fun σ H Q=>t σ H λc H1=>if c=true then Q true H1 else u σ H1 Q
def Ie(t:TT):TT:=fun σ H Q=>t σ H λc H1=>Q (!c) H1
theorem pw_or1(ha:PT X a tA):PW X (.BoolOp .Or [a] pos) tA:=by
 intro wh JS s σ H Q I h
 refine isTrue_or (cN (ha JS s σ H Q I h) λc s1 e=>?_)
 cases c with
 | false=>exact isTrue_or_nil e
 | true=>exact e
theorem pw_or(ha:PT X a tA)(hb:PW X (.BoolOp .Or (b::rest) pos) tB'):PW X (.BoolOp .Or (a::b::rest) pos) (JQ tA tB'):=by
 intro wh JS s σ H Q I h
 refine isTrue_or (cN (ha JS s σ H _ I h) λc s1 ⟨H1,I1,q1⟩=>?_)
 cases c with
 | true=>exact⟨H1,I1,q1⟩
 | false=>exact hb wh JS s1 σ H1 Q I1 q1
theorem El(ha:PT X a tA):PT X (.UnaryOp .Not a pos) (Ie tA):=by
 intro JS s σ H Q I h
 exact isTrue_not (ha JS s σ H (λc H1=>Q (!c) H1) I h)
def F5(ta tb:TE):TE:=fun σ H Q=>ta σ H λx H1=>∃ c,x=.bl c/\if c=true then tb σ H1 Q else Q (.bl false) H1
def FP(ta:TE):TE:=fun σ H Q=>ta σ H λx H1=>∃ c,x=.bl c/\Q (.bl (!c)) H1
theorem kn{op}{t:TE}(h:PE X a t):PE X (.BoolOp op [a] pos) t:=λJS s σ H Q I hw=>BoolOp_one (h JS s σ H Q I hw)
theorem EB(ha:PE X a ta)(hb:PE X (.BoolOp .And (b::rest) pos) tb):PE X (.BoolOp .And (a::b::rest) pos) (F5 ta tb):=by
 intro JS s σ H Q I h
 refine BoolOp_and (cN (ha JS s σ H _ I h) λv s1 ⟨x,H1,I1,r1,q1⟩=>?_)
 obtain⟨c,rfl,q1⟩:=q1
 cases r1
 refine wpAny_truthy_bool ?_
 cases c with
 | true=>exact hb JS s1 σ H1 Q I1 q1
 | false=>exact⟨.bl false,H1,I1,rfl,q1⟩
theorem C4(ha:PE X a ta):PE X (.UnaryOp .Not a pos) (FP ta):=by
 intro JS s σ H Q I h
 refine UnaryOp_ (cN (ha JS s σ H _ I h) λv s1 ⟨x,H1,I1,r1,q1⟩=>?_)
 obtain⟨c,rfl,q1⟩:=q1
 cases r1
 exact not_of (wpAny_truthy_bool ⟨.bl (!c),H1,I1,rfl,q1⟩)
end
end L2
namespace L2
open PySem PySem.Spec PyProof.Rows
def ij(K:PySem.W.Frag)(H:Hp)(a:Addr)(xs:List V):Prop :=
 Rd H a (.lst xs) ∨
  ∃ (o:Obj) (JU:Array Value) (n:Nat),K.lookup a=some o/\o.cls=.type "list" /\ o.dict=none/\o.data=.seq JU n/\JU.size<=sizeLine/\Vals xs JU.toList
def fQ(K:PySem.W.Frag)(H:Hp)(a:Addr)(xs:List V):Prop :=
 Rd H a (.tup xs) ∨
  ∃ (o:Obj) (JU:Array Value) (n:Nat),K.lookup a=some o/\o.cls=.type "tuple" /\ o.data=.seq JU n/\JU.size<=sizeLine/\Vals xs JU.toList
def HI:Value->Option V
 | .none=>some .bZ
 | .bool b=>some (.bl b)
 | .int i _=>some (.int i)
 | .str x _=>some (.str x)
 | .bytes b _=>some (.byt b)
 | .float b _=>some (.CH b)
 | .ref a=>some (.ref a)
 | .type n=>some (.ty n)
 | _=>none
theorem RelV.abs{x:V}{u:Value}(r:RelV x u):HI u=some x:=by
 cases x with
 | bZ=>cases r;rfl
 | bl _=>cases r;rfl
 | int _=>obtain⟨t,rfl⟩:=r;rfl
 | str _=>obtain⟨t,rfl⟩:=r;rfl
 | byt _=>obtain⟨t,rfl⟩:=r;rfl
 | CH _=>obtain⟨t,rfl⟩:=r;rfl
 | ref _=>cases r;rfl
 | ty _=>cases r;rfl
theorem RelV.inj{x y:V}{u:Value}(r:RelV x u)(q:RelV y u):x=y:=Option.some.inj (r.abs.symm.trans q.abs)
theorem Vals.inj:∀ {xs ys:List V} {us:List Value},Vals xs us->Vals ys us->xs=ys
 | _,_,_,.nil,.nil=>rfl
 | _,_,_,.cons r t,.cons r' t'=>by rw[r.inj r',Vals.inj t t']
section
variable{X:Cx}{JS:List (Addr×Obj)}{σ:St}{H:Hp}{s:Shared}{a:Addr}{xs ys:List V}
theorem ij.of{K:PySem.W.Frag}(h:H a=some (.lst xs)):ij K H a xs:=.inl (.inl h)
theorem fQ.of{K:PySem.W.Frag}(h:H a=some (.tup xs)):fQ K H a xs:=.inl (.inl h)
theorem Inv.list(I:Inv X JS σ H s)(h:ij X.K H a xs):∃ JU:List Value,Vals xs JU/\PlainL s.heap a JU.toArray/\xs.length<=sizeLine:=by
 rcases h with h | ⟨o,JU,n,hk,hc,hd,hs,hz,r⟩
 ·obtain⟨z,JU,n,r,e⟩:=h.ok I.a_
  exact⟨JU,r,⟨_,n,e,rfl,rfl,rfl⟩,z⟩
 ·refine⟨JU.toList,r,⟨o,n,I.ir a o hk,hc,hd,by simpa using hs⟩,?_⟩
  have e:=r.length
  simp only[Array.length_toList] at e
  omega
theorem Inv.tuple(I:Inv X JS σ H s)(h:fQ X.K H a xs):∃ JU:List Value,Vals xs JU/\IsTup s.heap a JU.toArray/\xs.length<=sizeLine:=by
 rcases h with h | ⟨o,JU,n,hk,hc,hs,hz,r⟩
 ·obtain⟨z,JU,r,p⟩:=h.ok I.a_
  exact⟨JU,r,p,z⟩
 ·refine⟨JU.toList,r,⟨o,I.ir a o hk,hc,n,by simpa using hs⟩,?_⟩
  have e:=r.length
  simp only[Array.length_toList] at e
  omega
theorem Inv.oz(I:Inv X JS σ H s)(h:ij X.K H a xs)(h':ij X.K H a ys):xs=ys:=by
 obtain⟨JU,r,⟨o,n,e,_,_,d⟩,_⟩:=I.list h
 obtain⟨its',r',⟨o',n',e',_,_,d'⟩,_⟩:=I.list h'
 rw[e] at e';cases e'
 rw[d] at d'
 injection d' with d1 _
 have:JU=its':=by simpa using congrArg Array.toList d1
 subst this
 exact r.inj r'
theorem Inv.lM(I:Inv X JS σ H s)(h:fQ X.K H a xs)(h':fQ X.K H a ys):xs=ys:=by
 obtain⟨JU,r,⟨o,e,_,n,d⟩,_⟩:=I.tuple h
 obtain⟨its',r',⟨o',e',_,n',d'⟩,_⟩:=I.tuple h'
 rw[e] at e';cases e'
 rw[d] at d'
 injection d' with d1 _
 have:JU=its':=by simpa using congrArg Array.toList d1
 subst this
 exact r.inj r'
end
abbrev Cx.nO(X:Cx)(E:Value->Shared->Prop):Cx:={ X with xe:=E }
theorem Cx.Ok.nO{X:Cx}(ok:X.Ok)(E:Value->Shared->Prop):(X.nO E).Ok :=
 ⟨ok.mod,ok.kind,ok.glob,ok.blt,ok.above,ok.inj,ok.has,ok.CV,ok.hd,ok.frames,ok.DV,ok.Fs,ok.bs,ok.z7,ok.qV,ok.sZ,ok.kj,ok.Aw⟩
theorem Cx.Ok.dO{X:Cx}{E:Value->Shared->Prop}(ok:(X.nO E).Ok):X.Ok :=
 ⟨ok.mod,ok.kind,ok.glob,ok.blt,ok.above,ok.inj,ok.has,ok.CV,ok.hd,ok.frames,ok.DV,ok.Fs,ok.bs,ok.z7,ok.qV,ok.sZ,ok.kj,ok.Aw⟩
section
variable{X:Cx}{JS:List (Addr×Obj)}{σ:St}{H:Hp}{s:Shared}{E:Value->Shared->Prop}
theorem Inv.nO(I:Inv X JS σ H s)(E:Value->Shared->Prop):Inv (X.nO E) JS σ H s:=⟨I.ok.nO E,I.os,I.bare,I.base,I.loc,I.cell,I.free,I.fH,I.pin,I.a_,I.len⟩
theorem Inv.dO(I:Inv (X.nO E) JS σ H s):Inv X JS σ H s:=⟨I.ok.dO,I.os,I.bare,I.base,I.loc,I.cell,I.free,I.fH,I.pin,I.a_,I.len⟩
theorem SP.dO{D:Ends}{f:Flow}{s':Shared}(h:SP (X.nO E) JS D f s'):SP X JS D f s':=by
 cases f with
 | next=>obtain⟨σ',H',I,q⟩:=h;exact⟨σ',H',I.dO,q⟩
 | brk=>obtain⟨σ',H',I,q⟩:=h;exact⟨σ',H',I.dO,q⟩
 | cont=>obtain⟨σ',H',I,q⟩:=h;exact⟨σ',H',I.dO,q⟩
 | ret u=>obtain⟨v,σ',H',I,r,q⟩:=h;exact⟨v,σ',H',I.dO,r,q⟩
end
section
variable{X:Cx}{st:Stmt}{rest:List Stmt}{t u:TS}{e:Expr}{te:TE}{pos:Pos}
def Gy:TS:=λD σ H=>D.nx σ H
def Ir(t u:TS):TS:=λD σ H=>t { D with nx:=u D } σ H
theorem vk:kf X [] Gy:=λ_ _ σ H _ I h=>wpAny_execs_nil ⟨σ,H,I,h⟩
theorem tj(h1:PS X st t)(h2:kf X rest u):kf X (st::rest) (Ir t u):=by
 intro JS s σ H D I h
 refine wpAny_execs_cons (cN (h1 JS s σ H { D with nx:=u D } I h) λf s1 q=>?_)
 cases f with
 | next =>
  obtain⟨σ',H',I',q⟩:=q
  exact h2 JS s1 σ' H' D I' q
 | ret v=>exact q
 | brk=>exact q
 | cont=>exact q
theorem AM(h1:PS X st t):kf X [st] t:=by
 intro JS s σ H D I h
 refine wpAny_execs_cons (cN (h1 JS s σ H D I h) λf s1 q=>?_)
 cases f with
 | next=>exact wpAny_execs_nil q
 | ret v=>exact q
 | brk=>exact q
 | cont=>exact q
theorem Inv.quiet{JS:List (Addr×Obj)}{σ:St}{H:Hp}{s:Shared}(I:Inv X JS σ H s):interactive X.env=false:=by simp[interactive,I.ok.kind]
def FV(te:TE):TS:=λD σ H=>te σ H λ_ H1=>D.nx σ H1
theorem qS(he:PE X e te)(hs:swapsWith e none pos.line X.env=pure false:=by rfl):PS X (.Expr e pos) (FV te):=by
 intro JS s σ H D I h
 exact wpAny_Expr_any (cN (he JS s σ H _ I h) λv s1 ⟨x,H1,I1,r1,q1⟩=>⟨σ,H1,I1,q1⟩) I.quiet hs
def Hm(te:TE):TS:=λD σ H=>te σ H D.rt
theorem Ff(he:PE X e te):PS X (.Return (some e) pos) (Hm te):=by
 intro JS s σ H D I h
 exact wpAny_Return_some (cN (he JS s σ H _ I h) λv s1 ⟨x,H1,I1,r1,q1⟩=>⟨x,σ,H1,I1,r1,q1⟩)
def Ic(c:TT)(t u:TS):TS:=λD σ H=>c σ H λb H1=>if b=true then t D σ H1 else u D σ H1
theorem F6{c:Expr}{a b:List Stmt}{tc:TT}(hc:PT X c tc)(ha:kf X a t)(hb:kf X b u):PS X (.If c a b pos) (Ic tc t u):=by
 intro JS s σ H D I h
 refine wpAny_If (cN (hc JS s σ H _ I h) λd s1 ⟨H1,I1,q1⟩=>?_)
 cases d with
 | true=>exact ha JS s1 σ H1 D I1 q1
 | false=>exact hb JS s1 σ H1 D I1 q1
end
abbrev TG:=V->St->Hp->(St->Hp->Prop)->Prop
abbrev Dl:=List V->St->Hp->(St->Hp->Prop)->Prop
def PG(X:Cx)(target:Expr)(t:TG):Prop :=
 ∀ (JS:List (Addr×Obj)) (s:Shared) (σ:St) (H:Hp) (v:V) (u:Value) (Q:St->Hp->Prop),Inv X JS σ H s->RelV v u->t v σ H Q ->
  wpAny (model X.prog X.w) X.A (assign target X.env u) (λ_ s'=>∃ σ' H',Inv X JS σ' H' s'/\Q σ' H') X.xe s
def G1(X:Cx)(ts:List Expr)(t:Dl):Prop :=
 ∀ (JS:List (Addr×Obj)) (s:Shared) (σ:St) (H:Hp) (vs:List V) (us:List Value) (Q:St->Hp->Prop),Inv X JS σ H s->Vals vs us->t vs σ H Q ->
  wpAny (model X.prog X.w) X.A (assignInOrder ((assignEach ts X.env).map (·.2)) us) (λ_ s'=>∃ σ' H',Inv X JS σ' H' s'/\Q σ' H') X.xe s
section
variable{X:Cx}{pos:Pos}
def aI(i:Nat):TG:=λv σ H Q=>Q (σ.set i (some v)) H
theorem AN{i:Nat}{x:Str}(hN:X.N.Nodup)(hi:X.N[i]?=some x)(hx:Loc X.env.scope x)(hf:X.fn x=true\/X.env.scope.names.lookup x=some .local:=by first | exact .inl rfl | exact .inr rfl | assumption):PG X (.Name x pos) (aI i):=by
 intro JS s σ H v u Q I r h
 exact wpAny_assign_Name (fb I hN hi hx r (λs' I'=>⟨_,H,I',h⟩) hf)
def iI:Dl:=λvs σ H Q=>vs=[]/\Q σ H
def aZ(t:TG)(u:Dl):Dl:=λvs σ H Q=>∃ v r,vs=v::r/\t v σ H fun σ' H'=>u r σ' H' Q
theorem cj:G1 X [] iI:=by
 intro JS s σ H vs us Q I r h
 obtain⟨e,h⟩:=h
 subst e
 cases r
 exact assignInOrder_nil ⟨σ,H,I,h⟩
theorem aD{e:Expr}{es:List Expr}{t:TG}{u:Dl}(h1:PG X e t)(h2:G1 X es u)
  (hs:(assignEach (e::es) X.env).map (·.2)=assign e X.env::(assignEach es X.env).map (·.2):=by rfl):G1 X (e::es) (aZ t u):=by
 intro JS s σ H vs us Q I r h
 obtain⟨v,vr,e1,h⟩:=h
 subst e1
 cases r with
 | cons r rr =>
  rw[hs]
  refine assignInOrder_cons (cN (h1 JS s σ H _ _ _ I r h) λ_ s1 ⟨σ1,H1,I1,q1⟩=>?_)
  exact h2 JS s1 σ1 H1 _ _ Q I1 rr q1
def iM(K:PySem.W.Frag)(n:Nat)(t:Dl):TG:=λv σ H Q=>∃ a xs,v=.ref a/\fQ K H a xs/\xs.length=n/\t xs σ H Q
theorem dm{es:List Expr}{k:Nat}{t:Dl}{n:Nat}(hc:X.calm=true)(h:G1 X es t)
  (hn:(assignEach es X.env).length=n:=by rfl) (Kw:(assignEach es X.env).findIdx? (·.1)=none:=by rfl):PG X (.Tuple es k pos) (iM X.K n t):=by
 intro JS s σ H v u Q I r hw
 obtain⟨a,xs,e1,hq,hl,hw⟩:=hw
 subst e1
 cases r
 obtain⟨JU,rv,ht,hz⟩:=I.tuple hq
 refine assign_Tuple_tuple (I.ok.hd hc) ht (by simp[hn,← hl,rv.length]) Kw λh' hx=>?_
 have I1:Inv X JS σ H { s with heap:=h' }:=I.kept (t':=s.toks) λb o e=>hx b o (Nat.ne_of_lt (Heap.lt_size e)) e
 exact h JS _ σ H xs _ Q I1 (by simpa using rv) hw
def Gv(te:TE)(g:TG):TS:=λD σ H=>te σ H λx H1=>g x σ H1 D.nx
theorem za{i:Nat}{x:Str}{e:Expr}{te:TE}{pos':Pos}(hN:X.N.Nodup)(hi:X.N[i]?=some x)(hx:Loc X.env.scope x)(he:PE X e te)(hs:swapsWith e (some (.Name x pos')) pos.line X.env=pure false:=by rfl)(hf:X.fn x=true\/X.env.scope.names.lookup x=some .local:=by first | exact .inl rfl | exact .inr rfl | assumption) :
  PS X (.Assign [.Name x pos'] e pos) (Gv te (aI i)):=by
 intro JS s σ H D I h
 refine wpAny_Assign_Name (cN (he JS s σ H _ I h) λv s1 ⟨y,H1,I1,r1,q1⟩=>?_) hs
 exact fb I1 hN hi hx r1 (λs2 I2=>⟨_,H1,I2,q1⟩) hf
def Iz(i j:Nat)(ta:TA):TS:=λD σ H=>ta σ H λvs H1=>∃ v w,vs=[v,w]/\D.nx ((σ.set i (some v)).set j (some w)) H1
theorem DC{i j:Nat}{x y:Str}{a b:Expr}{ta:TA}{px py pt:Pos}{kt k2 LV}(hc:X.calm=true)(hN:X.N.Nodup)(hi:X.N[i]?=some x)(hj:X.N[j]?=some y)(MF:i≠j)
  (hx:X.env.scope.names.lookup x=some .local) (hy:X.env.scope.names.lookup y=some .local) (ha:PA X [a,b] ta)
  (hw:swappedStores [.Tuple [.Name x px,.Name y py] kt pt] (.Tuple [a,b] k2 LV) X.env=pure (some [x,y]))
  (hs:swapsWithSole [.Tuple [.Name x px,.Name y py] kt pt] (.Tuple [a,b] k2 LV) pos.line X.env=pure false:=by rfl) :
  PS X (.Assign [.Tuple [.Name x px,.Name y py] kt pt] (.Tuple [a,b] k2 LV) pos) (Iz i j ta):=by
 intro JS s σ H D I h
 rw[exec_Assign_arm]
 refine wpAny_bind (wpAny_standAt ?_)
 rw[hs]
 refine wpAny_bind (wpAny_pure ?_)
 rw[if_neg (by decide)]
 refine wpAny_bind (Tuple_ (cN (ha _ JS s σ H _ I h) λus s1 ⟨vs,H1,I1,r1,q1⟩=>?_))
 obtain⟨v,w,e1,q1⟩:=q1
 subst e1
 obtain⟨u1,u2,rfl,rv,Ly⟩:∃ u1 u2,us=[u1,u2]/\RelV v u1/\RelV w u2:=by
  cases r1 with
  | cons p q =>
   cases q with
   | cons p' q' =>
    cases q'
    exact⟨_,_,rfl,p,p'⟩
 refine wpAny_newObj_type ?_ (by show 2<=sizeLine;decide)
 have I2:Inv X JS σ H1 { s1 with heap:=s1.heap.push { cls:=.type "tuple", data:=.seq [u1,u2].toArray } }:=I1.kept (t':=s1.toks) λb o e=>Heap.get?_push_of_some _ e
 rw[hw]
 refine wpAny_bind (wpAny_pure ?_)
 show wpAny (model X.prog X.w) X.A (do rule "assign.swapped-stores";let items ← unpackItems (.ref s1.heap.objs.size) 2 none;assignInOrder [λv=>bindName X.env y v,λv=>bindName X.env x v] items.reverse;pure Flow.next) _ _ _
 refine wpAny_bind (wpAny_rule (wpAny_bind (unpackItems_tuple (items:=#[u1,u2]) (I.ok.hd hc) (IsTup.new s1.heap _) λh' MW=>?_)))
 have I3:=I2.kept (h':=h') (t':=s1.toks) λb o e=>MW b o (Nat.ne_of_lt (Heap.lt_size e)) e
 show wpAny _ _ (assignInOrder [λv=>bindName X.env y v,λv=>bindName X.env x v] [u2,u1] >>= λ_=>pure Flow.next) _ _ _
 refine wpAny_bind (assignInOrder_cons (wpAny_bindName (fb I3 hN hj (.inl hy) Ly (λs2 I4=>?_) (.inr hy))))
 refine assignInOrder_cons (wpAny_bindName (fb I4 hN hi (.inl hx) rv (λs3 I5=>assignInOrder_nil (wpAny_pure ?_)) (.inr hx)))
 rw[List.set_comm _ _ (Ne.symm MF)] at I5
 exact⟨_,H1,I5,q1⟩
end
section
variable{X:Cx}{pos:Pos}
def C0(c:TT)(tb:TS):TS:=λD σ H=>∃ W:Nat->St->Hp->Prop,(∃ m,W m σ H)/\∀ m σ H,W m σ H ->
 c σ H λb H1=>if b=true then ∃ N:St->Hp->Prop,(∀ σ' H',N σ' H'->∃ m',m'<m/\W m' σ' H')/\tb { D with nx:=N,ct:=N,bk:=D.nx } σ H1 else D.nx σ H1
theorem yN{c:Expr}{body:List Stmt}{tc:TT}{tb:TS}(hp:PassesOwn (model X.prog X.w) X.A X.env X.xe)(hc:PT X c tc)(hb:kf X body tb):PS X (.While c body [] pos) (C0 tc tb):=by
 intro JS s σ H D I h
 obtain⟨W,⟨m0,w0⟩,turn⟩:=h
 refine wpAny_While (codeAny_whileLoop (λn s'=>∃ σ' H',Inv X JS σ' H' s'/\W n σ' H') ?_ m0 ⟨σ,H,I,w0⟩)
 rintro n s1 ⟨σ1,H1,I1,w1⟩
 refine wpAny_passesOwn hp (cN (hc JS s1 σ1 H1 _ I1 (turn n σ1 H1 w1)) λb s2 ⟨H2,I2,q2⟩=>?_)
 cases b with
 | true =>
  obtain⟨N,hN,q2⟩:=q2
  rw[if_pos rfl]
  refine wpAny_passesOwn hp (cN (hb JS s2 σ1 H2 _ I2 q2) λf s3 q3=>?_)
  cases f with
  | next =>
   obtain⟨σ3,H3,I3,n3⟩:=q3
   obtain⟨m',hm,w3⟩:=hN σ3 H3 n3
   exact⟨m',hm,σ3,H3,I3,w3⟩
  | cont =>
   obtain⟨σ3,H3,I3,n3⟩:=q3
   obtain⟨m',hm,w3⟩:=hN σ3 H3 n3
   exact⟨m',hm,σ3,H3,I3,w3⟩
  | brk=>exact q3
  | ret v=>exact q3
 | false =>
  rw[if_neg Bool.false_ne_true]
  exact wpAny_execs_nil ⟨σ1,H2,I2,q2⟩
end
structure It where
 go:Nat->Hp->Prop
 uJ:Nat->Hp->V->Hp->Prop
 stop:Nat->Hp->Prop
def kZ(X:Cx)(JS:List (Addr×Obj))(H:Hp)(b:Addr):Prop :=
 H b=none/\b≠X.env.locals/\b ∉ X.fs/\(b∈X.ex\/X.s₀.heap.objs.size<=b)/\(∀ x c,X.env.cells.lookup x=some c->c≠b)/\∀ p∈X.pn++JS,p.1≠b
theorem Inv.sG{X:Cx}{JS:List (Addr×Obj)}{σ:St}{H H':Hp}{s:Shared}{b:Addr}(I:Inv X JS σ H s)(hb:s.heap.objs.size<=b)(hn:H' b=none):kZ X JS H' b:=by
 refine⟨hn,Nat.ne_of_gt (Nat.lt_of_lt_of_le I.lt hb),I.IE hb,.inr (Nat.le_trans I.sz hb),λx c e z=>?_,λp hp z=>?_⟩
 ·obtain⟨v,q⟩:=I.cell x c e
  exact absurd (Nat.lt_of_lt_of_le q.lt (by rw[z];exact hb)) (Nat.lt_irrefl _)
 ·exact absurd (Nat.lt_of_lt_of_le (Heap.lt_size (I.pin p hp).1) (by rw[z];exact hb)) (Nat.lt_irrefl _)
structure Turn (P:Program) (w:World) (K:PySem.W.Frag) (tg:Expr) (J:It) (fp:List Addr) (it:Addr) (tn:Nat->Heap->Prop):Prop where
 mem:it∈fp
 obj:∀ i h,tn i h->∀ b∈fp,∃ o,h.get? b=some o/\∀ v,o.data≠.cell v
 keep:∀ i h h',tn i h->(∀ b∈fp,∀ o,h.get? b=some o->h'.get? b=some o)->tn i h'
 item:∀ (X:Cx),X.prog=P->X.w=w->X.K=K->X.calm=true->∀ (i:Nat) (JS:List (Addr×Obj)) (s:Shared) (σ:St) (H:Hp) (E:Value->Shared->Prop),Inv X JS σ H s->(∀ b∈fp,kZ X JS H b)->tn i s.heap->J.go i H ->
  wpAny (model P w) X.A (pyNext (.ref it)) (λr s1=>∃ u,r=some u ∧
   wpAny (model P w) X.A (letOwnedTupleGo tg (.ref it) u) (λ_ s2=>∃ x H',Inv X JS σ H' s2/\RelV x u/\J.uJ i H x H'/\tn (i+1) s2.heap/\∀ b∈fp,H' b=none) E s1) E s
 done:∀ (X:Cx),X.prog=P->X.w=w->X.K=K->X.calm=true->∀ (i:Nat) (JS:List (Addr×Obj)) (s:Shared) (σ:St) (H:Hp) (E:Value->Shared->Prop),Inv X JS σ H s->(∀ b∈fp,kZ X JS H b)->tn i s.heap->J.stop i H ->
  wpAny (model P w) X.A (pyNext (.ref it)) (λr s1=>r=none/\Inv X JS σ H s1) E s
 self:∀ (A:Around) (i:Nat) (s:Shared) (Q:Value->Shared->Prop) (E:Value->Shared->Prop),tn i s.heap->Q (.ref it) s->wpAny (model P w) A (pyIter (.ref it)) Q E s
abbrev TI:=St->Hp->(It->Hp->Prop)->Prop
def Jn(X:Cx)(JS:List (Addr×Obj))(σ:St)(tg:Expr)(R:It->Hp->Prop)(itv:Value)(s2:Shared):Prop :=
 ∃ (it:Addr) (fp:List Addr) (tn:Nat->Heap->Prop) (J:It) (H':Hp),itv=.ref it/\Inv X JS σ H' s2/\Turn X.prog X.w X.K tg J fp it tn/\tn 0 s2.heap/\(∀ b∈fp,kZ X JS H' b)/\R J H'
def PI(X:Cx)(tg iter:Expr)(wi:TI):Prop :=
 ∀ (JS:List (Addr×Obj)) (s:Shared) (σ:St) (H:Hp) (R:It->Hp->Prop),Inv X JS σ H s->wi σ H R ->
  wpAny (model X.prog X.w) X.A (eval iter X.env) (λv s1=>wpAny (model X.prog X.w) X.A (pyIter v) (Jn X JS σ tg R) X.xe s1) X.xe s
theorem x6 {M : Model} {A : Around} {E : Value -> Shared -> Prop} {s : Shared} {tg : Expr} {it : Addr} {u : Value} {o : Obj} {n : String} {vs : Array Value} {Q : Unit -> Shared -> Prop} (ho : s.heap.get? it = some o) (hc : o.cls = .type n) (hd : o.data = .fields vs)
    (hn : ["enumerate", "zip", "dict_itemiterator", "dict_reverseitemiterator", "odict_iterator", "itertools.zip_longest", "itertools.pairwise"].contains n = false) (hQ : Q () s) : wpAny M A (letOwnedTupleGo tg (.ref it) u) Q E s := by
  unfold letOwnedTupleGo
  cases tg <;> first
    | exact wpAny_pure hQ
    | (cases u <;> first
        | exact wpAny_pure hQ
        | (refine wpAny_bind (wpAny_load ho ?_)
           rw [hc, hd]
           show wpAny M A (if (["enumerate", "zip", "dict_itemiterator", "dict_reverseitemiterator", "odict_iterator", "itertools.zip_longest", "itertools.pairwise"].contains n && vs[0]? == some (rawInt _)) = true then _ else _) Q E s
           rw [if_neg (by intro h; rw [hn, Bool.false_and] at h; cases h)]
           exact wpAny_pure hQ))
def Jo(K:PySem.W.Frag)(a:Addr):It :=
 ⟨λi H=>∃ xs x,ij K H a xs/\xs[i]?=some x,λi H x H'=>H'=H/\∀ xs,ij K H a xs->xs[i]?=some x,λi H=>∃ xs,ij K H a xs/\xs.length<=i⟩
def I0(K:PySem.W.Frag)(a:Addr):It :=
 ⟨λi H=>∃ xs x,fQ K H a xs/\xs[i]?=some x,λi H x H'=>H'=H/\∀ xs,fQ K H a xs->xs[i]?=some x,λi H=>∃ xs,fQ K H a xs/\xs.length<=i⟩
def G3(lo:Int)(n:Nat):It:=⟨λi _=>i<n,λi H x H'=>H'=H/\x=.int (lo+i),λi _=>n<=i⟩
theorem xC{P:Program}{w:World}{K:PySem.W.Frag}{tg:Expr}(a it:Addr):Turn P w K tg (Jo K a) [it] it (λi h=>h.IsListIter it a i) where
 mem:=by simp
 obj:=λi h st b hb=>by
  have e:b=it:=by simpa using hb
  subst e
  obtain⟨o,e,c,d⟩:=st
  exact⟨o,e,λv z=>by rw[d] at z;cases z⟩
 keep:=λi h h' st k=>st.at λo e=>k it (by simp) o e
 item:=by
  intro X hP hw hK hc i JS s σ H E I hf st hg
  subst hP hw hK
  obtain⟨xs,x,hq,hx⟩:=hg
  obtain⟨JU,rv,p,hz⟩:=I.list hq
  obtain⟨u,hu,ru⟩:=rv.get hx
  obtain⟨f0,f1,f2,f3,f4,f5⟩:=hf it (by simp)
  refine wpAny_pyNext_list_item st p.isList (x:=u) (by simpa using hu) λh' MO sb=>?_
  have I1:Inv X JS σ H { s with heap:=h' }:=I.turned (t':=s.toks) (λb o hb e=>(sb.2 b hb).trans e) f0 f1 f3 f4 f5
  obtain⟨o,e,c,d⟩:=id MO
  exact⟨u,rfl,x6 (s:={ s with heap:=h' }) e c d (by decide) ⟨x,H,I1,ru,⟨rfl,λys hy=>by rw[I.oz hy hq];exact hx⟩,MO,λb hb=>(hf b hb).1⟩⟩
 done:=by
  intro X hP hw hK hc i JS s σ H E I hf st hg
  subst hP hw hK
  obtain⟨xs,hq,hx⟩:=hg
  obtain⟨JU,rv,p,hz⟩:=I.list hq
  obtain⟨f0,f1,f2,f3,f4,f5⟩:=hf it (by simp)
  have hl:=rv.length
  exact wpAny_pyNext_list_end (I.ok.hd hc) st p.isList (by simp;omega) λh' eb=>⟨rfl,I.turned (t':=s.toks) (λb o hb e=>eb b o hb e) f0 f1 f3 f4 f5⟩
 self:=λ_ _ _ _ _ st h=>wpAny_pyIter_listiter st h
theorem uT{P:Program}{w:World}{K:PySem.W.Frag}{tg:Expr}(a it:Addr):Turn P w K tg (I0 K a) [it] it (λi h=>h.IsTupleIter it a i) where
 mem:=by simp
 obj:=λi h st b hb=>by
  have e:b=it:=by simpa using hb
  subst e
  obtain⟨o,e,c,d⟩:=st
  exact⟨o,e,λv z=>by rw[d] at z;cases z⟩
 keep:=λi h h' st k=>st.at λo e=>k it (by simp) o e
 item:=by
  intro X hP hw hK hc i JS s σ H E I hf st hg
  subst hP hw hK
  obtain⟨xs,x,hq,hx⟩:=hg
  obtain⟨JU,rv,p,hz⟩:=I.tuple hq
  obtain⟨u,hu,ru⟩:=rv.get hx
  obtain⟨f0,f1,f2,f3,f4,f5⟩:=hf it (by simp)
  refine wpAny_pyNext_tuple_item st (show s.heap.IsTuple a JU.toArray from p) (x:=u) (by simpa using hu) λh' MO sb=>?_
  have I1:Inv X JS σ H { s with heap:=h' }:=I.turned (t':=s.toks) (λb o hb e=>(sb.2 b hb).trans e) f0 f1 f3 f4 f5
  obtain⟨o,e,c,d⟩:=id MO
  exact⟨u,rfl,x6 (s:={ s with heap:=h' }) e c d (by decide) ⟨x,H,I1,ru,⟨rfl,λys hy=>by rw[I.lM hy hq];exact hx⟩,MO,λb hb=>(hf b hb).1⟩⟩
 done:=by
  intro X hP hw hK hc i JS s σ H E I hf st hg
  subst hP hw hK
  obtain⟨xs,hq,hx⟩:=hg
  obtain⟨JU,rv,p,hz⟩:=I.tuple hq
  obtain⟨f0,f1,f2,f3,f4,f5⟩:=hf it (by simp)
  have hl:=rv.length
  exact wpAny_pyNext_tuple_end (I.ok.hd hc) st (show s.heap.IsTuple a JU.toArray from p) (by simp;omega) λh' eb=>⟨rfl,I.turned (t':=s.toks) (λb o hb e=>eb b o hb e) f0 f1 f3 f4 f5⟩
 self:=λ_ _ _ _ _ st h=>wpAny_pyIter_tupleiter st h
theorem uX{P:Program}{w:World}{K:PySem.W.Frag}{tg:Expr}(it:Addr)(lo:Int)(n:Nat):Turn P w K tg (G3 lo n) [it] it (λi h=>IsRangeIter h it (lo+(i:Nat)*1) ((n:Int)-(i:Nat)) 1) where
 mem:=by simp
 obj:=λi h st b hb=>by
  have e:b=it:=by simpa using hb
  subst e
  exact⟨_,st,λv z=>by
   have z':Data.fields _=Data.cell v:=z
   cases z'⟩
 keep:=λi h h' st k=>k it (by simp) _ st
 item:=by
  intro X hP hw hK hc i JS s σ H E I hf st hg
  subst hP hw hK
  obtain⟨f0,f1,f2,f3,f4,f5⟩:=hf it (by simp)
  have W:=Walks.range (prog:=X.prog) (w:=X.w) (I.ok.hd hc) it lo 1 n
  refine W.item i s _ _ hg st λv h' tk hv MO kk=>?_
  obtain⟨t,rfl⟩:=hv
  have I1:Inv X JS σ H { s with heap:=h',toks:=tk }:=I.turned (λb o hb e=>kk b o (by simpa using hb) e) f0 f1 f3 f4 f5
  refine⟨_,rfl,x6 (s:={ s with heap:=h',toks:=tk }) (n := "range_iterator") MO rfl rfl (by decide) ⟨.int (lo+i),H,I1,⟨t,?_⟩,⟨rfl,rfl⟩,MO,λb hb=>(hf b hb).1⟩⟩
  rw[Int.mul_one]
 done:=by
  intro X hP hw hK hc i JS s σ H E I hf st hg
  subst hP hw hK
  obtain⟨f0,f1,f2,f3,f4,f5⟩:=hf it (by simp)
  exact wpAny_pyNext_range_end (I.ok.hd hc) st (by have:n<=i:=hg;omega) λh' eb=>⟨rfl,I.turned (t':=s.toks) (λb o hb e=>eb b o hb e) f0 f1 f3 f4 f5⟩
 self:=λ_ _ _ _ _ st h=>wpAny_pyIter_rangeiter st h
end L2
namespace L2
open PySem PySem.Spec PyProof.Rows
section
variable{X:Cx}{tg:Expr}
theorem zN{JS:List (Addr×Obj)}{σ:St}{H:Hp}{s:Shared}{R:It->Hp->Prop}{E:Value->Shared->Prop}{lo hi:Int}{t u v:Tok}{tk:Nat}(I:Inv X JS σ H s)(h1:-(2^62)<=lo)(h2:lo<2^62)(h3:-(2^62)<=hi)(h4:hi<2^62)
  (q:R (G3 lo (hi-lo).toNat) H):wpAny (model X.prog X.w) X.A (pyIter (.ref s.heap.objs.size)) (Jn X JS σ tg R) E { s with heap:=s.heap.push { cls:=.type "range", data:=.fields #[.int lo t,.int hi u,.int 1 v] },toks:=tk }:=by
 refine wpAny_pyIter_range (IsRange.new ..) (small_one h1 h2 h3 h4) ?_
 have I1:Inv X JS σ H { s with heap:=s.heap.push { cls:=.type "range", data:=.fields #[.int lo t,.int hi u,.int 1 v] },toks:=tk }:=I.kept λb o e=>Heap.get?_push_of_some _ e
 refine⟨(s.heap.push { cls:=.type "range", data:=.fields #[.int lo t,.int hi u,.int 1 v] }).objs.size,[(s.heap.push { cls:=.type "range", data:=.fields #[.int lo t,.int hi u,.int 1 v] }).objs.size],_,_,H,rfl,
  I1.kept (t':=tk) λb o e=>Heap.get?_push_of_some _ e,uX _ lo (hi-lo).toNat,?_,λb hb=>?_,q⟩
 ·have e1:lo+((0:Nat):Int)*1=lo:=by simp
  have e2:(((hi-lo).toNat:Nat):Int)-((0:Nat):Int)=Builtin.Range.rangeSize lo hi 1:=by rw[rangeSize_one];split <;> omega
  show IsRangeIter _ _ (lo+((0:Nat):Int)*1) ((((hi-lo).toNat:Nat):Int)-((0:Nat):Int)) 1
  rw[e1,e2]
  exact Heap.get?_push_size _ rfl
 ·have e:b=(s.heap.push { cls:=.type "range", data:=.fields #[.int lo t,.int hi u,.int 1 v] }).objs.size:=by simpa using hb
  subst e
  exact I1.sG (Nat.le_refl _) (I1.a_.fresh (Nat.le_refl _))
def Cz(ta:TA):TI:=fun σ H R=>ta σ H λvs H1=>∃ j:Int,vs=[.int j]/\-(2^62)<=j/\j<2^62/\R (G3 0 j.toNat) H1
theorem lH{a:Expr}{ta:TA}{p pos:Pos}(hg:Gl X "range")(hm:X.mg "range" = none)(ha:PA X [a] ta)(hs:starEach [a] X.env=[(false,eval a X.env)]:=by rfl):PI X tg (.Call (.Name "range" p) [a] [] pos) (Cz ta):=by
 intro JS s σ H R I h
 refine Call_ (kl I hg hm boot_range (PyProof.Rows.callWith_type1 (cN (ha pos JS s σ H _ I h) λus s1 ⟨vs,H1,I1,r1,q1⟩=>?_) hs rfl))
 obtain⟨j,e,q1,q2,q⟩:=q1
 subst e
 cases r1 with
 | cons r rr =>
  cases rr
  obtain⟨t,rfl⟩:=r
  exact call_range_1 (zN I1 (by omega) (by omega) q1 q2 (by simpa using q))
def Ip(wi:TI)(g:TG)(tb:TS):TS:=λD σ H=>wi σ H λJ H1=>∃ W:Nat->Nat->St->Hp->Prop,(∃ m,W 0 m σ H1)/\∀ i m σ H,W i m σ H ->
 (J.stop i H/\D.nx σ H)\/(J.go i H/\∃ N:St->Hp->Prop,(∀ σ' H',N σ' H'->∃ m',m'<m/\W (i+1) m' σ' H')/\∀ x H',J.uJ i H x H'->g x σ H' fun σ2 H2=>tb { D with nx:=N,ct:=N,bk:=D.nx } σ2 H2)
def lV(fp:List Addr)(h:Heap):List (Addr×Obj):=fp.filterMap λb=>(h.get? b).map λo=>(b,o)
theorem iH{fp:List Addr}{h:Heap}{b:Addr}{o:Obj}(hb:b∈fp)(e:h.get? b=some o):(b,o)∈lV fp h:=List.mem_filterMap.mpr ⟨b,hb,by rw[e];rfl⟩
theorem xy{fp:List Addr}{h:Heap}{p:Addr×Obj}(hp:p∈lV fp h):p.1∈fp/\h.get? p.1=some p.2:=by
 obtain⟨b,hb,e⟩:=List.mem_filterMap.mp hp
 cases q:h.get? b with
 | none=>rw[q] at e;cases e
 | some o =>
  rw[q] at e
  have e':(b,o)=p:=Option.some.inj e
  subst e'
  exact⟨hb,q⟩
theorem Inv.pinned{JS:List (Addr×Obj)}{σ:St}{H:Hp}{s:Shared}{fp:List Addr}(I:Inv X JS σ H s)(hf:∀ b∈fp,kZ X JS H b)(ho:∀ b∈fp,∃ o,s.heap.get? b=some o/\∀ v,o.data≠.cell v):Inv X (JS++lV fp s.heap) σ H s :=
 I.vy λp hp=>(List.mem_append.mp hp).elim (λz=>I.pin p (List.mem_append_right _ z)) λz=>by
  obtain⟨hb,e⟩:=xy z
  obtain⟨f0,f1,f2,_⟩:=hf p.1 hb
  obtain⟨o,e',d⟩:=ho p.1 hb
  rw[e] at e';cases e'
  exact⟨e,f0,f1,f2,d⟩
theorem Inv.kL{JS pl:List (Addr×Obj)}{σ:St}{H:Hp}{s:Shared}(I:Inv X (JS++pl) σ H s):Inv X JS σ H s:=I.vy λp hp=>I.pin p (List.mem_append_right _ (List.mem_append_left _ hp))
theorem D6{iter:Expr}{body:List Stmt}{wi:TI}{g:TG}{tb:TS}{pos:Pos}(hp:PassesOwn (model X.prog X.w) X.A X.env X.xe)(hc:X.calm=true)(hi:PI X tg iter wi)(hg:PG X tg g)(hb:kf X body tb)
  (hs:∀ x,foldedSetIterable iter X.env x=pure x:=by intro _;rfl):PS X (.For tg iter body [] pos) (Ip wi g tb):=by
 intro JS s σ H D I h
 refine wpAny_For (cN (hi JS s σ H _ I h) λv s1 h1=>cN h1 λitv s2 h2=>?_) hs
 obtain⟨it,fp,tn,J,H2,e,I2,T,MP,f2,W,⟨m0,w0⟩,turn⟩:=h2
 subst e
 have LX:∀ {H':Hp},(∀ b∈fp,H' b=none)->∀ b∈fp,kZ X JS H' b:=λhn b hb=>⟨hn b hb,(f2 b hb).2⟩
 refine codeAny_forLoop_any (λn s'=>∃ i σ' H',Inv X JS σ' H' s'/\tn i s'.heap/\(∀ b∈fp,H' b=none)/\W i n σ' H') ?_ m0 ⟨0,σ,H2,I2,MP,λb hb=>(f2 b hb).1,w0⟩
 rintro n s3 ⟨i,σ3,H3,I3,st3,fr3,w3⟩
 rcases turn i n σ3 H3 w3 with ⟨stop,qn⟩ | ⟨go,N,hN,step⟩
 ·refine wpAny_passesOwn hp (cN (T.done X rfl rfl rfl hc i JS s3 σ3 H3 X.xe I3 (LX fr3) st3 stop) λr s4 ⟨hr,I4⟩=>?_)
  subst hr
  exact wpAny_execs_nil ⟨σ3,H3,I4,qn⟩
 ·refine wpAny_passesOwn hp (cN (T.item X rfl rfl rfl hc i JS s3 σ3 H3 X.xe I3 (LX fr3) st3 go) λr s4 ⟨u,hr,h4⟩=>?_)
  subst hr
  refine wpAny_passesOwn hp (cN h4 λ_ s5 ⟨x,H5,I5,r5,y5,st5,fr5⟩=>?_)
  have I5':=I5.pinned (LX fr5) (T.obj _ _ st5)
  refine wpAny_passesOwn hp (cN (hg _ s5 σ3 H5 x u _ I5' r5 (step x H5 y5)) λ_ s6 ⟨σ6,H6,I6,q6⟩=>?_)
  refine wpAny_passesOwn hp (cN (hb _ s6 σ6 H6 _ I6 q6) λf s7 q7=>?_)
  have again:∀ {σ7:St} {H7:Hp},Inv X (JS++lV fp s5.heap) σ7 H7 s7->N σ7 H7->∃ m,m<n/\∃ i σ' H',Inv X JS σ' H' s7/\tn i s7.heap/\(∀ b∈fp,H' b=none)/\W i m σ' H':=λ{σ7 H7} I7 n7=>by
   obtain⟨m',hm,w7⟩:=hN σ7 H7 n7
   refine⟨m',hm,i+1,σ7,H7,I7.kL,T.keep _ _ _ st5 λb hb o e=>(I7.pin (b,o) (List.mem_append_right _ (List.mem_append_right _ (iH hb e)))).1,λb hb=>?_,w7⟩
   obtain⟨o,e,d⟩:=T.obj _ _ st5 b hb
   exact(I7.pin (b,o) (List.mem_append_right _ (List.mem_append_right _ (iH hb e)))).2.1
  cases f with
  | next=>obtain⟨σ7,H7,I7,n7⟩:=q7;exact again I7 n7
  | cont=>obtain⟨σ7,H7,I7,n7⟩:=q7;exact again I7 n7
  | brk=>obtain⟨σ7,H7,I7,q7⟩:=q7;exact⟨σ7,H7,I7.kL,q7⟩
  | ret v=>obtain⟨x7,σ7,H7,I7,r7,q7⟩:=q7;exact⟨x7,σ7,H7,I7.kL,r7,q7⟩
end
end L2
namespace L2
open PySem PySem.Spec PyProof.Rows
abbrev R2:=V->V->Hp->VK->Prop
def gp(X:Cx)(f:Value->Value->Sem Value)(r:R2):Prop :=
 ∀ (JS:List (Addr×Obj)) (s:Shared) (σ:St) (H:Hp) (x y:V) (v u:Value) (Q:VK),Inv X JS σ H s->RelV x v->RelV y u->r x y H Q ->
  wpAny (model X.prog X.w) X.A (f v u) (EP X JS σ Q) X.xe s
def HC(X:Cx)(f:Value->Sem Value)(r:V->Hp->VK->Prop):Prop :=
 ∀ (JS:List (Addr×Obj)) (s:Shared) (σ:St) (H:Hp) (x:V) (v:Value) (Q:VK),Inv X JS σ H s->RelV x v->r x H Q ->
  wpAny (model X.prog X.w) X.A (f v) (EP X JS σ Q) X.xe s
def cJ(X:Cx)(f:Value)(r:List V->Hp->VK->Prop):Prop :=
 ∀ (JS:List (Addr×Obj)) (s:Shared) (σ:St) (H:Hp) (xs:List V) (us:List Value) (Q:VK),Inv X JS σ H s->Vals xs us->r xs H Q ->
  wpAny (model X.prog X.w) X.A (call f us) (EP X JS σ Q) X.xe s
def GP(r:R2)(ta tb:TE):TE:=fun σ H Q=>ta σ H λx H1=>tb σ H1 λy H2=>r x y H2 Q
def Jm(r:V->Hp->VK->Prop)(ta:TE):TE:=fun σ H Q=>ta σ H λx H1=>r x H1 Q
def rI(C:Int->Int->Prop)(g:Int->Int->V):R2:=λx y H Q=>∃ i j,x=.int i/\y=.int j/\C i j/\Q (g i j) H
def vV(g:Int->Int->V):R2:=λx y H Q=>∃ i j,x=.int i/\y=.int j/\Q (g i j) H
def rU(g:Int->V):V->Hp->VK->Prop:=λx H Q=>∃ i,x=.int i/\Q (g i) H
section
variable{X:Cx}{a b c:Expr}{ta tb tc:TE}{pos:Pos}
theorem EZ(ha:PE X a ta)(hb:PE X b tb){JS:List (Addr×Obj)}{s:Shared}{σ:St}{H:Hp}{R:V->V->Hp->Prop}(I:Inv X JS σ H s)
  (h:ta σ H λx H1=>tb σ H1 λy H2=>R x y H2) {Q:Value->Shared->Prop} {f:Value->Value->Sem Value}
  (hf:∀ v u s2 x y H2,Inv X JS σ H2 s2->RelV x v->RelV y u->R x y H2->wpAny (model X.prog X.w) X.A (f v u) Q X.xe s2) :
  wpAny (model X.prog X.w) X.A (eval a X.env) (λv s₁=>wpAny (model X.prog X.w) X.A (eval b X.env) (λu s₂=>wpAny (model X.prog X.w) X.A (f v u) Q X.xe s₂) X.xe s₁) X.xe s:=by
 refine cN (ha JS s σ H _ I h) λv s1 ⟨x,H1,I1,r1,q1⟩=>?_
 refine cN (hb JS s1 σ H1 _ I1 q1) λu s2 ⟨y,H2,I2,r2,q2⟩=>?_
 exact hf v u s2 x y H2 I2 r1 r2 q2
theorem FD{op:Operator}{r:R2}(ho:gp X (binaryOp op) r)(ha:PE X a ta)(hb:PE X b tb):PE X (.BinOp a op b pos) (GP r ta tb):=by
 intro JS s σ H Q I h
 exact wpAny_BinOp (EZ ha hb I h λv u s2 x y H2 I2 rx ry q=>ho JS s2 σ H2 x y v u Q I2 rx ry q)
theorem Gb{op:UnaryOp}{r:V->Hp->VK->Prop}(ho:HC X (unaryOp op) r)(ha:PE X a ta):PE X (.UnaryOp op a pos) (Jm r ta):=by
 intro JS s σ H Q I h
 exact UnaryOp_ (cN (ha JS s σ H _ I h) λv s1 ⟨x,H1,I1,r1,q1⟩=>ho JS s1 σ H1 x v Q I1 r1 q1)
theorem G2{f:Value->Value->Sem Value}{C:Int->Int->Prop}{g:Int->Int->Int}
  (rule:∀ (i j:Int) (t u:Tok) (s:Shared) (Q:Value->Shared->Prop) (E:Value->Shared->Prop),C i j->Q (.int (g i j) s.toks) { s with toks:=s.toks+1 }->wpAny (model X.prog X.w) X.A (f (.int i t) (.int j u)) Q E s) :
  gp X f (rI C λi j=>.int (g i j)):=by
 intro JS s σ H x y v u Q I rx ry h
 obtain⟨i,j,rfl,rfl,hc,q⟩:=h
 obtain⟨t,rfl⟩:=rx
 obtain⟨t',rfl⟩:=ry
 exact rule i j t t' s _ _ hc ⟨.int (g i j),H,I.tok _,⟨_,rfl⟩,q⟩
theorem Gn{f:Value->Value->Sem Value}{g:Int->Int->Int}
  (rule:∀ (i j:Int) (t u:Tok) (s:Shared) (Q:Value->Shared->Prop) (E:Value->Shared->Prop),Q (.int (g i j) s.toks) { s with toks:=s.toks+1 }->wpAny (model X.prog X.w) X.A (f (.int i t) (.int j u)) Q E s) :
  gp X f (vV λi j=>.int (g i j)):=by
 intro JS s σ H x y v u Q I rx ry h
 obtain⟨i,j,rfl,rfl,q⟩:=h
 obtain⟨t,rfl⟩:=rx
 obtain⟨t',rfl⟩:=ry
 exact rule i j t t' s _ _ ⟨.int (g i j),H,I.tok _,⟨_,rfl⟩,q⟩
theorem AQ{f:Value->Value->Sem Value}{g:Int->Int->Bool}
  (rule:∀ (i j:Int) (t u:Tok) (s:Shared) (Q:Value->Shared->Prop) (E:Value->Shared->Prop),Q (.bool (g i j)) s->wpAny (model X.prog X.w) X.A (f (.int i t) (.int j u)) Q E s) :
  gp X f (vV λi j=>.bl (g i j)):=by
 intro JS s σ H x y v u Q I rx ry h
 obtain⟨i,j,rfl,rfl,q⟩:=h
 obtain⟨t,rfl⟩:=rx
 obtain⟨t',rfl⟩:=ry
 exact rule i j t t' s _ _ ⟨.bl (g i j),H,I,rfl,q⟩
def Dj(i j:Int):Prop:=0<=j/\j<=1000000/\i.natAbs<2^64
theorem E_:gp X (binaryOp .Add) (vV λi j=>.int (i+j)):=Gn λ_ _ _ _ _ _ _ q=>add_int q
theorem EJ:gp X (binaryOp .Sub) (vV λi j=>.int (i-j)):=Gn λ_ _ _ _ _ _ _ q=>sub_int q
theorem BH:gp X (binaryOp .Mod) (rI (λ_ j=>j≠0) λi j=>.int (i.fmod j)):=G2 λ_ _ _ _ _ _ _ hc q=>mod_int' hc q
theorem Dy:gp X (binaryOp .Pow) (rI Dj λi j=>.int (i^j.toNat)):=G2 λ_ _ _ _ _ _ _ hc q=>pow_int_small hc.1 hc.2.1 hc.2.2 q
theorem Jw{f:Value->Sem Value}{g:Int->Int}
  (rule:∀ (i:Int) (t:Tok) (s:Shared) (Q:Value->Shared->Prop) (E:Value->Shared->Prop),Q (.int (g i) s.toks) { s with toks:=s.toks+1 }->wpAny (model X.prog X.w) X.A (f (.int i t)) Q E s) :
  HC X f (rU λi=>.int (g i)):=by
 intro JS s σ H x v Q I rx h
 obtain⟨i,rfl,q⟩:=h
 obtain⟨t,rfl⟩:=rx
 exact rule i t s _ _ ⟨.int (g i),H,I.tok _,⟨_,rfl⟩,q⟩
theorem En:HC X (unaryOp .USub) (rU λi=>.int (-i)):=Jw λ_ _ _ _ _ q=>neg_int q
end
section
variable{X:Cx}{a b c:Expr}{ta tb tc:TE}{pos:Pos}
theorem gE{JS:List (Addr×Obj)}{σ:St}{H:Hp}{s:Shared}{Q:VK}{k k':Bool}(I:Inv X JS σ H s)(q:Q (.bl k) H)(e:k=k'):EP X JS σ Q (.bool k') s:=by
 subst e
 exact⟨.bl k,H,I,rfl,q⟩
theorem yB:gp X (compareOp .Lt) (vV λi j=>.bl (decide (i<j))):=AQ λ_ _ _ _ _ _ _ q=>lt_int q
theorem tM:gp X (compareOp .LtE) (vV λi j=>.bl (decide (i<=j))):=AQ λ_ _ _ _ _ _ _ q=>le_int q
theorem CN:gp X (compareOp .Gt) (vV λi j=>.bl (decide (j<i))):=AQ λ_ _ _ _ _ _ _ q=>gt_int q
theorem Cj:gp X (compareOp .GtE) (vV λi j=>.bl (decide (j<=i))):=AQ λ_ _ _ _ _ _ _ q=>ge_int q
theorem ze:gp X (compareOp .Is) (λx y H Q=>y=.bZ/\Q (.bl (decide (x=.bZ))) H):=by
 intro JS s σ H x y v u Q I rx ry h
 obtain⟨rfl,q⟩:=h
 cases ry
 refine is_none_gen (gE I q ?_)
 cases x <;> first
  | (cases rx;rfl)
  | (obtain⟨t,rfl⟩:=rx;rfl)
theorem gp.or{f:Value->Value->Sem Value}{r r':R2}(h:gp X f r)(h':gp X f r'):gp X f (λx y H Q=>r x y H Q\/r' x y H Q):=by
 intro JS s σ H x y v u Q I rx ry q
 rcases q with q | q
 ·exact h JS s σ H x y v u Q I rx ry q
 ·exact h' JS s σ H x y v u Q I rx ry q
theorem bF(b:Expr){op:CmpOp}(h:op≠.In:=by decide)(h2:op≠.NotIn:=by decide):behindInMarks op b=false:=by
 have e1:(op==CmpOp.In)=false:=by cases op <;> first | rfl | exact absurd rfl h
 have e2:(op==CmpOp.NotIn)=false:=by cases op <;> first | rfl | exact absurd rfl h2
 cases b <;> simp[behindInMarks,e1,e2]
theorem Bk{op:CmpOp}{r:R2}(ho:gp X (compareOp op) r)(ha:PE X a ta)(hb:PE X b tb)(hm:behindInMarks op b=false):PE X (.Compare a [op] [b] pos) (GP r ta tb):=by
 intro JS s σ H Q I h
 exact wpAny_Compare1 (EZ ha hb I h λv u s2 x y H2 I2 rx ry q=>ho JS s2 σ H2 x y v u Q I2 rx ry q) hm
def F2(t:TE):TT:=fun σ H Q=>t σ H λx H'=>∃ k,x=.bl k/\Q k H'
theorem Bt{op:CmpOp}{r:R2}(ho:gp X (compareOp op) r)(ha:PE X a ta)(hb:PE X b tb)(hm:behindInMarks op b=false):PT X (.Compare a [op] [b] pos) (F2 (GP r ta tb)):=by
 intro JS s σ H Q I h
 refine wpAny_isTrue_Compare1 (cN (ha JS s σ H _ I h) λv s1 ⟨x,H1,I1,r1,q1⟩=>cN (hb JS s1 σ H1 _ I1 q1) λu s2 ⟨y,H2,I2,r2,q2⟩ =>
  cN (ho JS s2 σ H2 x y v u _ I2 r1 r2 q2) λc s3 ⟨z,H3,I3,r3,k,e,q3⟩=>?_) hm
 subst e
 cases r3
 exact wpAny_truthy_bool ⟨H3,I3,q3⟩
def ya(r r':R2)(ta tb tc:TE):TE:=fun σ H Q=>ta σ H λx H1=>tb σ H1 λy H2=>r x y H2 λz H3=>∃ k,z=.bl k ∧
 (if k=true then tc σ H3 λw' H4=>r' y w' H4 Q else Q (.bl false) H3)
theorem zD{op MY:CmpOp}{r r':R2}(ho:gp X (compareOp op) r)(LP:gp X (compareOp MY) r')(ha:PE X a ta)(hb:PE X b tb)(hc:PE X c tc)
  (hm:lastMarks [op,MY] [b,c]=false:=by with_unfolding_all rfl):PE X (.Compare a [op,MY] [b,c] pos) (ya r r' ta tb tc):=by
 intro JS s σ H Q I h
 refine Compare_chain (cN (ha JS s σ H _ I h) λv s1 ⟨x,H1,I1,r1,q1⟩=>chain_link (cN (hb JS s1 σ H1 _ I1 q1) λu s2 ⟨y,H2,I2,r2,q2⟩ =>
  cN (ho JS s2 σ H2 x y v u _ I2 r1 r2 q2) λd s3 ⟨z,H3,I3,r3,k,e,q3⟩=>?_)) hm
 subst e
 cases r3
 refine wpAny_truthy_bool ?_
 cases k with
 | false=>exact ite_ff ⟨.bl false,H3,I3,rfl,q3⟩
 | true=>exact ite_tt (chain_last (cN (hc JS s3 σ H3 _ I3 q3) λw' s4 ⟨z',H4,I4,r4,q4⟩=>LP JS s4 σ H4 y z' u w' Q I4 r2 r4 q4))
theorem nK:(sizeLine:Nat)<2^63:=by rw[sizeLine_eq];decide
theorem ue:gp X (binaryOp .Add) (λx y H Q=>∃ i j,x=.str i/\y=.str j/\i.length+j.length<=sizeLine/\Q (.str (i++j)) H):=by
 intro JS s σ H x y v u Q I rx ry h
 obtain⟨i,j,rfl,rfl,hz,q⟩:=h
 obtain⟨t,rfl⟩:=rx
 obtain⟨t',rfl⟩:=ry
 exact add_str (λt' tk=>⟨.str (i++j),H,I.tok _,⟨_,rfl⟩,q⟩) hz
theorem vals1{x:V}{us:List Value}(r:Vals [x] us):∃ u,us=[u]/\RelV x u:=by
 cases r with
 | cons r1 r2=>cases r2;exact⟨_,rfl,r1⟩
theorem vals2{x y:V}{us:List Value}(r:Vals [x,y] us):∃ u w',us=[u,w']/\RelV x u/\RelV y w':=by
 cases r with
 | cons r1 r2 =>
  cases r2 with
  | cons r3 r4=>cases r4;exact⟨_,_,rfl,r1,r3⟩
theorem xw(hc:X.calm=true):cJ X (.builtin "max") (λxs H Q=>∃ i j,xs=[.int i,.int j]/\Q (.int (if j>i then j else i)) H):=by
 intro JS s σ H xs us Q I r h
 obtain⟨i,j,rfl,q⟩:=h
 obtain⟨u,w',rfl,⟨t,rfl⟩,⟨t',rfl⟩⟩:=vals2 r
 refine max_two_ints (I.ok.hd hc) λh' tk k=>⟨_,H,I.kept k,?_,q⟩
 by_cases hj:j>i
 ·rw[if_pos hj,if_pos hj];exact⟨_,rfl⟩
 ·rw[if_neg hj,if_neg hj];exact⟨_,rfl⟩
end
end L2
namespace L2
open PySem PySem.Spec PyProof.Rows
structure uM (h:Heap) (x dx C:Addr) (mA:Str->Option Value):Prop where
 obj:h.get? x=some (PySem.W.instObj C dx)
 ns:h.Ns1 dx mA
 ne:dx≠x
theorem lN{h:Heap}{dx:Addr}{mA:Str->Option Value}(n:h.Ns1 dx mA):∃ od,h.get? dx=some od/\∀ name,PySem.W.lookIn name od=some (mA name):=by
 obtain⟨o,es,ep,ho,hd,hk,_,hm⟩:=n
 refine⟨o,ho,λname=>?_⟩
 have e:=hm name
 unfold nsFind findBy at e
 rw[← Array.find?_toList] at e
 unfold PySem.W.lookIn
 rw[hd]
 dsimp only
 split
 ·rename_i y q
  rw[q] at e
  exact congrArg some e
 ·rename_i q
  rw[q] at e
  have a:es.toList.any (·.refKey)=false:=by
   rw[List.any_eq_false]
   intro y hy
   obtain⟨z,t,hkey⟩:=hk y (Array.mem_toList_iff.mp hy)
   simp[DictEntry.refKey,hkey]
  have a':¬ es.toList.any (·.refKey)=true:=by rw[a];exact Bool.false_ne_true
  rw[if_neg a']
  exact congrArg some e
theorem uM.look{h:Heap}{x dx C:Addr}{mA:Str->Option Value}(I:uM h x dx C mA):∃ od,PySem.W.InstAt h x (PySem.W.instObj C dx) C (some od)/\∀ name,PySem.W.lookIn name od=some (mA name) :=
 let ⟨od,ho,hl⟩:=lN I.ns
 ⟨od,⟨I.obj,rfl,rfl,ho⟩,hl⟩
section
variable{prog:Program}{w:World}{A:Around}{E:Value->Shared->Prop}{s:Shared}{K:PySem.W.Frag}{x dx C f:Addr}{mA:Str->Option Value}{name:Str}{v:Value}
theorem get_map{expr:Bool}{Q:Value->Shared->Prop}(X:K.In s.heap)(I:uM s.heap x dx C mA)(hg:PySem.W.plainGet K C name=true)(hh:PySem.W.hasDictIn K C=true)
  (ha:PySem.W.findIn K (.ref C) name=some none) (hv:mA name=some v) (M7:PySem.W.handedIn v=true) (h:Q v { s with toks:=s.toks+1 }) :
  wpAny (model prog w) A (getAttr (.ref x) name expr) Q E s:=by
 obtain⟨od,J,hl⟩:=I.look
 exact PySem.W.get_value X J (PySem.W.plainGet_of hg).1 (PySem.W.findObj_own hh ha rfl (by rw[hl,hv])) M7 h
theorem zv{pl:Sem Bool}{Q:Value×List Value->Shared->Prop}(X:K.In s.heap)(I:uM s.heap x dx C mA)(hg:PySem.W.plainGet K C name=true)
  (hf:PySem.W.findIn K (.ref C) name=some (some (.ref f))) (ht:PySem.W.isFn K (.ref f)=true) (hv:mA name=none) (h:Q (.ref f,[.ref x]) s) :
  wpAny (model prog w) A (getMethod (.ref x) name pl) Q E s:=by
 obtain⟨od,J,hl⟩:=I.look
 exact PySem.W.method_fn X J (PySem.W.plainGet_of hg).1 (PySem.W.plainGet_of hg).2 hf (beq_iff_eq.mp ht) (by show (PySem.W.lookIn name od).map (·.isSome)=some false;rw[hl,hv];rfl) h
theorem Ci{ns:List Str}{Q:Unit->Shared->Prop}(X:K.In s.heap)(I:uM s.heap x dx C mA)
  (hs:PySem.W.findIn K (.ref C) "__setattr__" = some (some (.builtin "object.__setattr__"))) (hp:PySem.W.plainOver K C=true) (ht:PySem.W.takerIn K C name=some none) (hh:PySem.W.hasDictIn K C=true)
  (hw:PySem.Within mA ns) (Lq:ns.length<=sizeLine)
  (h:∀ h',uM h' x dx C (λy=>if y=name then some v else mA y)->Heap.SameBut dx s.heap h'->Q () { s with heap:=h',toks:=s.toks+2 }) :
  wpAny (model prog w) A (setAttr (.ref x) name v) Q E s:=by
 obtain⟨od,J,hl⟩:=I.look
 refine PySem.W.set_plain X J hs (PySem.W.osa_open (s:={ s with toks:=s.toks+1 }) (r:=none) X J hp ht λb=>?_)
 obtain⟨cd,hc,Ni⟩:=PySem.W.any_some hh
 have hx:s.heap.get? x=some ⟨.ref C,some dx,.plain,#[]⟩:=I.obj
 refine wpAny_bind (wpAny_pure (wpAny_bind (wpAny_bind (wpAny_loadPart hx (wpAny_bind (PySem.W.Looks.here (s:={ s with toks:=s.toks+1 }) (PySem.W.looks_clsIn X hc) ?_))))))
 rw[Ni]
 refine wpAny_pure (a:=some dx) (wpAny_bind (wpAny_pure (wpAny_bind ?_)))
 refine wpAny_nsSet1 (s:={ s with toks:=s.toks+1 }) I.ns λh' MG LH=>?_
 obtain⟨oD,esD,epD,hoD,hdD,Mh⟩:=MG.count (PySem.Within.cons name v hw)
 refine wpAny_bind (wpAny_lookBehind hoD (by rw[hdD];exact pastItsLine_dict (Nat.le_trans Mh (by rw[List.length_cons];omega))) ?_)
 exact wpAny_pure (h _ ⟨(LH.2 _ (Ne.symm I.ne)).trans I.obj,MG,I.ne⟩ LH)
theorem Aj{R:Result->Shared->Prop}{vs:List Value}{kw:List (Str×Value)}(X:K.In s.heap)(hm:PySem.W.makesIn K C=true)
  (hi:PySem.W.findIn K (.ref C) "__init__" = some (some (.ref f))) (hf:PySem.W.typeIn K (.ref f)=some (.type "function"))
  (h:codeAny (model prog w) (A.under (.builtin "type.__call__" ⟨.ref C::vs,kw⟩)) (.call (.ref f) ⟨.ref (s.heap.objs.size+1)::vs,kw⟩) (PySem.W.InitBack (s.heap.objs.size+1) R)
   { s with heap:=(s.heap.push PySem.W.emptyDict).push (PySem.W.instObj C s.heap.objs.size) }) :
  codeAny (model prog w) A (.call (.ref C) ⟨vs,kw⟩) R s:=by
 obtain⟨hh,g,d,t,os⟩:=s
 exact PySem.W.make_core (PySem.W.makes_of X hm) (PySem.W.looks_findIn X hi) (λself=>PySem.W.bind_fn X self hf) (.inl rfl) h
theorem xD{R:Result->Shared->Prop}(X:K.In s.heap)(hm:PySem.W.makesIn K C=true)
  (hi:PySem.W.findIn K (.ref C) "__init__" = some (some (.builtin "object.__init__")))
  (hb:∀ self,PySem.W.Looks (model prog w) s.heap (bindSpecial (.builtin "object.__init__") self) (.builtin "object.__init__", [self]))
  (h:codeAny (model prog w) (A.under (.builtin "type.__call__" ⟨[.ref C],[]⟩)) (.call (.builtin "object.__init__") ⟨[.ref (s.heap.objs.size+1)],[]⟩) (PySem.W.InitBack (s.heap.objs.size+1) R)
   { s with heap:=(s.heap.push PySem.W.emptyDict).push (PySem.W.instObj C s.heap.objs.size) }) :
  codeAny (model prog w) A (.call (.ref C) ⟨[],[]⟩) R s:=by
 obtain⟨hh,g,d,t,os⟩:=s
 exact PySem.W.make_core (PySem.W.makes_of X hm) (PySem.W.looks_findIn X hi) hb (.inr ⟨rfl,rfl⟩) h
end
def i7(f:Str)(v:V):List (Str×V)->List (Str×V)
 | []=>[(f,v)]
 | (g,x)::r=>if g=f then (g,v)::r else (g,x)::i7 f v r
theorem mi(f g:Str)(v:V):∀ fs:List (Str×V),(i7 f v fs).lookup g=if g=f then some v else fs.lookup g
 | []=>by
  show List.lookup g [(f,v)]=_
  by_cases h:g=f
  ·have hb:(g==f)=true:=beq_iff_eq.mpr h
   simp only[List.lookup,hb,if_pos h]
  ·have hb:(g==f)=false:=beq_eq_false_iff_ne.mpr h
   simp only[List.lookup,hb,if_neg h]
 | (k,x)::r=>by
  have ih:=mi f g v r
  rw[show i7 f v ((k,x)::r)=(if k=f then (k,v)::r else (k,x)::i7 f v r) from rfl]
  by_cases hk:k=f
  ·rw[if_pos hk]
   by_cases h:g=k
   ·have hb:(g==k)=true:=beq_iff_eq.mpr h
    simp only[List.lookup,hb,if_pos (h.trans hk)]
   ·have hb:(g==k)=false:=beq_eq_false_iff_ne.mpr h
    simp only[List.lookup,hb,if_neg (λe:g=f=>h (e.trans hk.symm))]
  ·rw[if_neg hk]
   by_cases h:g=k
   ·have hb:(g==k)=true:=beq_iff_eq.mpr h
    simp only[List.lookup,hb,if_neg (λe:g=f=>hk (h.symm.trans e))]
   ·have hb:(g==k)=false:=beq_eq_false_iff_ne.mpr h
    simp only[List.lookup,hb]
    exact ih
theorem lQ(f:Str)(v:V):∀ fs:List (Str×V),f∈(i7 f v fs).map (·.1)/\∀ g,g∈fs.map (·.1)->g∈(i7 f v fs).map (·.1)
 | []=>⟨by simp[i7],λg h=>by simp at h⟩
 | (k,x)::r=>by
  obtain⟨i1,i2⟩:=lQ f v r
  rw[show i7 f v ((k,x)::r)=(if k=f then (k,v)::r else (k,x)::i7 f v r) from rfl]
  by_cases hk:k=f
  ·rw[if_pos hk]
   subst hk
   exact⟨by simp,λg h=>by simpa using h⟩
  ·rw[if_neg hk]
   refine⟨?_,λg h=>?_⟩
   ·rw[List.map_cons]
    exact List.mem_cons_of_mem _ i1
   ·rw[List.map_cons] at h ⊢
    rcases List.mem_cons.mp h with e | e
    ·exact List.mem_cons.mpr (.inl e)
    ·exact List.mem_cons_of_mem _ (i2 g e)
theorem lW(f:Str)(v:V):∀ fs:List (Str×V),(i7 f v fs).length<=fs.length+1
 | []=>by simp[i7]
 | (k,x)::r=>by
  have ih:=lW f v r
  rw[show i7 f v ((k,x)::r)=(if k=f then (k,v)::r else (k,x)::i7 f v r) from rfl]
  by_cases hk:k=f
  ·rw[if_pos hk,List.length_cons,List.length_cons];omega
  ·rw[if_neg hk,List.length_cons,List.length_cons];omega
theorem lq.some_of{v:V}{o:Option Value}(r:lq (some v) o):∃ u,o=some u/\RelV v u:=by
 cases o with
 | none=>exact(show False from r).elim
 | some u=>exact⟨u,rfl,r⟩
theorem lq.none_of{o:Option Value}(r:lq none o):o=none:=by
 cases o with
 | none=>rfl
 | some u=>exact(show False from r).elim
theorem xi{v:V}{u:Value}(r:RelV v u):PySem.W.handedIn u=true:=by
 cases v with
 | bZ=>cases (show u=Value.none from r);rfl
 | bl b=>cases (show u=Value.bool b from r);rfl
 | int i=>obtain⟨t,e⟩:=(show ∃ t,u=Value.int i t from r);cases e;rfl
 | str x=>obtain⟨t,e⟩:=(show ∃ t,u=Value.str x t from r);cases e;rfl
 | byt b=>obtain⟨t,e⟩:=(show ∃ t,u=Value.bytes b t from r);cases e;rfl
 | CH b=>obtain⟨t,e⟩:=(show ∃ t,u=Value.float b t from r);cases e;rfl
 | ref a=>cases (show u=Value.ref a from r);rfl
 | ty n=>cases (show u=Value.type n from r);rfl
section
variable{P:Program}{w:World}{H H':Hp}{h h':Heap}{a C dx:Addr}{fs MK:List (Str×V)}
theorem kS(a_:lh P w H h)(e:H a=some (.ins C dx fs)):∃ mA,uM h a dx C mA/\(∀ f,lq (fs.lookup f) (mA f))/\PySem.Within mA (fs.map (·.1))/\fs.length<=1000/\H dx=some (.own a):=by
 obtain⟨d,z,ne,ob,mA,n,r,q⟩:=(show bC P w H h a (.ins C dx fs) from a_ a _ e)
 exact⟨mA,⟨ob,n,ne⟩,r,q,z,d⟩
end
structure ko (K:PySem.W.Frag) (C:Addr):Prop where
 pg:PySem.W.plainGet K C Str.empty=true
 hd:PySem.W.hasDictIn K C=true
 po:PySem.W.plainOver K C=true
 sa:PySem.W.findIn K (.ref C) "__setattr__" = some (some (.builtin "object.__setattr__"))
theorem ko.get{K:PySem.W.Frag}{C:Addr}(c:ko K C)(f:Str):PySem.W.plainGet K C f=true:=c.pg
def bQ(K:PySem.W.Frag)(C:Addr)(f:Str):Prop:=PySem.W.findIn K (.ref C) f=some none
theorem bQ.CW{K:PySem.W.Frag}{C:Addr}{f:Str}(n:bQ K C f):PySem.W.takerIn K C f=some none:=by
 unfold PySem.W.takerIn
 rw[show PySem.W.findIn K (.ref C) f=some none from n]
 rfl
structure Meth (K:PySem.W.Frag) (C:Addr) (m:Str) (f:Addr):Prop where
 at_:PySem.W.findIn K (.ref C) m=some (some (.ref f))
 fn:PySem.W.isFn K (.ref f)=true
 kp:PySem.W.keepIn K (.ref f)=true
section
variable{X:Cx}{JS:List (Addr×Obj)}{σ:St}{H:Hp}{s:Shared}{a C dx:Addr}{fs:List (Str×V)}{f:Str}{v:V}{A:Around}{E:Value->Shared->Prop}
theorem um{b:Bool}{Q:Value->Shared->Prop}(I:Inv X JS σ H s)(e:H a=some (.ins C dx fs))(c:ko X.K C)(n:bQ X.K C f)(l:fs.lookup f=some v)
  (h:∀ u s',Inv X JS σ H s'->RelV v u->Q u s'):wpAny (model X.prog X.w) A (getAttr (.ref a) f b) Q E s:=by
 obtain⟨mA,O,r,_,_,_⟩:=kS I.a_ e
 obtain⟨u,hu,ru⟩:=lq.some_of (v:=v) (o:=mA f) (by rw[← l];exact r f)
 exact get_map I.ir O (c.get f) c.hd n hu (xi ru) (h u _ (I.tok _) ru)
theorem ke{m:Str}{g:Addr}{pl:Sem Bool}{Q:Value×List Value->Shared->Prop}(I:Inv X JS σ H s)(e:H a=some (.ins C dx fs))(c:ko X.K C)(k:Meth X.K C m g)(l:fs.lookup m=none)
  (h:Q (.ref g,[.ref a]) s):wpAny (model X.prog X.w) A (getMethod (.ref a) m pl) Q E s:=by
 obtain⟨mA,O,r,_,_,_⟩:=kS I.a_ e
 have hn:mA m=none:=lq.none_of (by rw[← l];exact r m)
 exact zv I.ir O (c.get m) k.at_ k.fn hn h
theorem u6{y:V}{u:Value}{Q:Unit->Shared->Prop}(I:Inv X JS σ H s)(e:H a=some (.ins C dx fs))(c:ko X.K C)(n:bQ X.K C f)(hl:fs.length<1000)(ry:RelV y u)
  (h:∀ s',Inv X JS σ (upd H a (.ins C dx (i7 f y fs))) s'->Q () s'):wpAny (model X.prog X.w) A (setAttr (.ref a) f u) Q E s:=by
 obtain⟨mA,O,r,wi,_,ho⟩:=kS I.a_ e
 have hz:(fs.map (·.1)).length<=sizeLine:=by rw[List.length_map,sizeLine_eq];omega
 refine Ci I.ir O c.sa c.po n.CW c.hd wi hz λh' O' sb=>h _ ?_
 have hd:∃ o,h'.get? dx=some o:=let ⟨o,_,_,e',_⟩:=O'.ns;⟨o,e'⟩
 refine I.write (x:=a) (e:=dx) (by rw[e];exact True.intro) (.inr ho) (λb q hb z=>(sb.2 b hb).trans z) hd ?_
 refine⟨by rw[au O.ne];exact ho,?_,O.ne,O'.obj,_,O'.ns,λg=>?_,λg hg=>?_⟩
 ·have:=lW f y fs;omega
 ·show lq ((i7 f y fs).lookup g) (if g=f then some u else mA g)
  rw[mi]
  by_cases q:g=f
  ·rw[if_pos q,if_pos q];exact ry
  ·rw[if_neg q,if_neg q];exact r g
 ·by_cases q:g=f
  ·rw[q];exact(lQ f y fs).1
  ·refine(lQ f y fs).2 g (wi g λz=>hg ?_)
   show (if g=f then some u else mA g)=none
   rw[if_neg q];exact z
theorem Inv.made(I:Inv X JS σ H s):Inv X JS σ (upd (upd H s.heap.objs.size (.own (s.heap.objs.size+1))) (s.heap.objs.size+1) (.ins C s.heap.objs.size []))
  { s with heap:=(s.heap.push PySem.W.emptyDict).push (PySem.W.instObj C s.heap.objs.size) }:=by
 have e1:(s.heap.push PySem.W.emptyDict).get? s.heap.objs.size=some PySem.W.emptyDict:=Heap.get?_push_size s.heap rfl
 have e2:((s.heap.push PySem.W.emptyDict).push (PySem.W.instObj C s.heap.objs.size)).get? (s.heap.objs.size+1)=some (PySem.W.instObj C s.heap.objs.size):=by
  have:=Heap.get?_push_size (s.heap.push PySem.W.emptyDict) (o:=PySem.W.instObj C s.heap.objs.size) rfl
  rwa [Heap.size_push] at this
 have e3:(s.heap.push PySem.W.emptyDict).Ns s.heap.objs.size (λ_=>none):=⟨PySem.W.emptyDict,#[],_,e1,rfl,(λe he=>absurd he (by simp)),λ_=>rfl⟩
 have I1:=I.laid (a:=s.heap.objs.size) (o:=.own (s.heap.objs.size+1)) (h':=s.heap.push PySem.W.emptyDict) (t':=s.toks) (λb u q=>Heap.get?_push_of_some _ q) (Nat.le_refl _) ⟨_,e1⟩
 refine I1.laid (a:=s.heap.objs.size+1) (o:=.ins C s.heap.objs.size []) (t':=s.toks) (λb u q=>Heap.get?_push_of_some _ q) (Nat.le_of_eq (Heap.size_push _ _)) ?_
 have ne:s.heap.objs.size≠s.heap.objs.size+1:=Nat.ne_of_lt (Nat.lt_succ_self _)
 refine⟨by rw[au ne,az],Nat.zero_le _,ne,e2,λ_=>none,(Heap.Ns1.of_empty e3).at λo q=>Heap.get?_push_of_some _ q,λ_=>True.intro,λy hy=>absurd rfl hy⟩
theorem Ce{prog:Program}{w:World}{env:Env}{e:Expr}{f:Str}{pos:Pos}{s:Shared}{Q:Value->Shared->Prop}(hb:attributeBase e f env (eval e env)=eval e env)
  (h:wpAny (model prog w) A (eval e env) (λo s₁=>wpAny (model prog w) A (getAttr o f true) Q E s₁) E s):wpAny (model prog w) A (eval (.Attribute e f pos) env) Q E s :=
 Attribute_any_ h (by rw[arm_eval_Attribute,hb])
end
def Hz(K:PySem.W.Frag)(ta:TE)(f:Str):TE:=fun σ H Q=>ta σ H λx H1=>∃ a C dx fs v,x=.ref a/\H1 a=some (.ins C dx fs)/\ko K C/\bQ K C f/\fs.lookup f=some v/\Q v H1
def IQ(K:PySem.W.Frag)(ta tv:TE)(f:Str):TS:=λD σ H=>tv σ H λy H1=>ta σ H1 λx H2=>∃ a C dx fs,x=.ref a/\H2 a=some (.ins C dx fs)/\ko K C/\bQ K C f/\fs.length<1000 ∧
 D.nx σ (upd H2 a (.ins C dx (i7 f y fs)))
section
variable{X:Cx}{o e value:Expr}{f:Str}{pos pos' tpos:Pos}{ta tv:TE}
theorem DW(he:PE X e ta)(hb:attributeBase e f X.env (eval e X.env)=eval e X.env):PE X (.Attribute e f pos) (Hz X.K ta f):=by
 intro JS s σ H Q I h
 refine Ce hb (cN (he JS s σ H _ I h) λu s1 ⟨x,H1,I1,rx,a,C,dx,fs,v,ex,ea,c,n,l,q⟩=>?_)
 subst ex
 obtain rfl:u=Value.ref a:=rx
 exact um I1 ea c n l λu' s2 I2 ru=>⟨v,H1,I2,ru,q⟩
theorem EN(ha:PE X o ta)(hv:PE X value tv)(hs:swapsWith value (some (.Attribute o f pos')) pos.line X.env=pure false):PS X (.Assign [.Attribute o f pos'] value pos) (IQ X.K ta tv f):=by
 intro JS s σ H D I h
 refine plainObj_wpAny_Assign_Attribute (cN (hv JS s σ H _ I h) λu s1 ⟨y,H1,I1,ry,q⟩=>cN (ha JS s1 σ H1 _ I1 q) λov s2 ⟨x,H2,I2,rx,a,C,dx,fs,ex,ea,c,n,l,q2⟩=>?_) hs
 subst ex
 obtain rfl:ov=Value.ref a:=rx
 exact u6 I2 ea c n l ry λs3 I3=>⟨σ,_,I3,q2⟩
end
section
variable{X:Cx}{JS:List (Addr×Obj)}{σ:St}{H:Hp}{s:Shared}{A:Around}{E:Value->Shared->Prop}{Q:Value->Shared->Prop}{c:Value}{b:Bool}
inductive i5 (K:PySem.W.Frag) (H:Hp):V->Value->Prop where
 | bZ:i5 K H .bZ (.type "NoneType")
 | bl (x:Bool):i5 K H (.bl x) (.type "bool")
 | int (i:Int):i5 K H (.int i) (.type "int")
 | str (x:Str):i5 K H (.str x) (.type "str")
 | CH (x:UInt64):i5 K H (.CH x) (.type "float")
 | lst {a:Addr} {xs:List V} (e:H a=some (.lst xs)):i5 K H (.ref a) (.type "list")
 | pA {a:Addr} {o:Obj} {xs:List V} (e:H a=some (.pA o (.lst xs))):i5 K H (.ref a) (.type "list")
 | tup {a:Addr} {xs:List V} (e:H a=some (.tup xs)):i5 K H (.ref a) (.type "tuple")
 | dK {a:Addr} {KW:List (Key×V)} (e:H a=some (.dK KW)):i5 K H (.ref a) (.type "dict")
 | dT {a:Addr} {KW:List (List Key×V)} (e:H a=some (.dT KW)):i5 K H (.ref a) (.type "dict")
 | ins {a C dx:Addr} {fs:List (Str×V)} (e:H a=some (.ins C dx fs)) (cl:ko K C) (ha:PySem.W.findIn K (.ref C) "__class__" = some (some (.builtin "object.__class__")))
   (hn:PySem.W.specialIn K (.builtin "object.__class__") "__get__" = some (some (.builtin "getset_descriptor.__get__"))) (Ft:PySem.W.takesIn K (.builtin "object.__class__")=some true)
   (hm:PySem.W.mroIn K C (.type "object")=some true):i5 K H (.ref a) (.ref C)
theorem qf{x:V}{u t:Value}(I:Inv X JS σ H s)(rx:RelV x u)(ty:i5 X.K H x t)(e:PySem.W.kitOne X.K t c=some b)(h:∀ tk,Q (.bool b) { s with toks:=tk }) :
  wpAny (model X.prog X.w) A (call (.builtin "isinstance") [u,c]) Q E s:=by
 cases ty with
 | bZ=>cases (show u=Value.none from rx);exact PySem.W.kia_one PySem.W.kitx_none I.ir True.intro e (λz=>nomatch z) h
 | bl y=>cases (show u=Value.bool y from rx);exact PySem.W.kia_one PySem.W.kitx_bool I.ir True.intro e (λz=>nomatch z) h
 | int i=>obtain⟨t,q⟩:=(show ∃ t,u=Value.int i t from rx);cases q;exact PySem.W.kia_one PySem.W.kitx_int I.ir True.intro e (λz=>nomatch z) h
 | str y=>obtain⟨t,q⟩:=(show ∃ t,u=Value.str y t from rx);cases q;exact PySem.W.kia_one PySem.W.kitx_str I.ir True.intro e (λz=>nomatch z) h
 | CH y=>obtain⟨t,q⟩:=(show ∃ t,u=Value.float y t from rx);cases q;exact PySem.W.kia_one PySem.W.kitx_float I.ir True.intro e (λz=>nomatch z) h
 | @lst a xs ea =>
  cases (show u=Value.ref a from rx)
  obtain⟨_,_,n,_,h1⟩:=(show bC X.prog X.w H s.heap a (.lst xs) from I.a_ a _ ea)
  exact PySem.W.kia_one PySem.W.kitx_list I.ir ⟨_,h1,rfl⟩ e (λz=>nomatch z) h
 | @pA a ob xs ea =>
  cases (show u=Value.ref a from rx)
  obtain⟨_,_,_,n,_,h1⟩:=(show bC X.prog X.w H s.heap a (.pA ob (.lst xs)) from I.a_ a _ ea)
  exact PySem.W.kia_one PySem.W.kitx_list I.ir ⟨_,h1,rfl⟩ e (λz=>nomatch z) h
 | @tup a xs ea =>
  cases (show u=Value.ref a from rx)
  obtain⟨_,_,_,p⟩:=(show bC X.prog X.w H s.heap a (.tup xs) from I.a_ a _ ea)
  obtain⟨o,h1,h2,_⟩:=p
  exact PySem.W.kia_one PySem.W.kitx_tuple I.ir ⟨o,h1,h2⟩ e (λz=>nomatch z) h
 | @dK a KW ea =>
  cases (show u=Value.ref a from rx)
  obtain⟨_,_,vs,_,p⟩:=(show bC X.prog X.w H s.heap a (.dK KW) from I.a_ a _ ea)
  obtain⟨o,es,ep,h1,h2,_⟩:=p
  exact PySem.W.kia_one PySem.W.kitx_dict I.ir ⟨o,h1,h2.1⟩ e (λz=>nomatch z) h
 | @dT a KW ea =>
  cases (show u=Value.ref a from rx)
  obtain⟨_,_,xs,_,o,es,ep,h1,h2,_⟩:=(show bC X.prog X.w H s.heap a (.dT KW) from I.a_ a _ ea)
  exact PySem.W.kia_one PySem.W.kitx_dict I.ir ⟨o,h1,h2.1⟩ e (λz=>nomatch z) h
 | @ins a C dx fs ea cl ha hn Ft hm =>
  cases (show u=Value.ref a from rx)
  obtain⟨mA,O,_⟩:=kS I.a_ ea
  obtain⟨od,J,_⟩:=O.look
  exact PySem.W.kia_one (PySem.W.kitx_own (cl.get _) cl.hd ha hn Ft hm) I.ir J e (λz=>nomatch z) h
end
end L2
namespace L2
open PySem PySem.Spec PyProof.Rows
structure bN (k:Nat) (A:Around):Prop where
 hd:A.handled=none
 dp:A.depth+3*k+5<recursionLimit
 un:A.units+16*k+200<cLine
theorem bN.mono{j k:Nat}{A:Around}(r:bN k A)(h:j<=k):bN j A:=⟨r.hd,by have:=r.dp;omega,by have:=r.un;omega⟩
theorem bN.deeper{k:Nat}{A:Around}(r:bN (k+1) A)(env:Env):bN k (A.deeper env) :=
 ⟨r.hd,by have:=r.dp;show A.depth+1+3*k+5<_;omega,by have:=r.un;show A.units+3+16*k+200<_;omega⟩
theorem t8{A:Around}{C:Addr}{us:List Value}{kw:List (Str×Value)}:(A.under (.builtin "type.__call__" ⟨.ref C::us,kw⟩)).depth=A.depth+1:=by
 first | rfl | simp[Around.under,Code.weight,Code.isCreation,Code.isGuard,Code.isCaller,Code.frames,Code.isFrame,guardIds]
theorem ur{A:Around}{C:Addr}{us:List Value}{kw:List (Str×Value)}:(A.under (.builtin "type.__call__" ⟨.ref C::us,kw⟩)).units=A.units+1:=by
 first | rfl | simp[Around.under,Code.cUnits,Code.frames,Code.isFrame]
theorem bN.make{k:Nat}{A:Around}(r:bN (k+1) A)(C:Addr)(us:List Value)(kw:List (Str×Value)):bN k (A.under (.builtin "type.__call__" ⟨.ref C::us,kw⟩)) :=
 ⟨r.hd,by have:=r.dp;rw[t8];omega,by have:=r.un;rw[ur];omega⟩
theorem bN.depth{k:Nat}{A:Around}(r:bN k A):A.depth<recursionLimit:=by have:=r.dp;omega
theorem bN.units{k:Nat}{A:Around}(r:bN k A):A.units+64<cLine:=by have:=r.un;omega
def GH:TA:=λ_ H Q=>Q [] H
def Fv(ta:TE)(tr:TA):TA:=fun σ H Q=>ta σ H λx H1=>tr σ H1 λxs H2=>Q (x::xs) H2
section
variable{X:Cx}{e:Expr}{es:List Expr}{te:TE}{t:TA}{pos:Pos}
theorem lE:PA X [] GH:=λ_ _ _ _ H Q I h=>Calls.spliced_nil ⟨[],H,I,.nil,h⟩
theorem e7(ha:PE X e te)(hr:PA X es t)(hs:starEach (e::es) X.env=(false,eval e X.env)::starEach es X.env:=by rfl):PA X (e::es) (Fv te t):=by
 intro pos JS s σ H Q I h
 rw[hs]
 show wpAny _ _ (spliced ((false,eval e X.env)::backTo pos (starEach es X.env))) _ _ s
 refine Calls.spliced_cons (cN (ha JS s σ H _ I h) λu s1 ⟨x,H1,I1,r1,q1⟩=>?_)
 exact cN (hr pos JS s1 σ H1 _ I1 q1) λus s2 ⟨xs,H2,I2,r2,q2⟩=>⟨x::xs,H2,I2,.cons r1 r2,q2⟩
def Hr(t:TA):TE:=fun σ H Q=>t σ H λxs H1=>xs.length<=sizeLine/\∀ p,H1 p=none->Q (.ref p) (upd H1 p (.tup xs))
def HG(t:TA):TE:=fun σ H Q=>t σ H λxs H1=>xs.length<=sizeLine/\∀ p,H1 p=none->Q (.ref p) (upd H1 p (.lst xs))
theorem yF{x1}(h:PA X es t):PE X (.Tuple es x1 pos) (Hr t):=by
 intro JS s σ H Q I hq
 refine wpAny_Tuple_spliced (cN (h pos JS s σ H _ I hq) λus s1 ⟨xs,H1,I1,r,z,q⟩=>⟨by rw[← r.length];exact z,?_⟩)
 have hf:H1 s1.heap.objs.size=none:=I1.a_.fresh (Nat.le_refl _)
 refine⟨.ref s1.heap.objs.size,upd H1 s1.heap.objs.size (.tup xs),I1.laid (t':=s1.toks) (λb u e=>Heap.get?_push_of_some _ e) (Nat.le_refl _) ?_,rfl,q _ hf⟩
 exact⟨z,us,r,⟨_,Heap.get?_push_size _ rfl,rfl,_,rfl⟩⟩
theorem yC(h:PA X es t):PE X (.List es pos) (HG t):=by
 intro JS s σ H Q I hq
 refine wpAny_List_spliced (cN (h pos JS s σ H _ I hq) λus s1 ⟨xs,H1,I1,r,z,q⟩=>⟨by rw[← r.length];exact z,?_⟩)
 have hf:H1 s1.heap.objs.size=none:=I1.a_.fresh (Nat.le_refl _)
 refine⟨.ref s1.heap.objs.size,upd H1 s1.heap.objs.size (.lst xs),I1.laid (t':=s1.toks) (λb u e=>Heap.get?_push_of_some _ e) (Nat.le_refl _) ?_,rfl,q _ hf⟩
 exact⟨z,us,0,r,Heap.get?_push_size _ rfl⟩
end
abbrev Sp:=List V->Hp->VK->XK->Prop
abbrev AV:=List Env->Hp->Shared->XK->Value->Shared->Prop
structure vd (P:Program) (w:World) (K:PySem.W.Frag) (mg:Str->Option Value) (base:Heap) (A:Around) (outer:List Env) (s:Shared) (H:Hp):Prop where
 frames:A.frames=some outer
 mod:Mod K mg base
 bs:∀ b o,base.get? b=some o->s.heap.get? b=some o/\H b=none
 z7:base.objs.size<=s.heap.objs.size
 kj:s.heap.FunFrames base outer
 Aw:∀ b∈t5 outer,H b=none
 a_:lh P w H s.heap
 bare:AllBare s.gens
def CE(outer:List Env)(P:Program)(w:World)(H:Hp)(s:Shared)(Q:VK)(u:Value)(s':Shared):Prop :=
 ∃ v H',s'.os=s.os/\AllBare s'.gens/\Un (t5 outer) [] H H' s.heap s'.heap/\lh P w H' s'.heap/\RelV v u/\Q v H'
def CR(CX:AV)(outer:List Env)(P:Program)(w:World)(H:Hp)(s:Shared)(Q:VK)(E:XK)(r:Result)(s':Shared):Prop :=
 match r with
 | .ok (.ret u)=>CE outer P w H s Q u s'
 | .ok _=>False
 | .error e=>CX outer H s E e s'
structure aF (P:Program) (w:World) (K:PySem.W.Frag) (mg:Str->Option Value) (base:Heap) (CX:AV) (k:Nat) (f:Addr) (fd:FuncData) (ps:List Str) (sp:Sp):Prop where
 len:∀ vs H Q E,sp vs H Q E->vs.length=ps.length
 run:∀ (A:Around) (outer:List Env) (s:Shared) (H:Hp) (args:Args) (us:List Value) (vs:List V) (Q:VK) (E:XK),bN k A->vd P w K mg base A outer s H->BindsTo s fd args (ps.zip us)->Vals vs us->sp vs H Q E ->
  codeAny (model P w) A (.call (.ref f) args) (CR CX outer P w H s Q E) s
theorem vd.make{P:Program}{w:World}{K:PySem.W.Frag}{mg:Str->Option Value}{base:Heap}{A:Around}{outer:List Env}{s:Shared}{H:Hp}(e:vd P w K mg base A outer s H)(C:Addr)(us:List Value)(kw:List (Str×Value)) :
  vd P w K mg base (A.under (.builtin "type.__call__" ⟨.ref C::us,kw⟩)) outer s H:=⟨by first | exact e.frames | (simpa [Around.under,Code.envs,Code.isFrame,pushEnvs] using e.frames),e.mod,e.bs,e.z7,e.kj,e.Aw,e.a_,e.bare⟩
section
variable{X:Cx}{JS:List (Addr×Obj)}{σ:St}{H:Hp}{s s':Shared}
theorem Inv.ki(I:Inv X JS σ H s):vd X.prog X.w X.K X.mg X.base X.A X.stack s H :=
 ⟨I.ok.frames,I.ok.mod,I.bs,Nat.le_trans I.ok.z7 I.sz,I.stack,I.qy,I.a_,I.bare⟩
theorem Inv.after{Q:VK}{u:Value}(I:Inv X JS σ H s)(h:CE X.stack X.prog X.w H s Q u s'):EP X JS σ Q u s':=by
 obtain⟨v,H',os,bare,un,a_,r,q⟩:=h
 obtain⟨hh,g,d,t,os'⟩:=s'
 obtain rfl:os'=s.os:=os
 exact⟨v,H',I.call (h':=hh) (g':=g) (d':=d) (t':=t) (ch:=[]) un a_ bare (λb z=>absurd z (by simp)),r,q⟩
end
def Binds(K:PySem.W.Frag)(fd:FuncData)(ps:List Str)(ds:List Value):Prop :=
 ∀ (s:Shared) (us:List Value),K.In s.heap->(us++ds).length=ps.length->BindsTo s fd ⟨us,[]⟩ (ps.zip (us++ds))
theorem Binds.all{K:PySem.W.Frag}{fd:FuncData}{ps:List Str}(h:∀ us:List Value,us.length=ps.length->bindArgs fd ⟨us,[]⟩=pure (ps.zip us)):Binds K fd ps []:=λs us _ hl=>by
 rw[List.append_nil] at hl ⊢
 exact .of_eq (h us hl)
section
variable{X:Cx}{CX:AV}{k:Nat}{f C:Addr}{fd:FuncData}{ps:List Str}{sp:Sp}{KQ:List V}{ds:List Value}{E:XK}{x m:Str}{p pos apos:Pos}{e o:Expr}{es:List Expr}{ta:TE}{t:TA}
structure Mk (K:PySem.W.Frag) (C f:Addr):Prop where
 makes:PySem.W.makesIn K C=true
 init:PySem.W.findIn K (.ref C) "__init__" = some (some (.ref f))
 fn:PySem.W.isFn K (.ref f)=true
 kp:PySem.W.keepIn K (.ref C)=true
end
section
variable{X:Cx}{CX:AV}{k:Nat}{f C:Addr}{fd:FuncData}{ps ks:List Str}{sp:Sp}{E:XK}{x m:Str}{p pos apos kpos:Pos}{e o:Expr}{es:List Expr}{kws:List Keyword}{te ta:TE}{t tk:TA}{nm:Option Str}
variable{g:List Value->List Value->List Value}{gV:List V->List V->List V}
end
structure av (N P:List Str) (sc:Scope):Prop where
 kind:sc.kind=.function
 co:sc.isCoroutine=false
 gen:sc.isGenerator=false
 nd:N.Nodup
 pre:N.take P.length=P
 par:∀ x∈P,sc.names.lookup x=some .local\/sc.names.lookup x=some .cell
 E9:∀ y∈sc.names,y.2≠.free
theorem p5{kindOf:Str->Option NameKind}{x:Str}:∀ {binds:List (Str×Value)} {m:Str->Option Value},(∀ v,(x,v) ∉ binds)->bindL kindOf binds m x=m x
 | [],_,_=>rfl
 | (n,v)::r,m,h=>by
  unfold bindL
  rw[p5 λw hw=>h w (List.mem_cons_of_mem _ hw)]
  split
  ·have:x≠n:=by rintro rfl;exact h v List.mem_cons_self
   simp[this]
  ·rfl
theorem qd{kindOf:Str->Option NameKind}{x:Str}:∀ {binds:List (Str×Value)} {m:Str->Option Value},(∀ v,(x,v) ∉ binds)->bindC kindOf binds m x=m x
 | [],_,_=>rfl
 | (n,v)::r,m,h=>by
  unfold bindC
  rw[qd λw hw=>h w (List.mem_cons_of_mem _ hw)]
  split
  ·rfl
  ·have:x≠n:=by rintro rfl;exact h v List.mem_cons_self
   simp[this]
theorem qq{kindOf:Str->Option NameKind}{x:Str}{v:Value}:∀ {P:List Str} {vs:List Value} {i:Nat} {m:Str->Option Value},P.Nodup->P[i]?=some x->vs[i]?=some v->kindOf x=some .local ->
  bindL kindOf (P.zip vs) m x=some v
 | [],_,_,_,_,h,_,_=>by simp at h
 | _::_,[],_,_,_,_,h,_=>by simp at h
 | p::P,w::vs,0,m,nd,h1,h2,hk=>by
  simp at h1 h2;subst h1;subst h2
  show bindL kindOf ((p,w)::P.zip vs) m p=_
  unfold bindL
  rw[p5 λv hv=>(List.nodup_cons.mp nd).1 (List.of_mem_zip hv).1,if_pos hk]
  simp
 | p::P,w::vs,i+1,m,nd,h1,h2,hk=>by
  show bindL kindOf ((p,w)::P.zip vs) m x=_
  unfold bindL
  exact qq (i:=i) (List.nodup_cons.mp nd).2 (by simpa using h1) (by simpa using h2) hk
theorem qg{kindOf:Str->Option NameKind}{x:Str}{v:Value}:∀ {P:List Str} {vs:List Value} {i:Nat} {m:Str->Option Value},P.Nodup->P[i]?=some x->vs[i]?=some v->kindOf x≠some .local ->
  bindC kindOf (P.zip vs) m x=some v
 | [],_,_,_,_,h,_,_=>by simp at h
 | _::_,[],_,_,_,_,h,_=>by simp at h
 | p::P,w::vs,0,m,nd,h1,h2,hk=>by
  simp at h1 h2;subst h1;subst h2
  show bindC kindOf ((p,w)::P.zip vs) m p=_
  unfold bindC
  rw[qd λv hv=>(List.nodup_cons.mp nd).1 (List.of_mem_zip hv).1,if_neg hk]
  simp
 | p::P,w::vs,i+1,m,nd,h1,h2,hk=>by
  show bindC kindOf ((p,w)::P.zip vs) m x=_
  unfold bindC
  exact qg (i:=i) (List.nodup_cons.mp nd).2 (by simpa using h1) (by simpa using h2) hk
def start(N:List Str)(vs:List V):St:=vs.map some++List.replicate (N.length-vs.length) none
def my(CX:AV)(P:Program)(w:World)(K:PySem.W.Frag)(mg:Str->Option Value)(base:Heap)(N:List Str)(qual:Str)(scope:Scope)(f:Addr)(cd:Value)(A:Around)(outer:List Env)(s:Shared)(H:Hp)(E:XK):Cx where
 prog:=P
 w:=w
 K:=K
 mg:=mg
 base:=base
 A:=A.deeper (envOfC qual scope s.heap.objs.size f cd)
 N:=N
 s₀:=s
 H₀:=H
 env:=envOfC qual scope s.heap.objs.size f cd
 outer:=outer
 stack:=envOfC qual scope s.heap.objs.size f cd::outer
 ex:=[]
 calm:=true
 fn:=λ_=>true
 pn:=[]
 xe:=λe s'=>wpAny (model P w) (A.deeper (envOfC qual scope s.heap.objs.size f cd)) (leaving (envOfC qual scope s.heap.objs.size f cd) e) (λ_ s''=>CX outer H s E e s'') (λe' s''=>CX outer H s E e' s'') s'
theorem sQ{sc:Scope}{n:Nat}{x:Str}(h:sc.names.lookup x=some .cell):∃ c,(cellsFrom n sc.names []).lookup x=some c:=by
 have q:=PySem.W.cellsFrom_some sc.names n [] (.inl h)
 exact Option.isSome_iff_exists.mp q
theorem wb{CX:AV}{P:Program}{w:World}{K:PySem.W.Frag}{mg:Str->Option Value}{base:Heap}{N ps:List Str}{qual:Str}{scope:Scope}{f:Addr}{cd:Value}{A:Around}{outer:List Env}{s s1:Shared}{H:Hp}{E:XK}{us:List Value}{vs:List V}
  (S:av N ps scope) (hd:A.handled=none) (e0:vd P w K mg base A outer s H) (hl:vs.length=ps.length) (r:Vals vs us)
  (x:InCallC s s.heap.objs.size (bindL (envOfC qual scope s.heap.objs.size f cd).kindOf (ps.zip us) λ_=>none) (cellsFrom (s.heap.objs.size+1) scope.names []) (bindC (envOfC qual scope s.heap.objs.size f cd).kindOf (ps.zip us) λ_=>none) s1) :
  Inv (my CX P w K mg base N qual scope f cd A outer s H E) [] (start N vs) H s1:=by
 have Kd:ps.length<=N.length:=by have:=congrArg List.length S.pre;rw[List.length_take] at this;omega
 obtain⟨h1,tk,rfl,hk⟩:=x.done
 have ka:∀ b:Addr,b ∉ (my CX P w K mg base N qual scope f cd A outer s H E).ex:=λb z=>absurd (show b∈([]:List Addr) from z) (by simp)
 refine⟨⟨e0.mod,S.kind,rfl,rfl,Nat.le_refl _,λy z c h1 h2=>?_,λy hy=>?_,λy c _ h=>?_,λ_=>hd,Around.frames_deeper e0.frames,.inr ⟨rfl,rfl⟩,λb z=>absurd z (ka b),e0.bs,e0.z7,λb _ _=>ka b,λb z=>absurd z (ka b),e0.kj,e0.Aw⟩,
  rfl,e0.bare,Un.kept hk,⟨_,x.toInCall.ns,λi y v h1 h2 h3=>?_⟩,λy c h=>⟨_,x.cell y c h⟩,e0.a_.fresh (Nat.le_refl _),λy c h=>?_,λp hp=>absurd (show p∈([]:List (Addr×Obj)) from hp) (by simp),e0.a_.kept hk,?_⟩
 ·exact name_of_addr x.apart (PySem.mem_of_lookup h1) (PySem.mem_of_lookup h2)
 ·have hy:scope.names.lookup y=some .cell\/scope.names.lookup y=some .free:=hy
  rcases hy with hy | hy
  ·exact sQ hy
  ·exact absurd rfl (S.E9 _ (PySem.mem_of_lookup hy))
 ·exact Nat.le_of_lt (x.above y c (PySem.mem_of_lookup h))
 ·have hi:i<vs.length:=by
   unfold start at h2
   by_cases hi:i<vs.length
   ·exact hi
   ·rw[List.getElem?_append_right (by simpa using hi)] at h2
    rw[List.getElem?_replicate] at h2
    split at h2 <;> cases h2
  have ha:vs[i]?=some v:=by
   unfold start at h2
   rw[List.getElem?_append_left (by simpa using hi),List.getElem?_map] at h2
   cases e:vs[i]? with
   | none=>rw[e] at h2;cases h2
   | some a=>rw[e] at h2;cases h2;rfl
  obtain⟨u,hu,rv⟩:=r.get ha
  have hp:ps[i]?=some y:=by
   rw[← S.pre,List.getElem?_take_of_lt (by omega)];exact h1
  have ndP:ps.Nodup:=by rw[← S.pre];exact S.nd.sublist (List.take_sublist _ _)
  refine⟨u,rv,?_⟩
  rcases S.par y (List.mem_of_getElem? hp) with k | k
  ·exact .inl ⟨k,qq ndP hp hu k⟩
  ·obtain⟨c,e⟩:=sQ (n:=s.heap.objs.size+1) k
   refine .inr ⟨.inl k,c,e,?_⟩
   have q:=x.cell y c e
   rw[qg ndP hp hu (by show scope.names.lookup y≠_;rw[k];decide)] at q
   exact q
 ·exact e0.a_.fresh (Nat.le_of_lt (x.above y c (PySem.mem_of_lookup h)))
 ·unfold start
  show _=N.length
  rw[List.length_append,List.length_map,List.length_replicate]
  omega
theorem FN{CX:AV}{P:Program}{w:World}{K:PySem.W.Frag}{mg:Str->Option Value}{base:Heap}{k:Nat}{f:Addr}{name qual:Str}{params:Arguments}{body:List Stmt}{scope:Scope}{dV kV doc pm Ka ct oc:Value}{an od:Option Addr}
  {L9:Array (Option Value)} {N ps:List Str} {sp:Sp} (lk:K.lookup f=some ⟨oc,od,.func (PySem.W.fnOf name qual params body scope dV kV doc pm an Ka ct),L9⟩) (Lh:PySem.W.codeIn K Ka qual=true) (S:av N ps scope)
  (len:∀ vs H Q E,sp vs H Q E->vs.length=ps.length)
  (Mg:∀ (A:Around) (outer:List Env) (s:Shared) (H:Hp) (vs:List V) (Q:VK) (E:XK),bN k (A.deeper (envOfC qual scope s.heap.objs.size f Ka))->sp vs H Q E ->
   ∃ t,kf (my CX P w K mg base N qual scope f Ka A outer s H E) body t/\t { nx:=λ_ H'=>Q .bZ H',rt:=Q } (start N vs) H) :
  aF P w K mg base CX (k+1) f (PySem.W.fnOf name qual params body scope dV kV doc pm an Ka ct) ps sp:=by
 refine⟨len,λA outer s H args us vs Q E hr e0 hb r hsp=>?_⟩
 have hl:=len _ _ _ _ hsp
 have KX:K.In s.heap:=e0.mod.CY.keeps λb o e=>(e0.bs b o e).1
 have lim:s.heap.NoLimit:=e0.mod.nolimit.keeps λb o e=>(e0.bs b o e).1
 have Nm:∀ y∈ps.zip us,scope.names.lookup y.1=some .local\/(scope.names.lookup y.1=some .cell/\((cellsFrom (s.heap.objs.size+1) scope.names []).lookup y.1).isSome=true):=λ⟨n,v⟩ hy=>by
  rcases S.par n (List.of_mem_zip hy).1 with q | q
  ·exact .inl q
  ·exact .inr ⟨q,PySem.W.cellsFrom_some _ _ _ (.inl q)⟩
 refine codeAny_call_function hr.depth (KX _ _ lk) rfl S.co S.gen rfl (PySem.W.codeRec_of KX Lh) (hb _ _ _ _ ?_)
 refine wpAny_newFunctionEnv_cells S.kind Nm λenv he s1 x=>?_
 subst he
 refine⟨lim.keeps x.toInCall.keep,codeAny_func ?_⟩
 obtain⟨t,ht,hq⟩:=Mg A outer s H vs Q E (hr.deeper _) hsp
 have I:Inv (my CX P w K mg base N qual scope f Ka A outer s H E) [] (start N vs) H s1:=wb S hr.hd e0 hl r x
 refine wpAny_mono (ht [] s1 (start N vs) H _ I hq) (λfl s' hs=>?_) λe s' hs=>hs
 have fin:∀ {σ':St} {H':Hp} {v:V} {u:Value},Inv (my CX P w K mg base N qual scope f Ka A outer s H E) [] σ' H' s'->RelV v u->Q v H'->CE outer P w H s Q u s' :=
  λ{σ' H' v u} J rv q=>⟨v,H',J.os,J.bare,J.base,J.a_,rv,q⟩
 cases fl with
 | ret u =>
  obtain⟨v,σ',H',J,rv,q⟩:=hs
  exact fin J rv q
 | next =>
  obtain⟨σ',H',J,q⟩:=hs
  exact fin (v:=V.bZ) (u:=Value.none) J rfl q
 | brk =>
  obtain⟨_,_,_,q⟩:=hs
  exact False.elim q
 | cont =>
  obtain⟨_,_,_,q⟩:=hs
  exact False.elim q
end L2
namespace L2
open PySem PySem.Spec PyProof.Rows
section
variable{X:Cx}{x:Str}{p pos:Pos}{e:Expr}{es:List Expr}{t:TA}{id T:String}{r:List V->Hp->VK->Prop}
def HP(r:List V->Hp->VK->Prop)(t:TA):TE:=fun σ H Q=>t σ H λvs H1=>r vs H1 Q
theorem kF(hc:cJ X (.builtin id) r)(hg:Gl X x)(hm:X.mg x=none)(hv:bootBuiltins x=some (.builtin id))(ha:PA X (e::es) t)(hn:x ≠ "__name__" := by decide)(KU:(x==("__debug__" : Str))=false:=by decide)
  (he:starEach (e::es) X.env=(false,eval e X.env)::starEach es X.env:=by rfl) (Kd:(backTo pos (starEach es X.env)).any (·.1)=false:=by rfl):PE X (.Call (.Name x p) (e::es) [] pos) (HP r t):=by
 intro JS s σ H Q I h
 refine wpAny_Call_Name_kw (kl I hg hm hv ?_ hn KU)
 exact PyProof.Rows.callWith_builtin1 (cN (ha pos JS s σ H _ I h) λus s1 ⟨vs,H1,I1,r1,q1⟩=>hc JS s1 σ H1 vs us Q I1 r1 q1) he Kd
theorem w8(hc:cJ X (.type T) r)(hg:Gl X x)(hm:X.mg x=none)(hv:bootBuiltins x=some (.type T))(ha:PA X (e::es) t)(hn:x ≠ "__name__" := by decide)(KU:(x==("__debug__" : Str))=false:=by decide)
  (he:starEach (e::es) X.env=(false,eval e X.env)::starEach es X.env:=by rfl) (Kd:(backTo pos (starEach es X.env)).any (·.1)=false:=by rfl):PE X (.Call (.Name x p) (e::es) [] pos) (HP r t):=by
 intro JS s σ H Q I h
 refine wpAny_Call_Name_kw (kl I hg hm hv ?_ hn KU)
 exact PyProof.Rows.callWith_type1 (cN (ha pos JS s σ H _ I h) λus s1 ⟨vs,H1,I1,r1,q1⟩=>hc JS s1 σ H1 vs us Q I1 r1 q1) he Kd
end
end L2
namespace HT
open PySem PyProof.Rows
section
open PySem.SeqAt
open PySem.AutoSeq1 (wpAny_loadPart')
open PySem.MeetsSeq PySem.MeetsSeq2 PySem.MeetsSeq3
end
section
variable{prog:Program}{w:World}{A:Around}{E:Value->Shared->Prop}{s:Shared}
theorem AY{t b:Addr}{vs ws:List Value}{Q:Value->Shared->Prop}(ht:IsTup s.heap t vs.toArray)(hb:IsTup s.heap b ws.toArray)(hv:vs≠[])
  (h1:ws=[]->Q (.ref t) s) (h2:ws≠[]->Q (.ref s.heap.objs.size) { s with heap:=s.heap.push { cls:=.type "tuple", data:=.seq (vs++ws).toArray } })
  (Lq:vs.length+ws.length<=sizeLine):wpAny (model prog w) A (binaryOp .Add (.ref t) (.ref b)) Q E s:=by
 obtain⟨⟨cls,dd,data,sl⟩,ho,hc,n,hd⟩:=id ht
 obtain⟨⟨cls2,M_,data2,sl2⟩,Mb,Nh,n2,hd2⟩:=id hb
 simp only at hc hd Nh hd2
 subst hc hd Nh hd2
 have e:vs.toArray++ws.toArray=(vs++ws).toArray:=by simp
 by_cases hw:ws=[]
 ·exact concat_meets ⟨_,ho,rfl⟩ ⟨_,Mb,rfl⟩ noFill_tuple_add seq_tuple_add PySem.F.slot_tuple_add PySem.F.entry_tuple_add (PySem.F.args_tuple_add_2 _ _)
   (tuple_addW1 t b vs.toArray ws.toArray n n2 dd M_ sl sl2 (by simpa using hv) (by simp[hw])) ⟨ho,Mb,h1 hw⟩
 ·refine concat_meets ⟨_,ho,rfl⟩ ⟨_,Mb,rfl⟩ noFill_tuple_add seq_tuple_add PySem.F.slot_tuple_add PySem.F.entry_tuple_add (PySem.F.args_tuple_add_2 _ _)
   (tuple_addW2 t b vs.toArray ws.toArray n n2 dd M_ sl sl2 (by simpa using hv) (by simpa using hw) (by rw[List.size_toArray,List.size_toArray];exact Lq)) ⟨ho,Mb,?_⟩
  rw[e]
  exact h2 hw
def cM(n d:Nat):Option Int->Nat
 | none=>d
 | some v=>if v<0 then (v+(n:Int)).toNat else min v.toNat n
theorem vM(n d k:Nat):cM n d (some (k:Int))=min k n:=by
 show (if (k:Int)<0 then ((k:Int)+(n:Int)).toNat else min (k:Int).toNat n)=min k n
 rw[if_neg (by omega),Int.toNat_natCast]
theorem E6(n d:Nat)(hd:d<=n)(o:Option Int):cM n d o<=n:=by
 cases o with
 | none=>exact hd
 | some v =>
  show (if v<0 then (v+(n:Int)).toNat else min v.toNat n)<=n
  by_cases hv:v<0
  ·rw[if_pos hv];omega
  ·rw[if_neg hv];exact Nat.min_le_right _ _
theorem vD(v:Int)(n d:Nat):(if v<0 then max (v+(n:Int)) 0 else min v (n:Int))=((cM n d (some v):Nat):Int):=by
 show (if v<0 then max (v+(n:Int)) 0 else min v (n:Int))=(((if v<0 then (v+(n:Int)).toNat else min v.toNat n):Nat):Int)
 by_cases hv:v<0
 ·simp only[if_pos hv];omega
 ·simp only[if_neg hv];omega
theorem uB(lo hi:Option Int)(n:Nat):Builtin.Slice.sliceAdjust lo hi 1 (n:Int)=(((cM n 0 lo:Nat):Int),((cM n n hi:Nat):Int)):=by
 have h1:¬ ((1:Int)<0):=by omega
 unfold Builtin.Slice.sliceAdjust
 simp only[h1,if_false]
 refine Prod.ext ?_ ?_
 ·cases lo with
  | none=>rfl
  | some v=>exact vD v n 0
 ·cases hi with
  | none=>rfl
  | some v=>exact vD v n n
theorem uV(i j:Nat):Builtin.Slice.slicePlaces (i:Int) (j:Int) 1=j-i:=by
 unfold Builtin.Slice.slicePlaces
 have h1:(1:Int)>0:=by omega
 simp only[h1,if_true,Int.ediv_one]
 split <;> omega
theorem nt{v:Value}{o:Option Int}{Q:Option Int->Shared->Prop}(p:IsPart v o)(h:Q o s):wpAny (model prog w) A (Builtin.Slice.slicePartIndex v) Q E s:=by
 cases p with
 | none=>exact slicePart_none h
 | int i t=>exact slicePart_int h
theorem iu{sl:Addr}{vl vu:Value}{lo hi:Option Int}{n:Nat}{Q:Int×Int×Nat->Shared->Prop}(hs:s.heap.IsSliceOf sl vl vu .none)(pl:IsPart vl lo)(pu:IsPart vu hi)
  (h:Q (((cM n 0 lo:Nat):Int),1,cM n n hi-cM n 0 lo) s):wpAny (model prog w) A (Builtin.Slice.sliceApplied (.ref sl) (pure (n:Int))) Q E s:=by
 obtain⟨os,MU,hcs,Nj⟩:=id hs
 unfold Builtin.Slice.sliceApplied Builtin.Slice.sliceFields
 refine wpAny_bind (wpAny_bind (wpAny_field MU Nj (x:=vl) rfl (wpAny_bind (wpAny_field MU Nj (x:=vu) rfl (wpAny_bind (wpAny_field MU Nj (x:=.none) rfl (wpAny_pure ?_)))))))
 refine wpAny_bind (slicePart_none ?_)
 show wpAny _ _ (if ((1:Int)==0)=true then _ else _) _ _ s
 rw[if_neg (by decide)]
 refine wpAny_bind (nt pl (wpAny_bind (nt pu (wpAny_bind (wpAny_pure ?_)))))
 show wpAny _ _ (match Builtin.Slice.sliceAdjust lo hi 1 (n:Int) with | (lo,hi)=>pure (lo,(1:Int),Builtin.Slice.slicePlaces lo hi 1)) _ _ s
 rw[uB lo hi n]
 show wpAny _ _ (pure (((cM n 0 lo:Nat):Int),(1:Int),Builtin.Slice.slicePlaces ((cM n 0 lo:Nat):Int) ((cM n n hi:Nat):Int) 1)) _ _ s
 rw[uV]
 exact wpAny_pure h
theorem zI(xs:Array Value)(i k:Nat):((List.range k).filterMap λ(m:Nat)=>xs[((i:Int)+(m:Int)*1).toNat]?).toArray=((xs.toList.drop i).take k).toArray:=by
 have e:(λ(m:Nat)=>xs[((i:Int)+(m:Int)*1).toNat]?)=λm=>xs[i+m]?:=by
  funext m
  have:((i:Int)+(m:Int)*1).toNat=i+m:=by omega
  rw[this]
 rw[e]
 have:=pick_run xs i k
 rw[List.filterMap_map] at this
 have e2:((λx=>xs[x]?)∘λx=>i+x)=λm=>xs[i+m]?:=rfl
 rw[e2] at this
 rw[this]
theorem kK{t sl:Addr}{items:Array Value}{vl vu:Value}{lo hi:Option Int}{Q:Value->Shared->Prop}(ht:IsTup s.heap t items)(hs:s.heap.IsSliceOf sl vl vu .none)(pl:IsPart vl lo)(pu:IsPart vu hi)
  (hw:¬ (cM items.size 0 lo=0/\cM items.size items.size hi=items.size))
  (h:Q (.ref s.heap.objs.size) { s with heap:=s.heap.push { cls:=.type "tuple", data:=.seq ((items.toList.drop (cM items.size 0 lo)).take (cM items.size items.size hi-cM items.size 0 lo)).toArray } })
  (Lq:items.size<=sizeLine):wpAny (model prog w) A (getItem (.ref t) (.ref sl)) Q E s:=by
 have L8:sizeOk (.seq ((items.toList.drop (cM items.size 0 lo)).take (cM items.size items.size hi-cM items.size 0 lo)).toArray):=by
  show ((items.toList.drop (cM items.size 0 lo)).take (cM items.size items.size hi-cM items.size 0 lo)).toArray.size<=sizeLine
  rw[List.size_toArray,List.length_take,List.length_drop,Array.length_toList]
  omega
 have hj:cM items.size items.size hi<=items.size:=E6 _ _ (Nat.le_refl _) hi
 obtain⟨os,MU,hcs,Nj⟩:=id hs
 have hTs:s.TypeIs (.ref sl) "slice" := ⟨os,MU,hcs⟩
 unfold getItem
 try with_reducible refine wpAny_holding ?_
 first | refine wpAny_bind (wpAny_pure ?_) | skip
 refine wpAny_bind (wpAny_sequenceKey ht.typeIs (by decide) ?_)
 refine wpAny_bind (wpAny_callSpecial?_slot (name:=Str.ofString "__getitem__") ht.typeIs PyProof.Rows.slot_tuple_getitem
  (wpAny_call_entry PyProof.Rows.slot_tuple_getitem ht.typeIs entry_tuple_getitem ?_ (args_tuple_getitem _ _)))
 show wpAny _ _ (Builtin.Tuple.tupleItemsOf (.ref t) >>= _) _ _ s
 refine wpAny_bind (tupleItemsOf_ ht ?_)
 refine wpAny_bind (wpAny_typeOf hTs ?_)
 rw[if_pos (by decide)]
 refine wpAny_bind (iu hs pl pu ?_)
 have hno:¬ ((((cM items.size 0 lo:Nat):Int)==0&&(1:Int)==1&&(cM items.size items.size hi-cM items.size 0 lo)==items.size)=true):=by
  intro q
  rw[Bool.and_eq_true,Bool.and_eq_true] at q
  have q1:((cM items.size 0 lo:Nat):Int)=0:=eq_of_beq q.1.1
  have q2:cM items.size items.size hi-cM items.size 0 lo=items.size:=eq_of_beq q.2
  exact hw ⟨by omega,by omega⟩
 show wpAny _ _ (if (((cM items.size 0 lo:Nat):Int)==0&&(1:Int)==1&&(cM items.size items.size hi-cM items.size 0 lo)==items.size)=true then _ else _) _ _ s
 rw[if_neg hno,zI]
 first
  | exact wpAny_bind (m:=Builtin.Tuple.tupleExact _) (wpAny_newObj_type (wpAny_pure ⟨_,rfl,wpAny_pure h⟩) L8)
  | exact wpAny_bind (m:=Builtin.Tuple.tupleExact _) (wpAny_newObj_type (wpAny_bind (wpAny_pure (wpAny_pure ⟨_,rfl,wpAny_pure h⟩))) L8)
  | exact wpAny_bind (wpAny_bind (m:=Builtin.Tuple.tupleExact _) (wpAny_newObj_type (wpAny_pure (wpAny_pure ⟨_,rfl,wpAny_pure h⟩)) L8))
  | exact wpAny_bind (wpAny_bind (m:=Builtin.Tuple.tupleExact _) (wpAny_newObj_type (wpAny_pure ⟨_,rfl,wpAny_pure h⟩) L8))
end
end HT
namespace L2
open PySem PySem.Spec PyProof.Rows
abbrev TO:=St->Hp->(Option Int->Hp->Prop)->Prop
def PO(X:Cx)(e:Option Expr)(t:TO):Prop :=
 ∀ (JS:List (Addr×Obj)) (s:Shared) (σ:St) (H:Hp) (Q:Option Int->Hp->Prop),Inv X JS σ H s->t σ H Q ->
  wpAny (model X.prog X.w) X.A (evalPart e X.env) (λu s'=>∃ o H',Inv X JS σ H' s'/\IsPart u o/\Q o H') X.xe s
def A8:TO:=λ_ H Q=>Q none H
def FK(t:TE):TO:=fun σ H Q=>t σ H λx H1=>∃ i,x=.int i/\Q (some i) H1
theorem intsAre_of{ns:List Int}:∀ {us:List Value},Vals (ns.map V.int) us->IntsAre us ns:=by
 induction ns with
 | nil=>intro us r;rw[List.map_nil] at r;cases r;exact .nil
 | cons n ns ih =>
  intro us r
  rw[List.map_cons] at r
  cases r with
  | cons r1 r2 =>
   obtain⟨t,e⟩:=r1
   subst e
   exact .cons n t (ih r2)
section
variable{X:Cx}{e:Expr}{te:TE}{lo hi:Option Expr}{tl th:TO}{pos p2:Pos}
theorem Ca:PO X none A8:=by
 intro JS s σ H Q I h
 rw[evalPart_none]
 exact wpAny_pure ⟨none,H,I,.none,h⟩
theorem AR(h:PE X e te):PO X (some e) (FK te):=by
 intro JS s σ H Q I hw
 rw[evalPart_some]
 refine cN (h JS s σ H _ I hw) λu s1 ⟨x,H1,I1,r1,q1⟩=>?_
 obtain⟨i,rfl,q⟩:=q1
 obtain⟨t,rfl⟩:=r1
 exact⟨some i,H1,I1,.int i t,q⟩
def Ax(X:Cx)(r:V->Option Int->Option Int->Hp->VK->Prop):Prop :=
 ∀ (JS:List (Addr×Obj)) (s:Shared) (σ:St) (H:Hp) (x:V) (v vl vu:Value) (lo hi:Option Int) (sl:Addr) (Q:VK),Inv X JS σ H s->RelV x v->s.heap.IsSliceOf sl vl vu .none->IsPart vl lo->IsPart vu hi->r x lo hi H Q ->
  ∃ T id,typeLookup (.type T) "__getitem__" = pure (some (.builtin id))/\s.TypeIs v T/\wpAny (model X.prog X.w) X.A (getItem v (.ref sl)) (EP X JS σ Q) X.xe s
theorem Ax.or{r r':V->Option Int->Option Int->Hp->VK->Prop}(h:Ax X r)(h':Ax X r'):Ax X (λx lo hi H Q=>r x lo hi H Q\/r' x lo hi H Q):=by
 intro JS s σ H x v vl vu lo hi sl Q I rx hs pl pu q
 rcases q with q | q
 ·exact h JS s σ H x v vl vu lo hi sl Q I rx hs pl pu q
 ·exact h' JS s σ H x v vl vu lo hi sl Q I rx hs pl pu q
def JC(r:V->Option Int->Option Int->Hp->VK->Prop)(te:TE)(tl th:TO):TE:=fun σ H Q=>te σ H λx H1=>tl σ H1 λl H2=>th σ H2 λu H3=>r x l u H3 Q
theorem zO{r:V->Option Int->Option Int->Hp->VK->Prop}(hr:Ax X r)(he:PE X e te)(hl:PO X lo tl)(hu:PO X hi th):PE X (.Subscript e (.Slice lo hi none p2) pos) (JC r te tl th):=by
 intro JS s σ H Q I h
 refine Subscript_ (cN (he JS s σ H _ I h) λv s1 ⟨x,H1,I1,r1,q1⟩=>?_)
 refine wpAny_Slice (cN (hl JS s1 σ H1 _ I1 q1) λvl s2 ⟨l,H2,I2,pl,q2⟩=>cN (hu JS s2 σ H2 _ I2 q2) λvu s3 ⟨u,H3,I3,pu,q3⟩=>?_)
 rw[evalPart_none]
 refine wpAny_pure ?_
 have I4:Inv X JS σ H3 { s3 with heap:=s3.heap.push { cls:=.type "slice", data:=.fields #[vl,vu,.none] } }:=I3.kept (t':=s3.toks) λb ob q=>Heap.get?_push_of_some _ q
 obtain⟨T,id,hT,ht,hg⟩:=hr JS { s3 with heap:=s3.heap.push { cls:=.type "slice", data:=.fields #[vl,vu,.none] } } σ H3 x v vl vu l u s3.heap.objs.size Q I4 r1 (Heap.IsSliceOf.new ..) pl pu q3
 show wpAny (model X.prog X.w) X.A (subscriptTail e (.Slice lo hi none p2) v (.ref s3.heap.objs.size)) (EP X JS σ Q) X.xe { s3 with heap:=s3.heap.push { cls:=.type "slice", data:=.fields #[vl,vu,.none] } }
 exact tail_any (ops:=[.ref s3.heap.objs.size,v]) ht hT hg (by with_unfolding_all rfl)
def sx(xs:List V)(lo hi:Option Int):List V:=(xs.drop (HT.cM xs.length 0 lo)).take (HT.cM xs.length xs.length hi-HT.cM xs.length 0 lo)
theorem l8(xs:List V)(lo hi:Option Int):(sx xs lo hi).length<=xs.length:=by
 unfold sx
 rw[List.length_take,List.length_drop]
 omega
def IL(K:PySem.W.Frag):V->Option Int->Option Int->Hp->VK->Prop:=λx lo hi H Q=>∃ a xs,x=.ref a/\fQ K H a xs ∧
 ¬ (HT.cM xs.length 0 lo=0/\HT.cM xs.length xs.length hi=xs.length)/\∀ p,H p=none->Q (.ref p) (upd H p (.tup (sx xs lo hi)))
theorem Em:Ax X (IL X.K):=by
 intro JS s σ H x v vl vu lo hi sl Q I rx hs pl pu h
 obtain⟨a,xs,rfl,hx,hw,q⟩:=h
 cases rx
 obtain⟨JU,r,ht,hz⟩:=I.tuple hx
 have hlen:JU.toArray.size=xs.length:=by rw[List.size_toArray];exact r.length.symm
 refine⟨"tuple", _,PyProof.Rows.slot_tuple_getitem.lookup,ht.typeIs,?_⟩
 refine HT.kK ht hs pl pu (by rw[hlen];exact hw) ?_ (by rw[hlen];exact hz)
 rw[hlen]
 refine⟨.ref s.heap.objs.size,_,I.laid (t':=s.toks) (o:=.tup (sx xs lo hi)) (λb ob q=>Heap.get?_push_of_some _ q) (Nat.le_refl _) ?_,rfl,q _ (I.a_.fresh (Nat.le_refl _))⟩
 exact⟨Nat.le_trans (l8 xs lo hi) hz,_,(r.drop (HT.cM xs.length 0 lo)).take (HT.cM xs.length xs.length hi-HT.cM xs.length 0 lo),IsTup.new _ _⟩
def Co(K:PySem.W.Frag):R2:=λx y H Q=>∃ a b xs ys,x=.ref a/\y=.ref b/\fQ K H a xs/\fQ K H b ys/\xs≠[]/\xs.length+ys.length<=sizeLine ∧
 (ys=[]->Q (.ref a) H)/\(ys≠[]->∀ p,H p=none->Q (.ref p) (upd H p (.tup (xs++ys))))
theorem Vals.kO{xs:List V}{us:List Value}(r:Vals xs us):us=[] ↔ xs=[]:=by
 cases r with
 | nil=>simp
 | cons _ _=>simp
theorem AZ:gp X (binaryOp .Add) (Co X.K):=by
 intro JS s σ H x y v u Q I rx ry h
 obtain⟨a,b,xs,ys,rfl,rfl,ha,hb,hx,hz,q1,q2⟩:=h
 cases rx
 cases ry
 obtain⟨JU,r1,p1,_⟩:=I.tuple ha
 obtain⟨Lw,r2,p2,_⟩:=I.tuple hb
 refine HT.AY p1 p2 (λz=>hx (r1.kO.mp z)) (λz=>⟨.ref a,H,I,rfl,q1 (r2.kO.mp z)⟩) (λz=>?_) (by rw[← r1.length,← r2.length];exact hz)
 refine⟨.ref s.heap.objs.size,_,I.laid (t':=s.toks) (o:=.tup (xs++ys)) (λb ob q=>Heap.get?_push_of_some _ q) (Nat.le_refl _) ?_,rfl,q2 (λw=>z (r2.kO.mpr w)) _ (I.a_.fresh (Nat.le_refl _))⟩
 exact⟨by rw[List.length_append];exact hz,_,r1.append r2,IsTup.new _ _⟩
end
end L2
namespace L2
open PySem PySem.Spec PyProof.Rows
def Fp(n:Nat)(i:Int):Option Nat:=if 0<=i then (if i<n then some i.toNat else none) else if -(n:Int)<=i then some (i+n).toNat else none
def rR{α:Type}(xs:List α)(i:Int):Option α:=(Fp xs.length i).bind λj=>xs[j]?
theorem Cb{n:Nat}{i:Int}{j:Nat}(h:Fp n i=some j):seqIndex? i n=some j/\j<n/\-(n:Int)<=i/\i<n:=by
 unfold Fp at h
 by_cases h0:0<=i
 ·rw[if_pos h0] at h
  by_cases h1:i<n
  ·rw[if_pos h1] at h
   have e:i.toNat=j:=Option.some.inj h
   exact⟨by rw[seqIndex_of h0 h1,e],by omega,by omega,h1⟩
  ·rw[if_neg h1] at h;cases h
 ·rw[if_neg h0] at h
  by_cases h1:-(n:Int)<=i
  ·rw[if_pos h1] at h
   have e:(i+n).toNat=j:=Option.some.inj h
   exact⟨by rw[seqIndex_neg (by omega) h1,e],by omega,h1,by omega⟩
  ·rw[if_neg h1] at h;cases h
theorem rM{α:Type}{xs:List α}{i:Int}{v:α}(h:rR xs i=some v):∃ j,seqIndex? i xs.length=some j/\xs[j]?=some v/\j<xs.length/\-(xs.length:Int)<=i/\i<xs.length:=by
 unfold rR at h
 cases e:Fp xs.length i with
 | none=>rw[e] at h;cases h
 | some j =>
  rw[e] at h
  obtain⟨h1,h2,h3,h4⟩:=Cb e
  exact⟨j,h1,h,h2,h3,h4⟩
theorem rB{α:Type}{xs:List α}{j:Nat}{v:α}(h:xs[j]?=some v):rR xs (j:Int)=some v:=by
 have hj:j<xs.length:=(List.getElem?_eq_some_iff.mp h).1
 have e:Fp xs.length (j:Int)=some j:=by
  unfold Fp
  rw[if_pos (by omega),if_pos (by omega)];simp
 unfold rR;rw[e];exact h
def qH(b:Expr):Prop:=∀ o i,subscripted b false o i=operate [o,i] (getItem o i)
def Cg(X:Cx)(r:R2):Prop :=
 ∀ (value slice:Expr) (JS:List (Addr×Obj)) (s:Shared) (σ:St) (H:Hp) (x y:V) (v u:Value) (Q:VK),Inv X JS σ H s->RelV x v->RelV y u->r x y H Q ->
  subscripted slice false v u=operate [v,u] (getItem v u)->wpAny (model X.prog X.w) X.A (subscriptTail value slice v u) (EP X JS σ Q) X.xe s
def Jq(X:Cx)(id:String)(r:V->List V->Hp->VK->Prop):Prop :=
 ∀ (JS:List (Addr×Obj)) (s:Shared) (σ:St) (H:Hp) (x:V) (xs:List V) (v:Value) (us:List Value) (Q:VK),Inv X JS σ H s->RelV x v->Vals xs us->r x xs H Q ->
  wpAny (model X.prog X.w) X.A (call (.builtin id) (v::us)) (EP X JS σ Q) X.xe s
section
variable{X:Cx}{a b:Expr}{ta tb:TE}{pos:Pos}
theorem Cg.or{r r':R2}(h:Cg X r)(h':Cg X r'):Cg X (λx y H Q=>r x y H Q\/r' x y H Q):=by
 intro value slice JS s σ H x y v u Q I rx ry q hs
 rcases q with q | q
 ·exact h value slice JS s σ H x y v u Q I rx ry q hs
 ·exact h' value slice JS s σ H x y v u Q I rx ry q hs
theorem FW{r:R2}(hr:Cg X r)(ha:PE X a ta)(hb:PE X b tb)(hs:qH b):PE X (.Subscript a b pos) (GP r ta tb):=by
 intro JS s σ H Q I h
 exact Subscript_ (EZ ha hb I h λv u s2 x y H2 I2 rx ry q=>hr a b JS s2 σ H2 x y v u Q I2 rx ry q (hs _ _))
def Gd(K:PySem.W.Frag):R2:=λx y H Q=>∃ p xs i v,x=.ref p/\y=.int i/\ij K H p xs/\rR xs i=some v/\Q v H
def Ge(K:PySem.W.Frag):R2:=λx y H Q=>∃ p xs i v,x=.ref p/\y=.int i/\fQ K H p xs/\rR xs i=some v/\Q v H
def F4:R2:=λx y H Q=>∃ z i c,x=.str z/\y=.int i/\z.length<=sizeLine/\rR z.cps.toList i=some c/\Q (.str ⟨#[c]⟩) H
theorem Bj:Cg X (Gd X.K):=by
 intro value slice JS s σ H x y v u Q I rx ry h hs
 obtain⟨p,xs,i,z,rfl,rfl,hq,he,q⟩:=h
 cases rx
 obtain⟨t,rfl⟩:=ry
 obtain⟨JU,r,pl,hz⟩:=I.list hq
 obtain⟨j,h1,h2,h3,h4,h5⟩:=rM he
 obtain⟨w,ew,Ly⟩:=r.get h2
 have hl:=r.length
 have hn:=nK
 have fin:EP X JS σ Q w s:=⟨z,H,I,Ly,q⟩
 by_cases h0:0<=i
 ·have hj:i.toNat=j:=by
   rw[seqIndex_of h0 h5] at h1
   exact Option.some.inj h1
  exact item_listR pl.isList h0 (by omega) (by rw[hj];simpa using ew) fin hs
 ·have hj:(i+(JU.toArray.size:Int)).toNat=j:=by
   rw[seqIndex_neg (by omega) h4] at h1
   rw[List.size_toArray,← hl]
   exact Option.some.inj h1
  exact subscriptTail_builtinR (x:=w) pl.isList.typeIs slot_list_getitem.lookup
   (wpAny_getItem_list_neg (Q:=λr s'=>r=w/\EP X JS σ Q r s') pl.isList (by omega) (by rw[List.size_toArray] <;> omega) (by omega) (by rw[hj];simpa using ew) ⟨rfl,fin⟩) hs
theorem C5:Cg X (Ge X.K):=by
 intro value slice JS s σ H x y v u Q I rx ry h hs
 obtain⟨p,xs,i,z,rfl,rfl,hq,he,q⟩:=h
 cases rx
 obtain⟨t,rfl⟩:=ry
 obtain⟨JU,r,pl,hz⟩:=I.tuple hq
 obtain⟨j,h1,h2,h3,h4,h5⟩:=rM he
 obtain⟨w,ew,Ly⟩:=r.get h2
 have hl:=r.length
 have hn:=nK
 have fin:EP X JS σ Q w s:=⟨z,H,I,Ly,q⟩
 exact subscriptTail_builtinR (x:=w) pl.typeIs slot_tuple_getitem.lookup
  (getItem_tuple (j:=j) (Q:=λr s'=>r=w/\EP X JS σ Q r s') pl (by omega) (by omega) (by rw[List.size_toArray,← hl];exact h1) (by simpa using ew) ⟨rfl,fin⟩) hs
theorem EO:Cg X F4:=by
 intro value slice JS s σ H x y v u Q I rx ry h hs
 obtain⟨z,i,c,rfl,rfl,hz,he,q⟩:=h
 obtain⟨t,rfl⟩:=rx
 obtain⟨t',rfl⟩:=ry
 obtain⟨j,h1,h2,h3,h4,h5⟩:=rM he
 have hl:z.cps.toList.length=z.length:=by simp[Str.length]
 rw[hl] at h1 h4 h5
 have hn:=nK
 exact tail_any (typeIs_str s z t) slot_str_getitem.lookup (getItem_str (c:=c) (by
  have e1:decide (i < -(2^63:Int))=false:=decide_eq_false (by omega)
  have e2:decide (i>=2^63)=false:=decide_eq_false (by omega)
  rw[e1,e2,Bool.or_false]) (by rw[h1];simpa using h2) ⟨.str ⟨#[c]⟩,H,I.tok _,⟨_,rfl⟩,q⟩) hs
def Jg(K:PySem.W.Frag):R2:=λx y H Q=>Gd K x y H Q\/Ge K x y H Q\/F4 x y H Q
theorem Ex:Cg X (Jg X.K):=Bj.or (C5.or EO)
theorem rG(lo hi:Option Int)(n:Nat):(sliceBounds lo hi none n).1=((HT.cM n 0 lo:Nat):Int)/\(sliceBounds lo hi none n).2.1=((HT.cM n n hi:Nat):Int)/\(sliceBounds lo hi none n).2.2=1:=by
 refine⟨?_,?_,rfl⟩
 ·cases lo with
  | none=>simp[sliceBounds,HT.cM]
  | some i =>
   simp only[sliceBounds,HT.cM,Option.getD_none,show (1:Int)>0 by decide,if_true]
   by_cases h:i<0
   ·simp only[h,if_true] <;> omega
   ·simp only[h,if_false] <;> omega
 ·cases hi with
  | none=>simp[sliceBounds,HT.cM]
  | some i =>
   simp only[sliceBounds,HT.cM,Option.getD_none,show (1:Int)>0 by decide,if_true]
   by_cases h:i<0
   ·simp only[h,if_true] <;> omega
   ·simp only[h,if_false] <;> omega
theorem pj(JU:List Value)(lo hi:Option Int):slicePick JU.toArray lo hi none=((JU.drop (HT.cM JU.length 0 lo)).take (HT.cM JU.length JU.length hi-HT.cM JU.length 0 lo)).toArray:=by
 obtain⟨h1,h2,h3⟩:=rG lo hi JU.toArray.size
 unfold slicePick
 rw[h1,h2,h3]
 simp only[sliceRange_one,pick_run,List.size_toArray] <;> rfl
def G5(K:PySem.W.Frag):V->Option Int->Option Int->Hp->VK->Prop:=λx lo hi H Q=>∃ a xs,x=.ref a/\ij K H a xs/\∀ p,H p=none->Q (.ref p) (upd H p (.lst (sx xs lo hi)))
theorem BZ:Ax X (G5 X.K):=by
 intro JS s σ H x v vl vu lo hi sl Q I rx hs pl pu h
 obtain⟨a,xs,rfl,hx,q⟩:=h
 cases rx
 obtain⟨JU,r,ht,hz⟩:=I.list hx
 have hlen:=r.length
 refine⟨"list", _,slot_list_getitem.lookup,ht.isList.typeIs,?_⟩
 refine wpAny_getItem_list_slice ht.isList hs pl pu .none (by simp) ?_ (by rw[List.size_toArray] <;> omega)
 rw[pj,← hlen]
 refine⟨.ref s.heap.objs.size,_,I.laid (t':=s.toks) (o:=.lst (sx xs lo hi)) (λb ob q=>Heap.get?_push_of_some _ q) (Nat.le_refl _) ?_,rfl,q _ (I.a_.fresh (Nat.le_refl _))⟩
 exact⟨Nat.le_trans (l8 xs lo hi) hz,_,0,(r.drop (HT.cM xs.length 0 lo)).take (HT.cM xs.length xs.length hi-HT.cM xs.length 0 lo),Heap.get?_push_size _ rfl⟩
theorem rF:cJ X (.builtin "len") (λxs H Q=>∃ p ys,xs=[.ref p]/\(ij X.K H p ys\/fQ X.K H p ys)/\Q (.int ys.length) H):=by
 intro JS s σ H xs us Q I r h
 obtain⟨p,ys,rfl,hq,q⟩:=h
 obtain⟨u,rfl,rx⟩:=vals1 r
 cases rx
 have hn:=nK
 rcases hq with hq | hq
 ·obtain⟨JU,r',pl,hz⟩:=I.list hq
  have hlen:=r'.length
  exact Calls.call_len_list pl.isList (by simp only[List.size_toArray] <;> omega) ⟨.int ys.length,H,I.tok _,⟨s.toks+1,by rw[List.size_toArray,hlen]⟩,q⟩
 ·obtain⟨JU,r',pl,hz⟩:=I.tuple hq
  have hlen:=r'.length
  exact len_tuple pl (by simp only[List.size_toArray] <;> omega) ⟨.int ys.length,H,I.tok _,⟨s.toks+1,by rw[List.size_toArray,hlen]⟩,q⟩
theorem qF:cJ X (.builtin "len") (λxs H Q=>∃ z,xs=[.str z]/\z.length<=sizeLine/\Q (.int z.length) H):=by
 intro JS s σ H xs us Q I r h
 obtain⟨z,rfl,hz,q⟩:=h
 obtain⟨u,rfl,t,rfl⟩:=vals1 r
 have hn:=nK
 exact len_str (by omega) ⟨.int z.length,H,I.tok _,⟨_,rfl⟩,q⟩
theorem cJ.or{f:Value}{r r':List V->Hp->VK->Prop}(h:cJ X f r)(h':cJ X f r'):cJ X f (λxs H Q=>r xs H Q\/r' xs H Q):=by
 intro JS s σ H xs us Q I rs q
 rcases q with q | q
 ·exact h JS s σ H xs us Q I rs q
 ·exact h' JS s σ H xs us Q I rs q
theorem qG:cJ X (.type "list") (λxs H Q=>∃ p ys,xs=[.ref p]/\(ij X.K H p ys\/fQ X.K H p ys)/\∀ l,H l=none->Q (.ref l) (upd H l (.lst ys))):=by
 intro JS s σ H xs us Q I r h
 obtain⟨p,ys,rfl,hq,q⟩:=h
 obtain⟨u,rfl,rx⟩:=vals1 r
 cases rx
 have fin:∀ (JU:List Value),Vals ys JU->ys.length<=sizeLine->∀ (h':Heap) (c':Nat),(∀ b o',s.heap.get? b=some o'->h'.get? b=some o') ->
   h'.get? s.heap.objs.size=some { cls:=.type "list", dict:=none,data:=.seq JU.toArray c',slots:=#[] }->EP X JS σ Q (.ref s.heap.objs.size) { s with heap:=h' }:=λJU r' hz h' c' kp e =>
  ⟨.ref s.heap.objs.size,_,I.laid (t':=s.toks) kp (Nat.le_refl _) (show bC X.prog X.w _ h' _ (.lst ys) from ⟨hz,JU,c',r',e⟩),rfl,q _ (I.a_.fresh (Nat.le_refl _))⟩
 rcases hq with hq | hq
 ·obtain⟨JU,r',pl,hz⟩:=I.list hq
  have hlen:=r'.length
  obtain⟨o,ho,hc,n,hd⟩:=pl.isList
  exact call_list_seq p (.inl rfl) ho hc hd (λh' c' kp e=>fin JU r' hz h' c' kp e) (by simp only[List.size_toArray] <;> omega)
 ·obtain⟨JU,r',pl,hz⟩:=I.tuple hq
  have hlen:=r'.length
  obtain⟨o,ho,hc,n,hd⟩:=pl
  exact call_list_seq p (.inr rfl) ho hc hd (λh' c' kp e=>fin JU r' hz h' c' kp e) (by simp only[List.size_toArray] <;> omega)
theorem pU:cJ X (.type "tuple") (λxs H Q=>∃ p ys,xs=[.ref p]/\((ij X.K H p ys/\∀ l,H l=none->Q (.ref l) (upd H l (.tup ys)))\/(fQ X.K H p ys/\Q (.ref p) H))):=by
 intro JS s σ H xs us Q I r h
 obtain⟨p,ys,rfl,h⟩:=h
 obtain⟨u,rfl,rx⟩:=vals1 r
 cases rx
 rcases h with ⟨hq,q⟩ | ⟨hq,q⟩
 ·obtain⟨JU,r',pl,hz⟩:=I.list hq
  have hlen:=r'.length
  refine call_tuple_list pl.isList (λh' kp=>?_) (by simp only[List.size_toArray] <;> omega)
  have I1:Inv X JS σ H { s with heap:=h' }:=I.kept (t':=s.toks) kp
  have I2:Inv X JS σ (upd H h'.objs.size (.tup ys)) { s with heap:=h'.push { cls:=.type "tuple", data:=.seq JU.toArray } } :=
   I1.laid (t':=s.toks) (λb o e=>Heap.get?_push_of_some _ e) (Nat.le_refl _) (show bC X.prog X.w _ _ _ (.tup ys) from ⟨hz,JU,r',IsTup.new _ _⟩)
  exact⟨.ref h'.objs.size,_,I2,rfl,q _ (I1.a_.fresh (Nat.le_refl _))⟩
 ·obtain⟨JU,r',pl,hz⟩:=I.tuple hq
  exact call_tuple_same pl ⟨.ref p,H,I,rfl,q⟩
def Jl(K:PySem.W.Frag)(T:String)(x:V)(H:Hp):Prop:=match x with
 | .str _=>T = "str"
 | .int _=>T = "int"
 | .ref p=>(T = "list" /\ ∃ xs,ij K H p xs)\/(T = "tuple" /\ ∃ o,K.lookup p=some o/\o.cls=.type "tuple" /\ o.dict=none) ∨
   (T = "dict" /\ ((∃ KW,H p=some (.dK KW))\/∃ KW,H p=some (.dT KW)))\/(T = "set" /\ ∃ S n,H p=some (.set S n))
 | _=>False
theorem Fg{JS:List (Addr×Obj)}{σ:St}{H:Hp}{s:Shared}{T:String}{x:V}{v:Value}(I:Inv X JS σ H s)(r:RelV x v)(ty:Jl X.K T x H) :
  s.TypeIs v T/\∀ a,v=.ref a->∃ ob,s.heap.get? a=some ob/\ob.dict=none:=by
 cases x with
 | str z =>
  obtain⟨t,rfl⟩:=r
  cases (show T = "str" from ty)
  exact⟨typeIs_str s z t,λ_ e=>nomatch e⟩
 | int i =>
  obtain⟨t,rfl⟩:=r
  cases (show T = "int" from ty)
  exact⟨typeIs_int s i t,λ_ e=>nomatch e⟩
 | ref p =>
  cases r
  rcases ty with ⟨rfl,xs,hq⟩ | ⟨rfl,o,hk,hc,hd⟩ | ⟨rfl,hk⟩ | ⟨rfl,S,n,hk⟩
  ·obtain⟨JU,_,pl,_⟩:=I.list hq
   refine⟨pl.isList.typeIs,λa e=>?_⟩
   cases e
   obtain⟨o,n,e,c,hd,_⟩:=pl
   exact⟨o,e,hd⟩
  ·refine⟨⟨o,I.ir p o hk,hc⟩,λa e=>?_⟩
   cases e
   exact⟨o,I.ir _ o hk,hd⟩
  ·have z:∃ o,s.heap.get? p=some o/\o.ExactDict:=by
    rcases hk with ⟨KW,hk⟩ | ⟨KW,hk⟩
    ·obtain⟨_,_,_,_,o,_,_,e,ex,_⟩:=I.a_ p _ hk
     exact⟨o,e,ex⟩
    ·obtain⟨_,_,_,_,o,_,_,e,ex,_⟩:=I.a_ p _ hk
     exact⟨o,e,ex⟩
   obtain⟨o,e,ex⟩:=z
   refine⟨⟨o,e,ex.1⟩,λa e2=>?_⟩
   cases e2
   exact⟨o,e,ex.2.1⟩
  ·obtain⟨o,_,_,_,e,ex,_⟩:=I.a_ p _ hk
   refine⟨⟨o,e,ex.1⟩,λa e2=>?_⟩
   cases e2
   exact⟨o,e,ex.2.1⟩
 | _=>exact False.elim ty
def Jp(K:PySem.W.Frag)(T:String)(r:V->List V->Hp->VK->Prop)(to:TE)(t:TA):TE:=fun σ H Q=>to σ H λx H1=>Jl K T x H1/\t σ H1 λxs H2=>r x xs H2 Q
variable{o e:Expr}{es:List Expr}{to:TE}{t:TA}{name:Str}{apos J6:Pos}{T id:String}{r:V->List V->Hp->VK->Prop}
theorem GF(pa:PlainAttrs T)(slot:Slot T name id)(hty:typeOf (.builtin id)=pure (.type "method_descriptor"))(hm:Jq X id r)(ho:PE X o to)(ha:PA X (e::es) t)
  (Mf:attributeBase o name X.env (eval o X.env)=eval o X.env:=by rfl)
  (MQ:((backTo J6 (starEach (e::es) X.env)).all (λx=>!x.1)&&(backToKw J6 (keywordEach [] X.env)).all (λx=>x.1.isSome)
   && decide ((e::es).length+([]:List Keyword).length+(if ([]:List Keyword).isEmpty then 0 else 1)<30))=true:=by rfl)
  (Mn:(apos.endLine==J6.line)=true:=by rfl) (hs:starEach (e::es) X.env=(false,eval e X.env)::starEach es X.env:=by rfl) (LR:(backTo J6 (starEach es X.env)).any (·.1)=false:=by rfl) :
  PE X (.Call (.Attribute o name apos) (e::es) [] J6) (Jp X.K T r to t):=by
 intro JS s σ H Q I h
 refine wpAny_Call_method_late Mf MQ Mn rfl (cN (ho JS s σ H _ I h) λv s1 ⟨x,H1,I1,r1,ty,q1⟩=>?_)
 obtain⟨h1,h2⟩:=Fg I1 r1 ty
 refine⟨T,id,pa,slot,hty,h1,h2,?_⟩
 have hA:=ha J6 JS s1 σ H1 _ I1 q1
 rw[hs] at hA ⊢
 refine Calls.callWith_builtin (by show (false||(backTo J6 (starEach es X.env)).any (·.1))=false;rw[LR] <;> rfl) (Calls.evalArgs_plain ?_)
 exact cN hA λus s2 ⟨vs,H2,I2,r2,q2⟩=>hm JS s2 σ H2 x vs v us Q I2 r1 r2 q2
end
end L2
namespace L2
open PySem PySem.Spec PyProof.Rows
def JK(X:Cx)(id:String)(r:V->List V->Hp->VK->Prop):Prop :=
 ∀ (JS:List (Addr×Obj)) (s:Shared) (σ:St) (H:Hp) (x:V) (xs:List V) (v:Value) (us:List Value) (Q:VK),Inv X JS σ H s->RelV x v->Vals xs us->r x xs H Q ->
  wpAny (model X.prog X.w) X.A (call (.builtin id) (v::us)) (EP X JS σ Q) X.xe s
theorem Vals.one:∀ {x:V} {us:List Value},Vals [x] us->∃ u,us=[u]/\RelV x u
 | _,_,.cons r .nil=>⟨_,rfl,r⟩
theorem Vals.rep{xs:List V}{us:List Value}(h:Vals xs us):∀ k:Nat,Vals (List.replicate k xs).flatten (List.replicate k us).flatten
 | 0=>.nil
 | k+1=>by
  rw[List.replicate_succ,List.replicate_succ,List.flatten_cons,List.flatten_cons]
  exact Vals.append h (Vals.rep h k)
theorem foldl_rep(JU:List Value):∀ (k:Nat) (acc:List Value),
  List.foldl (λx1 x2=>x1++x2) acc.toArray (List.replicate k JU.toArray)=(acc++(List.replicate k JU).flatten).toArray
 | 0,acc=>by simp
 | k+1,acc=>by
  have e:acc.toArray++JU.toArray=(acc++JU).toArray:=by simp
  have e2:(acc++JU)++(List.replicate k JU).flatten=acc++(List.replicate (k+1) JU).flatten:=by
   rw[List.replicate_succ,List.flatten_cons,List.append_assoc]
  rw[← e2,← foldl_rep JU k (acc++JU),← e,List.replicate_succ,List.foldl_cons]
section
variable{X:Cx}{JS:List (Addr×Obj)}{σ:St}{H:Hp}{s:Shared}{l b:Addr}{xs ys zs:List V}
theorem Inv.Ea{JU its':List Value}{n:Nat}{f:Array Value->Array Value}{t':Nat}(I:Inv X JS σ H s)(hH:H l=some (.lst xs))
  (e:s.heap.get? l=some { cls:=.type "list", data:=.seq JU.toArray n }) (hf:f JU.toArray=its'.toArray) (hv:Vals ys its') (hz:ys.length<=sizeLine) :
  Inv X JS σ (upd H l (.lst ys)) { s with heap:=s.heap.update l (Obj.mapSeq f),toks:=t' }:=by
 have q:=PySem.IsL.update e f
 rw[hf] at q
 refine I.write (x:=l) (e:=l) (by rw[hH];exact trivial) (.inl rfl) (λb' u hb hu=>(Heap.get?_update_other s.heap (Obj.mapSeq f) (Ne.symm hb)).trans hu) ⟨_,q⟩ ?_
 exact⟨hz,its',_,hv,q⟩
theorem Inv.Gm{JU:List Value}{t':Nat}(I:Inv X JS σ H s)(hv:Vals ys JU)(hz:ys.length<=sizeLine) :
  Inv X JS σ (upd H s.heap.objs.size (.lst ys)) { s with heap:=s.heap.push { cls:=.type "list", data:=.seq JU.toArray },toks:=t' } :=
 I.laid (λ_ _ q=>Heap.get?_push_of_some _ q) (Nat.le_refl _) ⟨hz,JU,0,hv,Heap.get?_push_size _ rfl⟩
theorem Inv.fresh(I:Inv X JS σ H s):H s.heap.objs.size=none:=I.a_.fresh (Nat.le_refl _)
theorem Inv.A7(I:Inv X JS σ H s)(hH:H l=some (.lst xs)):xs.length<=sizeLine/\∃ (JU:List Value) (n:Nat),Vals xs JU/\xs.length=JU.length/\s.heap.get? l=some { cls:=.type "list", data:=.seq JU.toArray n }:=by
 obtain⟨z,JU,n,r,e⟩:=I.a_ l _ hH
 exact⟨z,JU,n,r,r.length,e⟩
theorem zy{n:Nat}(h:n<=sizeLine):Builtin.List.listTooLong n=false:=by
 unfold Builtin.List.listTooLong
 exact decide_eq_false (by omega)
end
section
variable{X:Cx}
def BG:V->List V->Hp->VK->Prop:=λx vs H Q=>∃ l xs y,x=.ref l/\vs=[y]/\H l=some (.lst xs)/\xs.length<sizeLine/\Q .bZ (upd H l (.lst (xs++[y])))
theorem pW:JK X "list.append" BG:=by
 intro JS s σ H x vs v us Q I rx rv h
 obtain⟨l,xs,y,rfl,rfl,hH,hz,q⟩:=h
 cases rx
 obtain⟨u,rfl,ru⟩:=rv.one
 obtain⟨z,JU,n,r,hl,e⟩:=I.A7 hH
 refine call_meets F.slot_list_append ⟨_,e,rfl⟩ F.entry_list_append (F.args_list_append_2 _ _) (PySem.list_append l JU.toArray n u (by rw[List.size_toArray];omega)) ⟨e,?_⟩
 refine⟨.bZ,_,I.Ea (its':=JU++[u]) hH e (by simp) (r.append (.cons ru .nil)) ?_,rfl,q⟩
 rw[List.length_append,List.length_singleton]
 omega
def Gw:R2:=λx y H Q=>∃ l b xs zs,x=.ref l/\y=.ref b/\H l=some (.lst xs)/\H b=some (.lst zs)/\xs.length+zs.length<=sizeLine/\∀ p,H p=none->Q (.ref p) (upd H p (.lst (xs++zs)))
theorem Ee:gp X (binaryOp .Add) Gw:=by
 intro JS s σ H x y v u Q I rx ry h
 obtain⟨l,b,xs,zs,rfl,rfl,hH,hB,hz,q⟩:=h
 cases rx
 cases ry
 obtain⟨z,JU,n,r,hl,e⟩:=I.A7 hH
 obtain⟨z2,Lw,n2,r2,Lj,e2⟩:=I.A7 hB
 refine PySem.P.add_list e e2 ?_ (by rw[List.size_toArray,List.size_toArray];omega)
 have ea:JU.toArray++Lw.toArray=(JU++Lw).toArray:=by simp
 rw[ea]
 exact⟨.ref _,_,I.Gm (t':=s.toks) (r.append r2) (by rw[List.length_append];omega),rfl,q _ I.fresh⟩
def FA:R2:=λx y H Q=>∃ l k xs,x=.ref l/\y=.int k/\H l=some (.lst xs)/\-(2^63)<=k/\k<2^63/\xs.length*k.toNat<=sizeLine ∧
 ∀ p,H p=none->Q (.ref p) (upd H p (.lst (List.replicate k.toNat xs).flatten))
theorem len_rep{α:Type}(xs:List α)(k:Nat):(List.replicate k xs).flatten.length=k*xs.length:=by
 induction k with
 | zero=>simp
 | succ k ih=>rw[List.replicate_succ,List.flatten_cons,List.length_append,ih,Nat.succ_mul,Nat.add_comm]
theorem Ds:gp X (binaryOp .Mult) FA:=by
 intro JS s σ H x y v u Q I rx ry h
 obtain⟨l,k,xs,rfl,rfl,hH,h1,h2,hz,q⟩:=h
 cases rx
 obtain⟨t,rfl⟩:=ry
 obtain⟨z,JU,n,r,hl,e⟩:=I.A7 hH
 have hlen:JU.toArray.size*k.toNat<=sizeLine:=by rw[List.size_toArray,← hl];exact hz
 have hcap:¬ JU.toArray.size*k.toNat>(2^63-1)/8:=by
  have:(sizeLine:Nat)<=(2^63-1)/8:=by decide
  omega
 have hfit:¬ (!Builtin.List.listFitsIndex k)=true:=by
  rw[fitsIndex_both h1 h2]
  exact Bool.false_ne_true
 have Nn:¬ Builtin.List.listTooLong (JU.toArray.size*k.toNat)=true:=by
  rw[zy hlen]
  exact Bool.false_ne_true
 have Lk:List.foldl (λx1 x2=>x1++x2) #[] (List.replicate (if JU.toArray.isEmpty=true then 0 else k.toNat) JU.toArray)=(List.replicate k.toNat JU).flatten.toArray:=by
  have f0:∀ m:Nat,List.foldl (λx1 x2=>x1++x2) #[] (List.replicate m JU.toArray)=(List.replicate m JU).flatten.toArray:=λm=>by
   have:=foldl_rep JU m []
   rw[List.nil_append] at this
   exact this
  rw[f0]
  cases JU with
  | nil=>simp
  | cons a r'=>rw[if_neg (by simp)]
 refine wpAny_binaryOp_repeat_ref (T := "list") (U := "int") (by decide) ⟨_,e,rfl⟩ (λs'=>typeIs_int s' k t) noFill_list_mul F.fills_int_mul F.slot_int_rmul repeat_list F.slot_int_index.lookup
  (call_meets F.slot_int_rmul (typeIs_int s k t) F.entry_int_rmul (F.args_int_rmul_2 _ _) (int___rmul___int_list k t l JU.toArray n)
   ⟨e,rfl,⟨_,e,rfl⟩,call_meets F.slot_list_mul ⟨_,e,rfl⟩ F.entry_list_mul (F.args_list_mul_2 _ _) (AutoListH.list___mul___list_int_3 l JU.toArray n k t hfit hcap Nn) ⟨e,?_⟩⟩)
 rw[Lk]
 exact⟨.ref _,_,I.Gm (t':=s.toks) (r.rep k.toNat) (by rw[len_rep,Nat.mul_comm];exact hz),rfl,q _ I.fresh⟩
end
section
variable{prog:Program}{w:World}{A:Around}{E:Value->Shared->Prop}{s:Shared}
end
section
variable{X:Cx}
end
end L2
namespace L2
open PySem PySem.Spec PyProof.Rows
section
variable{κ:Type}[DecidableEq κ]
end
section
variable{P:Program}{w:World}{H:Hp}{h:Heap}{a:Addr}
end
section
variable{X:Cx}{JS:List (Addr×Obj)}{σ:St}{H:Hp}{s:Shared}{a:Addr}{y v:V}{u r:Value}{o:Option V}{A:Around}{E:Value->Shared->Prop}
theorem Inv.big(I:Inv X JS σ H s):sysModules<s.heap.objs.size:=by
 have h:mainGlobals<s.heap.objs.size:=(I.mod.glob.keeps I.bk).lt
 exact Nat.lt_trans (by decide) h
end
section
variable{X:Cx}{JS:List (Addr×Obj)}{σ:St}{H:Hp}{s:Shared}{a:Addr}{KW:List (Key×V)}{k:Key}{u:Value}{A:Around}{E:Value->Shared->Prop}
end
section
variable{X:Cx}{o i e value:Expr}{pos pos' tpos:Pos}{td ty tv:TE}
end
theorem z8{P:Program}{w:World}{H:Hp}(h:Heap)(hb:sysModules<h.objs.size):bC P w H (h.push { cls:=.type "dict", data:=.dict #[] }) h.objs.size (.dK []) :=
 ⟨Nat.zero_le _,beq_eq_false_iff_ne.mpr (Ne.symm (Nat.ne_of_lt hb)),[],.nil,Heap.DictOf.new h⟩
def Df:TE:=λ_ H Q=>∀ p,H p=none->Q (.ref p) (upd H p (.dK []))
section
variable{X:Cx}{pos:Pos}
theorem zG:PE X (.Dict [] [] pos) Df:=λJS s σ H Q I h =>
 wpAny_Dict_empty ⟨.ref s.heap.objs.size,_,I.laid (a:=s.heap.objs.size) (o:=.dK []) (t':=s.toks) (λ_ _ q=>Heap.get?_push_of_some _ q) (Nat.le_refl _) (z8 s.heap I.big),rfl,h _ (I.a_.fresh (Nat.le_refl _))⟩
end
section
variable{X:Cx}{JS:List (Addr×Obj)}{σ:St}{H:Hp}{s:Shared}{a:Addr}{y d:V}{u r:Value}{o:Option V}{A:Around}{E:Value->Shared->Prop}
end
section
variable{X:Cx}{o e f:Expr}{apos J6:Pos}{td ty tx:TE}
end
section
variable{X:Cx}{JS:List (Addr×Obj)}{σ:St}{H:Hp}{s:Shared}{a:Addr}{KW:List (Key×V)}{A:Around}{E:Value->Shared->Prop}
end
section
variable{X:Cx}{JS:List (Addr×Obj)}{σ:St}{H:Hp}{s:Shared}{a:Addr}{y:V}{u:Value}{A:Around}{E:Value->Shared->Prop}
end
end L2
namespace Att
open PySem PySem.W PySem.Calls PyProof.Rows
theorem mF{P:Params}{h:Heap}:∀ (ns:List Int) (vs:List Value),WellAll P h vs (ns.map WData.int)->IntsAre vs ns:=by
 intro ns
 induction ns with
 | nil =>
  intro vs w
  rw[List.map_nil] at w
  cases w
  exact .nil
 | cons n ns ih =>
  intro vs w
  rw[List.map_cons] at w
  cases w with
  | cons a b =>
   cases a
   exact .cons _ _ (ih _ b)
theorem vZ{l:OpenLaw}{n:Nat}(hn:l.most=some n){P:Params}{h:Heap}{args:List WData}{vals:List Value}
  (wL:l.row.toRowW.claim.pre args=true) (hwl:WellAll P h vals args) :
  ∃ a vs ns,vals=[Value.ref a]/\args=[WData.list (ns.map WData.int)]/\h.get? a=some { cls:=.type "list", data:=.seq vs.toArray }/\IntsAre vs ns/\ns.length<=n:=by
 have hsh:WShape.hasAll [] args [.list .int]=true:=(pre_splitW wL).1
 have hc:l.pre.holds [] { args:=args }=true:=(pre_splitW wL).2
 obtain⟨d,r,rfl,h1,h2⟩:=hasAllW_cons hsh
 obtain rfl:=hasAllW_nil h2
 obtain⟨xs,rfl,h3⟩:=hasW_list h1
 obtain⟨ns,rfl⟩:=items_int h3
 have hlen:ns.length<=n:=by
  unfold OpenLaw.pre at hc
  have h4:(WTm.not (.lt (.lit (.int (n:Int))) (.len (.arg 0)))).holds [] { args:=[.list (ns.map .int)] }=true:=by
   have h4:=(holds_andW hc).1
   rw[hn] at h4
   exact h4
  have h5:=condW_of h4 (w_not (w_lt w_lit (w_len_list (w_arg rfl))))
  rw[List.length_map] at h5
  refine Nat.le_of_not_lt λq=>?_
  have q':(n:Int)<((ns.length:Nat):Int):=by omega
  first
   | (rw[decide_eq_true q'] at h5;exact absurd h5 (by decide))
   | (simp at h5;omega)
 cases hwl with
 | cons w1 w2 =>
  cases w2
  cases w1 with
  | list ho hall=>exact⟨_,_,ns,rfl,rfl,ho,mF ns _ hall,hlen⟩
theorem wm(l:OpenLaw)(args:List WData):l.row.toRowW.claim.post args (.bool true) args=true :=
 postW_of (r:=l.row.toRowW) (X:=(true==true))
  (show WShape.has [] (.bool true) .bool=true by first | rfl | decide | simp[WShape.has,WShape.arms,WShape.armsAll])
  (show (WTm.eq .res (.lit (.bool true))).value [] { args:=args,res:=some (.bool true),after:=args }=some (.bool (true==true)) from w_eq_bool (w_res rfl) w_lit) rfl
section
variable{prog:Program}{w:World}{A:Around}{E:Value->Shared->Prop}{s:Shared}{K:Frag}
end
end Att
namespace L2
open PySem PySem.Spec PyProof.Rows
theorem qk:∀ {vs:List Value} {ns:List Int},IntsAre vs ns->Vals (ns.map V.int) vs
 | _,_,.nil=>.nil
 | _,_,.cons n t h=>.cons ⟨t,rfl⟩ (qk h)
def FF(H:Hp):Prop:=∀ b,H b=none\/∃ o xs,H b=some (.pA o (.lst xs))
theorem ye{P:Program}{w:World}{K:PySem.W.Frag}{mg mb:Str->Option Value}{CX:AV}{k:Nat}{fa a:Addr}{fd:FuncData}{x:Str}{sp:Sp}{s₁:Shared}{vs:List Value}{ns:List Int}
  (KX:K.In s₁.heap) (hns:s₁.heap.Ns mainGlobals mg) (hb:s₁.heap.Ns builtinsNs mb) (M3:∀ x:Str,x ≠ "__name__" -> mb x=bootBuiltins x) (hlim:s₁.heap.NoLimit) (hg:s₁.gens=#[])
  (ha:s₁.heap.get? a=some { cls:=.type "list", data:=.seq vs.toArray }) (hi:IntsAre vs ns) (hl:ns.length<=sizeLine) (hr:bN k callerA)
  (F:∀ base:Heap,K.In base->base.Ns mainGlobals mg->aF P w K mg base CX k fa fd [x] sp) (Nf:∀ (s:Shared) (u:Value),BindsTo s fd ⟨[u],[]⟩ [(x,u)])
  (hsp:∀ H:Hp,FF H->ij K H a (ns.map V.int)->sp [.ref a] H (λv _=>v=.bl true) λ_ _ _=>False)
  (hCX:∀ H e s',CX [] H s₁ (λ_ _ _=>False) e s'->False) :
  codeAny (model P w) callerA (.call (.ref fa) ⟨[.ref a],[]⟩) (λr s'=>r=.ok (.ret (.bool true))/\OldK s₁.heap s'.heap/\s'.os=s₁.os/\AllBare s'.gens) s₁:=by
 have rv:=qk hi
 have lenV:=hi.length
 have core:∀ H:Hp,FF H->ij K H a (ns.map V.int)->lh P w H s₁.heap->(∀ b,H b≠none->b=a)->(H a≠none->K.lookup a=none) ->
   codeAny (model P w) callerA (.call (.ref fa) ⟨[.ref a],[]⟩) (λr s'=>r=.ok (.ret (.bool true))/\OldK s₁.heap s'.heap/\s'.os=s₁.os/\AllBare s'.gens) s₁:=by
  intro H hO hS a_ hA hK
  have LY:∀ {b:Addr} {o:Obj},s₁.heap.get? b=some o->H b=none->(rn s₁.heap H).get? b=some o:=λe n=>yu e n
  have ka:∀ {b:Addr} {o:Obj} {es:Array DictEntry} {ep:Nat},s₁.heap.get? b=some o->o.data=.dict es ep->H b=none:=λ{b o es ep} e d=>by
   cases q:H b with
   | none=>rfl
   | some u =>
    have e':b=a:=hA b (by rw[q];simp)
    subst e'
    rw[ha] at e;cases e
    have d':Data.seq vs.toArray _=Data.dict es ep:=d
    cases d'
  have nsK:∀ {b:Addr} {m:Str->Option Value},s₁.heap.Ns b m->(rn s₁.heap H).Ns b m:=λ{b m} ⟨o,es,ep,e,d,r⟩=>⟨o,es,ep,LY e (ka e d),d,r⟩
  have hKb:K.In (rn s₁.heap H):=λb o e=>LY (KX b o e) (by
   cases q:H b with
   | none=>rfl
   | some u =>
    have e':b=a:=hA b (by rw[q];simp)
    subst e'
    rw[hK (by rw[q];simp)] at e;cases e)
  have hM:Mod K mg (rn s₁.heap H):=⟨hKb,nsK hns,⟨mb,nsK hb,M3⟩,let ⟨mc,h1,h2⟩:=hlim;⟨mc,nsK h1,h2⟩⟩
  have e0:vd P w K mg (rn s₁.heap H) callerA [] s₁ H:=⟨rfl,hM,λb o e=>Bh e,Nat.le_of_eq (wR _ _),trivial,λb hb=>absurd (show b∈([]:List Addr) from hb) (by simp),a_,.of_eq hg⟩
  refine codeAny_mono ((F _ hKb (nsK hns)).run callerA [] s₁ H ⟨[.ref a],[]⟩ [.ref a] [.ref a] _ _ hr e0 (Nf s₁ (.ref a)) (.cons rfl .nil) (hsp H hO hS)) λr s' h=>?_
  cases r with
  | error e=>exact(hCX H e s' h).elim
  | ok fl =>
   cases fl with
   | next=>exact False.elim h
   | brk=>exact False.elim h
   | cont=>exact False.elim h
   | ret u =>
    obtain⟨v,H',os,bare,un,hok',r',q⟩:=h
    have q':v=.bl true:=q
    subst q'
    obtain rfl:u=Value.bool true:=r'
    refine⟨rfl,OldK.of_keep λb o e=>?_,os,bare⟩
    cases q:H b with
    | none=>exact un.keep b o e q (by intro z;exact absurd (show b∈([]:List Addr) from z) (by simp)) (by simp)
    | some u =>
     rcases hO b with z | ⟨ob,xs,z⟩
     ·rw[q] at z;cases z
     ·have z2:=un.j2 b ob _ z
      obtain⟨e1,_⟩:=a_ b _ z
      obtain⟨e2,_⟩:=hok' b _ z2
      rw[e] at e1;cases e1
      exact e2
 cases hk:K.lookup a with
 | some o =>
  have e:=KX a o hk
  rw[ha] at e
  cases e
  refine core (λ_=>none) (λ_=>.inl rfl) (.inr ⟨_,vs.toArray,_,hk,rfl,rfl,rfl,by rw[List.size_toArray,lenV];exact hl,by simpa using rv⟩) (λb u z=>by have z':(none:Option HO)=some u:=z;cases z') (λb z=>absurd rfl z) λz=>absurd rfl z
 | none =>
  refine core (λb=>if b=a then some (.pA { cls:=.type "list", data:=.seq vs.toArray } (.lst (ns.map V.int))) else none) (λb=>?_) (.inl (.inr ⟨{ cls:=.type "list", data:=.seq vs.toArray },if_pos rfl⟩)) (λb u z=>?_) (λb z=>?_) λ_=>hk
  ·by_cases hb:b=a
   ·exact .inr ⟨_,_,if_pos hb⟩
   ·exact .inl (if_neg hb)
  ·by_cases hb:b=a
   ·have z':=(if_pos hb).symm.trans z
    cases z'
    subst hb
    exact⟨ha,by rw[List.length_map];exact hl,vs,_,rv,ha⟩
   ·have z':=(if_neg hb).symm.trans z
    cases z'
  ·by_cases hb:b=a
   ·exact hb
   ·exact absurd (if_neg hb) z
end L2
namespace L2
open PySem PySem.Spec PyProof.Rows
end L2
namespace L2
open PySem PySem.Spec PyProof.Rows
def inClass(s:Stmt)(j:Nat):Stmt:=match s with
 | .ClassDef _ _ _ body _ _ _ _ _ _ _=>body.getD j (.Pass ⟨0,0,0,0⟩)
 | _=>.Pass ⟨0,0,0,0⟩
def gT(s:Stmt):Arguments:=match s with
 | .FunctionDef _ a _ _ _ _ _ _ _ _=>a
 | _=>{ posonlyargs:=[],args:=[],vararg:=none,kwonlyargs:=[],kw_defaults:=[],kwarg:=none,defaults:=[] }
def eX(s:Stmt):List Stmt:=match s with
 | .FunctionDef _ _ b _ _ _ _ _ _ _=>b
 | _=>[]
def aq(s:Stmt):Scope:=match s with
 | .FunctionDef _ _ _ _ _ _ sc _ _ _=>sc
 | _=>{ kind:=.function,names:=[],isGenerator:=false,isCoroutine:=false }
abbrev E0:XK:=λ_ _ _=>False
section
variable{P:Program}{w:World}{K:PySem.W.Frag}{mg:Str->Option Value}{base:Heap}
end
theorem lz{n:Nat}(h:n<=1000):n<sizeLine:=Nat.lt_of_le_of_lt h (by decide)
section
variable{X:Cx}
end
def aV(H H':Hp):Prop:=∀ b o,H b=some o->H' b=some o
end L2
namespace L2
open PySem PySem.Spec PyProof.Rows
section
variable{X:Cx}
def yZ(_ j:Int):Prop:=j≠0/\j.natAbs.log2<9000
theorem zg:gp X (binaryOp .FloorDiv) (rI yZ λi j=>.int (i.fdiv j)):=G2 λ_ _ _ _ _ _ _ hc q=>floordiv_int hc.1 q (.inl (PyProof.noPylong_of_log2 hc.2))
theorem Cf:gp X (binaryOp .Mult) (rI (λi j=>IntMulOk i j) λi j=>.int (i*j)):=G2 λ_ _ _ _ _ _ _ hc q=>mul_int q hc
theorem xW{a b:Int}{m n:Nat}(ha:a.natAbs<2^m)(hb:b.natAbs<2^n)(h:m+n<=134217728):IntMulOk a b:=IntMulOk.of_le (intBits_le_iff.mpr ha) (intBits_le_iff.mpr hb) h
theorem u_:bootBuiltins "isinstance" = some (.builtin "isinstance"):=by decide +kernel
theorem rm:bootBuiltins "int" = some (.type "int"):=by decide +kernel
theorem kR:bootBuiltins "bool" = some (.type "bool"):=by decide +kernel
theorem i_:bootBuiltins "tuple" = some (.type "tuple"):=by decide +kernel
theorem vP:bootBuiltins "list" = some (.type "list"):=by decide +kernel
theorem E5:bootBuiltins "sum" = some (.builtin "sum"):=by decide +kernel
def IP(K:PySem.W.Frag):List V->Hp->VK->Prop:=λxs H Q=>∃ x T t b,xs=[x,.ty T]/\i5 K H x t/\PySem.W.kitOne K t (.type T)=some b/\Q (.bl b) H
def Hq(K:PySem.W.Frag):List V->Hp->VK->Prop:=λxs H Q=>∃ x C t b,xs=[x,.ref C]/\i5 K H x t/\PySem.W.kitOne K t (.ref C)=some b/\Q (.bl b) H
theorem yh:cJ X (.builtin "isinstance") (IP X.K):=by
 intro JS s σ H xs us Q I r h
 obtain⟨x,T,t,b,rfl,ty,e,q⟩:=h
 cases r with
 | cons r1 r2 =>
  cases r2 with
  | cons r3 r4 =>
   cases r4
   cases (show _=Value.type T from r3)
   exact qf I r1 ty e λtk=>⟨.bl b,H,I.tok tk,rfl,q⟩
theorem zZ:cJ X (.builtin "isinstance") (Hq X.K):=by
 intro JS s σ H xs us Q I r h
 obtain⟨x,C,t,b,rfl,ty,e,q⟩:=h
 cases r with
 | cons r1 r2 =>
  cases r2 with
  | cons r3 r4 =>
   cases r4
   cases (show _=Value.ref C from r3)
   exact qf I r1 ty e λtk=>⟨.bl b,H,I.tok tk,rfl,q⟩
end
section
variable(K:PySem.W.Frag)
end
section
variable{X:Cx}
theorem Inv.jI{JS:List (Addr×Obj)}{σ:St}{H:Hp}{s:Shared}{h':Heap}{t':Nat}{ch:List Addr}{a:Addr}{o:HO}(I:Inv X JS σ H s)(k:∀ b u,b ∉ ch->s.heap.get? b=some u->h'.get? b=some u)
  (LJ:∀ b∈ch,kZ X JS H b) (hp:s.heap.objs.size<=a) (hl:∀ b∈ch,∃ u,s.heap.get? b=some u) (new:bC X.prog X.w (upd H a o) h' a o):Inv X JS σ (upd H a o) { s with heap:=h',toks:=t' }:=by
 have ne:∀ b u,s.heap.get? b=some u->b≠a:=λb u e=>Nat.ne_of_lt (Nat.lt_of_lt_of_le (Heap.lt_size e) hp)
 have Ml:H a=none:=I.a_.fresh hp
 have Mw:∀ b u,H b=some u->b ∉ ch:=λb u e z=>by rw[(LJ b z).1] at e;cases e
 have Mv:∀ b u,H b=some u->b≠a:=λb u e z=>by rw[z,Ml] at e;cases e
 refine I.step (g':=s.gens) (d':=s.drawn) (ch:=ch) (λb hb=>?_) (λb u _ _ hc e _=>k b u hc e) (λb u _ _ hc e _=>⟨u.slots,k b u hc e⟩)
  (λb u _ e n=>by rw[au (ne b u e)];exact n) (λb u hc e=>⟨u,k b u hc e⟩)
  (λb xs e=>by rw[au (Mv b _ e)];exact e) (λb ob u e=>by rw[au (Mv b _ e)];exact e) (λb ps e=>⟨#[],by rw[au (Mv b _ e),e];simp⟩) (λm hm=>?_) (λb u e=>?_) I.bare
 ·obtain⟨_,f1,_,f3,f4,f5⟩:=LJ b hb
  exact⟨f3,f1,f4,f5⟩
 ·obtain⟨ob,es,ep,ho,r⟩:=hm
  exact⟨ob,es,ep,k _ ob (λz=>(LJ _ z).2.1 rfl) ho,r⟩
 ·by_cases z:b=a
  ·subst z
   rw[az] at e
   cases e
   exact new
  ·rw[au z] at e
   refine(I.a_ b u e).kP (λc v hc q=>k c v ?_ q) (λc q=>?_) λc ys q=>?_
   ·rcases hc with z' | z'
    ·rw[z'];exact Mw b u e
    ·exact Mw c _ z'
   ·rw[au (Mv c _ q)];exact q
   ·rw[au (Mv c _ q)];exact q
def E3 (K : PySem.W.Frag) (a : Addr) : It :=
  ⟨λi H => ∃ xs x, ij K H a xs /\ xs[i]? = some x,
   λi H y H' => ∃ p x, H p = none /\ y = .ref p /\ H' = upd H p (.tup [.int i, x]) /\ ∀ xs, ij K H a xs -> xs[i]? = some x,
   λi H => ∃ xs, ij K H a xs /\ xs.length <= i⟩
theorem wj{P:Program}{w:World}{K:PySem.W.Frag}{elts:List Expr}{x1:Nat}{tp:Pos}(a e it:Addr)(Mc:e≠it):Turn P w K (.Tuple elts x1 tp) (E3 K a) [e,it] e (λi h=>(∃ old,IsEnum h e it i old)/\h.IsListIter it a i) where
 mem:=by simp
 obj:=λi h st b hb=>by
  obtain⟨⟨old,he⟩,⟨o,e1,c,d⟩⟩:=st
  rcases List.mem_cons.mp hb with z | z
  ·subst z
   exact⟨_,he,λv z=>by cases z⟩
  ·have z':b=it:=by simpa using z
   subst z'
   exact⟨o,e1,λv z=>by rw[d] at z;cases z⟩
 keep:=λi h h' st k=>by
  obtain⟨⟨old,he⟩,hit⟩:=st
  exact⟨⟨old,k e (by simp) _ he⟩,hit.at λo x=>k it (by simp) o x⟩
 item:=by
  intro X hP hw hK hc i JS s σ H E I hf st hg
  subst hP hw hK
  obtain⟨xs,x,hq,hx⟩:=hg
  obtain⟨JU,rv,p,hz⟩:=I.list hq
  obtain⟨u,hu,ru⟩:=rv.get hx
  obtain⟨⟨old,he⟩,hit⟩:=st
  have Mj:e<s.heap.objs.size:=Heap.lt_size he
  have MR:it<s.heap.objs.size:=by obtain⟨_,z,_⟩:=hit;exact Heap.lt_size z
  refine wpAny_pyNext_enum_item he hit p.isList (x:=u) (by simpa using hu) Mc λh' ho MS hT Lq hk=>⟨_,rfl,?_⟩
  refine wpAny_letOwnedTupleGo_enum (s:={ s with heap:=h',toks:=s.toks+1 }) ho λh2 he2 LH=>?_
  have Mt:∀ b o,b ∉ [e,it]->s.heap.get? b=some o->h2.get? b=some o:=λb o hb q=>by
   have n1:b≠e:=λz=>hb (by simp[z])
   have n2:b≠it:=λz=>hb (by simp[z])
   exact(LH.2 b n1).trans (hk b o n1 n2 q)
  have MB:h2.get? s.heap.objs.size=some { cls:=.type "tuple", data:=.seq #[.int i s.toks,u] }:=(LH.2 _ (Nat.ne_of_gt Mj)).trans hT
  have I2:Inv X JS σ (upd H s.heap.objs.size (.tup [.int i,x])) { s with heap:=h2,toks:=s.toks+1 } :=
   I.jI (ch:=[e,it]) Mt hf (Nat.le_refl _) (λb hb=>by
    rcases List.mem_cons.mp hb with z | z
    ·subst z;exact⟨_,he⟩
    ·have z':b=it:=by simpa using z
     subst z'
     obtain⟨o,z,_⟩:=hit
     exact⟨o,z⟩)
    ⟨by show 2<=sizeLine;decide,[.int i s.toks,u],.cons ⟨_,rfl⟩ (.cons ru .nil),⟨_,MB,rfl,_,rfl⟩⟩
  have Lk:H s.heap.objs.size=none:=I.a_.fresh (Nat.le_refl _)
  refine⟨.ref s.heap.objs.size,_,I2,rfl,⟨_,x,Lk,rfl,rfl,λys hy=>by rw[I.oz hy hq];exact hx⟩,⟨⟨u,by simpa using he2⟩,MS.at λo z=>(LH.2 it (Ne.symm Mc)).trans z⟩,λb hb=>?_⟩
  have nb:b≠s.heap.objs.size:=by
   rcases List.mem_cons.mp hb with z | z
   ·rw[z];exact Nat.ne_of_lt Mj
   ·have z':b=it:=by simpa using z
    rw[z'];exact Nat.ne_of_lt MR
  rw[au nb]
  exact(hf b hb).1
 done:=by
  intro X hP hw hK hc i JS s σ H E I hf st hg
  subst hP hw hK
  obtain⟨xs,hq,hx⟩:=hg
  obtain⟨JU,rv,p,hz⟩:=I.list hq
  have hl:=rv.length
  obtain⟨⟨old,he⟩,hit⟩:=st
  obtain⟨f0,f1,f2,f3,f4,f5⟩:=hf it (by simp)
  exact wpAny_pyNext_enum_end (I.ok.hd hc) he hit p.isList (by simp;omega) λh' eb=>⟨rfl,I.turned (t':=s.toks) (λb o hb e=>eb b o hb e) f0 f1 f3 f4 f5⟩
 self:=λ_ _ _ _ _ st h=>by
  obtain⟨⟨old,he⟩,_⟩:=st
  exact wpAny_pyIter_enum he h
end
end L2
namespace L2
open PySem PySem.Spec PyProof.Rows
section
variable{prog:Program}{w:World}{A:Around}{R:Result->Shared->Prop}{s:Shared}
theorem xH{elt target iter:Expr}{ifs:List Expr}{scope:Scope}{pos:Pos}{it acc:Value}{env:Env}(I:Nat->Shared->Prop)
  (turn:∀ n s,I n s->wpAny (model prog w) A (pyNext it) (λr s₁=>match r with
   | none=>R (.ok .next) s₁
   | some v=>wpAny (model prog w) A (letOwnedTupleGo target it v) (λ_ s₂=>wpAny (model prog w) A (assign target env v) (λ_ s₃ =>
     wpAny (model prog w) A (forIn ifs true λc r=>if r=true then do let ok ← isTrue c env (eval c env);pure (ForInStep.yield ok) else pure (ForInStep.yield r)) (λok s₄ =>
      if ok=true then wpAny (model prog w) A (eval elt env) (λx s₅ =>
       wpAny (model prog w) A (call (.builtin "list.append") [acc,x]) (λ_ s₆=>∃ m,m<n/\I m s₆) (λ_ _=>False) s₅) (λ_ _=>False) s₄
      else ∃ m,m<n/\I m s₄) (λ_ _=>False) s₃) (λ_ _=>False) s₂) (λ_ _=>False) s₁) (λ_ _=>False) s)
  (n:Nat) (h:I n s) :
  codeAny (model prog w) A (.compLoop (.ListComp elt [⟨target,iter,ifs,0⟩] scope pos) 0 it acc env) R s:=by
 refine codeAny_loop rfl I (λn s hI=>?_) n h
 show wpAny _ A ((compTurn (.ListComp elt [⟨target,iter,ifs,0⟩] scope pos) 0 it acc env).onRaise (λx=>do noteFrame x env;theTreesLotGoes x)) _ _ s
 refine wpAny_noted ?_
 rw[compTurn_list]
 refine wpAny_bind (wpAny_standAt (wpAny_bind (wpAny_mono (turn n s hI) (λr s₁ h₁=>?_) λ_ _ h'=>h'.elim)))
 cases r with
 | none=>exact wpAny_pure h₁
 | some v =>
  refine wpAny_bind (wpAny_mono h₁ (λ_ s₂ h₂=>wpAny_bind (wpAny_mono h₂ (λ_ s₃ h₃=>wpAny_bind (wpAny_mono h₃ (λok s₄ h₄=>?_) λ_ _ h'=>h'.elim)) λ_ _ h'=>h'.elim)) λ_ _ h'=>h'.elim)
  cases ok with
  | false=>exact wpAny_pure ⟨rfl,h₄⟩
  | true =>
   exact wpAny_bind (wpAny_bind (wpAny_mono h₄ (λx s₅ h₅=>wpAny_bind (wpAny_mono h₅ (λ_ s₆ h₆=>wpAny_pure (wpAny_pure ⟨rfl,h₆⟩)) λ_ _ h'=>h'.elim)) λ_ _ h'=>h'.elim))
end
def tX(X:Cx)(scope:Scope)(cl:List (Str×Addr))(N:List Str)(C:Addr)(s₀:Shared)(H₀:Hp)(ex:List Addr)(JS:List (Addr×Obj)):Cx :=
 { X with N:=N,s₀:=s₀,H₀:=H₀,env:=compEnvC scope cl C X.env,outer:=X.stack,stack:=X.stack,ex:=ex,fn:=λ_=>false,pn:=X.pn++JS,xe:=λ_ _=>False }
inductive jt (X:Cx) (sc:Scope) (cl:List (Str×Addr)):List Str->List Nat->Prop where
 | nil:jt X sc cl [] []
 | cons {x:Str} {j:Nat} {c:Addr} {fs:List Str} {js:List Nat} (hN:X.N[j]?=some x) (hf:sc.names.lookup x=some .free) (hv:X.env.kindOf x=some .cell\/X.env.kindOf x=some .free) (hc:X.env.cells.lookup x=some c) (hl:cl.lookup x=some c) (r:jt X sc cl fs js):jt X sc cl (x::fs) (j::js)
inductive fE (X:Cx):List (Str×Addr)->Prop where
 | nil:fE X []
 | cons {x:Str} {c:Addr} {r:List (Str×Addr)} (h:X.env.cells.lookup x=some c) (t:fE X r):fE X ((x,c)::r)
theorem fE.at{X:Cx}:∀ {cl:List (Str×Addr)},fE X cl->∀ x c,cl.lookup x=some c->X.env.cells.lookup x=some c
 | _,.nil,_,_,e=>by simp at e
 | _,.cons (x:=y) (c:=d) h t,x,c,e=>by
  rw[List.lookup_cons] at e
  cases q:x==y with
  | true =>
   rw[q] at e
   have e':d=c:=Option.some.inj e
   have q':x=y:=by simpa using q
   rw[q',← e'];exact h
  | false =>
   rw[q] at e
   exact fE.at t x c e
def jA(cl:List (Str×Addr))(names:List (Str×NameKind)):Bool:=names.all λy=>y.2 != .free||(cl.lookup y.1).isSome
def ic(names:List (Str×NameKind)):Bool:=names.all λy=>y.2 != .cell
def jG(names:List (Str×NameKind)):Bool:=names.all λy=>y.2 != .local||(names.lookup y.1==some .local)
def fO(ts:List Str)(js:List Nat)(σ:St):St:=ts.map (λ_=>none)++js.map λj=>(σ[j]?).join
def ym(wi:TI)(g:TG)(tt:Option TT)(te:TE)(ts:List Str)(js:List Nat):TE:=fun σ H Q=>wi σ H λJ H1=>∀ D,H1 D=none ->
 ∃ W:Nat->Nat->St->Hp->Prop,(∃ m,W 0 m (fO ts js σ) (upd H1 D (.lst [])))/\∀ i m σ' H',W i m σ' H' ->
  (J.stop i H'/\Q (.ref D) H')\/(J.go i H'/\∃ N:St->Hp->Prop,(∀ σ'' H'',N σ'' H''->∃ m',m'<m/\W (i+1) m' σ'' H'') ∧
   ∀ x H2,J.uJ i H' x H2->g x σ' H2 fun σ2 H3=>match tt with
    | none=>te σ2 H3 λy H4=>∃ ys,H4 D=some (.lst ys)/\ys.length<sizeLine/\N σ2 (upd H4 D (.lst (ys++[y])))
    | some t=>t σ2 H3 λb H3'=>if b=true then te σ2 H3' λy H4=>∃ ys,H4 D=some (.lst ys)/\ys.length<sizeLine/\N σ2 (upd H4 D (.lst (ys++[y]))) else N σ2 H3')
theorem om {scope : Scope} {cl : List (Str × Addr)} {C : Addr} {env : Env} {x : Str} (h : (compEnvC scope cl C env).kindOf x = some .cell \/ (compEnvC scope cl C env).kindOf x = some .free) (nc : ic scope.names = true) : scope.names.lookup x = some .free := by
  have key : ∀ (names : List (Str × NameKind)), ic names = true ->
      ((names.map λ(n, k) => if (k == NameKind.free && env.scope.kind == .function && env.kindOf n == some .cell) then (n, NameKind.cell) else (n, k)).lookup x = some .cell ∨
       (names.map λ(n, k) => if (k == NameKind.free && env.scope.kind == .function && env.kindOf n == some .cell) then (n, NameKind.cell) else (n, k)).lookup x = some .free) -> names.lookup x = some .free := by
    intro names
    induction names with
    | nil => intro _ h; simp at h
    | cons p r ih =>
      obtain ⟨n, k⟩ := p
      intro nc h
      have nc' : (k != .cell) = true /\ ic r = true := by
        unfold ic at nc
        rw [List.all_cons, Bool.and_eq_true] at nc
        exact nc
      rw [List.map_cons] at h
      dsimp only at h
      by_cases hc : (k == NameKind.free && env.scope.kind == .function && env.kindOf n == some .cell) = true
      · rw [if_pos hc] at h
        rw [List.lookup_cons] at h ⊢
        cases q : x == n with
        | true =>
          have : k = .free := by
            rw [Bool.and_eq_true, Bool.and_eq_true] at hc
            simpa using hc.1.1
          rw [this]
        | false =>
          rw [q] at h
          exact ih nc'.2 h
      · rw [if_neg hc] at h
        rw [List.lookup_cons] at h ⊢
        cases q : x == n with
        | true =>
          rw [q] at h
          have nk : k ≠ .cell := by simpa using nc'.1
          rcases h with h | h
          · exact absurd (Option.some.inj h) nk
          · exact h
        | false =>
          rw [q] at h
          exact ih nc'.2 h
  exact key scope.names nc h
theorem tR{X:Cx}{tg elt iter:Expr}{ifs:List Expr}{scope:Scope}{cl:List (Str×Addr)}{pos J6:Pos}{wi:TI}{g:TG}{tt:Option TT}{te:TE}{ts fs:List Str}{js:List Nat}(J4:X.calm=true)
  (Ky:closureFor scope X.env=pure cl) (hk:scope.kind=.function) (nc:ic scope.names=true) (lo:jG scope.names=true) (fh:jA cl scope.names=true) (ag:fE X cl) (fr:jt X scope cl fs js)
  (hi:PI X tg iter wi) (hg:∀ C s₀ H₀ ex JS,PG (tX X scope cl (ts++fs) C s₀ H₀ ex JS) tg g)
  (ht:∀ C s₀ H₀ ex JS,match ifs,tt with | [],none=>True | [c],some t=>PT (tX X scope cl (ts++fs) C s₀ H₀ ex JS) c t | _,_=>False)
  (he:∀ C s₀ H₀ ex JS,PE (tX X scope cl (ts++fs) C s₀ H₀ ex JS) elt te)
  (hs:∀ x,foldedSetIterable iter X.env x=pure x) {JS:List (Addr×Obj)} {s:Shared} {σ:St} {H:Hp} {Q:VK} (I:Inv X JS σ H s) (h:ym wi g tt te ts js σ H Q)
  (use:Option (Value->Sem Unit)) (Qv:Value->Shared->Prop)
  (DA:∀ (D:Addr) (H':Hp) (s':Shared) (C:Addr),Inv X JS σ H' s'->Q (.ref D) H'->(∃ m,s'.heap.Ns C m)->kZ X JS H' C->compPost (model X.prog X.w) X.A X.xe use Qv (.ref D) C (.ok .next) s') :
  wpAny (model X.prog X.w) X.A (comprehension (.ListComp elt [⟨tg,iter,ifs,0⟩] scope pos) scope X.env J6 (newList []) false (eval iter X.env) use) Qv X.xe s:=by
 have L4:∀ y∈scope.names,y.2≠.cell:=λy hy=>by
  have:=List.all_eq_true.mp nc y hy
  simpa using this
 have MT:∀ y∈scope.names,y.2=.local->scope.names.lookup y.1=some .local:=λy hy hl=>by
  have:=List.all_eq_true.mp lo y hy
  rw[hl] at this
  simpa using this
 refine wpAny_comprehension_free (use:=use) rfl hs Ky hk MT (cN (hi JS s σ H _ I h) λv s1 h1=>cN h1 λitv s2 h2=>?_)
 obtain⟨it,fp,tn,J,H1,e,I2,T,MP,f2,hJ⟩:=h2
 subst e
 refine wpAny_newObj_type (wpAny_newFunctionEnv L4 (by intro y hy;simp at hy) (λh₁ hns1 hsb1=>?_) hk)
 dsimp only at hns1 hsb1 ⊢
 generalize hH2:s2.heap.push { cls:=.type "list", dict:=none,data:=.seq ([]:List Value).toArray }=G at hns1 hsb1 ⊢
 have hC:G.objs.size=s2.heap.objs.size+1:=by rw[← hH2,Heap.size_push]
 have old:∀ b o,s2.heap.get? b=some o->h₁.get? b=some o:=λb o e=>by
  have hb:=Heap.lt_size e
  refine hsb1.extBut b o (Nat.ne_of_lt (Nat.lt_of_lt_of_le hb (Nat.le_of_lt (by rw[hC];exact Nat.lt_succ_self _)))) (Heap.get?_push_of_some _ ?_)
  rw[← hH2]
  exact Heap.get?_push_of_some _ e
 have hacc:h₁.get? s2.heap.objs.size=some { cls:=.type "list", dict:=none,data:=.seq #[] }:=by
  refine hsb1.extBut _ _ (Nat.ne_of_lt (by rw[hC];exact Nat.lt_succ_self _)) (Heap.get?_push_of_some _ ?_)
  rw[← hH2]
  exact Heap.get?_push_size _ rfl
 have nD:H1 s2.heap.objs.size=none:=I2.a_.fresh (Nat.le_refl _)
 have nC:H1 G.objs.size=none:=I2.a_.fresh (by omega)
 obtain⟨W,⟨m0,w0⟩,turn⟩:=hJ _ nD
 have Nk:∀ b∈fp,b<s2.heap.objs.size:=λb hb=>by
  obtain⟨o,e,_⟩:=T.obj _ _ MP b hb
  exact Heap.lt_size e
 have ltk:∀ (x:Str) (c:Addr),cl.lookup x=some c->c<s2.heap.objs.size/\H1 c=none/\(∃ v,s2.heap.IsCell c v):=λx c e=>by
  have e':=ag.at x c e
  obtain⟨v,q⟩:=I2.cell x c e'
  exact⟨q.lt,I2.fH x c e',v,q⟩
 let X':=tX X scope cl (ts++fs) G.objs.size s2 H1 fp JS
 have okX:X'.Ok:=by
  refine⟨I2.ok.mod,hk,I2.ok.glob,I2.ok.blt,by show s2.heap.objs.size<=G.objs.size;omega,λx y c e1 e2=>I2.ok.inj x y c (ag.at x c e1) (ag.at y c e2),λx hx=>?_,λx c hf _=>(nomatch (show (false:Bool)=true from hf)),I2.ok.hd,I2.ok.frames,.inl rfl,λb hb=>⟨?_,λx c e z=>?_⟩,λb o e=>I2.bs b o e,Nat.le_trans I2.ok.z7 I2.sz,λb o e hb=>?_,λb hb hz=>?_,I2.stack,λb hb=>I2.qy b hb⟩
  ·have L5:=om (env:=X.env) hx nc
   have hm:∃ y∈scope.names,y.1=x/\y.2=.free:=by
    have:∀ (l:List (Str×NameKind)),l.lookup x=some .free->∃ y∈l,y.1=x/\y.2=.free:=by
     intro l
     induction l with
     | nil=>intro h;simp at h
     | cons p r ih =>
      intro h
      rw[List.lookup_cons] at h
      cases q:x==p.1 with
      | true =>
       rw[q] at h
       exact⟨p,List.mem_cons_self,(by simpa using q:x=p.1).symm,Option.some.inj h⟩
      | false =>
       rw[q] at h
       obtain⟨y,hy,r1,r2⟩:=ih h
       exact⟨y,List.mem_cons_of_mem _ hy,r1,r2⟩
    exact this _ L5
   obtain⟨y,hy,r1,r2⟩:=hm
   have:=List.all_eq_true.mp fh y hy
   rw[r2] at this
   have h':(cl.lookup y.1).isSome=true:=by simpa using this
   rw[r1] at h'
   exact Option.isSome_iff_exists.mp h'
  ·exact Nat.ne_of_lt (Nat.lt_of_lt_of_le (Nk b hb) (by show s2.heap.objs.size<=G.objs.size;omega))
  ·exact(f2 b hb).2.2.2.2.1 x c (ag.at x c e) z
  ·obtain⟨_,_,_,f3,_,_⟩:=f2 b hb
   rcases f3 with z | z
   ·exact I2.ok.qV b o e z
   ·exact absurd (Nat.lt_of_lt_of_le (Heap.lt_size (I2.ok.bs b o e).1) z) (Nat.lt_irrefl _)
  ·rcases List.mem_cons.mp (I2.rg b hz) with z | z
   ·exact(f2 b hb).2.1 z
   ·exact(f2 b hb).2.2.1 z
 have keepB:∀ b o,s2.heap.get? b=some o->h₁.get? b=some o:=old
 have I3:Inv X' [] (fO ts js σ) (upd H1 s2.heap.objs.size (.lst [])) { s2 with heap:=h₁,toks:=s2.toks+([]:List (Str×Value)).length }:=by
  have neD:∀ b o,s2.heap.get? b=some o->b≠s2.heap.objs.size:=λb o e=>Nat.ne_of_lt (Heap.lt_size e)
  refine⟨okX,rfl,I2.bare,⟨λb o e n hb hx=>old b o e,λb o e n hb hx=>⟨o.slots,old b o e⟩,λb o e n hx=>by rw[au (neD b o e)];exact n,λb o e hx=>⟨o,old b o e⟩,λb xs e=>?_,λb o u e=>?_,λb ps e=>?_⟩,⟨_,hns1,λi x v e1 e2 e3=>?_⟩,λx c e=>?_,?_,λx c e=>?_,λp hp=>?_,?_,?_⟩
  ·rw[au (bA e nD)];exact e
  ·rw[au (bA e nD)];exact e
  ·exact⟨#[],by rw[au (bA e nD)];exact Eq.trans e (by simp)⟩
  ·
   have hlen:(ts.map (λ_=>(none:Option V))).length=ts.length:=List.length_map _
   unfold fO at e2
   by_cases Le:i<ts.length
   ·rw[List.getElem?_append_left (by rw[hlen];exact Le),List.getElem?_map] at e2
    cases q:ts[i]? <;> rw[q] at e2 <;> cases e2
   ·rw[List.getElem?_append_right (by rw[hlen];omega),hlen] at e2
    have e1':fs[i-ts.length]?=some x:=by
     have e1':(ts++fs)[i]?=some x:=e1
     rw[List.getElem?_append_right (by omega)] at e1'
     exact e1'
    have all:∀ {fs:List Str} {js:List Nat},jt X scope cl fs js->∀ k:Nat,fs[k]?=some x->(js.map λj=>(σ[j]?).join)[k]?=some (some v) ->
      ∃ (j:Nat) (c:Addr),X.N[j]?=some x/\σ[j]?=some (some v)/\(X.env.kindOf x=some .cell\/X.env.kindOf x=some .free)/\X.env.cells.lookup x=some c/\cl.lookup x=some c/\scope.names.lookup x=some .free:=by
     intro fs js r
     induction r with
     | nil=>intro k e;simp at e
     | @cons y j c fs js hN hf hv hc hl r ih =>
      intro k e e'
      cases k with
      | zero =>
       have e0:y=x:=by simpa using e
       subst e0
       have Na:(σ[j]?).join=some v:=by simpa using e'
       refine⟨j,c,hN,?_,hv,hc,hl,hf⟩
       cases q:σ[j]? with
       | none=>rw[q] at Na;cases Na
       | some z=>rw[q] at Na;cases z with
        | none=>cases Na
        | some z =>
         have:z=v:=by simpa using Na
         rw[this]
      | succ k=>exact ih k (by simpa using e) (by simpa using e')
    obtain⟨j,c,q1,q2,q3,q4,q5,q6⟩:=all fr (i-ts.length) e1' e2
    obtain⟨m,hn,hl⟩:=I2.loc
    have vis:A3 X.env.scope x:=by
     rcases q3 with z | z
     ·exact .inr (.inl z)
     ·exact .inr (.inr z)
    obtain⟨u,ru,lk⟩:=hl j x v q1 q2 vis
    refine⟨u,ru,.inr ⟨?_,c,q5,?_⟩⟩
    ·rcases e3 with z | z | z
     ·exfalso
      have key:∀ (l:List (Str×NameKind)),(l.map λ(n,k)=>if (k==NameKind.free&&X.env.scope.kind==.function&&X.env.kindOf n==some .cell) then (n,NameKind.cell) else (n,k)).lookup x=some .local->l.lookup x=some .local:=by
       intro l
       induction l with
       | nil=>intro h;simp at h
       | cons p r ih =>
        obtain⟨n,k⟩:=p
        intro h
        rw[List.map_cons] at h
        dsimp only at h
        by_cases hc:(k==NameKind.free&&X.env.scope.kind==.function&&X.env.kindOf n==some .cell)=true
        ·rw[if_pos hc] at h
         rw[List.lookup_cons] at h ⊢
         cases q:x==n with
         | true=>rw[q] at h;cases h
         | false=>rw[q] at h;exact ih h
        ·rw[if_neg hc] at h
         rw[List.lookup_cons] at h ⊢
         cases q:x==n with
         | true=>rw[q] at h;exact h
         | false=>rw[q] at h;exact ih h
      have:=key _ z
      rw[q6] at this
      cases this
     ·exact .inl z
     ·exact .inr z
    ·rcases lk with ⟨k,_⟩ | ⟨_,c',e4,z⟩
     ·rcases q3 with z | z <;> rw[z] at k <;> cases k
     ·rw[q4] at e4
      cases e4
      obtain⟨o,ho,hd⟩:=z
      exact⟨o,old c o ho,hd⟩
  ·obtain⟨_,_,v,o,ho,hd⟩:=ltk x c e
   exact⟨v,o,old c o ho,hd⟩
  ·show upd H1 s2.heap.objs.size (.lst []) G.objs.size=none
   rw[au (Nat.ne_of_gt (by rw[hC];exact Nat.lt_succ_self _))];exact nC
  ·obtain⟨q1,q2,_⟩:=ltk x c e
   rw[au (Nat.ne_of_lt q1)];exact q2
  ·have MM:p∈X.pn++JS:=by
    have:p∈(X.pn++JS)++[]:=hp
    rwa [List.append_nil] at this
   obtain⟨e,n,ne,nf,d⟩:=I2.pin p MM
   have Le:=Heap.lt_size e
   refine⟨old _ _ e,by rw[au (Nat.ne_of_lt Le)];exact n,?_,λhz=>?_,d⟩
   ·show p.1≠G.objs.size
    exact Nat.ne_of_lt (Nat.lt_trans Le (by rw[hC];exact Nat.lt_succ_self _))
   ·rcases List.mem_cons.mp (I2.rg _ hz) with z | z
    ·exact ne z
    ·exact nf z
  ·exact I2.a_.laid old (Nat.le_refl _) ⟨Nat.zero_le _,[],0,.nil,hacc⟩
  ·show (fO ts js σ).length=(ts++fs).length
   have frl:∀ {fs:List Str} {js:List Nat},jt X scope cl fs js->fs.length=js.length:=by
    intro fs js r
    induction r with
    | nil=>rfl
    | cons _ _ _ _ _ _ ih=>rw[List.length_cons,List.length_cons,ih]
   unfold fO
   rw[List.length_append,List.length_append,List.length_map,List.length_map,frl fr]
 have LX:∀ {H':Hp},(∀ b∈fp,H' b=none)->∀ b∈fp,kZ X' [] H' b:=λ{H'} hn b hb=>by
  obtain⟨_,f1,f3,_,f4,f5⟩:=f2 b hb
  refine⟨hn b hb,okX.Fs b hb |>.1,okX.sZ b hb,.inl hb,λx c e=>f4 x c (ag.at x c e),λp hp=>f5 p ?_⟩
  have:p∈(X.pn++JS)++[]:=hp
  rwa [List.append_nil] at this
 have fin:∀ {σ':St} {H':Hp} {s':Shared},Inv X' [] σ' H' s'->Q (.ref s2.heap.objs.size) H' ->
   compPost (model X.prog X.w) X.A X.xe use Qv (.ref s2.heap.objs.size) G.objs.size (.ok .next) s':=by
  intro σ' H' s' I4 q
  obtain⟨m,hn,_⟩:=I4.loc
  have fC:H' G.objs.size=none:=I4.free
  have Io:Inv X JS σ H' s':=by
   refine I2.yj (s':=s') (ch:=fp) I4.os ⟨λb o e n hb hx=>?_,λb o e n hb hx=>?_,λb o e n hx=>I4.base.free b o e n hx,λb o e hx=>?_,I4.base.m_,I4.base.j2,I4.base.mX⟩ I4.a_ I4.bare λb hb=>?_
   ·exact I4.base.keep b o e n hb hx
   ·exact I4.base.slot b o e n hb hx
   ·exact I4.base.there b o e hx
   ·obtain⟨_,f1,_,f3,f4,f5⟩:=f2 b hb
    exact⟨f3,f1,f4,f5⟩
  have hCl:s2.heap.objs.size<=G.objs.size:=by rw[hC];exact Nat.le_succ _
  exact DA _ H' s' _ Io q ⟨m,hn⟩ (I2.sG hCl fC)
 have loop:∀ s3:Shared,s3={ s2 with heap:=h₁,toks:=s2.toks+([]:List (Str×Value)).length } ->
   codeAny (model X.prog X.w) X.A (.compLoop (.ListComp elt [⟨tg,iter,ifs,0⟩] scope pos) 0 (.ref it) (.ref s2.heap.objs.size) (compEnvC scope cl G.objs.size X.env))
    (compPost (model X.prog X.w) X.A X.xe use Qv (.ref s2.heap.objs.size) G.objs.size) s3:=by
  rintro s3 rfl
  refine xH (λn s'=>∃ i σ' H',Inv X' [] σ' H' s'/\tn i s'.heap/\(∀ b∈fp,H' b=none)/\W i n σ' H') ?_ m0 ⟨0,_,_,I3,T.keep _ _ _ MP λb _ o e=>old b o e,λb hb=>?_,w0⟩
  ·rintro n s3 ⟨i,σ3,H3,I3,st3,fr3,w3⟩
   rcases turn i n σ3 H3 w3 with ⟨stop,qn⟩ | ⟨go,N,hN,step⟩
   ·refine cN (T.done X' rfl rfl rfl J4 i [] s3 σ3 H3 _ I3 (LX fr3) st3 stop) λr s4 ⟨hr,I4⟩=>?_
    subst hr
    exact fin I4 qn
   ·refine cN (T.item X' rfl rfl rfl J4 i [] s3 σ3 H3 _ I3 (LX fr3) st3 go) λr s4 ⟨u,hr,h4⟩=>?_
    subst hr
    refine cN h4 λ_ s5 ⟨x,H5,I5,r5,y5,st5,fr5⟩=>?_
    have I5':=I5.pinned (LX fr5) (T.obj _ _ st5)
    refine cN (hg _ _ _ _ _ _ s5 σ3 H5 x u _ I5' r5 (step x H5 y5)) λ_ s6 ⟨σ6,H6,I6,q6⟩=>?_
    have again:∀ {σ7:St} {H7:Hp} {s7:Shared},Inv X' ([]++lV fp s5.heap) σ7 H7 s7->N σ7 H7->∃ m,m<n/\∃ i σ' H',Inv X' [] σ' H' s7/\tn i s7.heap/\(∀ b∈fp,H' b=none)/\W i m σ' H':=λ{σ7 H7 s7} I7 n7=>by
     obtain⟨m',hm,w7⟩:=hN σ7 H7 n7
     refine⟨m',hm,i+1,σ7,H7,I7.kL,T.keep _ _ _ st5 λb hb o e=>(I7.pin (b,o) (List.mem_append_right _ (List.mem_append_right _ (iH hb e)))).1,λb hb=>?_,w7⟩
     obtain⟨o,e,d⟩:=T.obj _ _ st5 b hb
     exact(I7.pin (b,o) (List.mem_append_right _ (List.mem_append_right _ (iH hb e)))).2.1
    have tail:∀ {H7:Hp} {s7:Shared},Inv X' ([]++lV fp s5.heap) σ6 H7 s7->(te σ6 H7 λy H4=>∃ ys,H4 s2.heap.objs.size=some (.lst ys)/\ys.length<sizeLine/\N σ6 (upd H4 s2.heap.objs.size (.lst (ys++[y])))) ->
      wpAny (model X.prog X.w) X.A (eval elt (compEnvC scope cl G.objs.size X.env)) (λx s₅=>wpAny (model X.prog X.w) X.A (call (.builtin "list.append") [.ref s2.heap.objs.size,x])
       (λ_ s₆=>∃ m,m<n/\∃ i σ' H',Inv X' [] σ' H' s₆/\tn i s₆.heap/\(∀ b∈fp,H' b=none)/\W i m σ' H') (λ_ _=>False) s₅) (λ_ _=>False) s7:=by
     intro H7 s7 I7 q7
     refine cN (he _ _ _ _ _ _ s7 σ6 H7 _ I7 q7) λuy s8 ⟨y,H8,I8,ry,ys,hy,hl,q8⟩=>?_
     refine cN (pW (X:=X') _ s8 σ6 H8 (.ref s2.heap.objs.size) [y] (.ref s2.heap.objs.size) [uy] (λ_ H9=>N σ6 H9) I8 rfl (.cons ry .nil) ⟨_,ys,y,rfl,rfl,hy,hl,q8⟩) λ_ s9 ⟨_,H9,I9,_,q9⟩=>?_
     exact again I9 q9
    cases ifs with
    | nil =>
     cases tt with
     | none=>exact wpAny_tests_nil (tail I6 q6)
     | some t=>exact(ht 0 s2 H1 [] []).elim
    | cons c r =>
     cases r with
     | nil =>
      cases tt with
      | none=>exact(ht 0 s2 H1 [] []).elim
      | some t =>
       refine wpAny_tests_one (cN (ht G.objs.size s2 H1 fp JS _ s6 σ6 H6 _ I6 q6) λb s7 ⟨H7,I7,q7⟩=>?_)
       cases b with
       | true =>
        rw[if_pos rfl] at q7 ⊢
        exact tail I7 q7
       | false =>
        rw[if_neg Bool.false_ne_true] at q7 ⊢
        exact again I7 q7
     | cons _ _=>cases tt <;> exact(ht 0 s2 H1 [] []).elim
  ·rw[au (Nat.ne_of_lt (Nk b hb))]
   exact(f2 b hb).1
 exact codeAny_compStart_list (loop _ rfl) (T.self _ 0 _ _ _ (T.keep _ _ _ MP λb _ o e=>old b o e) (loop _ rfl))
theorem Inv.other{X:Cx}{JS:List (Addr×Obj)}{σ:St}{H:Hp}{s:Shared}{C:Addr}{h':Heap}(I:Inv X JS σ H s)(f:kZ X JS H C)(hs:Heap.SameBut C s.heap h'):Inv X JS σ H { s with heap:=h' }:=by
 obtain⟨f0,f1,_,f3,f4,f5⟩:=f
 refine I.yj (s':={ s with heap:=h' }) (ch:=[C]) rfl ⟨λb o e n hb hx=>?_,λb o e n hb hx=>?_,λb o e n hx=>n,λb o e hx=>?_,λ_ _ q=>q,λ_ _ _ q=>q,λb ps q=>⟨#[],by rw[q];simp⟩⟩ (λb u e=>?_) I.bare λb hb=>?_
 ·exact(hs.2 b (λz=>hx (by rw[z];exact List.mem_singleton.mpr rfl))).trans e
 ·exact⟨o.slots,(hs.2 b (λz=>hx (by rw[z];exact List.mem_singleton.mpr rfl))).trans e⟩
 ·exact⟨o,(hs.2 b (λz=>hx (by rw[z];exact List.mem_singleton.mpr rfl))).trans e⟩
 ·refine(I.a_ b u e).kP (λc v hc q=>(hs.2 c ?_).trans q) (λ_ q=>q) λ_ _ q=>q
  rcases hc with z | z
  ·rw[z];exact bA e f0
  ·exact bA z f0
 ·rw[List.mem_singleton.mp hb]
  exact⟨f3,f1,f4,f5⟩
theorem AJ{X:Cx}{tg elt iter:Expr}{ifs:List Expr}{scope:Scope}{cl:List (Str×Addr)}{pos:Pos}{wi:TI}{g:TG}{tt:Option TT}{te:TE}{ts fs:List Str}{js:List Nat}(J4:X.calm=true)
  (Ky:closureFor scope X.env=pure cl) (hk:scope.kind=.function) (nc:ic scope.names=true) (lo:jG scope.names=true) (fh:jA cl scope.names=true) (ag:fE X cl) (fr:jt X scope cl fs js)
  (hi:PI X tg iter wi) (hg:∀ C s₀ H₀ ex JS,PG (tX X scope cl (ts++fs) C s₀ H₀ ex JS) tg g)
  (ht:∀ C s₀ H₀ ex JS,match ifs,tt with | [],none=>True | [c],some t=>PT (tX X scope cl (ts++fs) C s₀ H₀ ex JS) c t | _,_=>False)
  (he:∀ C s₀ H₀ ex JS,PE (tX X scope cl (ts++fs) C s₀ H₀ ex JS) elt te)
  (hs:∀ x,foldedSetIterable iter X.env x=pure x:=by intro _;rfl) :
  PE X (.ListComp elt [⟨tg,iter,ifs,0⟩] scope pos) (ym wi g tt te ts js):=by
 intro JS s σ H Q I h
 rw[eval_ListComp]
 refine tR J4 Ky hk nc lo fh ag fr hi hg ht he hs I h none _ λD H' s' C Io q hm f=>?_
 obtain⟨m,hn⟩:=hm
 exact⟨m,hn,λh' M6=>⟨.ref D,H',Io.other f M6,rfl,q⟩⟩
def uZ(wi:TI)(g:TG)(te:TE)(ts:List Str)(js:List Nat):TE:=fun σ H Q=>wi σ H λJ H1=>∀ D,H1 D=none ->
 ∃ W:Nat->Nat->St->Hp->Prop,(∃ m,W 0 m (fO ts js σ) (upd H1 D (.lst [])))/\∀ i m σ' H',W i m σ' H' ->
  (J.stop i H'/\Q (.ref D) H')\/(J.go i H'/\∃ N:St->Hp->Prop,(∀ σ'' H'',N σ'' H''->∃ m',m'<m/\W (i+1) m' σ'' H'') ∧
   ∀ x H2,J.uJ i H' x H2->g x σ' H2 fun σ2 H3=>te σ2 H3 λy H4=>∃ ys,H4 D=some (.lst ys)/\ys.length<sizeLine/\N σ2 (upd H4 D (.lst (ys++[y]))))
theorem yU{X:Cx}{tg elt iter:Expr}{scope:Scope}{cl:List (Str×Addr)}{pos:Pos}{wi:TI}{g:TG}{te:TE}{ts fs:List Str}{js:List Nat}(J4:X.calm=true)
  (Ky:closureFor scope X.env=pure cl) (hk:scope.kind=.function) (nc:ic scope.names=true) (lo:jG scope.names=true) (fh:jA cl scope.names=true) (ag:fE X cl) (fr:jt X scope cl fs js)
  (hi:PI X tg iter wi) (hg:∀ C s₀ H₀ ex JS,PG (tX X scope cl (ts++fs) C s₀ H₀ ex JS) tg g) (he:∀ C s₀ H₀ ex JS,PE (tX X scope cl (ts++fs) C s₀ H₀ ex JS) elt te)
  (hs:∀ x,foldedSetIterable iter X.env x=pure x:=by intro _;rfl):PE X (.ListComp elt [⟨tg,iter,[],0⟩] scope pos) (uZ wi g te ts js) :=
 AJ (tt:=none) J4 Ky hk nc lo fh ag fr hi hg (λ_ _ _ _ _=>trivial) he hs
end L2
namespace L2
open PySem PySem.Spec PyProof.Rows
def fv(h:Heap)(b:Bool)(l:Addr)(xs:Array Value):Prop:=match b with
 | true=>h.IsList l xs
 | false=>h.IsTuple l xs
def dI(h:Heap)(b:Bool)(it l:Addr)(i:Nat):Prop:=match b with
 | true=>h.IsListIter it l i
 | false=>h.IsTupleIter it l i
theorem fv.at{h h':Heap}{b:Bool}{l:Addr}{xs:Array Value}(x:fv h b l xs)(k:∀ o,h.get? l=some o->h'.get? l=some o):fv h' b l xs:=by
 cases b with
 | true=>obtain⟨o,ho,r⟩:=(show h.IsList l xs from x);exact(show h'.IsList l xs from ⟨o,k o ho,r⟩)
 | false=>obtain⟨o,ho,r⟩:=(show h.IsTuple l xs from x);exact(show h'.IsTuple l xs from ⟨o,k o ho,r⟩)
theorem dI.at{h h':Heap}{b:Bool}{it l:Addr}{i:Nat}(x:dI h b it l i)(k:∀ o,h.get? it=some o->h'.get? it=some o):dI h' b it l i:=by
 cases b with
 | true=>obtain⟨o,ho,r⟩:=(show h.IsListIter it l i from x);exact(show h'.IsListIter it l i from ⟨o,k o ho,r⟩)
 | false=>obtain⟨o,ho,r⟩:=(show h.IsTupleIter it l i from x);exact(show h'.IsTupleIter it l i from ⟨o,k o ho,r⟩)
theorem dI.obj{h:Heap}{b:Bool}{it l:Addr}{i:Nat}(x:dI h b it l i):∃ o vs,h.get? it=some o/\o.data=.fields vs:=by
 cases b with
 | true=>obtain⟨o,ho,_,hd⟩:=(show h.IsListIter it l i from x);exact⟨o,_,ho,hd⟩
 | false=>obtain⟨o,ho,_,hd⟩:=(show h.IsTupleIter it l i from x);exact⟨o,_,ho,hd⟩
theorem fv.obj{h:Heap}{b:Bool}{l:Addr}{xs:Array Value}(x:fv h b l xs):∃ o n,h.get? l=some o/\o.data=.seq xs n:=by
 cases b with
 | true=>obtain⟨o,ho,_,n,hd⟩:=(show h.IsList l xs from x);exact⟨o,n,ho,hd⟩
 | false=>obtain⟨o,ho,_,n,hd⟩:=(show h.IsTuple l xs from x);exact⟨o,n,ho,hd⟩
section
variable{prog:Program}{w:World}{A:Around}{E:Value->Shared->Prop}{s:Shared}
theorem g8{it t:Addr}{i:Nat}{items:Array Value}{x:Value}{Q:Value->Shared->Prop}(hit:s.heap.IsTupleIter it t i)
  (ht:s.heap.IsTuple t items) (hx:items[i]?=some x)
  (hQ:∀ h',h'.IsTupleIter it t (i+1)->Heap.SameBut it s.heap h'->Q x { s with heap:=h' }) :
  wpAny (model prog w) A (Builtin.SmallTypes.nextOf (.ref it)) Q E s:=by
 obtain⟨o,ho,hc,hd⟩:=id hit
 obtain⟨ol,hol,_,nl,hdl⟩:=ht
 unfold Builtin.SmallTypes.nextOf
 refine wpAny_bind (wpAny_callSpecial?_slot (name:=Str.ofString "__next__") hit.typeIs F.slot_tuple_iterator_next
  (wpAny_call_entry F.slot_tuple_iterator_next hit.typeIs F.entry_tuple_iterator_next ?_ (F.args_tuple_iterator_next_1 _)))
 show wpAny _ _ (field (.ref it) 0 >>= _) _ _ s
 refine wpAny_bind (wpAny_field ho hd (x:=.ref t) rfl ?_)
 show wpAny _ _ (if (Value.ref t==Value.none)=true then _ else _) _ _ s
 rw[if_neg (show ¬ ((Value.ref t==Value.none)=true) from Bool.false_ne_true)]
 show wpAny _ _ (field (.ref it) 1 >>= _) _ _ s
 refine wpAny_bind (wpAny_field ho hd (x:=.int i 0) rfl ?_)
 show wpAny _ _ (seqItems? (.ref t) >>= _) _ _ s
 refine wpAny_bind (wpAny_seqItems hol hdl ?_)
 simp only[Int.toNat_natCast,hx]
 refine wpAny_bind (wpAny_setField ho hd (by simp) (wpAny_pure ⟨x,rfl,wpAny_pure (hQ _ ?_ (Heap.SameBut.update ..))⟩))
 exact⟨_,Heap.get?_update_self _ ho (Obj.isFreed_of_fields (Obj.data_mapFields hd _)),(Obj.cls_mapFields ..).trans hc,by
  rw[Obj.data_mapFields hd];simp[rawInt]⟩
theorem eM{it t:Addr}{i:Nat}{items:Array Value}{Q:Value->Shared->Prop}(hh:A.handled=none)
  (hit:s.heap.IsTupleIter it t i) (ht:s.heap.IsTuple t items) (hx:items[i]?=none)
  (hE:∀ h' e,Heap.ExtBut it s.heap h'->(∃ o,h'.get? e=some o/\o.cls=.type "StopIteration")->E (.ref e) { s with heap:=h' }) :
  wpAny (model prog w) A (Builtin.SmallTypes.nextOf (.ref it)) Q E s:=by
 obtain⟨o,ho,hc,hd⟩:=id hit
 obtain⟨ol,hol,_,nl,hdl⟩:=ht
 unfold Builtin.SmallTypes.nextOf
 refine wpAny_bind (wpAny_callSpecial?_slot (name:=Str.ofString "__next__") hit.typeIs F.slot_tuple_iterator_next
  (wpAny_call_entry F.slot_tuple_iterator_next hit.typeIs F.entry_tuple_iterator_next ?_ (F.args_tuple_iterator_next_1 _)))
 show wpAny _ _ (field (.ref it) 0 >>= _) _ _ s
 refine wpAny_bind (wpAny_field ho hd (x:=.ref t) rfl ?_)
 show wpAny _ _ (if (Value.ref t==Value.none)=true then _ else _) _ _ s
 rw[if_neg (show ¬ ((Value.ref t==Value.none)=true) from Bool.false_ne_true)]
 show wpAny _ _ (field (.ref it) 1 >>= _) _ _ s
 refine wpAny_bind (wpAny_field ho hd (x:=.int i 0) rfl ?_)
 show wpAny _ _ (seqItems? (.ref t) >>= _) _ _ s
 refine wpAny_bind (wpAny_seqItems hol hdl ?_)
 simp only[Int.toNat_natCast,hx]
 refine wpAny_bind (wpAny_rule (wpAny_bind (wpAny_setField ho hd (by simp) ?_)))
 show wpAny _ _ (newExc (.type "StopIteration") [] >>= _) _ _ _
 refine wpAny_bind ?_
 simp only[newExc,newTuple]
 refine wpAny_bind (wpAny_newObj_type ?_ (by size_fits))
 refine wpAny_bind (m:=firstArgMember _ _) (wpAny_of_eq (a:=Value.none) (by first | rfl | (simp only[firstArgMember];rfl)) ?_)
 refine wpAny_newObj_type ?_ (by size_fits)
 simp only[raiseNew]
 refine wpAny_bind (wpAny_handled ?_)
 first | rw[show A.in1.handled=none from hh] | rw[hh]
 refine wpAny_bind (wpAny_pure (wpAny_throw ?_))
 exact hE _ _ (((Heap.SameBut.update ..).extBut.push _).push _) ⟨_,Heap.get?_push_size _ rfl,rfl⟩
theorem cu{b:Bool}{it l:Addr}{i:Nat}{items:Array Value}{x:Value}{Q:Value->Shared->Prop}(hit:dI s.heap b it l i)(hl:fv s.heap b l items)(hx:items[i]?=some x)
  (hQ:∀ h',dI h' b it l (i+1)->Heap.SameBut it s.heap h'->Q x { s with heap:=h' }):wpAny (model prog w) A (Builtin.SmallTypes.nextOf (.ref it)) Q E s:=by
 cases b with
 | true=>exact wpAny_nextOf_list_item hit hl hx hQ
 | false=>exact g8 hit hl hx hQ
theorem gA{b:Bool}{it l:Addr}{i:Nat}{items:Array Value}{Q:Value->Shared->Prop}(hh:A.handled=none)(hit:dI s.heap b it l i)(hl:fv s.heap b l items)(hx:items[i]?=none)
  (hE:∀ h' e,Heap.ExtBut it s.heap h'->(∃ o,h'.get? e=some o/\o.cls=.type "StopIteration")->E (.ref e) { s with heap:=h' }):wpAny (model prog w) A (Builtin.SmallTypes.nextOf (.ref it)) Q E s:=by
 cases b with
 | true=>exact wpAny_nextOf_list_end hh hit hl hx hE
 | false=>exact eM hh hit hl hx hE
theorem wt{b1 b2:Bool}{z TI TO i1 i2 l1 l2:Addr}{k1 k2:Nat}{xs ys:Array Value}{x y a b:Value}{Q:Value->Shared->Prop}(D:ZipApart z TI TO i1 i2 l1 l2)
  (hz:IsZip s.heap z TI TO .none) (Kt:IsPair s.heap TI (.ref i1) (.ref i2)) (Kx:IsPair s.heap TO a b)
  (h1:dI s.heap b1 i1 l1 k1) (h2:dI s.heap b2 i2 l2 k2) (Li:fv s.heap b1 l1 xs) (Lj:fv s.heap b2 l2 ys) (hx:xs[k1]?=some x) (hy:ys[k2]?=some y)
  (hQ:∀ h',IsZip h' z TI TO (rawInt s.heap.objs.size)->IsPair h' TO x y->dI h' b1 i1 l1 (k1+1)->dI h' b2 i2 l2 (k2+1)->IsPair h' s.heap.objs.size x y->h'.objs.size=s.heap.objs.size+1 ->
   (∀ c o,c≠z->c≠TO->c≠i1->c≠i2->s.heap.get? c=some o->h'.get? c=some o)->Q (.ref s.heap.objs.size) { s with heap:=h' }) :
  wpAny (model prog w) A (Builtin.«zip.__next__» ⟨[.ref z],[]⟩) (λfin s'=>∃ v,fin=.done (.ret v)/\Q v s') E s:=by
 show wpAny _ _ (field (.ref z) 2 >>= _) _ _ _
 refine wpAny_bind (wpAny_field hz rfl (x:=.bool false) rfl ?_)
 show wpAny _ _ (field (.ref z) 3 >>= _) _ _ _
 refine wpAny_bind (wpAny_field hz rfl (x:=.ref TI) rfl ?_)
 refine wpAny_bind (wpAny_seqItems Kt rfl ?_)
 show wpAny _ _ (Builtin.SmallTypes.ownedTupleIsFree (.ref z) >>= _) _ _ _
 refine wpAny_bind ?_
 unfold Builtin.SmallTypes.ownedTupleIsFree
 refine wpAny_bind (wpAny_field hz rfl (x:=.none) rfl (wpAny_pure ?_))
 simp only[if_true]
 refine wpAny_bind (wpAny_rule ?_)
 refine wpAny_bind (wpAny_field hz rfl (x:=.ref TO) rfl ?_)
 refine wpAny_bind (wpAny_setField_rec hz (by simp) λh₁ hz1 hs1=>?_)
 replace hz1:IsZip h₁ z TI TO .ellipsis:=hz1
 refine wpAny_bind ?_
 simp only[List.zipIdx_cons,List.zipIdx_nil,List.forIn_cons,List.forIn_nil]
 refine wpAny_bind (wpAny_bind (wpAny_onRaise ?_))
 show wpAny _ _ (Builtin.SmallTypes.nextOf (.ref i1) >>= _) _ _ _
 refine wpAny_bind (cu (h1.at λo e=>hs1.extBut _ _ D.i1z e) (Li.at λo e=>hs1.extBut _ _ D.l1z e) hx λh₂ h1₂ hs2=>wpAny_pure ?_)
 have hTO2:IsPair h₂ TO a b:=hs2.extBut _ _ D.TOi1 (hs1.extBut _ _ D.TOz Kx)
 refine wpAny_bind (wpAny_seqItems hTO2 rfl ?_)
 refine wpAny_bind (wpAny_updateSeq_pair hTO2 λh₃ hTO3 hs3=>?_)
 replace hTO3:IsPair h₃ TO x b:=hTO3
 refine wpAny_bind (wpAny_letGo (wpAny_pure ?_))
 refine wpAny_bind (wpAny_bind (wpAny_onRaise ?_))
 show wpAny _ _ (Builtin.SmallTypes.nextOf (.ref i2) >>= _) _ _ _
 refine wpAny_bind (cu (h2.at λo e=>hs3.extBut _ _ D.TOi2.symm (hs2.extBut _ _ D.i12.symm (hs1.extBut _ _ D.i2z e)))
  (Lj.at λo e=>hs3.extBut _ _ D.l2TO (hs2.extBut _ _ D.l2i1 (hs1.extBut _ _ D.l2z e))) hy λh₄ h2₄ hs4=>wpAny_pure ?_)
 have hTO4:IsPair h₄ TO x b:=hs4.extBut _ _ D.TOi2 hTO3
 refine wpAny_bind (wpAny_seqItems hTO4 rfl ?_)
 refine wpAny_bind (wpAny_updateSeq_pair hTO4 λh₅ hTO5 hs5=>?_)
 replace hTO5:IsPair h₅ TO x y:=hTO5
 refine wpAny_bind (wpAny_letGo (wpAny_pure (wpAny_pure ?_)))
 refine wpAny_bind (wpAny_seqItems hTO5 rfl ?_)
 refine wpAny_bind (wpAny_newTuple ?_)
 have Lq:h₅.objs.size=s.heap.objs.size:=by rw[hs5.1,hs4.1,hs3.1,hs2.1,hs1.1]
 have hz5:IsZip h₅ z TI TO .ellipsis:=hs5.extBut _ _ D.TOz.symm (hs4.extBut _ _ D.i2z.symm (hs3.extBut _ _ D.TOz.symm (hs2.extBut _ _ D.i1z.symm hz1)))
 have hk5:∀ c o,c≠z->c≠TO->c≠i1->c≠i2->s.heap.get? c=some o->h₅.get? c=some o:=λc o c1 c2 c3 c4 e =>
  hs5.extBut _ _ c2 (hs4.extBut _ _ c4 (hs3.extBut _ _ c2 (hs2.extBut _ _ c3 (hs1.extBut _ _ c1 e))))
 have h1₅:dI h₅ b1 i1 l1 (k1+1):=h1₂.at λo e=>hs5.extBut _ _ D.TOi1.symm (hs4.extBut _ _ D.i12 (hs3.extBut _ _ D.TOi1.symm e))
 have h2₅:dI h₅ b2 i2 l2 (k2+1):=h2₄.at λo e=>hs5.extBut _ _ D.TOi2.symm e
 have Mr:z<h₅.objs.size:=Heap.lt_size hz5
 show wpAny _ _ (Builtin.SmallTypes.ownedTupleHandOut (.ref z) (.ref h₅.objs.size) >>= _) _ _ _
 refine wpAny_bind ?_
 unfold Builtin.SmallTypes.ownedTupleHandOut
 have hz6:IsZip (h₅.push { cls:=.type "tuple", data:=.seq #[x,y] }) z TI TO .ellipsis:=Heap.get?_push_of_some _ hz5
 refine wpAny_bind (wpAny_setField_rec hz6 (by simp) λh₇ hz7 hs7=>?_)
 replace hz7:IsZip h₇ z TI TO (rawInt h₅.objs.size):=hz7
 refine wpAny_setField_rec hz7 (by simp) λh₈ hz₈ hs8=>?_
 replace hz₈:IsZip h₈ z TI TO (rawInt h₅.objs.size):=hz₈
 have up:∀ c o,c≠z->h₅.get? c=some o->h₈.get? c=some o:=λc o c1 e=>hs8.extBut _ _ c1 (hs7.extBut _ _ c1 (Heap.get?_push_of_some _ e))
 have hT8:IsPair h₈ h₅.objs.size x y:=hs8.extBut _ _ (Nat.ne_of_gt Mr) (hs7.extBut _ _ (Nat.ne_of_gt Mr) (Heap.get?_push_size _ rfl))
 have hz8:h₈.objs.size=h₅.objs.size+1:=by rw[hs8.1,hs7.1,Heap.size_push]
 rw[Lq] at hz₈ hT8 hz8
 refine wpAny_pure ⟨_,rfl,?_⟩
 show Q (.ref h₅.objs.size) _
 rw[Lq]
 exact hQ h₈ hz₈ (up _ _ D.TOz hTO5) (h1₅.at λo e=>up _ o D.i1z e) (h2₅.at λo e=>up _ o D.i2z e) hT8 hz8 λc o c1 c2 c3 c4 e=>up c o c1 (hk5 c o c1 c2 c3 c4 e)
theorem zH{b1 b2:Bool}{z TI TO i1 i2 l1 l2:Addr}{k1 k2:Nat}{xs ys:Array Value}{a b:Value}{Q:Fin->Shared->Prop}(hh:A.handled=none)(D:ZipApart z TI TO i1 i2 l1 l2)
  (hz:IsZip s.heap z TI TO .none) (Kt:IsPair s.heap TI (.ref i1) (.ref i2)) (Kx:IsPair s.heap TO a b)
  (h1:dI s.heap b1 i1 l1 k1) (h2:dI s.heap b2 i2 l2 k2) (Li:fv s.heap b1 l1 xs) (Lj:fv s.heap b2 l2 ys) (Lp:xs[k1]?=none\/ys[k2]?=none)
  (hE:∀ h' e,(∀ c o,c≠z->c≠TO->c≠i1->c≠i2->s.heap.get? c=some o->h'.get? c=some o)->(∃ o,h'.get? e=some o/\o.cls=.type "StopIteration")->E (.ref e) { s with heap:=h' }) :
  wpAny (model prog w) A (Builtin.«zip.__next__» ⟨[.ref z],[]⟩) Q E s:=by
 show wpAny _ _ (field (.ref z) 2 >>= _) _ _ _
 refine wpAny_bind (wpAny_field hz rfl (x:=.bool false) rfl ?_)
 show wpAny _ _ (field (.ref z) 3 >>= _) _ _ _
 refine wpAny_bind (wpAny_field hz rfl (x:=.ref TI) rfl ?_)
 refine wpAny_bind (wpAny_seqItems Kt rfl ?_)
 show wpAny _ _ (Builtin.SmallTypes.ownedTupleIsFree (.ref z) >>= _) _ _ _
 refine wpAny_bind ?_
 unfold Builtin.SmallTypes.ownedTupleIsFree
 refine wpAny_bind (wpAny_field hz rfl (x:=.none) rfl (wpAny_pure ?_))
 simp only[if_true]
 refine wpAny_bind (wpAny_rule ?_)
 refine wpAny_bind (wpAny_field hz rfl (x:=.ref TO) rfl ?_)
 refine wpAny_bind (wpAny_setField_rec hz (by simp) λh₁ hz1 hs1=>?_)
 replace hz1:IsZip h₁ z TI TO .ellipsis:=hz1
 refine wpAny_bind ?_
 simp only[List.zipIdx_cons,List.zipIdx_nil,List.forIn_cons,List.forIn_nil]
 refine wpAny_bind (wpAny_bind (wpAny_onRaise ?_))
 show wpAny _ _ (Builtin.SmallTypes.nextOf (.ref i1) >>= _) _ _ _
 cases hx:xs[k1]? with
 | none =>
  refine wpAny_bind (gA hh (h1.at λo e=>hs1.extBut _ _ D.i1z e) (Li.at λo e=>hs1.extBut _ _ D.l1z e) hx λh₂ e hs2 he=>?_)
  obtain⟨oe,Ll,LZ⟩:=he
  have hz2:IsZip h₂ z TI TO .ellipsis:=hs2 _ _ D.i1z.symm hz1
  have ME:e≠z:=λx=>by subst x;rw[hz2] at Ll;cases Ll;simp at LZ
  refine wpAny_setField_rec hz2 (by simp) λh₃ _ hs3=>hE h₃ e (λc o c1 _ c3 _ x=>hs3.extBut _ _ c1 (hs2 _ _ c3 (hs1.extBut _ _ c1 x))) ⟨oe,hs3.extBut _ _ ME Ll,LZ⟩
 | some x =>
  have hy:ys[k2]?=none:=by rcases Lp with h | h;rw[hx] at h;cases h;exact h
  refine wpAny_bind (cu (h1.at λo e=>hs1.extBut _ _ D.i1z e) (Li.at λo e=>hs1.extBut _ _ D.l1z e) hx λh₂ h1₂ hs2=>wpAny_pure ?_)
  have hTO2:IsPair h₂ TO a b:=hs2.extBut _ _ D.TOi1 (hs1.extBut _ _ D.TOz Kx)
  refine wpAny_bind (wpAny_seqItems hTO2 rfl ?_)
  refine wpAny_bind (wpAny_updateSeq_pair hTO2 λh₃ hTO3 hs3=>?_)
  refine wpAny_bind (wpAny_letGo (wpAny_pure ?_))
  refine wpAny_bind (wpAny_bind (wpAny_onRaise ?_))
  show wpAny _ _ (Builtin.SmallTypes.nextOf (.ref i2) >>= _) _ _ _
  refine wpAny_bind (gA hh (h2.at λo e=>hs3.extBut _ _ D.TOi2.symm (hs2.extBut _ _ D.i12.symm (hs1.extBut _ _ D.i2z e)))
   (Lj.at λo e=>hs3.extBut _ _ D.l2TO (hs2.extBut _ _ D.l2i1 (hs1.extBut _ _ D.l2z e))) hy λh₄ e hs4 he=>?_)
  obtain⟨oe,Ll,LZ⟩:=he
  have hz4:IsZip h₄ z TI TO .ellipsis:=hs4 _ _ D.i2z.symm (hs3.extBut _ _ D.TOz.symm (hs2.extBut _ _ D.i1z.symm hz1))
  have ME:e≠z:=λx=>by subst x;rw[hz4] at Ll;cases Ll;simp at LZ
  refine wpAny_setField_rec hz4 (by simp) λh₅ _ hs5=>hE h₅ e (λc o c1 c2 c3 c4 x=>hs5.extBut _ _ c1 (hs4 _ _ c4 (hs3.extBut _ _ c2 (hs2.extBut _ _ c3 (hs1.extBut _ _ c1 x))))) ⟨oe,hs5.extBut _ _ ME Ll,LZ⟩
theorem sR{b:Bool}{l:Addr}{items:Array Value}{Q:Value->Shared->Prop}(hl:fv s.heap b l items)
  (h:∀ o,o=({ cls:=.type (if b then "list_iterator" else "tuple_iterator"),data:=.fields #[.ref l,.int 0 0] }:Obj)->Q (.ref s.heap.objs.size) { s with heap:=s.heap.push o }):wpAny (model prog w) A (pyIter (.ref l)) Q E s:=by
 cases b with
 | true=>exact wpAny_pyIter_list hl (h _ rfl)
 | false=>exact wpAny_pyIter_tuple hl (h _ rfl)
theorem lp{b1 b2:Bool}{z TI TO i1 i2 l1 l2:Addr}{k1 k2:Nat}{xs ys:Array Value}{x y a b:Value}{Q:Option Value->Shared->Prop}(D:ZipApart z TI TO i1 i2 l1 l2)
  (hz:IsZip s.heap z TI TO .none) (Kt:IsPair s.heap TI (.ref i1) (.ref i2)) (Kx:IsPair s.heap TO a b)
  (h1:dI s.heap b1 i1 l1 k1) (h2:dI s.heap b2 i2 l2 k2) (Li:fv s.heap b1 l1 xs) (Lj:fv s.heap b2 l2 ys) (hx:xs[k1]?=some x) (hy:ys[k2]?=some y)
  (hQ:∀ h',IsZip h' z TI TO (rawInt s.heap.objs.size)->IsPair h' TO x y->dI h' b1 i1 l1 (k1+1)->dI h' b2 i2 l2 (k2+1)->IsPair h' s.heap.objs.size x y->h'.objs.size=s.heap.objs.size+1 ->
   (∀ c o,c≠z->c≠TO->c≠i1->c≠i2->s.heap.get? c=some o->h'.get? c=some o)->Q (some (.ref s.heap.objs.size)) { s with heap:=h' }) :
  wpAny (model prog w) A (pyNext (.ref z)) Q E s:=by
 have hT:s.TypeIs (.ref z) "zip" := ⟨_,hz,rfl⟩
 unfold pyNext
 exact wpAny_bind (wpAny_attempt (wpAny_callSpecial?_slot (name:=Str.ofString "__next__") hT F.slot_zip_next
  (wpAny_call_entry F.slot_zip_next hT F.entry_zip_next
   (wt D hz Kt Kx h1 h2 Li Lj hx hy λh' a1 a2 a3 a4 a5 a6 a7=>wpAny_pure (hQ h' a1 a2 a3 a4 a5 a6 a7)) (F.args_zip_next_1 _))))
theorem mK{b1 b2:Bool}{z TI TO i1 i2 l1 l2:Addr}{k1 k2:Nat}{xs ys:Array Value}{a b:Value}{Q:Option Value->Shared->Prop}(hh:A.handled=none)(D:ZipApart z TI TO i1 i2 l1 l2)
  (hz:IsZip s.heap z TI TO .none) (Kt:IsPair s.heap TI (.ref i1) (.ref i2)) (Kx:IsPair s.heap TO a b)
  (h1:dI s.heap b1 i1 l1 k1) (h2:dI s.heap b2 i2 l2 k2) (Li:fv s.heap b1 l1 xs) (Lj:fv s.heap b2 l2 ys) (Lp:xs[k1]?=none\/ys[k2]?=none)
  (hQ:∀ h',(∀ c o,c≠z->c≠TO->c≠i1->c≠i2->s.heap.get? c=some o->h'.get? c=some o)->Q none { s with heap:=h' }):wpAny (model prog w) A (pyNext (.ref z)) Q E s:=by
 have hT:s.TypeIs (.ref z) "zip" := ⟨_,hz,rfl⟩
 unfold pyNext
 refine wpAny_bind (wpAny_attempt (wpAny_callSpecial?_slot (name:=Str.ofString "__next__") hT F.slot_zip_next
  (wpAny_call_entry F.slot_zip_next hT F.entry_zip_next (zH hh D hz Kt Kx h1 h2 Li Lj Lp λh' e hk he=>?_) (F.args_zip_next_1 _))))
 obtain⟨o,ho,hc⟩:=he
 refine wpAny_bind (wpAny_isInstance (T := "StopIteration") (b:=true) ⟨o,ho,hc⟩ isSubtype_stop ?_)
 exact wpAny_pure (hQ _ hk)
abbrev B3(b:Bool)(l:Addr):Obj:={ cls:=.type (if b then "list_iterator" else "tuple_iterator"),data:=.fields #[.ref l,.int 0 0] }
abbrev Dh(h:Heap)(b1:Bool)(l1:Addr):Heap:=h.push (B3 b1 l1)
abbrev CJ(h:Heap)(b1 b2:Bool)(l1 l2:Addr):Heap:=(Dh h b1 l1).push (B3 b2 l2)
abbrev G4(h:Heap)(b1 b2:Bool)(l1 l2:Addr):Heap:=(CJ h b1 b2 l1 l2).push { cls:=.type "tuple", data:=.seq #[.ref h.objs.size,.ref (Dh h b1 l1).objs.size] }
abbrev GQ(h:Heap)(b1 b2:Bool)(l1 l2:Addr):Heap:=(G4 h b1 b2 l1 l2).push { cls:=.type "tuple", data:=.seq #[.none,.none] }
abbrev Du(h:Heap)(b1 b2:Bool)(l1 l2:Addr):Heap:=(GQ h b1 b2 l1 l2).push { cls:=.type "zip", data:=.fields #[.none,.bool false,.bool false,.ref (CJ h b1 b2 l1 l2).objs.size,.ref (G4 h b1 b2 l1 l2).objs.size] }
end
theorem fc{prog:Program}{w:World}{A:Around}{E:Value->Shared->Prop}{s:Shared}{b:Bool}{l:Addr}{items:Array Value}{Q:Value->Shared->Prop}(hl:fv s.heap b l items)
  (h:Q (.ref s.heap.objs.size) { s with heap:=s.heap.push (B3 b l) }):wpAny (model prog w) A (pyIter (.ref l)) Q E s:=sR hl λo e=>by subst e;exact h
theorem fv.push{h:Heap}{b:Bool}{l:Addr}{xs:Array Value}(x:fv h b l xs)(o:Obj):fv (h.push o) b l xs:=x.at λ_ e=>Heap.get?_push_of_some _ e
theorem oq(b1 b2:Bool)(l1 l2:Addr)(xs ys:Array Value) :
  Meets (Builtin.«zip.__new__» ⟨[.type "zip", .ref l1,.ref l2],[]⟩) (λ_ R s=>fv s.heap b1 l1 xs/\fv s.heap b2 l2 ys ∧
   R (.ok (.ret (.ref (GQ s.heap b1 b2 l1 l2).objs.size))) { s with heap:=Du s.heap b1 b2 l1 l2 }) :=
 .of_wp λprog w A R s h=>by
  obtain⟨hp,g,d,tk,os⟩:=s;obtain⟨Li,Lj,h⟩:=h
  have Nu:=sub_zip
  have hL1:fv (Shared.heap ⟨hp,g,d,tk,os⟩) b1 l1 xs:=Li
  have hL2:fv (Shared.heap ⟨hp.push (B3 b1 l1),g,d,tk,os⟩) b2 l2 ys:=fv.push Lj _
  wp_walk using fc hL1,fc hL2
  exact⟨_,rfl,h⟩
section
variable{prog:Program}{w:World}{A:Around}{E:Value->Shared->Prop}{s:Shared}
theorem dI.new(h:Heap)(b:Bool)(it l:Addr)(e:h.get? it=some (B3 b l)):dI h b it l 0:=by
 cases b with
 | true=>exact⟨_,e,rfl,rfl⟩
 | false=>exact⟨_,e,rfl,rfl⟩
theorem wG{b1 b2:Bool}{l1 l2:Addr}{xs ys:Array Value}{Q:Value->Shared->Prop}(Li:fv s.heap b1 l1 xs)(Lj:fv s.heap b2 l2 ys)
  (h:∀ h',IsZip h' (s.heap.objs.size+4) (s.heap.objs.size+2) (s.heap.objs.size+3) .none->IsPair h' (s.heap.objs.size+2) (.ref s.heap.objs.size) (.ref (s.heap.objs.size+1)) ->
   IsPair h' (s.heap.objs.size+3) .none .none->dI h' b1 s.heap.objs.size l1 0->dI h' b2 (s.heap.objs.size+1) l2 0->h'.objs.size=s.heap.objs.size+5 ->
   (∀ c o,s.heap.get? c=some o->h'.get? c=some o)->Q (.ref (s.heap.objs.size+4)) { s with heap:=h' }) :
  wpAny (model prog w) A (call (.type "zip") [.ref l1,.ref l2]) Q E s:=by
 refine callType_new F.called_zip (by decide) (F.typeCall_zip_2 _ _) (F.newCall_zip_2 _ _) (λobj=>F.args_object_init_3 obj _ _) F.entry_zip_new
  (oq b1 b2 l1 l2 xs ys) ⟨Li,Lj,?_⟩
 have z1:(Dh s.heap b1 l1).objs.size=s.heap.objs.size+1:=Heap.size_push ..
 have z2:(CJ s.heap b1 b2 l1 l2).objs.size=s.heap.objs.size+2:=by rw[Heap.size_push,z1]
 have z3:(G4 s.heap b1 b2 l1 l2).objs.size=s.heap.objs.size+3:=by rw[Heap.size_push,z2]
 have z4:(GQ s.heap b1 b2 l1 l2).objs.size=s.heap.objs.size+4:=by rw[Heap.size_push,z3]
 have z5:(Du s.heap b1 b2 l1 l2).objs.size=s.heap.objs.size+5:=by rw[Heap.size_push,z4]
 have g5:(Du s.heap b1 b2 l1 l2).get? (GQ s.heap b1 b2 l1 l2).objs.size=some _:=Heap.get?_push_size _ rfl
 have g4:(Du s.heap b1 b2 l1 l2).get? (G4 s.heap b1 b2 l1 l2).objs.size=some _:=Heap.get?_push_of_some _ (Heap.get?_push_size _ rfl)
 have g3:(Du s.heap b1 b2 l1 l2).get? (CJ s.heap b1 b2 l1 l2).objs.size=some _:=Heap.get?_push_of_some _ (Heap.get?_push_of_some _ (Heap.get?_push_size _ rfl))
 have g2:(Du s.heap b1 b2 l1 l2).get? (Dh s.heap b1 l1).objs.size=some _:=Heap.get?_push_of_some _ (Heap.get?_push_of_some _ (Heap.get?_push_of_some _ (Heap.get?_push_size _ rfl)))
 have g1:(Du s.heap b1 b2 l1 l2).get? s.heap.objs.size=some _:=Heap.get?_push_of_some _ (Heap.get?_push_of_some _ (Heap.get?_push_of_some _ (Heap.get?_push_of_some _ (Heap.get?_push_size _ rfl))))
 show _/\_
 rw[z2,z3,z4] at g5
 rw[z1,z2] at g3
 rw[z3] at g4
 rw[z1] at g2
 rw[z4]
 exact⟨⟨_,g5,rfl⟩,h _ g5 g3 g4 (dI.new _ b1 _ _ g1) (dI.new _ b2 _ _ g2) z5 λc o x =>
  Heap.get?_push_of_some _ (Heap.get?_push_of_some _ (Heap.get?_push_of_some _ (Heap.get?_push_of_some _ (Heap.get?_push_of_some _ x))))⟩
end
def jR(K:PySem.W.Frag)(H:Hp)(b:Bool)(a:Addr)(xs:List V):Prop:=match b with
 | true=>ij K H a xs
 | false=>fQ K H a xs
section
variable{X:Cx}
theorem Inv.row{JS:List (Addr×Obj)}{σ:St}{H:Hp}{s:Shared}{b:Bool}{a:Addr}{xs:List V}(I:Inv X JS σ H s)(h:jR X.K H b a xs):∃ JU:List Value,Vals xs JU/\fv s.heap b a JU.toArray/\xs.length<=sizeLine:=by
 cases b with
 | true =>
  obtain⟨JU,r,p,z⟩:=I.list h
  exact⟨JU,r,p.isList,z⟩
 | false =>
  obtain⟨JU,r,p,z⟩:=I.tuple h
  exact⟨JU,r,p,z⟩
theorem Inv.k9{JS:List (Addr×Obj)}{σ:St}{H:Hp}{s:Shared}{b:Bool}{a:Addr}{xs ys:List V}(I:Inv X JS σ H s)(h:jR X.K H b a xs)(h':jR X.K H b a ys):xs=ys:=by
 cases b with
 | true=>exact I.oz h h'
 | false=>exact I.lM h h'
theorem Inv.vv{JS:List (Addr×Obj)}{σ:St}{H:Hp}{s:Shared}{h':Heap}{t':Nat}{ch:List Addr}(I:Inv X JS σ H s)(k:∀ b u,b ∉ ch->s.heap.get? b=some u->h'.get? b=some u)
  (LJ:∀ b∈ch,kZ X JS H b):Inv X JS σ H { s with heap:=h',toks:=t' }:=by
 have Mw:∀ b u,H b=some u->b ∉ ch:=λb u e z=>by rw[(LJ b z).1] at e;cases e
 refine I.step (g':=s.gens) (d':=s.drawn) (ch:=ch) (λb hb=>?_) (λb u _ _ hc e _=>k b u hc e) (λb u _ _ hc e _=>⟨u.slots,k b u hc e⟩)
  (λb u _ e n=>n) (λb u hc e=>⟨u,k b u hc e⟩) (λb xs e=>e) (λb ob u e=>e) (λb ps e=>⟨#[],by rw[e];simp⟩) (λm hm=>?_) (λb u e=>?_) I.bare
 ·obtain⟨_,f1,_,f3,f4,f5⟩:=LJ b hb
  exact⟨f3,f1,f4,f5⟩
 ·obtain⟨ob,es,ep,ho,r⟩:=hm
  exact⟨ob,es,ep,k _ ob (λz=>(LJ _ z).2.1 rfl) ho,r⟩
 ·refine(I.a_ b u e).kP (λc v hc q=>k c v ?_ q) (λc q=>q) λc ys q=>q
  rcases hc with z' | z'
  ·rw[z'];exact Mw b u e
  ·exact Mw c _ z'
theorem cb{JS:List (Addr×Obj)}{σ:St}{H:Hp}{s:Shared}{b:Bool}{a c:Addr}{xs:List V}(I:Inv X JS σ H s)(h:jR X.K H b a xs)(f:kZ X JS H c):a≠c:=by
 have rd:∀ {u:HO},Rd H a u->a≠c:=λ{u} r=>by
  rcases r with r | ⟨o,r⟩
  ·exact bA r f.1
  ·exact bA r f.1
 have mk:∀ {o:Obj},X.K.lookup a=some o->a≠c:=λ{o} e z=>by
  subst z
  have e':=I.ok.mod.CY _ _ e
  rcases f.2.2.2.1 with q | q
  ·exact I.ok.qV _ _ e' q
  ·exact absurd (Nat.lt_of_lt_of_le (Heap.lt_size (I.ok.bs _ _ e').1) q) (Nat.lt_irrefl _)
 cases b with
 | true =>
  rcases(show ij X.K H a xs from h) with r | ⟨o,JU,n,e,_⟩
  ·exact rd r
  ·exact mk e
 | false =>
  rcases(show fQ X.K H a xs from h) with r | ⟨o,JU,n,e,_⟩
  ·exact rd r
  ·exact mk e
def HX (K : PySem.W.Frag) (b1 b2 : Bool) (a1 a2 : Addr) : It :=
  ⟨λi H => ∃ xs ys x y, jR K H b1 a1 xs /\ jR K H b2 a2 ys /\ xs[i]? = some x /\ ys[i]? = some y,
   λi H v H' => ∃ p x y, H p = none /\ v = .ref p /\ H' = upd H p (.tup [x, y]) /\ (∀ xs, jR K H b1 a1 xs -> xs[i]? = some x) /\ (∀ ys, jR K H b2 a2 ys -> ys[i]? = some y),
   λi H => ∃ xs ys, jR K H b1 a1 xs /\ jR K H b2 a2 ys /\ (xs.length <= i \/ ys.length <= i)⟩
theorem zp{P:Program}{w:World}{K:PySem.W.Frag}{elts:List Expr}{x1:Nat}{tp:Pos}(b1 b2:Bool)(a1 a2 z TI TO i1 i2:Addr)(D:TI≠z/\TO≠z/\i1≠z/\i2≠z/\TI≠TO/\TI≠i1/\TI≠i2/\TO≠i1/\TO≠i2/\i1≠i2) :
  Turn P w K (.Tuple elts x1 tp) (HX K b1 b2 a1 a2) [z,TO,i1,i2,TI] z (λi h=>IsZip h z TI TO .none/\IsPair h TI (.ref i1) (.ref i2)/\(∃ a b,IsPair h TO a b)/\dI h b1 i1 a1 i/\dI h b2 i2 a2 i) where
 mem:=by simp
 obj:=λi h st b hb=>by
  obtain⟨hz,Kt,⟨a,c,Kx⟩,h1,h2⟩:=st
  simp only[List.mem_cons,List.mem_nil_iff,or_false] at hb
  rcases hb with q | q | q | q | q <;> subst q
  ·exact⟨_,hz,λv z=>by cases z⟩
  ·exact⟨_,Kx,λv z=>by cases z⟩
  ·obtain⟨o,vs,e,d⟩:=h1.obj
   exact⟨o,e,λv z=>by rw[d] at z;cases z⟩
  ·obtain⟨o,vs,e,d⟩:=h2.obj
   exact⟨o,e,λv z=>by rw[d] at z;cases z⟩
  ·exact⟨_,Kt,λv z=>by cases z⟩
 keep:=λi h h' st k=>by
  obtain⟨hz,Kt,⟨a,c,Kx⟩,h1,h2⟩:=st
  exact⟨k z (by simp) _ hz,k TI (by simp) _ Kt,⟨a,c,k TO (by simp) _ Kx⟩,h1.at λo e=>k i1 (by simp) o e,h2.at λo e=>k i2 (by simp) o e⟩
 item:=by
  intro X hP hw hK hc i JS s σ H E I hf st hg
  subst hP hw hK
  obtain⟨xs,ys,x,y,Ku,Kv,hx,hy⟩:=hg
  obtain⟨Ms,MI,p1,Nw⟩:=I.row Ku
  obtain⟨Lw,MJ,p2,Nx⟩:=I.row Kv
  obtain⟨u1,hu1,ru1⟩:=MI.get hx
  obtain⟨u2,hu2,ru2⟩:=MJ.get hy
  obtain⟨hz,Kt,⟨a,c,Kx⟩,h1,h2⟩:=st
  obtain⟨d1,d2,d3,d4,d5,d6,d7,d8,d9,d10⟩:=D
  obtain⟨o1,n1,e1,dd1⟩:=p1.obj
  obtain⟨o2,n2,e2,M_⟩:=p2.obj
  obtain⟨oi1,vs1,Nb,di1⟩:=h1.obj
  obtain⟨oi2,vs2,Nc,di2⟩:=h2.obj
  have D:ZipApart z TI TO i1 i2 a1 a2:=⟨d1,d2,d3,d4,d5,d6,d7,d8,d9,d10,cb I Ku (hf z (by simp)),cb I Ku (hf TO (by simp)),cb I Ku (hf i1 (by simp)),cb I Ku (hf i2 (by simp)),
   cb I Kv (hf z (by simp)),cb I Kv (hf TO (by simp)),cb I Kv (hf i1 (by simp)),cb I Kv (hf i2 (by simp))⟩
  refine lp D hz Kt Kx h1 h2 p1 p2 (x:=u1) (y:=u2) (by simpa using hu1) (by simpa using hu2) λh' g1 g2 g3 g4 g5 g6 g7=>⟨_,rfl,?_⟩
  refine wpAny_letOwnedTupleGo_zip (s:={ s with heap:=h' }) g1 λh3 hz3 L7=>?_
  have Lk:H s.heap.objs.size=none:=I.a_.fresh (Nat.le_refl _)
  have lt:∀ {c:Addr} {o:Obj},s.heap.get? c=some o->c≠s.heap.objs.size:=λe=>Nat.ne_of_lt (Heap.lt_size e)
  have Mu:∀ b o,b ∉ [z,TO,i1,i2,TI]->s.heap.get? b=some o->h3.get? b=some o:=λb o hb q=>by
   simp only[List.mem_cons,List.mem_nil_iff,or_false,not_or] at hb
   exact(L7.2 b hb.1).trans (g7 b o hb.1 hb.2.1 hb.2.2.1 hb.2.2.2.1 q)
  have hT3:h3.get? s.heap.objs.size=some { cls:=.type "tuple", data:=.seq #[u1,u2] }:=(L7.2 _ (lt hz).symm).trans g5
  have I3:Inv X JS σ (upd H s.heap.objs.size (.tup [x,y])) { s with heap:=h3,toks:=s.toks } :=
   I.jI (ch:=[z,TO,i1,i2,TI]) Mu hf (Nat.le_refl _) (λb hb=>by
    simp only[List.mem_cons,List.mem_nil_iff,or_false] at hb
    rcases hb with q | q | q | q | q <;> subst q
    ·exact⟨_,hz⟩
    ·exact⟨_,Kx⟩
    ·exact⟨_,Nb⟩
    ·exact⟨_,Nc⟩
    ·exact⟨_,Kt⟩)
    ⟨by show 2<=sizeLine;decide,[u1,u2],.cons ru1 (.cons ru2 .nil),⟨_,hT3,rfl,_,rfl⟩⟩
  refine⟨.ref s.heap.objs.size,_,I3,rfl,⟨_,x,y,Lk,rfl,rfl,λzs MH=>by rw[I.k9 MH Ku];exact hx,λzs MH=>by rw[I.k9 MH Kv];exact hy⟩,
   ⟨hz3,(L7.2 TI d1).trans (g7 TI _ d1 d5 d6 d7 Kt),⟨_,_,(L7.2 TO d2).trans g2⟩,g3.at λo e=>(L7.2 i1 d3).trans e,g4.at λo e=>(L7.2 i2 d4).trans e⟩,λb hb=>?_⟩
  have nb:b≠s.heap.objs.size:=by
   simp only[List.mem_cons,List.mem_nil_iff,or_false] at hb
   rcases hb with q | q | q | q | q <;> subst q
   ·exact lt hz
   ·exact lt Kx
   ·exact lt Nb
   ·exact lt Nc
   ·exact lt Kt
  rw[au nb]
  exact(hf b hb).1
 done:=by
  intro X hP hw hK hc i JS s σ H E I hf st hg
  subst hP hw hK
  obtain⟨xs,ys,Ku,Kv,Lp⟩:=hg
  obtain⟨Ms,MI,p1,Nw⟩:=I.row Ku
  obtain⟨Lw,MJ,p2,Nx⟩:=I.row Kv
  obtain⟨hz,Kt,⟨a,c,Kx⟩,h1,h2⟩:=st
  obtain⟨d1,d2,d3,d4,d5,d6,d7,d8,d9,d10⟩:=D
  have D:ZipApart z TI TO i1 i2 a1 a2:=⟨d1,d2,d3,d4,d5,d6,d7,d8,d9,d10,cb I Ku (hf z (by simp)),cb I Ku (hf TO (by simp)),cb I Ku (hf i1 (by simp)),cb I Ku (hf i2 (by simp)),
   cb I Kv (hf z (by simp)),cb I Kv (hf TO (by simp)),cb I Kv (hf i1 (by simp)),cb I Kv (hf i2 (by simp))⟩
  have l1:=MI.length
  have l2:=MJ.length
  refine mK (I.ok.hd hc) D hz Kt Kx h1 h2 p1 p2 ?_ λh' k=>⟨rfl,?_⟩
  ·rcases Lp with q | q
   ·exact .inl (by simp;omega)
   ·exact .inr (by simp;omega)
  ·exact I.vv (t':=s.toks) (ch:=[z,TO,i1,i2,TI]) (λb u hb e=>by
    simp only[List.mem_cons,List.mem_nil_iff,or_false,not_or] at hb
    exact k b u hb.1 hb.2.1 hb.2.2.1 hb.2.2.2.1 e) hf
 self:=λ_ _ _ _ _ st h=>by
  obtain⟨hz,_⟩:=st
  exact wpAny_pyIter_zip hz h
theorem DN(n:Nat):n+2≠n+4/\n+3≠n+4/\n≠n+4/\n+1≠n+4/\n+2≠n+3/\n+2≠n/\n+2≠n+1/\n+3≠n/\n+3≠n+1/\n≠n+1:=by
 refine⟨?_,?_,?_,?_,?_,?_,?_,?_,?_,?_⟩ <;> omega
def F1(K:PySem.W.Frag)(tl:TA):TI:=fun σ H R=>tl σ H λvs H1=>∃ b1 b2 a1 a2,vs=[.ref a1,.ref a2]/\(∃ xs,jR K H1 b1 a1 xs)/\(∃ ys,jR K H1 b2 a2 ys)/\R (HX K b1 b2 a1 a2) H1
theorem gv{elts:List Expr}{x1:Nat}{tp:Pos}{l1 l2:Expr}{tl:TA}{p pos:Pos}(hg:Gl X "zip")(hm:X.mg "zip" = none)(hl:PA X [l1,l2] tl)(hs:starEach [l1,l2] X.env=[(false,eval l1 X.env),(false,eval l2 X.env)]:=by rfl)(LH:starEach [l2] X.env=[(false,eval l2 X.env)]:=by rfl) :
  PI X (.Tuple elts x1 tp) (.Call (.Name "zip" p) [l1,l2] [] pos) (F1 X.K tl):=by
 intro JS s σ H R I h
 refine Call_ (kl I hg hm PyProof.Rows.boot_zip (PyProof.Rows.callWith_type1 (cN (hl pos JS s σ H _ I h) λus s1 ⟨vs,H1,I1,r1,q1⟩=>?_) (by rw[hs,LH]) (by rw[LH];rfl)))
 obtain⟨b1,b2,a1,a2,e,⟨xs,Ku⟩,⟨ys,Kv⟩,q⟩:=q1
 subst e
 cases r1 with
 | cons r rr =>
  cases rr with
  | cons r' rr =>
   cases rr
   cases (show _=Value.ref a1 from r)
   cases (show _=Value.ref a2 from r')
   obtain⟨Ms,MI,p1,Nw⟩:=I1.row Ku
   obtain⟨Lw,MJ,p2,Nx⟩:=I1.row Kv
   refine wG p1 p2 λh' g1 g2 g3 g4 g5 g6 g7=>?_
   have I2:Inv X JS σ H1 { s1 with heap:=h' }:=I1.kept (t':=s1.toks) g7
   refine wpAny_pyIter_zip (s:={ s1 with heap:=h' }) g1 ?_
   refine⟨s1.heap.objs.size+4,[s1.heap.objs.size+4,s1.heap.objs.size+3,s1.heap.objs.size,s1.heap.objs.size+1,s1.heap.objs.size+2],_,_,H1,rfl,I2,
    zp b1 b2 a1 a2 _ _ _ _ _ (DN s1.heap.objs.size),⟨g1,g2,⟨_,_,g3⟩,g4,g5⟩,λb hb=>?_,q⟩
   have hle:s1.heap.objs.size<=b:=by
    simp only[List.mem_cons,List.mem_nil_iff,or_false] at hb
    rcases hb with q | q | q | q | q
    ·rw[q];exact Nat.le_add_right _ 4
    ·rw[q];exact Nat.le_add_right _ 3
    ·rw[q];exact Nat.le_refl _
    ·rw[q];exact Nat.le_add_right _ 1
    ·rw[q];exact Nat.le_add_right _ 2
   exact I1.sG hle (I1.a_.fresh hle)
end
end L2
namespace L2
open PySem PySem.Spec PyProof.Rows
def G8(K:PySem.W.Frag)(b:Bool)(a:Addr):It:=match b with
 | true=>Jo K a
 | false=>I0 K a
section
variable{X:Cx}{tg:Expr}
def F3(K:PySem.W.Frag)(tl:TE):TI:=fun σ H R=>tl σ H λx H1=>∃ b a,x=.ref a/\(∃ xs,jR K H1 b a xs)/\R (G8 K b a) H1
theorem fx{l:Expr}{tl:TE}(hl:PE X l tl):PI X tg l (F3 X.K tl):=by
 intro JS s σ H R I h
 refine cN (hl JS s σ H _ I h) λv s1 ⟨x,H1,I1,r1,q1⟩=>?_
 obtain⟨b,a,e,⟨xs,hq⟩,q⟩:=q1
 subst e
 cases r1
 cases b with
 | true =>
  obtain⟨JU,rv,p,hz⟩:=I1.list hq
  refine wpAny_pyIter_list p.isList ?_
  refine⟨s1.heap.objs.size,[s1.heap.objs.size],_,_,H1,rfl,I1.kept (t':=s1.toks) λb o e=>Heap.get?_push_of_some _ e,xC a _,⟨_,Heap.get?_push_size _ rfl,rfl,rfl⟩,λb hb=>?_,q⟩
  have e:b=s1.heap.objs.size:=by simpa using hb
  subst e
  exact I1.sG (Nat.le_refl _) (I1.a_.fresh (Nat.le_refl _))
 | false =>
  obtain⟨JU,rv,p,hz⟩:=I1.tuple hq
  refine wpAny_pyIter_tuple (show s1.heap.IsTuple a JU.toArray from p) ?_
  refine⟨s1.heap.objs.size,[s1.heap.objs.size],_,_,H1,rfl,I1.kept (t':=s1.toks) λb o e=>Heap.get?_push_of_some _ e,uT a _,⟨_,Heap.get?_push_size _ rfl,rfl,rfl⟩,λb hb=>?_,q⟩
  have e:b=s1.heap.objs.size:=by simpa using hb
  subst e
  exact I1.sG (Nat.le_refl _) (I1.a_.fresh (Nat.le_refl _))
end
section
end
section
variable{X:Cx}
theorem xj(hc:X.calm=true):cJ X (.builtin "sum") (λxs H Q=>∃ (a:Addr) (ns:List Int),xs=[.ref a]/\ij X.K H a (ns.map V.int)/\Q (.int ns.sum) H):=by
 intro JS s σ H xs us Q I r h
 obtain⟨a,ns,rfl,hq,q⟩:=h
 cases r with
 | cons r1 r2 =>
  cases r2
  cases (show _=Value.ref a from r1)
  obtain⟨JU,rv,p,hz⟩:=I.list hq
  have hi:=intsAre_of rv
  obtain⟨xs',e⟩:=hi.allInts.items
  have e3:numsOf (intItems xs').toList=ns:=by rw[← e];exact hi.numsOf
  rw[nums_intItems] at e3
  refine sum_intListG (I.ok.hd hc) (by rw[← e];exact p.isList) λh' tk t' hk=>⟨.int ns.sum,H,I.kept (t':=tk) hk,⟨t',?_⟩,q⟩
  rw[preSum_eq,List.take_of_length_le (by simp),e3]
end
end L2
namespace L2
open PySem PySem.Spec PyProof.Rows
structure fS (K:PySem.W.Frag) (C:Addr):Prop where
 ga:PySem.W.findIn K (.ref C) "__getattribute__" = some (some (.builtin "BaseException.__getattribute__"))
 gn:PySem.W.findIn K (.ref C) "__getattr__" = some none
 hd:PySem.W.hasDictIn K C=true
 sa:PySem.W.findIn K (.ref C) "__setattr__" = some (some (.builtin "object.__setattr__"))
 mb:PySem.W.mroIn K C (.type "BaseException")=some true
 mo:PySem.W.mroIn K C (.type "object")=some true
 ca:PySem.W.findIn K (.ref C) "__class__" = some (some (.builtin "object.__class__"))
 cg:PySem.W.specialIn K (.builtin "object.__class__") "__get__" = some (some (.builtin "getset_descriptor.__get__"))
 ct:PySem.W.takesIn K (.builtin "object.__class__")=some true
section
variable{prog:Program}{w:World}{A:Around}{E:Value->Shared->Prop}{s:Shared}{K:PySem.W.Frag}{x C:Addr}{ox:Obj}{od:Option Obj}{name:Str}
theorem x9:builtinKind "BaseException.__getattribute__" = some .slot:=by decide +kernel
theorem wy:splitId "BaseException.__getattribute__" = some ("BaseException", "__getattribute__"):=by decide +kernel
theorem DX{tk:Tok}{fill expr:Bool}{Q:Value->Shared->Prop}(c:fS K C)(X:K.In s.heap)(I:PySem.W.InstAt s.heap x ox C od)
  (h:wpAny (model prog w) A.in1 (Builtin.«object.__getattribute__» ⟨[.ref x,.str name tk],[]⟩)
   (λfin s'=>match fin with | .done (.ret v)=>wpAny (model prog w) A (handedOut v) Q E s' | _=>False) (λ_ _=>False) s) :
  wpAny (model prog w) A (getAttrBy (.ref x) (.str name tk) fill expr) Q E s:=by
 have Lr:(Value.builtin "BaseException.__getattribute__" == Value.builtin "object.__getattribute__")=false:=by decide +kernel
 have M8:(onTheHeap (Value.ref C)&&Value.builtin "BaseException.__getattribute__" == Value.builtin "object.__getattribute__")=false:=by rw[Lr];rfl
 have hx0:(expr&&onTheHeap (Value.builtin "BaseException.__getattribute__"))=false:=by cases expr <;> rfl
 have sub:PySem.W.Looks (model prog w) s.heap (isInstance (.ref x) (.type "BaseException")) true:=I.type.andThen (PySem.W.looks_mroIn X c.mb)
 unfold getAttrBy
 refine wpAny_holding (wpAny_bind (I.type.here (wpAny_bind ((PySem.W.looks_findIn X c.ga).here ?_))))
 dsimp only
 rw[M8,if_neg Bool.false_ne_true]
 unfold getAttrByItsOwn hookBefore
 refine wpAny_bind ?_
 show wpAny _ _ (typeLookup (.ref C) "__getattr__") _ _ _
 refine(PySem.W.looks_findIn X c.gn).here ?_
 refine wpAny_bind (wpAny_attempt (wpAny_holding ?_))
 unfold callGetattribute
 rw[hx0,if_neg Bool.false_ne_true]
 unfold boundAndCalled
 refine wpAny_bind (wpAny_of_eq (PySem.F.attr_ValueError.ga.bind _) ?_)
 refine wpAny_call (codeAny_call_builtin PySem.F.attr_ValueError.ga.plain PySem.F.entry_bexc_ga (@PySem.W.check_slot (model prog w) _ _ s "BaseException.__getattribute__" "BaseException" "__getattribute__" (.ref x) [.str name tk] [] _ x9 wy sub (PySem.F.args_bexc_ga _ _) ?_))
 refine wpAny_mono h (λfin s' z=>?_) (λ_ _ z=>z.elim)
 rcases fin with (v | _ | _ | _) | _ <;> first | exact z | exact z.elim
end
end L2
namespace L2
open PySem PySem.Spec PyProof.Rows
open PySem.Builtin.ObjectAttr (storeInOwnDict storeTaker? setByDescriptor)
abbrev eH:List Value:=[.type "ValueError", .type "Exception", .type "BaseException", .type "object"]
def f_:List Value->Bool
 | .ref _::r=>f_ r
 | l=>l==eH
theorem nz(self:Value):refuseLoop self "__setattr__" eH=pure ():=by kernel_rfl
theorem l4(self:Value):∀ {l:List Value},f_ l=true->refuseLoop self "__setattr__" l=pure ()
 | .ref c::r,e=>by rw[PySem.refuseLoop_ref];exact l4 self e
 | [],e=>by cases (show false=true from e)
 | .type n::r,e=>by rw[show Value.type n::r=eH from beq_iff_eq.mp e];exact nz self
 | .none::r,e=>by rw[show Value.none::r=eH from beq_iff_eq.mp e];exact nz self
section
variable{prog:Program}{w:World}{A:Around}{E:Value->Shared->Prop}{s:Shared}{K:PySem.W.Frag}{x C:Addr}{ox:Obj}{od:Option Obj}{name:Str}
theorem pe{a g:Value}(hc:(PySem.W.clsIn K C).isSome=true)(ha:PySem.W.findIn K (.ref C) name=some (some a))(hg:PySem.W.specialIn K a "__get__" = some (some g))(ht:PySem.W.takesIn K a=some true):PySem.W.findObj K C od name=some (.bind g a):=by
 obtain⟨cd,hc⟩:=Option.isSome_iff_exists.mp hc
 unfold PySem.W.findObj
 rw[hc,Option.bind_some,ha,Option.bind_some]
 simp[hg,ht]
theorem wX{Q:Option Value->Shared->Prop}(c:fS K C)(X:K.In s.heap)(I:PySem.W.InstAt s.heap x ox C od)(h:Q (some (.ref C)) { s with toks:=s.toks+1 }):wpAny (model prog w) A (getAttr? (.ref x) "__class__") Q E s:=by
 have hc:(PySem.W.clsIn K C).isSome=true:=by obtain⟨cd,hc,_⟩:=PySem.W.any_some c.hd;rw[hc];rfl
 have hf:PySem.W.findObj K C od "__class__" = some (.bind (.builtin "getset_descriptor.__get__") (.builtin "object.__class__")):=pe hc c.ca c.cg c.ct
 unfold getAttr? getAttrBy?
 refine wpAny_bind (wpAny_mkText (wpAny_bind (wpAny_attempt ?_)))
 refine DX (s:={ s with toks:=s.toks+1 }) c X I ?_
 unfold Builtin.«object.__getattribute__»
 refine wpAny_bind (wpAny_pure ?_)
 dsimp only
 refine wpAny_bind (wpAny_pure ?_)
 refine wpAny_bind (I.type.here (s:={ s with toks:=s.toks+1 }) (wpAny_bind ((PySem.W.looks_find X I hf).here (s:={ s with toks:=s.toks+1 }) ?_)))
 show wpAny _ _ (holding [.builtin "object.__class__"] (call (.builtin "getset_descriptor.__get__") [.builtin "object.__class__", .ref x,.ref C]) >>= ret) _ _ _
 refine wpAny_bind (wpAny_holding (wpAny_call (PySem.W.class_get (s:={ s with toks:=s.toks+1 }) (ox:=ox) (od:=od) X I c.mo ?_)))
 refine wpAny_pure ?_
 exact PySem.W.handed_on rfl (wpAny_pure h)
theorem r_(c:fS K C):PySem.W.KitX K (.ref x) (.ref C) (λh=>PySem.W.InstAt h x ox C od) where
 ty:=λ_ _ _ I=>I.type
 it:=λ_ _ X _=>by
  obtain⟨cdD,Mh,_⟩:=PySem.W.any_some c.hd
  unfold PySem.W.clsIn at Mh
  split at Mh
  ·rename_i c' d' cd' sl' ho
   intro A' Q' E' s' k q
   unfold isType loadHead
   exact wpAny_bind (wpAny_loadPart (k _ _ (X _ _ ho)) (wpAny_pure q))
  ·cases Mh
 ne:=λh tp dd JU n sl X htp=>by
  obtain⟨cdD,Mh,_⟩:=PySem.W.any_some c.hd
  refine Bool.eq_false_iff.mpr λq=>?_
  have e:C=tp:=Value.ref.inj (beq_iff_eq.mp q)
  subst e
  unfold PySem.W.clsIn at Mh
  split at Mh
  ·rename_i c' d' cd' sl' ho
   have z:=(X _ _ ho).symm.trans htp
   cases z
  ·cases Mh
 ca:=λX I k=>wX c X I k
theorem Br{tk:Tok}{v:Value}{R:Result->Shared->Prop}(po:((PySem.W.clsIn K C).any λcd=>f_ cd.mro)=true)(c:fS K C)(X:K.In s.heap)(I:PySem.W.InstAt s.heap x ox C od)(ht:PySem.W.takerIn K C name=some none)
  (h:∀ b,wpAny (model prog w) A.in1 (storeInOwnDict (.ref x) (.ref C) (.str name tk) name v b)
   (λfin s'=>match fin with | .done f=>R (.ok f) s' | .again c'=>c'.quiet=true/\codeAny (model prog w) A c' R s') (λe s'=>R (.error e) s') s) :
  codeAny (model prog w) A (.call (.builtin "object.__setattr__") ⟨[.ref x,.str name tk,v],[]⟩) R s:=by
 have SF:=PySem.F.store_object
 obtain⟨cd,hc,ho⟩:=PySem.W.any_some po
 have sub:PySem.W.Looks (model prog w) s.heap (isInstance (.ref x) (.type "object")) true:=I.type.andThen (PySem.W.looks_mroIn X c.mo)
 refine codeAny_call_builtin SF.slot.plain SF.entry (@PySem.W.check_slot (model prog w) _ _ s "object.__setattr__" "object" "__setattr__" (.ref x) [.str name tk,v] [] _ SF.kind SF.split sub (SF.args (.ref x) (.str name tk) v) ?_)
 obtain⟨attr,ha,hr⟩:=Option.bind_eq_some_iff.mp ht
 have hm:PySem.W.Looks (model prog w) s.heap (mroOf (.ref C)) cd.mro:=(PySem.W.looks_clsIn X hc).andThen .now
 have L3:PySem.W.Looks (model prog w) s.heap (storeTaker? attr) none:=by
  cases attr with
  | none=>cases hr;exact .now
  | some a =>
   obtain⟨b,hb,e⟩:=Option.map_eq_some_iff.mp hr
   refine(PySem.W.looks_takesIn X hb).andThen ?_
   cases b with
   | true=>cases e
   | false=>exact .now
 rw[PySem.W.osa_eq,PySem.refuse_eq]
 refine wpAny_bind (wpAny_bind (I.type.here (wpAny_bind (hm.here ?_))))
 rw[l4 _ ho]
 refine wpAny_pure (wpAny_bind (I.type.here (wpAny_bind ((PySem.W.looks_findIn X ha).here (wpAny_bind (L3.here ?_))))))
 exact h _
theorem yI{vs:Array Value}{v:Value}{Q:Unit->Shared->Prop}(po:((PySem.W.clsIn K C).any λcd=>f_ cd.mro)=true)(c:fS K C)(X:K.In s.heap)(hx:s.heap.get? x=some ⟨.ref C,none,.fields vs,#[]⟩)(ht:PySem.W.takerIn K C name=some none)
  (h:∀ h' tk d,h'.get? x=some ⟨.ref C,some d,.fields vs,#[]⟩->s.heap.get? d=none->h'.Ns1 d (λy=>if y=name then some v else none)->(∀ b o,b≠x->s.heap.get? b=some o->h'.get? b=some o)->Q () { s with heap:=h',toks:=tk }) :
  wpAny (model prog w) A (setAttr (.ref x) name v) Q E s:=by
 have I:PySem.W.InstAt s.heap x ⟨.ref C,none,.fields vs,#[]⟩ C none:=⟨hx,rfl,rfl,trivial⟩
 refine PySem.W.set_plain X I c.sa (Br (s:={ s with toks:=s.toks+1 }) po c X I ht λb=>?_)
 obtain⟨cd,hc,Ni⟩:=PySem.W.any_some c.hd
 have Le:=Heap.lt_size hx
 refine wpAny_bind (wpAny_pure (wpAny_bind (wpAny_bind (wpAny_loadPart hx (wpAny_bind (PySem.W.Looks.here (s:={ s with toks:=s.toks+1 }) (PySem.W.looks_clsIn X hc) ?_))))))
 rw[Ni]
 refine wpAny_bind (wpAny_alloc ?_)
 have M8:(s.heap.push { cls:=.type "dict", data:=.dict #[] }).get? x=some ⟨.ref C,none,.fields vs,#[]⟩:=Heap.get?_push_of_some _ hx
 refine wpAny_bind (wpAny_update M8 ?_)
 refine wpAny_pure (a:=some s.heap.objs.size) (wpAny_bind (wpAny_pure (wpAny_bind ?_)))
 have Lr:((s.heap.push { cls:=.type "dict", data:=.dict #[] }).update x λo=>{ o with dict:=some s.heap.objs.size }).get? x=some ⟨.ref C,some s.heap.objs.size,.fields vs,#[]⟩:=Heap.get?_update_self _ M8 rfl
 have e1:(s.heap.push { cls:=.type "dict", data:=.dict #[] }).get? s.heap.objs.size=some { cls:=.type "dict", data:=.dict #[] }:=Heap.get?_push_size s.heap rfl
 have nxd:s.heap.objs.size≠x:=Nat.ne_of_gt Le
 have e2:((s.heap.push { cls:=.type "dict", data:=.dict #[] }).update x λo=>{ o with dict:=some s.heap.objs.size }).get? s.heap.objs.size=some { cls:=.type "dict", data:=.dict #[] }:=by
  rw[Heap.get?_update_other _ _ (Ne.symm nxd)]
  exact e1
 have e3:((s.heap.push { cls:=.type "dict", data:=.dict #[] }).update x λo=>{ o with dict:=some s.heap.objs.size }).Ns s.heap.objs.size (λ_=>none):=⟨_,#[],_,e2,rfl,(λe he=>absurd he (by simp)),λ_=>rfl⟩
 refine wpAny_nsSet1 (s:={ s with heap:=(s.heap.push { cls:=.type "dict", data:=.dict #[] }).update x λo=>{ o with dict:=some s.heap.objs.size },toks:=s.toks+1 }) (Heap.Ns1.of_empty e3) λh' MG LH=>?_
 obtain⟨oD,esD,epD,hoD,hdD,Mh⟩:=MG.count (PySem.Within.cons (ns:=[]) name v (λy hy=>absurd rfl hy))
 refine wpAny_bind (wpAny_lookBehind hoD (by rw[hdD];exact pastItsLine_dict (Nat.le_trans Mh (by show 1<=sizeLine+1;exact Nat.le_add_left _ _))) ?_)
 refine wpAny_pure (h h' _ s.heap.objs.size ((LH.2 x (Ne.symm nxd)).trans Lr) (Heap.get?_none_of_le (Nat.le_refl _)) MG λb o hb e=>?_)
 refine(LH.2 b (Nat.ne_of_lt (Heap.lt_size e))).trans ?_
 rw[Heap.get?_update_other _ _ (Ne.symm hb)]
 exact Heap.get?_push_of_some _ e
end
def oj(K:PySem.W.Frag)(C:Addr)(newId:String)(f:Addr):Bool:=match K.lookup C with
 | some ⟨.type "type", _,.cls cd,sl⟩=>(match cd.mro,sl.toList with
  | .ref C'::bm,[_,_,_,_,some (.builtin n),_]=>C'==C&&n==newId&&!cd.hasDel&&PySem.W.tailIn K eH bm&&PySem.W.nsOkIn K cd.ns&&PySem.W.nsIn K cd.ns "__init__" == some (some (.ref f))
  | _,_=>false)
 | _=>false
section
variable{prog:Program}{w:World}{A:Around}{E:Value->Shared->Prop}{h:Heap}{g:Array GenState}{d:Drawn}{t:Nat}{os:OsState}
variable{nm q:Str}{C N:Addr}{bs bm:List Value}{LQ:Bool}{sn:List Str}{sub:List Value}{ab:Bool}{col:Option Bool}{dd:Option Addr}{k0 k1 k2 k3 k5:Option Value}{newId MX:String}
theorem oY(F:ExcBaseFacts "ValueError" newId MX eH)(T:OwnTail h eH bm){mN:Str->Option Value}{rest:List Value}{f:Addr}{Q:Fin->Shared->Prop}
  (hC:h.get? C=some (excClassObj nm q C N bs bm LQ sn sub ab col dd k0 k1 k2 k3 k5 newId)) (hn:h.Ns N mN) (Ma:mN "__init__" = some (.ref f))
  (hb:∀ h':Heap,(∀ b o,h.get? b=some o->h'.get? b=some o)->∀ self,PySem.W.Looks (model prog w) h' (bindSpecial (.ref f) self) (.ref f,[self]))
  (hq:∀ h':Heap,(∀ b o,h.get? b=some o->h'.get? b=some o)->h'.get? h.objs.size=some { cls:=.type "tuple", data:=.seq rest.toArray } ->
   h'.get? (h.objs.size+1)=some { cls:=.ref C,data:=.fields #[.ref h.objs.size,.none,.none,.none,.bool false,.none] }->h'.objs.size=h.objs.size+2 ->
   wpAny (model prog w) A (call (.ref f) (.ref (h.objs.size+1)::rest)) (λv s'=>v=.none/\Q (.done (.ret (.ref (h.objs.size+1)))) s') E ⟨h',g,d,t,os⟩) (yd:rest.length<=sizeLine:=by size_fits) :
  wpAny (model prog w) A (Builtin.«type.__call__» ⟨.ref C::rest,[]⟩) Q E ⟨h,g,d,t,os⟩:=by
 repeat (first | with_reducible refine wpAny_loadPart_at hC ?_ | with_reducible refine wpAny_madeBy_exc hC ?_ | wp_step)
 refine codeAny_call_builtin_code (Code.quiet_builtin _ F.quiet) (wpAny_check_new_subT F T hC ?_)
 refine codeAny_exc_new_subT F T hC ?_ yd
 show wpAny _ _ _ _ _ _
 have kp:∀ b o,h.get? b=some o->((h.push { cls:=.type "tuple", data:=.seq rest.toArray }).push { cls:=.ref C,data:=.fields #[.ref h.objs.size,.none,.none,.none,.bool false,.none] }).get? b=some o:=λb o e=>Heap.get?_push_of_some _ (Heap.get?_push_of_some _ e)
 have hC1:=kp _ _ hC
 have hn1:((h.push { cls:=.type "tuple", data:=.seq rest.toArray }).push { cls:=.ref C,data:=.fields #[.ref h.objs.size,.none,.none,.none,.bool false,.none] }).Ns N mN:=hn.keeps kp
 have Nl:((h.push { cls:=.type "tuple", data:=.seq rest.toArray }).push
   { cls:=.ref C,data:=.fields #[.ref h.objs.size,.none,.none,.none,.bool false,.none] }).get? (h.objs.size+1)=some
   { cls:=.ref C,data:=.fields #[.ref h.objs.size,.none,.none,.none,.bool false,.none] }:=by heap_get
 have htup:((h.push { cls:=.type "tuple", data:=.seq rest.toArray }).push
   { cls:=.ref C,data:=.fields #[.ref h.objs.size,.none,.none,.none,.bool false,.none] }).get? h.objs.size=some { cls:=.type "tuple", data:=.seq rest.toArray }:=Heap.get?_push_of_some _ (Heap.get?_push_size _ rfl)
 have Lq:((h.push { cls:=.type "tuple", data:=.seq rest.toArray }).push { cls:=.ref C,data:=.fields #[.ref h.objs.size,.none,.none,.none,.bool false,.none] }).objs.size=h.objs.size+2:=by rw[Heap.size_push,Heap.size_push]
 have hcC:(Value.ref C::bm).contains (.ref C)=true:=by simp
 have T1:=T.keeps kp
 have hb₁:=hb _ kp (.ref (h.objs.size+1))
 have fin:=hq _ kp htup Nl Lq
 generalize ((h.push { cls:=.type "tuple", data:=.seq rest.toArray }).push { cls:=.ref C,data:=.fields #[.ref h.objs.size,.none,.none,.none,.bool false,.none] })=h1 at *
 unfold isInstance
 repeat (first | with_reducible refine wpAny_loadPart_at Nl ?_ | (with_reducible refine wpAny_isSubtype_exc hC1 ?_;rw[hcC]) | wp_step)
 show wpAny _ _ (typeLookup (.ref C) _) _ _ _
 refine wpAny_typeLookup_tail hC1 hn1 T1 F.mroIs F.init.lookup ?_
 rw[Ma]
 refine wpAny_holding (wpAny_bind (hb₁.here ?_))
 refine wpAny_bind (wpAny_mono fin (λv s' z=>?_) λ_ _ z=>z)
 obtain⟨rfl,z⟩:=z
 wp_walk
 exact z
end
end L2
namespace L2
open PySem PySem.Spec PyProof.Rows
def gP(C:Addr)(dd:Option Addr)(e:Addr):HO:=.ext λh=>∃ vs,h.get? e=some ⟨.ref C,dd,.fields vs,#[]⟩
theorem BY{P:Program}{w:World}{H:Hp}{h:Heap}{C e:Addr}{dd:Option Addr}{vs:Array Value}(he:h.get? e=some ⟨.ref C,dd,.fields vs,#[]⟩):bC P w H h e (gP C dd e) :=
 ⟨⟨vs,he⟩,⟨_,he⟩,λ_ _ ⟨vs,q⟩ k=>⟨vs,k _ q⟩⟩
def ExcAt(H:Hp)(e C:Addr)(fo:Option (List (Str×V))):Prop:=match fo with
 | none=>H e=some (gP C none e)
 | some fs=>∃ d,H e=some (gP C (some d) e)/\H d=some (.xd fs)
section
variable{X:Cx}{JS:List (Addr×Obj)}{σ:St}{H:Hp}{s:Shared}
theorem Inv.oX(I:Inv X JS σ H s){C e:Addr}{dd:Option Addr}(he:H e=some (gP C dd e)):∃ vs,s.heap.get? e=some ⟨.ref C,dd,.fields vs,#[]⟩:=(I.a_ e _ he).1
theorem Inv.BS(I:Inv X JS σ H s){C e:Addr}{fo:Option (List (Str×V))}(h:ExcAt H e C fo):∃ ox od,PySem.W.InstAt s.heap e ox C od/\(fo=none->od=none) ∧
  ∀ fs,fo=some fs->∃ (o:Obj) (mA:Str->Option Value),od=some o/\(∀ n,PySem.W.lookIn n o=some (mA n))/\∀ f,lq (fs.lookup f) (mA f):=by
 cases fo with
 | none =>
  obtain⟨vs,q⟩:=I.oX h
  exact⟨_,none,⟨q,rfl,rfl,trivial⟩,λ_=>rfl,λfs z=>(by cases z)⟩
 | some fs =>
  obtain⟨d,h1,h2⟩:=h
  obtain⟨vs,q⟩:=I.oX h1
  obtain⟨mA,n,r⟩:=(show ∃ mA,s.heap.Ns1 d mA/\∀ f,lq (fs.lookup f) (mA f) from I.a_ d _ h2)
  obtain⟨o,ho,hl⟩:=lN n
  refine⟨_,some o,⟨q,rfl,rfl,ho⟩,λz=>(by cases z),λMK z=>?_⟩
  cases z
  exact⟨o,mA,rfl,hl,r⟩
theorem Inv.qD{a:Addr}(I:Inv X JS σ H s)(hn:s.heap.get? a=none):H a=none:=by
 cases q:H a with
 | none=>rfl
 | some u =>
  exfalso
  have:∀ (u:HO),bC X.prog X.w H s.heap a u->∃ ob,s.heap.get? a=some ob:=by
   intro u
   induction u with
   | lst xs=>intro ⟨_,_,_,_,e⟩;exact⟨_,e⟩
   | tup xs=>intro ⟨_,_,_,p⟩;obtain⟨ob,e,_⟩:=p;exact⟨ob,e⟩
   | dK KW=>intro ⟨_,_,_,_,p⟩;obtain⟨ob,_,_,e,_⟩:=p;exact⟨ob,e⟩
   | dT KW=>intro ⟨_,_,_,_,ob,_,_,e,_⟩;exact⟨ob,e⟩
   | set S n=>intro p;obtain⟨es,ob,xs,ep,e,_⟩:=p;exact⟨_,e⟩
   | ins C dx fs=>intro ⟨_,_,_,e,_⟩;exact⟨_,e⟩
   | own x=>intro ⟨ob,e⟩;exact⟨ob,e⟩
   | xd fs=>intro ⟨mA,n,_⟩;obtain⟨ob,e,_⟩:=lN n;exact⟨ob,e⟩
   | met f x=>intro e;exact⟨_,e⟩
   | sW lo hi=>intro ⟨_,_,_,e⟩;exact⟨_,e⟩
   | pA o u _=>intro ⟨e,_⟩;exact⟨_,e⟩
   | Cp ps=>intro e;exact⟨_,e⟩
   | ext φ=>intro ⟨_,⟨ob,e⟩,_⟩;exact⟨ob,e⟩
  obtain⟨ob,e⟩:=this u (I.a_ a u q)
  rw[hn] at e;cases e
theorem Inv.CM{h':Heap}{t':Nat}{a:Addr}{o:HO}(I:Inv X JS σ H s)(k:∀ b u,s.heap.get? b=some u->h'.get? b=some u)(hn:s.heap.get? a=none)(new:bC X.prog X.w (upd H a o) h' a o) :
  Inv X JS σ (upd H a o) { s with heap:=h',toks:=t' }:=by
 have ne:∀ b u,s.heap.get? b=some u->b≠a:=λb u e z=>by rw[z,hn] at e;cases e
 have Ml:H a=none:=I.qD hn
 have Mv:∀ b u,H b=some u->b≠a:=λb u e z=>by rw[z,Ml] at e;cases e
 refine I.un ⟨λb u e _ _ _=>k b u e,λb u e _ _ _=>⟨u.slots,k b u e⟩,λb u e n _=>by rw[au (ne b u e)];exact n,λb u e _=>⟨u,k b u e⟩,
  λb xs e=>by rw[au (Mv b _ e)];exact e,λb ob u e=>by rw[au (Mv b _ e)];exact e,λb ps e=>⟨#[],by rw[au (Mv b _ e),e];simp⟩⟩ λb u e=>?_
 by_cases z:b=a
 ·subst z
  rw[az] at e
  cases e
  exact new
 ·rw[au z] at e
  refine(I.a_ b u e).kP (λc v _ q=>k c v q) (λc q=>?_) λc ys q=>?_
  ·rw[au (Mv c _ q)];exact q
  ·rw[au (Mv c _ q)];exact q
end
section
variable{X:Cx}{o:Expr}{ta:TE}{f m:Str}{pos apos:Pos}
def IX(K:PySem.W.Frag):List V->Hp->VK->Prop:=λxs H Q=>∃ e C fo b,fS K C/\ExcAt H e C fo ∧
 ((∃ T,xs=[.ref e,.ty T]/\PySem.W.kitOne K (.ref C) (.type T)=some b)\/(∃ D,xs=[.ref e,.ref D]/\PySem.W.kitOne K (.ref C) (.ref D)=some b))/\Q (.bl b) H
theorem sV:cJ X (.builtin "isinstance") (IX X.K):=by
 intro JS s σ H xs us Q I r h
 obtain⟨e,C,fo,b,c,ha,hc,q⟩:=h
 obtain⟨ox,od,J,_⟩:=I.BS ha
 rcases hc with ⟨T,rfl,hk⟩ | ⟨D,rfl,hk⟩
 ·cases r with
  | cons r1 r2 =>
   cases r2 with
   | cons r3 r4 =>
    cases r4
    cases (show _=Value.ref e from r1)
    cases (show _=Value.type T from r3)
    exact PySem.W.kia_one (r_ c) I.ir J hk (λz=>nomatch z) λtk=>⟨.bl b,H,I.tok tk,rfl,q⟩
 ·cases r with
  | cons r1 r2 =>
   cases r2 with
   | cons r3 r4 =>
    cases r4
    cases (show _=Value.ref e from r1)
    cases (show _=Value.ref D from r3)
    exact PySem.W.kia_one (r_ c) I.ir J hk (λz=>nomatch z) λtk=>⟨.bl b,H,I.tok tk,rfl,q⟩
end
theorem uO{K:PySem.W.Frag}{h:Heap}{N:Addr}{mg:Str->Option Value}{n:Str}{v:Value}(X:K.In h)(G:h.Ns N mg)(e:PySem.W.nsIn K N n=some (some v)):mg n=some v:=by
 obtain⟨o,es,ep,ho,hd,_,hf⟩:=G
 unfold PySem.W.nsIn at e
 split at e
 ·rename_i c d es' n' sl q
  have:=X _ _ q
  rw[ho] at this
  cases this
  cases hd
  split at e
  ·rename_i en he
   cases e
   rw[← hf]
   unfold nsFind findBy
   rw[← Array.find?_toList,he]
   rfl
  ·split at e <;> cases e
 ·cases e
theorem Bc{K:PySem.W.Frag}{h:Heap}{C:Addr}{newId:String}(X:K.In h)(q:PySem.W.excIn K C eH newId=true) :
  ∃ bm N nm qn bs LQ sn sub ab col dd k0 k1 k2 k3 k5 mN,h.get? C=some (excClassObj nm qn C N bs bm LQ sn sub ab col dd k0 k1 k2 k3 k5 newId)/\h.Ns N mN/\mN "__init__" = none/\OwnTail h eH bm:=by
 unfold PySem.W.excIn at q
 split at q
 ·rename_i dd cd sl ho
  split at q
  ·rename_i C' bm k0 k1 k2 k3 n k5 hm hs
   simp only[Bool.and_eq_true,beq_iff_eq,Bool.not_eq_true'] at q
   obtain⟨⟨⟨⟨⟨rfl,rfl⟩,Mi⟩,ht⟩,a_⟩,Ma⟩:=q
   obtain⟨nm,bs,mro,ns,qn,hd,sn,sub,ab,col,del⟩:=cd
   dsimp only at hm Mi a_ Ma
   subst hm Mi
   have hsl:sl=#[k0,k1,k2,k3,some (.builtin n),k5]:=by
    obtain⟨l⟩:=sl
    simp only at hs
    rw[hs]
   subst hsl
   exact⟨bm,ns,nm,qn,bs,hd,sn,sub,ab,col,dd,k0,k1,k2,k3,k5,_,X _ _ ho,.of_isNs (PySem.W.isNs_of_in X a_),PySem.W.nsMap_none_of_in X a_ Ma,PySem.W.tail_of_in X ht⟩
  ·cases q
 ·cases q
theorem xO{K:PySem.W.Frag}{h:Heap}{C f:Addr}{newId:String}(X:K.In h)(q:oj K C newId f=true) :
  ∃ bm N nm qn bs LQ sn sub ab col dd k0 k1 k2 k3 k5 mN,h.get? C=some (excClassObj nm qn C N bs bm LQ sn sub ab col dd k0 k1 k2 k3 k5 newId)/\h.Ns N mN/\mN "__init__" = some (.ref f)/\OwnTail h eH bm:=by
 unfold oj at q
 split at q
 ·rename_i dd cd sl ho
  split at q
  ·rename_i C' bm k0 k1 k2 k3 n k5 hm hs
   simp only[Bool.and_eq_true,beq_iff_eq,Bool.not_eq_true'] at q
   obtain⟨⟨⟨⟨⟨rfl,rfl⟩,Mi⟩,ht⟩,a_⟩,Ma⟩:=q
   obtain⟨nm,bs,mro,ns,qn,hd,sn,sub,ab,col,del⟩:=cd
   dsimp only at hm Mi a_ Ma
   subst hm Mi
   have hsl:sl=#[k0,k1,k2,k3,some (.builtin n),k5]:=by
    obtain⟨l⟩:=sl
    simp only at hs
    rw[hs]
   subst hsl
   have hN:=Heap.Ns.of_isNs (PySem.W.isNs_of_in X a_)
   exact⟨bm,ns,nm,qn,bs,hd,sn,sub,ab,col,dd,k0,k1,k2,k3,k5,_,X _ _ ho,hN,uO X hN Ma,PySem.W.tail_of_in X ht⟩
  ·cases q
 ·cases q
section
variable{X:Cx}{C f:Addr}{fd:FuncData}{ps:List Str}{sp:Sp}{x:Str}{p pos:Pos}{e:Expr}{es:List Expr}{t:TA}{k:Nat}
end
end L2
namespace L2
open PySem PySem.Spec PyProof.Rows
open PySem.SeqAt (shaped noMix noMixAll)
section
variable{X:Cx}
end
end L2
namespace L2
open PySem PySem.Spec PyProof.Rows
open PySem.SeqAt (shaped noMix noMixAll)
section
variable{X:Cx}{JS:List (Addr×Obj)}{σ:St}{H:Hp}{s:Shared}
theorem Cd{x:V}{u t:Value}(I:Inv X JS σ H s)(rx:RelV x u)(ty:i5 X.K H x t):∃ HH:Heap->Prop,PySem.W.KitX X.K u t HH/\HH s.heap/\u≠.builtin "__main__.__loader__#opaque" := by
 cases ty with
 | bZ=>cases (show u=Value.none from rx);exact⟨_,PySem.W.kitx_none,True.intro,λz=>nomatch z⟩
 | bl y=>cases (show u=Value.bool y from rx);exact⟨_,PySem.W.kitx_bool,True.intro,λz=>nomatch z⟩
 | int i=>obtain⟨t,q⟩:=(show ∃ t,u=Value.int i t from rx);cases q;exact⟨_,PySem.W.kitx_int,True.intro,λz=>nomatch z⟩
 | str y=>obtain⟨t,q⟩:=(show ∃ t,u=Value.str y t from rx);cases q;exact⟨_,PySem.W.kitx_str,True.intro,λz=>nomatch z⟩
 | CH y=>obtain⟨t,q⟩:=(show ∃ t,u=Value.float y t from rx);cases q;exact⟨_,PySem.W.kitx_float,True.intro,λz=>nomatch z⟩
 | @lst a xs ea =>
  cases (show u=Value.ref a from rx)
  obtain⟨_,_,n,_,h1⟩:=(show bC X.prog X.w H s.heap a (.lst xs) from I.a_ a _ ea)
  exact⟨_,PySem.W.kitx_list,⟨_,h1,rfl⟩,λz=>nomatch z⟩
 | @pA a ob xs ea =>
  cases (show u=Value.ref a from rx)
  obtain⟨_,_,_,n,_,h1⟩:=(show bC X.prog X.w H s.heap a (.pA ob (.lst xs)) from I.a_ a _ ea)
  exact⟨_,PySem.W.kitx_list,⟨_,h1,rfl⟩,λz=>nomatch z⟩
 | @tup a xs ea =>
  cases (show u=Value.ref a from rx)
  obtain⟨_,_,_,o,h1,h2,_⟩:=(show bC X.prog X.w H s.heap a (.tup xs) from I.a_ a _ ea)
  exact⟨_,PySem.W.kitx_tuple,⟨o,h1,h2⟩,λz=>nomatch z⟩
 | @dK a KW ea =>
  cases (show u=Value.ref a from rx)
  obtain⟨_,_,vs,_,o,es,ep,h1,h2,_⟩:=(show bC X.prog X.w H s.heap a (.dK KW) from I.a_ a _ ea)
  exact⟨_,PySem.W.kitx_dict,⟨o,h1,h2.1⟩,λz=>nomatch z⟩
 | @dT a KW ea =>
  cases (show u=Value.ref a from rx)
  obtain⟨_,_,xs,_,o,es,ep,h1,h2,_⟩:=(show bC X.prog X.w H s.heap a (.dT KW) from I.a_ a _ ea)
  exact⟨_,PySem.W.kitx_dict,⟨o,h1,h2.1⟩,λz=>nomatch z⟩
 | @ins a C dx fs ea cl ha hn Ft hm =>
  cases (show u=Value.ref a from rx)
  obtain⟨mA,O,_⟩:=kS I.a_ ea
  obtain⟨od,J,_⟩:=O.look
  exact⟨_,PySem.W.kitx_own (cl.get _) cl.hd ha hn Ft hm,J,λz=>nomatch z⟩
end
section
variable{X:Cx}
def FQ(K:PySem.W.Frag):List V->Hp->VK->Prop:=λxs H Q=>∃ (x:V) (tp:Addr) (Ts:List String) (t:Value) (b:Bool),xs=[x,.ref tp]/\H tp=some (.tup (Ts.map V.ty))/\i5 K H x t/\PySem.W.kitAny K t (Ts.map Value.type)=some b/\Q (.bl b) H
theorem vh:∀ {Ts:List String} {us:List Value},Vals (Ts.map V.ty) us->us=Ts.map Value.type
 | [],us,r=>by rw[List.map_nil] at r;cases r;rfl
 | T::Ts,us,r=>by
  rw[List.map_cons] at r
  cases r with
  | cons r1 r2 =>
   cases (show _=Value.type T from r1)
   rw[vh r2]
   rfl
theorem xh:cJ X (.builtin "isinstance") (FQ X.K):=by
 intro JS s σ H xs us Q I r h
 obtain⟨x,tp,Ts,t,b,rfl,htp,ty,e,q⟩:=h
 cases r with
 | cons r1 r2 =>
  cases r2 with
  | cons r3 r4 =>
   cases r4
   cases (show _=Value.ref tp from r3)
   obtain⟨HH,Z,p,ne⟩:=Cd I r1 ty
   obtain⟨_,JU,rv,o,h1,h2,n,h3⟩:=(show bC X.prog X.w H s.heap tp (.tup (Ts.map V.ty)) from I.a_ tp _ htp)
   have ei:=vh rv
   subst ei
   obtain⟨cls,dd,data,sl⟩:=o
   dsimp only at h2 h3
   subst h2 h3
   exact PySem.W.kia_tup Z I.ir p h1 e ne λtk=>⟨.bl b,H,I.tok tk,rfl,q⟩
theorem vp:∀ {bs:List Bool} {us:List Value},Vals (bs.map V.bl) us->us=bs.map Value.bool
 | [],us,r=>by rw[List.map_nil] at r;cases r;rfl
 | b::bs,us,r=>by
  rw[List.map_cons] at r
  cases r with
  | cons r1 r2 =>
   cases (show _=Value.bool b from r1)
   rw[vp r2]
   rfl
theorem EE:bootBuiltins "all" = some (.builtin "all"):=by decide +kernel
theorem xE(hc:X.calm=true):cJ X (.builtin "all") (λxs H Q=>∃ (a:Addr) (bs:List Bool),xs=[.ref a]/\ij X.K H a (bs.map V.bl)/\Q (.bl (bs.all id)) H):=by
 intro JS s σ H xs us Q I r h
 obtain⟨a,bs,rfl,hq,q⟩:=h
 cases r with
 | cons r1 r2 =>
  cases r2
  cases (show _=Value.ref a from r1)
  obtain⟨JU,rv,p,hz⟩:=I.list hq
  have ei:=vp rv
  subst ei
  have hl:=p.isList
  have Le:a<s.heap.objs.size:=by obtain⟨_,e,_⟩:=hl;exact Heap.lt_size e
  refine call_all_walk (wpAny_pyIter_list hl ?_)
  refine⟨s.heap.objs.size,[s.heap.objs.size,a],[s.heap.objs.size],(bs.map Value.bool).toArray.size,_,_,λi=>(bs[i]?).getD true,rfl,Walks.list (A:=X.A.in1) (I.ok.hd hc) _ a (Nat.ne_of_lt Le) (bs.map Value.bool).toArray,
   ⟨⟨_,Heap.get?_push_size _ rfl,rfl,rfl⟩,hl.push _⟩,λi v s' Q' E' hP hQ=>?_,λh' tk hk=>?_⟩
  ·have hP':(bs.map Value.bool)[i]?=some v:=by simpa using hP
   rw[List.getElem?_map] at hP'
   obtain⟨b,e1,e2⟩:=Option.map_eq_some_iff.mp hP'
   subst e2
   simp only[e1,Option.getD_some] at hQ
   exact wpAny_truthy_bool hQ
  ·have e:((List.range (bs.map Value.bool).toArray.size).all λi=>(bs[i]?).getD true)=bs.all id:=by
    rw[List.size_toArray,List.length_map]
    rw[Bool.eq_iff_iff,List.all_eq_true,List.all_eq_true]
    constructor
    ·intro h b hb
     obtain⟨i,hi,e⟩:=List.getElem_of_mem hb
     have:=h i (List.mem_range.mpr hi)
     simp only[List.getElem?_eq_getElem hi,Option.getD_some,e] at this
     exact this
    ·intro h i hi
     have M5:=List.mem_range.mp hi
     simp only[List.getElem?_eq_getElem M5,Option.getD_some]
     exact h _ (List.getElem_mem M5)
   rw[e]
   refine⟨.bl _,H,I.kept (t':=tk) (λb x e=>?_),rfl,q⟩
   exact hk b x (λhm=>by rw[List.mem_singleton.mp hm] at e;exact Nat.lt_irrefl _ (Heap.lt_size e)) (Heap.get?_push_of_some _ e)
end
end L2
namespace L2
open PySem PySem.Spec PyProof.Rows
open PySem.MeetsSeq PySem.MeetsSeq2 PySem.MeetsSeq3
theorem lO:fillsNumberSlot (.type "tuple") "mul" = pure false :=
 PySem.fillsNumberSlot_seq (id := "tuple.__mul__") (r:=some (.builtin "tuple.__rmul__")) F.slot_tuple_mul.lookup (by decide +kernel) F.slot_tuple_rmul.lookup (by decide +kernel)
theorem q0:seqRepeat? (.type "tuple")=pure (some (.builtin "tuple.__mul__")):=by
 unfold seqRepeat?
 rw[PySem.seqSlot_of (T := "tuple") (name := "__mul__") (id := "tuple.__mul__") F.slot_tuple_mul.lookup (by decide +kernel),PySem.seqSlot_of (T := "tuple") (name := "__rmul__") (id := "tuple.__rmul__") F.slot_tuple_rmul.lookup (by decide +kernel)]
 rfl
theorem qX(a:Int)(t:Tok)(l:Addr)(items:Array Value)(n:Nat)(dd:Option Addr)(sl:Array (Option Value)) :
  Meets (Builtin.«int.__rmul__» ⟨[.int a t,.ref l],[]⟩) (λ_ R s=>s.heap.get? l=some ⟨.type "tuple", dd,.seq items n,sl⟩/\R (.ok (.ret Value.notImplemented)) s) :=
 .of_wp λprog w A R s h=>by obtain⟨hp,g,d,tk,os⟩:=s;obtain⟨hl,h⟩:=h;wp_walk;exact⟨_,rfl,h⟩
theorem wZ(l:Addr)(items:Array Value)(n:Nat)(dd:Option Addr)(sl:Array (Option Value))(u:Tok) :
  Meets (Builtin.«tuple.__mul__» ⟨[.ref l,.int 1 u],[]⟩) (λ_ R s=>s.heap.get? l=some ⟨.type "tuple", dd,.seq items n,sl⟩/\R (.ok (.ret (.ref l))) s) :=
 .of_wp λprog w A R s h=>by
  obtain⟨hp,g,d,tk,os⟩:=s;obtain⟨hl,h⟩:=h;have f1:=AutoSeq1.idx_int;have f2:=AutoSeq1.sub_tuple_tuple
  wp_walk using AutoSeq1.wpAny_loadPart' hl
  exact⟨_,rfl,h⟩
theorem xG(l:Addr)(items:Array Value)(n:Nat)(dd:Option Addr)(sl:Array (Option Value))(x:Int)(u:Tok)(c0:¬ (decide (x < -2^63)||decide (x>=2^63))=true)(c1:¬ (items.isEmpty||x==1)=true)(c2:¬ (decide (x<=0)||items.isEmpty)=true)
  (c3:¬ (items.size:Int)*x>(2^63-1)/8) (c4:¬ Builtin.Tuple.tupleTooMany ((items.size:Int)*x)=true) (Lq:(List.foldl (λx1 x2=>x1++x2) #[] (List.replicate x.toNat items)).size<=sizeLine) :
  Meets (Builtin.«tuple.__mul__» ⟨[.ref l,.int x u],[]⟩) (λ_ R s=>s.heap.get? l=some ⟨.type "tuple", dd,.seq items n,sl⟩/\R (.ok (.ret (.ref s.heap.objs.size))) { s with heap:=s.heap.push { cls:=.type "tuple", data:=.seq (List.foldl (λx1 x2=>x1++x2) #[] (List.replicate x.toNat items)) },toks:=s.toks }) :=
 .of_wp λprog w A R s h=>by
  obtain⟨hp,g,d,tk,os⟩:=s;obtain⟨hl,h⟩:=h;have f1:=AutoSeq1.idx_int;have f2:=AutoSeq1.sub_tuple_tuple
  wp_walk using AutoSeq1.wpAny_loadPart' hl
  refine wpAny_ite_false (decide_eq_false c0) ?_;wp_walk using AutoSeq1.wpAny_loadPart' hl
  refine wpAny_ite_false (decide_eq_false c3) ?_;wp_walk using AutoSeq1.wpAny_loadPart' hl
  exact⟨_,rfl,h⟩
theorem xg(l:Addr)(items:Array Value)(n:Nat)(dd:Option Addr)(sl:Array (Option Value))(x:Int)(u:Tok)(c0:¬ (decide (x < -2^63)||decide (x>=2^63))=true)(c1:¬ (items.isEmpty||x==1)=true)(c2:(decide (x<=0)||items.isEmpty)=true) :
  Meets (Builtin.«tuple.__mul__» ⟨[.ref l,.int x u],[]⟩) (λ_ R s=>s.heap.get? l=some ⟨.type "tuple", dd,.seq items n,sl⟩/\R (.ok (.ret (.ref s.heap.objs.size))) { s with heap:=s.heap.push { cls:=.type "tuple", data:=.seq #[] },toks:=s.toks }) :=
 .of_wp λprog w A R s h=>by
  obtain⟨hp,g,d,tk,os⟩:=s;obtain⟨hl,h⟩:=h;have f1:=AutoSeq1.idx_int;have f2:=AutoSeq1.sub_tuple_tuple
  wp_walk using AutoSeq1.wpAny_loadPart' hl
  refine wpAny_ite_false (decide_eq_false c0) ?_;wp_walk using AutoSeq1.wpAny_loadPart' hl
  exact⟨_,rfl,h⟩
section
variable{X:Cx}
def CB(K:PySem.W.Frag):R2:=λx y H Q=>∃ a k xs,x=.ref a/\y=.int k/\fQ K H a xs/\xs≠[]/\-(2^63)<=k/\k<2^63/\xs.length*k.toNat<=sizeLine/\(k=1->Q (.ref a) H)/\(k≠1->∀ p,H p=none->Q (.ref p) (upd H p (.tup (List.replicate k.toNat xs).flatten)))
theorem BE:gp X (binaryOp .Mult) (CB X.K):=by
 intro JS s σ H x y v u Q I rx ry h
 obtain⟨a,k,xs,rfl,rfl,hq,Mc,h1,h2,hz,q1,q2⟩:=h
 cases rx
 obtain⟨t,rfl⟩:=ry
 obtain⟨JU,r,⟨o,e,hc,n,hd⟩,_⟩:=I.tuple hq
 obtain⟨cls,dd,data,sl⟩:=o
 dsimp only at hc hd
 subst hc hd
 have hl:=r.length
 refine wpAny_binaryOp_repeat_ref (T := "tuple") (U := "int") (by decide) ⟨_,e,rfl⟩ (λs'=>typeIs_int s' k t) lO F.fills_int_mul F.slot_int_rmul q0 F.slot_int_index.lookup
  (call_meets F.slot_int_rmul (typeIs_int s k t) F.entry_int_rmul (F.args_int_rmul_2 _ _) (qX k t a JU.toArray n dd sl) ⟨e,rfl,⟨_,e,rfl⟩,?_⟩)
 by_cases hk1:k=1
 ·subst hk1
  exact call_meets F.slot_tuple_mul ⟨_,e,rfl⟩ F.entry_tuple_mul (F.args_tuple_mul_2 _ _) (wZ a JU.toArray n dd sl t) ⟨e,⟨.ref a,H,I,rfl,q1 rfl⟩⟩
 ·have hb1:(k==1)=false:=by simpa using hk1
  have Ma:JU≠[]:=λz=>Mc (r.kO.mp z)
  have hie:JU.toArray.isEmpty=false:=by cases JU with | nil=>exact absurd rfl Ma | cons _ _=>rfl
  have c0:¬ (decide (k < -2^63)||decide (k>=2^63))=true:=by simp;omega
  have c1:¬ (JU.toArray.isEmpty||k==1)=true:=by rw[hie,hb1];simp
  have fin:∀ ys,ys=(List.replicate k.toNat JU).flatten.toArray->EP X JS σ Q (.ref s.heap.objs.size) { s with heap:=s.heap.push { cls:=.type "tuple", data:=.seq ys },toks:=s.toks }:=λys ey=>by
   subst ey
   refine⟨.ref s.heap.objs.size,_,I.laid (t':=s.toks) (o:=.tup (List.replicate k.toNat xs).flatten) (λb ob q=>Heap.get?_push_of_some _ q) (Nat.le_refl _) ?_,rfl,q2 hk1 _ (I.a_.fresh (Nat.le_refl _))⟩
   exact⟨by rw[len_rep,Nat.mul_comm];exact hz,_,r.rep k.toNat,IsTup.new _ _⟩
  have Lk:List.foldl (λx1 x2=>x1++x2) #[] (List.replicate k.toNat JU.toArray)=(List.replicate k.toNat JU).flatten.toArray:=by
   have:=foldl_rep JU k.toNat []
   rw[List.nil_append] at this
   exact this
  by_cases hk0:k<=0
  ·have c2:(decide (k<=0)||JU.toArray.isEmpty)=true:=by rw[decide_eq_true hk0];rfl
   refine call_meets F.slot_tuple_mul ⟨_,e,rfl⟩ F.entry_tuple_mul (F.args_tuple_mul_2 _ _) (xg a JU.toArray n dd sl k t c0 c1 c2) ⟨e,fin _ ?_⟩
   rw[show k.toNat=0 by omega]
   rfl
  ·have c2:¬ (decide (k<=0)||JU.toArray.isEmpty)=true:=by rw[decide_eq_false hk0,hie];simp
   have em:((JU.toArray.size:Nat):Int)*k=((xs.length*k.toNat:Nat):Int):=by
    rw[List.size_toArray,← hl,Int.natCast_mul,Int.toNat_of_nonneg (by omega)]
   have hs:(sizeLine:Int)<=(2^63-1)/8:=by decide
   refine call_meets F.slot_tuple_mul ⟨_,e,rfl⟩ F.entry_tuple_mul (F.args_tuple_mul_2 _ _) (xG a JU.toArray n dd sl k t c0 c1 c2 ?_ ?_ ?_) ⟨e,fin _ Lk⟩
   ·rw[em];omega
   ·rw[em]
    unfold Builtin.Tuple.tupleTooMany
    simp only[decide_eq_true_eq]
    omega
   ·rw[Lk,List.size_toArray,len_rep,Nat.mul_comm,← hl]
    exact hz
end
end L2
namespace L2
open PySem PySem.Spec PyProof.Rows
structure aQ (K:PySem.W.Frag) (x qual:Str) (st:Stmt) (dv:Value) (f:Addr) (fd:FuncData):Prop where
 ex:∃ (oc:Value) (od:Option Addr) (kV doc pm:Value) (an:Option Addr) (Ka ct:Value) (L9:Array (Option Value)),
  fd=PySem.W.fnOf x qual (gT st) (eX st) (aq st) dv kV doc pm an Ka ct/\K.lookup f=some ⟨oc,od,.func fd,L9⟩/\PySem.W.codeIn K Ka qual=true
 kp:PySem.W.keepIn K (.ref f)=true
section
variable{P:Program}{w:World}{K:PySem.W.Frag}{mg:Str->Option Value}{base:Heap}
theorem aQ.binds{x qual:Str}{st:Stmt}{T:Addr}{o:Obj}{items:Array Value}{n:Nat}{f:Addr}{fd:FuncData}{ps:List Str}{ds:List Value}(F:aQ K x qual st (.ref T) f fd)(ho:K.lookup T=some o)(hs:o.data=.seq items n)
  (h:∀ (kV doc pm:Value) (an:Option Addr) (Ka ct:Value) (us:List Value),(us++ds).length=ps.length->∃ k,bindArgs (PySem.W.fnOf x qual (gT st) (eX st) (aq st) (.ref T) kV doc pm an Ka ct) ⟨us,[]⟩=seqItems? (.ref T) >>= k/\k (some items)=pure (ps.zip (us++ds))):Binds K fd ps ds:=by
 obtain⟨oc,od,kV,doc,pm,an,Ka,ct,L9,rfl,lk,Lh⟩:=F.ex
 intro s us X hl
 obtain⟨k,h1,h2⟩:=h kV doc pm an Ka ct us hl
 exact BindsTo.of_defaults rfl (X _ _ ho) hs h1 h2
end
theorem Gr{X:Cx}{x:Str}{v:V}{pos:Pos}(hg:Gl X x)(hm:∃ u,X.mg x=some u/\RelV v u)(hd:(x==("__debug__" : Str))=false:=by decide):PE X (.Name x pos) (tC v):=by
 obtain⟨u,h1,h2⟩:=hm
 exact vg hg h1 h2 hd
theorem C9:bootBuiltins "max" = some (.builtin "max"):=by decide +kernel
end L2
namespace L2
open PySem PySem.Spec PyProof.Rows
theorem Cc{X:Cx}{tg elt iter:Expr}{scope:Scope}{cl:List (Str×Addr)}{pos Mz py:Pos}{i:Nat}{y:Str}{wi:TI}{g:TG}{te:TE}{ts fs:List Str}{js:List Nat}(hN:X.N.Nodup)(hiy:X.N[i]?=some y)(hy:Loc X.env.scope y)(J4:X.calm=true)
  (Ky:closureFor scope X.env=pure cl) (hk:scope.kind=.function) (nc:ic scope.names=true) (lo:jG scope.names=true) (fh:jA cl scope.names=true) (ag:fE X cl) (fr:jt X scope cl fs js)
  (hi:PI X tg iter wi) (hg:∀ C s₀ H₀ ex JS,PG (tX X scope cl (ts++fs) C s₀ H₀ ex JS) tg g) (he:∀ C s₀ H₀ ex JS,PE (tX X scope cl (ts++fs) C s₀ H₀ ex JS) elt te)
  (hs:∀ x,foldedSetIterable iter X.env x=pure x:=by intro _;rfl) (Nv:swapsWith (.ListComp elt [⟨tg,iter,[],0⟩] scope pos) (some (.Name y py)) Mz.line X.env=pure true:=by rfl)
  (hf:X.fn y=true\/X.env.scope.names.lookup y=some .local:=by first | exact .inl rfl | exact .inr rfl | assumption) :
  PS X (.Assign [.Name y py] (.ListComp elt [⟨tg,iter,[],0⟩] scope pos) Mz) (Gv (uZ wi g te ts js) (aI i)):=by
 intro JS s σ H D I h
 rw[exec_Assign_Name_used _ _ _ _ Nv]
 refine wpAny_bind (wpAny_standAt (wpAny_bind ?_))
 show wpAny _ X.A (do let _ ← comprehension (.ListComp elt [⟨tg,iter,[],0⟩] scope pos) scope X.env _ (newList []) false (eval iter X.env) (some (assign (.Name y py) X.env))) _ _ s
 refine wpAny_bind (wpAny_mono (tR (tt:=none) J4 Ky hk nc lo fh ag fr hi hg (λ_ _ _ _ _=>trivial) he hs I (show ym wi g none te ts js σ H (λx H1=>D.nx (σ.set i (some x)) H1) from h) (some (assign (.Name y py) X.env)) (λ_ s'=>SP X JS D .next s') λDd H' s' C Io q hm f=>?_) (λ_ s' hq=>wpAny_pure (wpAny_pure hq)) λ_ _ e=>e)
 show wpAny _ X.A (assign (.Name y py) X.env (.ref Dd)) _ _ s'
 refine wpAny_assign_Name (qh Io hN hiy hy (v:=.ref Dd) rfl (λs'' I'' ⟨a,sb,ha⟩=>?_) hf)
 obtain⟨m,hn⟩:=hm
 obtain⟨f0,f1,f2,f3,f4,f5⟩:=f
 have naC:a≠C:=by
  rcases ha with z | z
  ·rw[z];exact λw=>f1 w.symm
  ·exact f4 y a z
 refine⟨m,hn.sameBut sb (Ne.symm naC),λh' M6=>?_⟩
 exact⟨_,H',I''.other ⟨f0,f1,f2,f3,f4,f5⟩ M6,q⟩
end L2
namespace L2
open PySem PySem.Spec PyProof.Rows
end L2
namespace L2
open PySem PySem.Spec PyProof.Rows
theorem oJ(a b c:Value):checkTypeCall "zip" ⟨[a,b,c],[]⟩=pure ():=by kernel_rfl
theorem pK(a b c:Value):checkBuiltinCall "zip.__new__" ⟨[.type "zip", a,b,c],[]⟩=pure ():=by kernel_rfl
abbrev bq(h:Heap)(T:Addr)(a b c:Value):Prop:=h.get? T=some { cls:=.type "tuple", data:=.seq #[a,b,c] }
structure Z3 (z TI TO i1 i2 i3:Addr):Prop where
 TIz:TI≠z
 TOz:TO≠z
 i1z:i1≠z
 i2z:i2≠z
 Fj:i3≠z
 TITO:TI≠TO
 TIi1:TI≠i1
 TIi2:TI≠i2
 Hi:TI≠i3
 TOi1:TO≠i1
 TOi2:TO≠i2
 Bi:TO≠i3
 i12:i1≠i2
 G9:i1≠i3
 HN:i2≠i3
structure L3 (z TO i1 i2 i3 l:Addr):Prop where
 z:l≠z
 o:l≠TO
 i1:l≠i1
 i2:l≠i2
 i3:l≠i3
section
variable{prog:Program}{w:World}{A:Around}{E:Value->Shared->Prop}{s:Shared}
theorem cR{T:Addr}{a b c x:Value}{k:Nat}{Q:Unit->Shared->Prop}(hT:bq s.heap T a b c)
  (h:∀ h',h'.get? T=some { cls:=.type "tuple", data:=.seq ((#[a,b,c]:Array Value).setIfInBounds k x) }->Heap.SameBut T s.heap h'->Q () { s with heap:=h' }) :
  wpAny (model prog w) A (updateSeq T (·.setIfInBounds k x)) Q E s:=by
 refine wpAny_updateSeq hT rfl (h _ ?_ (Heap.SameBut.update ..))
 rw[Heap.get?_update_self _ hT rfl]
 simp[Obj.mapSeq]
variable{b1 b2 b3:Bool}{z TI TO i1 i2 i3 l1 l2 l3:Addr}{k1 k2 k3:Nat}{xs ys zs:Array Value}{x y v a b c:Value}
theorem v9{Q:Value->Shared->Prop}(D:Z3 z TI TO i1 i2 i3)(D1:L3 z TO i1 i2 i3 l1)(D2:L3 z TO i1 i2 i3 l2)(D3:L3 z TO i1 i2 i3 l3)
  (hz:IsZip s.heap z TI TO .none) (Kt:bq s.heap TI (.ref i1) (.ref i2) (.ref i3)) (Kx:bq s.heap TO a b c)
  (h1:dI s.heap b1 i1 l1 k1) (h2:dI s.heap b2 i2 l2 k2) (h3:dI s.heap b3 i3 l3 k3) (Li:fv s.heap b1 l1 xs) (Lj:fv s.heap b2 l2 ys) (Mm:fv s.heap b3 l3 zs) (hx:xs[k1]?=some x) (hy:ys[k2]?=some y) (hv:zs[k3]?=some v)
  (hQ:∀ h',IsZip h' z TI TO (rawInt s.heap.objs.size)->bq h' TO x y v->dI h' b1 i1 l1 (k1+1)->dI h' b2 i2 l2 (k2+1)->dI h' b3 i3 l3 (k3+1)->bq h' s.heap.objs.size x y v->h'.objs.size=s.heap.objs.size+1 ->
   (∀ c o,c≠z->c≠TO->c≠i1->c≠i2->c≠i3->s.heap.get? c=some o->h'.get? c=some o)->Q (.ref s.heap.objs.size) { s with heap:=h' }) :
  wpAny (model prog w) A (Builtin.«zip.__next__» ⟨[.ref z],[]⟩) (λfin s'=>∃ v,fin=.done (.ret v)/\Q v s') E s:=by
 show wpAny _ _ (field (.ref z) 2 >>= _) _ _ _
 refine wpAny_bind (wpAny_field hz rfl (x:=.bool false) rfl ?_)
 show wpAny _ _ (field (.ref z) 3 >>= _) _ _ _
 refine wpAny_bind (wpAny_field hz rfl (x:=.ref TI) rfl ?_)
 refine wpAny_bind (wpAny_seqItems Kt rfl ?_)
 show wpAny _ _ (Builtin.SmallTypes.ownedTupleIsFree (.ref z) >>= _) _ _ _
 refine wpAny_bind ?_
 unfold Builtin.SmallTypes.ownedTupleIsFree
 refine wpAny_bind (wpAny_field hz rfl (x:=.none) rfl (wpAny_pure ?_))
 simp only[if_true]
 refine wpAny_bind (wpAny_rule ?_)
 refine wpAny_bind (wpAny_field hz rfl (x:=.ref TO) rfl ?_)
 refine wpAny_bind (wpAny_setField_rec hz (by simp) λh₁ hz1 hs1=>?_)
 replace hz1:IsZip h₁ z TI TO .ellipsis:=hz1
 refine wpAny_bind ?_
 simp only[List.zipIdx_cons,List.zipIdx_nil,List.forIn_cons,List.forIn_nil]
 refine wpAny_bind (wpAny_bind (wpAny_onRaise ?_))
 show wpAny _ _ (Builtin.SmallTypes.nextOf (.ref i1) >>= _) _ _ _
 refine wpAny_bind (cu (h1.at λo e=>hs1.extBut _ _ D.i1z e) (Li.at λo e=>hs1.extBut _ _ D1.z e) hx λh₂ h1₂ hs2=>wpAny_pure ?_)
 have hTO2:bq h₂ TO a b c:=hs2.extBut _ _ D.TOi1 (hs1.extBut _ _ D.TOz Kx)
 refine wpAny_bind (wpAny_seqItems hTO2 rfl ?_)
 refine wpAny_bind (cR hTO2 λh₃ hTO3 hs3=>?_)
 replace hTO3:bq h₃ TO x b c:=hTO3
 refine wpAny_bind (wpAny_letGo (wpAny_pure ?_))
 have MA:∀ q o,q≠z->q≠TO->q≠i1->s.heap.get? q=some o->h₃.get? q=some o:=λq o c1 c2 c3 e=>hs3.extBut _ _ c2 (hs2.extBut _ _ c3 (hs1.extBut _ _ c1 e))
 refine wpAny_bind (wpAny_bind (wpAny_onRaise ?_))
 show wpAny _ _ (Builtin.SmallTypes.nextOf (.ref i2) >>= _) _ _ _
 refine wpAny_bind (cu (h2.at λo e=>MA _ o D.i2z D.TOi2.symm D.i12.symm e) (Lj.at λo e=>MA _ o D2.z D2.o D2.i1 e) hy λh₄ h2₄ hs4=>wpAny_pure ?_)
 have hTO4:bq h₄ TO x b c:=hs4.extBut _ _ D.TOi2 hTO3
 refine wpAny_bind (wpAny_seqItems hTO4 rfl ?_)
 refine wpAny_bind (cR hTO4 λh₅ hTO5 hs5=>?_)
 replace hTO5:bq h₅ TO x y c:=hTO5
 refine wpAny_bind (wpAny_letGo (wpAny_pure ?_))
 have k5:∀ q o,q≠z->q≠TO->q≠i1->q≠i2->s.heap.get? q=some o->h₅.get? q=some o:=λq o c1 c2 c3 c4 e=>hs5.extBut _ _ c2 (hs4.extBut _ _ c4 (MA q o c1 c2 c3 e))
 refine wpAny_bind (wpAny_bind (wpAny_onRaise ?_))
 show wpAny _ _ (Builtin.SmallTypes.nextOf (.ref i3) >>= _) _ _ _
 refine wpAny_bind (cu (h3.at λo e=>k5 _ o D.Fj D.Bi.symm D.G9.symm D.HN.symm e) (Mm.at λo e=>k5 _ o D3.z D3.o D3.i1 D3.i2 e) hv λh₆ h3₆ hs6=>wpAny_pure ?_)
 have hTO6:bq h₆ TO x y c:=hs6.extBut _ _ D.Bi hTO5
 refine wpAny_bind (wpAny_seqItems hTO6 rfl ?_)
 refine wpAny_bind (cR hTO6 λh₇ hTO7 hs7=>?_)
 replace hTO7:bq h₇ TO x y v:=hTO7
 refine wpAny_bind (wpAny_letGo (wpAny_pure (wpAny_pure ?_)))
 refine wpAny_bind (wpAny_seqItems hTO7 rfl ?_)
 refine wpAny_bind (wpAny_newTuple ?_)
 have Lq:h₇.objs.size=s.heap.objs.size:=by rw[hs7.1,hs6.1,hs5.1,hs4.1,hs3.1,hs2.1,hs1.1]
 have hz₃:IsZip h₃ z TI TO .ellipsis:=hs3.extBut _ _ D.TOz.symm (hs2.extBut _ _ D.i1z.symm hz1)
 have hz5:IsZip h₅ z TI TO .ellipsis:=hs5.extBut _ _ D.TOz.symm (hs4.extBut _ _ D.i2z.symm hz₃)
 have hz7:IsZip h₇ z TI TO .ellipsis:=hs7.extBut _ _ D.TOz.symm (hs6.extBut _ _ D.Fj.symm hz5)
 have k7:∀ q o,q≠z->q≠TO->q≠i1->q≠i2->q≠i3->s.heap.get? q=some o->h₇.get? q=some o:=λq o c1 c2 c3 c4 c5 e=>hs7.extBut _ _ c2 (hs6.extBut _ _ c5 (k5 q o c1 c2 c3 c4 e))
 have h1₇:dI h₇ b1 i1 l1 (k1+1):=h1₂.at λo e=>hs7.extBut _ _ D.TOi1.symm (hs6.extBut _ _ D.G9 (hs5.extBut _ _ D.TOi1.symm (hs4.extBut _ _ D.i12 (hs3.extBut _ _ D.TOi1.symm e))))
 have h2₇:dI h₇ b2 i2 l2 (k2+1):=h2₄.at λo e=>hs7.extBut _ _ D.TOi2.symm (hs6.extBut _ _ D.HN (hs5.extBut _ _ D.TOi2.symm e))
 have h3₇:dI h₇ b3 i3 l3 (k3+1):=h3₆.at λo e=>hs7.extBut _ _ D.Bi.symm e
 have Mr:z<h₇.objs.size:=Heap.lt_size hz7
 show wpAny _ _ (Builtin.SmallTypes.ownedTupleHandOut (.ref z) (.ref h₇.objs.size) >>= _) _ _ _
 refine wpAny_bind ?_
 unfold Builtin.SmallTypes.ownedTupleHandOut
 have hz₈:IsZip (h₇.push { cls:=.type "tuple", data:=.seq #[x,y,v] }) z TI TO .ellipsis:=Heap.get?_push_of_some _ hz7
 refine wpAny_bind (wpAny_setField_rec hz₈ (by simp) λh₉ hz9 hs9=>?_)
 replace hz9:IsZip h₉ z TI TO (rawInt h₇.objs.size):=hz9
 refine wpAny_setField_rec hz9 (by simp) λhA hzA hsA=>?_
 replace hzA:IsZip hA z TI TO (rawInt h₇.objs.size):=hzA
 have up:∀ c o,c≠z->h₇.get? c=some o->hA.get? c=some o:=λc o c1 e=>hsA.extBut _ _ c1 (hs9.extBut _ _ c1 (Heap.get?_push_of_some _ e))
 have hTA:bq hA h₇.objs.size x y v:=hsA.extBut _ _ (Nat.ne_of_gt Mr) (hs9.extBut _ _ (Nat.ne_of_gt Mr) (Heap.get?_push_size _ rfl))
 have Ny:hA.objs.size=h₇.objs.size+1:=by rw[hsA.1,hs9.1,Heap.size_push]
 rw[Lq] at hzA hTA Ny
 refine wpAny_pure ⟨_,rfl,?_⟩
 show Q (.ref h₇.objs.size) _
 rw[Lq]
 exact hQ hA hzA (up _ _ D.TOz hTO7) (h1₇.at λo e=>up _ o D.i1z e) (h2₇.at λo e=>up _ o D.i2z e) (h3₇.at λo e=>up _ o D.Fj e) hTA Ny λc o c1 c2 c3 c4 c5 e=>up c o c1 (k7 c o c1 c2 c3 c4 c5 e)
theorem xX{Q:Fin->Shared->Prop}(hh:A.handled=none)(D:Z3 z TI TO i1 i2 i3)(D1:L3 z TO i1 i2 i3 l1)(D2:L3 z TO i1 i2 i3 l2)(D3:L3 z TO i1 i2 i3 l3)
  (hz:IsZip s.heap z TI TO .none) (Kt:bq s.heap TI (.ref i1) (.ref i2) (.ref i3)) (Kx:bq s.heap TO a b c)
  (h1:dI s.heap b1 i1 l1 k1) (h2:dI s.heap b2 i2 l2 k2) (h3:dI s.heap b3 i3 l3 k3) (Li:fv s.heap b1 l1 xs) (Lj:fv s.heap b2 l2 ys) (Mm:fv s.heap b3 l3 zs) (Lp:xs[k1]?=none\/ys[k2]?=none\/zs[k3]?=none)
  (hE:∀ h' e,(∀ c o,c≠z->c≠TO->c≠i1->c≠i2->c≠i3->s.heap.get? c=some o->h'.get? c=some o)->(∃ o,h'.get? e=some o/\o.cls=.type "StopIteration")->E (.ref e) { s with heap:=h' }) :
  wpAny (model prog w) A (Builtin.«zip.__next__» ⟨[.ref z],[]⟩) Q E s:=by
 show wpAny _ _ (field (.ref z) 2 >>= _) _ _ _
 refine wpAny_bind (wpAny_field hz rfl (x:=.bool false) rfl ?_)
 show wpAny _ _ (field (.ref z) 3 >>= _) _ _ _
 refine wpAny_bind (wpAny_field hz rfl (x:=.ref TI) rfl ?_)
 refine wpAny_bind (wpAny_seqItems Kt rfl ?_)
 show wpAny _ _ (Builtin.SmallTypes.ownedTupleIsFree (.ref z) >>= _) _ _ _
 refine wpAny_bind ?_
 unfold Builtin.SmallTypes.ownedTupleIsFree
 refine wpAny_bind (wpAny_field hz rfl (x:=.none) rfl (wpAny_pure ?_))
 simp only[if_true]
 refine wpAny_bind (wpAny_rule ?_)
 refine wpAny_bind (wpAny_field hz rfl (x:=.ref TO) rfl ?_)
 refine wpAny_bind (wpAny_setField_rec hz (by simp) λh₁ hz1 hs1=>?_)
 replace hz1:IsZip h₁ z TI TO .ellipsis:=hz1
 refine wpAny_bind ?_
 simp only[List.zipIdx_cons,List.zipIdx_nil,List.forIn_cons,List.forIn_nil]
 refine wpAny_bind (wpAny_bind (wpAny_onRaise ?_))
 show wpAny _ _ (Builtin.SmallTypes.nextOf (.ref i1) >>= _) _ _ _
 cases hx:xs[k1]? with
 | none =>
  refine wpAny_bind (gA hh (h1.at λo e=>hs1.extBut _ _ D.i1z e) (Li.at λo e=>hs1.extBut _ _ D1.z e) hx λh₂ e hs2 he=>?_)
  obtain⟨oe,Ll,LZ⟩:=he
  have hz2:IsZip h₂ z TI TO .ellipsis:=hs2 _ _ D.i1z.symm hz1
  have ME:e≠z:=λx=>by subst x;rw[hz2] at Ll;cases Ll;simp at LZ
  refine wpAny_setField_rec hz2 (by simp) λh₃ _ hs3=>hE h₃ e (λc o c1 _ c3 _ _ x=>hs3.extBut _ _ c1 (hs2 _ _ c3 (hs1.extBut _ _ c1 x))) ⟨oe,hs3.extBut _ _ ME Ll,LZ⟩
 | some x =>
  refine wpAny_bind (cu (h1.at λo e=>hs1.extBut _ _ D.i1z e) (Li.at λo e=>hs1.extBut _ _ D1.z e) hx λh₂ h1₂ hs2=>wpAny_pure ?_)
  have hTO2:bq h₂ TO a b c:=hs2.extBut _ _ D.TOi1 (hs1.extBut _ _ D.TOz Kx)
  refine wpAny_bind (wpAny_seqItems hTO2 rfl ?_)
  refine wpAny_bind (cR hTO2 λh₃ hTO3 hs3=>?_)
  replace hTO3:bq h₃ TO x b c:=hTO3
  refine wpAny_bind (wpAny_letGo (wpAny_pure ?_))
  have MA:∀ q o,q≠z->q≠TO->q≠i1->s.heap.get? q=some o->h₃.get? q=some o:=λq o c1 c2 c3 e=>hs3.extBut _ _ c2 (hs2.extBut _ _ c3 (hs1.extBut _ _ c1 e))
  have hz₃:IsZip h₃ z TI TO .ellipsis:=hs3.extBut _ _ D.TOz.symm (hs2.extBut _ _ D.i1z.symm hz1)
  refine wpAny_bind (wpAny_bind (wpAny_onRaise ?_))
  show wpAny _ _ (Builtin.SmallTypes.nextOf (.ref i2) >>= _) _ _ _
  cases hy:ys[k2]? with
  | none =>
   refine wpAny_bind (gA hh (h2.at λo e=>MA _ o D.i2z D.TOi2.symm D.i12.symm e) (Lj.at λo e=>MA _ o D2.z D2.o D2.i1 e) hy λh₄ e hs4 he=>?_)
   obtain⟨oe,Ll,LZ⟩:=he
   have hz4:IsZip h₄ z TI TO .ellipsis:=hs4 _ _ D.i2z.symm hz₃
   have ME:e≠z:=λx=>by subst x;rw[hz4] at Ll;cases Ll;simp at LZ
   refine wpAny_setField_rec hz4 (by simp) λh₅ _ hs5=>hE h₅ e (λc o c1 c2 c3 c4 _ x=>hs5.extBut _ _ c1 (hs4 _ _ c4 (MA c o c1 c2 c3 x))) ⟨oe,hs5.extBut _ _ ME Ll,LZ⟩
  | some y =>
   have hv:zs[k3]?=none:=by
    rcases Lp with h | h | h
    ·rw[hx] at h;cases h
    ·rw[hy] at h;cases h
    ·exact h
   refine wpAny_bind (cu (h2.at λo e=>MA _ o D.i2z D.TOi2.symm D.i12.symm e) (Lj.at λo e=>MA _ o D2.z D2.o D2.i1 e) hy λh₄ h2₄ hs4=>wpAny_pure ?_)
   have hTO4:bq h₄ TO x b c:=hs4.extBut _ _ D.TOi2 hTO3
   refine wpAny_bind (wpAny_seqItems hTO4 rfl ?_)
   refine wpAny_bind (cR hTO4 λh₅ hTO5 hs5=>?_)
   refine wpAny_bind (wpAny_letGo (wpAny_pure ?_))
   have k5:∀ q o,q≠z->q≠TO->q≠i1->q≠i2->s.heap.get? q=some o->h₅.get? q=some o:=λq o c1 c2 c3 c4 e=>hs5.extBut _ _ c2 (hs4.extBut _ _ c4 (MA q o c1 c2 c3 e))
   have hz5:IsZip h₅ z TI TO .ellipsis:=hs5.extBut _ _ D.TOz.symm (hs4.extBut _ _ D.i2z.symm hz₃)
   refine wpAny_bind (wpAny_bind (wpAny_onRaise ?_))
   show wpAny _ _ (Builtin.SmallTypes.nextOf (.ref i3) >>= _) _ _ _
   refine wpAny_bind (gA hh (h3.at λo e=>k5 _ o D.Fj D.Bi.symm D.G9.symm D.HN.symm e) (Mm.at λo e=>k5 _ o D3.z D3.o D3.i1 D3.i2 e) hv λh₆ e hs6 he=>?_)
   obtain⟨oe,Ll,LZ⟩:=he
   have hz6:IsZip h₆ z TI TO .ellipsis:=hs6 _ _ D.Fj.symm hz5
   have ME:e≠z:=λx=>by subst x;rw[hz6] at Ll;cases Ll;simp at LZ
   refine wpAny_setField_rec hz6 (by simp) λh₇ _ hs7=>hE h₇ e (λc o c1 c2 c3 c4 c5 x=>hs7.extBut _ _ c1 (hs6 _ _ c5 (k5 c o c1 c2 c3 c4 x))) ⟨oe,hs7.extBut _ _ ME Ll,LZ⟩
end
end L2
namespace L2
open PySem PySem.Spec PyProof.Rows
section
variable{prog:Program}{w:World}{A:Around}{E:Value->Shared->Prop}{s:Shared}
variable{b1 b2 b3:Bool}{z TI TO i1 i2 i3 l1 l2 l3:Addr}{k1 k2 k3:Nat}{xs ys zs:Array Value}{x y v a b c:Value}
theorem lx{Q:Option Value->Shared->Prop}(D:Z3 z TI TO i1 i2 i3)(D1:L3 z TO i1 i2 i3 l1)(D2:L3 z TO i1 i2 i3 l2)(D3:L3 z TO i1 i2 i3 l3)
  (hz:IsZip s.heap z TI TO .none) (Kt:bq s.heap TI (.ref i1) (.ref i2) (.ref i3)) (Kx:bq s.heap TO a b c)
  (h1:dI s.heap b1 i1 l1 k1) (h2:dI s.heap b2 i2 l2 k2) (h3:dI s.heap b3 i3 l3 k3) (Li:fv s.heap b1 l1 xs) (Lj:fv s.heap b2 l2 ys) (Mm:fv s.heap b3 l3 zs) (hx:xs[k1]?=some x) (hy:ys[k2]?=some y) (hv:zs[k3]?=some v)
  (hQ:∀ h',IsZip h' z TI TO (rawInt s.heap.objs.size)->bq h' TO x y v->dI h' b1 i1 l1 (k1+1)->dI h' b2 i2 l2 (k2+1)->dI h' b3 i3 l3 (k3+1)->bq h' s.heap.objs.size x y v->h'.objs.size=s.heap.objs.size+1 ->
   (∀ c o,c≠z->c≠TO->c≠i1->c≠i2->c≠i3->s.heap.get? c=some o->h'.get? c=some o)->Q (some (.ref s.heap.objs.size)) { s with heap:=h' }) :
  wpAny (model prog w) A (pyNext (.ref z)) Q E s:=by
 have hT:s.TypeIs (.ref z) "zip" := ⟨_,hz,rfl⟩
 unfold pyNext
 exact wpAny_bind (wpAny_attempt (wpAny_callSpecial?_slot (name:=Str.ofString "__next__") hT F.slot_zip_next
  (wpAny_call_entry F.slot_zip_next hT F.entry_zip_next
   (v9 D D1 D2 D3 hz Kt Kx h1 h2 h3 Li Lj Mm hx hy hv λh' a1 a2 a3 a4 a5 a6 a7 a8=>wpAny_pure (hQ h' a1 a2 a3 a4 a5 a6 a7 a8)) (F.args_zip_next_1 _))))
theorem mx{Q:Option Value->Shared->Prop}(hh:A.handled=none)(D:Z3 z TI TO i1 i2 i3)(D1:L3 z TO i1 i2 i3 l1)(D2:L3 z TO i1 i2 i3 l2)(D3:L3 z TO i1 i2 i3 l3)
  (hz:IsZip s.heap z TI TO .none) (Kt:bq s.heap TI (.ref i1) (.ref i2) (.ref i3)) (Kx:bq s.heap TO a b c)
  (h1:dI s.heap b1 i1 l1 k1) (h2:dI s.heap b2 i2 l2 k2) (h3:dI s.heap b3 i3 l3 k3) (Li:fv s.heap b1 l1 xs) (Lj:fv s.heap b2 l2 ys) (Mm:fv s.heap b3 l3 zs) (Lp:xs[k1]?=none\/ys[k2]?=none\/zs[k3]?=none)
  (hQ:∀ h',(∀ c o,c≠z->c≠TO->c≠i1->c≠i2->c≠i3->s.heap.get? c=some o->h'.get? c=some o)->Q none { s with heap:=h' }):wpAny (model prog w) A (pyNext (.ref z)) Q E s:=by
 have hT:s.TypeIs (.ref z) "zip" := ⟨_,hz,rfl⟩
 unfold pyNext
 refine wpAny_bind (wpAny_attempt (wpAny_callSpecial?_slot (name:=Str.ofString "__next__") hT F.slot_zip_next
  (wpAny_call_entry F.slot_zip_next hT F.entry_zip_next (xX hh D D1 D2 D3 hz Kt Kx h1 h2 h3 Li Lj Mm Lp λh' e hk he=>?_) (F.args_zip_next_1 _))))
 obtain⟨o,ho,hc⟩:=he
 refine wpAny_bind (wpAny_isInstance (T := "StopIteration") (b:=true) ⟨o,ho,hc⟩ isSubtype_stop ?_)
 exact wpAny_pure (hQ _ hk)
end
abbrev GY(h:Heap)(b1 b2 b3:Bool)(l1 l2 l3:Addr):Heap:=(CJ h b1 b2 l1 l2).push (B3 b3 l3)
abbrev GW(h:Heap)(b1 b2 b3:Bool)(l1 l2 l3:Addr):Heap:=(GY h b1 b2 b3 l1 l2 l3).push { cls:=.type "tuple", data:=.seq #[.ref h.objs.size,.ref (Dh h b1 l1).objs.size,.ref (CJ h b1 b2 l1 l2).objs.size] }
abbrev GU(h:Heap)(b1 b2 b3:Bool)(l1 l2 l3:Addr):Heap:=(GW h b1 b2 b3 l1 l2 l3).push { cls:=.type "tuple", data:=.seq #[.none,.none,.none] }
abbrev Es(h:Heap)(b1 b2 b3:Bool)(l1 l2 l3:Addr):Heap:=(GU h b1 b2 b3 l1 l2 l3).push { cls:=.type "zip", data:=.fields #[.none,.bool false,.bool false,.ref (GY h b1 b2 b3 l1 l2 l3).objs.size,.ref (GW h b1 b2 b3 l1 l2 l3).objs.size] }
theorem o5(b1 b2 b3:Bool)(l1 l2 l3:Addr)(xs ys zs:Array Value) :
  Meets (Builtin.«zip.__new__» ⟨[.type "zip", .ref l1,.ref l2,.ref l3],[]⟩) (λ_ R s=>fv s.heap b1 l1 xs/\fv s.heap b2 l2 ys/\fv s.heap b3 l3 zs ∧
   R (.ok (.ret (.ref (GU s.heap b1 b2 b3 l1 l2 l3).objs.size))) { s with heap:=Es s.heap b1 b2 b3 l1 l2 l3 }) :=
 .of_wp λprog w A R s h=>by
  obtain⟨hp,g,d,tk,os⟩:=s;obtain⟨Li,Lj,Mm,h⟩:=h
  have Nu:=sub_zip
  have hL1:fv (Shared.heap ⟨hp,g,d,tk,os⟩) b1 l1 xs:=Li
  have hL2:fv (Shared.heap ⟨hp.push (B3 b1 l1),g,d,tk,os⟩) b2 l2 ys:=fv.push Lj _
  have hL3:fv (Shared.heap ⟨(hp.push (B3 b1 l1)).push (B3 b2 l2),g,d,tk,os⟩) b3 l3 zs:=fv.push (fv.push Mm _) _
  wp_walk using fc hL1,fc hL2,fc hL3
  exact⟨_,rfl,h⟩
section
variable{prog:Program}{w:World}{A:Around}{E:Value->Shared->Prop}{s:Shared}
theorem v7{b1 b2 b3:Bool}{l1 l2 l3:Addr}{xs ys zs:Array Value}{Q:Value->Shared->Prop}(Li:fv s.heap b1 l1 xs)(Lj:fv s.heap b2 l2 ys)(Mm:fv s.heap b3 l3 zs)
  (h:∀ h',IsZip h' (s.heap.objs.size+5) (s.heap.objs.size+3) (s.heap.objs.size+4) .none->bq h' (s.heap.objs.size+3) (.ref s.heap.objs.size) (.ref (s.heap.objs.size+1)) (.ref (s.heap.objs.size+2)) ->
   bq h' (s.heap.objs.size+4) .none .none .none->dI h' b1 s.heap.objs.size l1 0->dI h' b2 (s.heap.objs.size+1) l2 0->dI h' b3 (s.heap.objs.size+2) l3 0 ->
   (∀ c o,s.heap.get? c=some o->h'.get? c=some o)->Q (.ref (s.heap.objs.size+5)) { s with heap:=h' }) :
  wpAny (model prog w) A (call (.type "zip") [.ref l1,.ref l2,.ref l3]) Q E s:=by
 refine callType_new F.called_zip (by decide) (oJ _ _ _) (pK _ _ _) (λobj=>F.initArgs_range_3 obj _ _ _) F.entry_zip_new
  (o5 b1 b2 b3 l1 l2 l3 xs ys zs) ⟨Li,Lj,Mm,?_⟩
 have z1:(Dh s.heap b1 l1).objs.size=s.heap.objs.size+1:=Heap.size_push ..
 have z2:(CJ s.heap b1 b2 l1 l2).objs.size=s.heap.objs.size+2:=by rw[Heap.size_push,z1]
 have z3:(GY s.heap b1 b2 b3 l1 l2 l3).objs.size=s.heap.objs.size+3:=by rw[Heap.size_push,z2]
 have z4:(GW s.heap b1 b2 b3 l1 l2 l3).objs.size=s.heap.objs.size+4:=by rw[Heap.size_push,z3]
 have z5:(GU s.heap b1 b2 b3 l1 l2 l3).objs.size=s.heap.objs.size+5:=by rw[Heap.size_push,z4]
 have g6:(Es s.heap b1 b2 b3 l1 l2 l3).get? (GU s.heap b1 b2 b3 l1 l2 l3).objs.size=some _:=Heap.get?_push_size _ rfl
 have g5:(Es s.heap b1 b2 b3 l1 l2 l3).get? (GW s.heap b1 b2 b3 l1 l2 l3).objs.size=some _:=Heap.get?_push_of_some _ (Heap.get?_push_size _ rfl)
 have g4:(Es s.heap b1 b2 b3 l1 l2 l3).get? (GY s.heap b1 b2 b3 l1 l2 l3).objs.size=some _:=Heap.get?_push_of_some _ (Heap.get?_push_of_some _ (Heap.get?_push_size _ rfl))
 have g3:(Es s.heap b1 b2 b3 l1 l2 l3).get? (CJ s.heap b1 b2 l1 l2).objs.size=some _:=Heap.get?_push_of_some _ (Heap.get?_push_of_some _ (Heap.get?_push_of_some _ (Heap.get?_push_size _ rfl)))
 have g2:(Es s.heap b1 b2 b3 l1 l2 l3).get? (Dh s.heap b1 l1).objs.size=some _:=Heap.get?_push_of_some _ (Heap.get?_push_of_some _ (Heap.get?_push_of_some _ (Heap.get?_push_of_some _ (Heap.get?_push_size _ rfl))))
 have g1:(Es s.heap b1 b2 b3 l1 l2 l3).get? s.heap.objs.size=some _:=Heap.get?_push_of_some _ (Heap.get?_push_of_some _ (Heap.get?_push_of_some _ (Heap.get?_push_of_some _ (Heap.get?_push_of_some _ (Heap.get?_push_size _ rfl)))))
 show _/\_
 rw[z3,z4,z5] at g6
 rw[z1,z2,z3] at g4
 rw[z4] at g5
 rw[z2] at g3
 rw[z1] at g2
 rw[z5]
 exact⟨⟨_,g6,rfl⟩,h _ g6 g4 g5 (dI.new _ b1 _ _ g1) (dI.new _ b2 _ _ g2) (dI.new _ b3 _ _ g3) λc o x =>
  Heap.get?_push_of_some _ (Heap.get?_push_of_some _ (Heap.get?_push_of_some _ (Heap.get?_push_of_some _ (Heap.get?_push_of_some _ (Heap.get?_push_of_some _ x)))))⟩
end
def IK (K : PySem.W.Frag) (b1 b2 b3 : Bool) (a1 a2 a3 : Addr) : It :=
  ⟨λi H => ∃ xs ys zs x y v, jR K H b1 a1 xs /\ jR K H b2 a2 ys /\ jR K H b3 a3 zs /\ xs[i]? = some x /\ ys[i]? = some y /\ zs[i]? = some v,
   λi H r H' => ∃ p x y v, H p = none /\ r = .ref p /\ H' = upd H p (.tup [x, y, v]) /\ (∀ xs, jR K H b1 a1 xs -> xs[i]? = some x) /\ (∀ ys, jR K H b2 a2 ys -> ys[i]? = some y) /\ (∀ zs, jR K H b3 a3 zs -> zs[i]? = some v),
   λi H => ∃ xs ys zs, jR K H b1 a1 xs /\ jR K H b2 a2 ys /\ jR K H b3 a3 zs /\ (xs.length <= i \/ ys.length <= i \/ zs.length <= i)⟩
theorem p9{X:Cx}{JS:List (Addr×Obj)}{σ:St}{H:Hp}{s:Shared}{b:Bool}{z TI TO i1 i2 i3 a:Addr}{xs:List V}(I:Inv X JS σ H s)(h:jR X.K H b a xs)(hf:∀ b∈[z,TO,i1,i2,i3,TI],kZ X JS H b):L3 z TO i1 i2 i3 a :=
 ⟨cb I h (hf z (by simp)),cb I h (hf TO (by simp)),cb I h (hf i1 (by simp)),cb I h (hf i2 (by simp)),cb I h (hf i3 (by simp))⟩
theorem wB{P:Program}{w:World}{K:PySem.W.Frag}{elts:List Expr}{x1:Nat}{tp:Pos}(b1 b2 b3:Bool)(a1 a2 a3 z TI TO i1 i2 i3:Addr)(D:Z3 z TI TO i1 i2 i3) :
  Turn P w K (.Tuple elts x1 tp) (IK K b1 b2 b3 a1 a2 a3) [z,TO,i1,i2,i3,TI] z (λi h=>IsZip h z TI TO .none/\bq h TI (.ref i1) (.ref i2) (.ref i3)/\(∃ a b c,bq h TO a b c)/\dI h b1 i1 a1 i/\dI h b2 i2 a2 i/\dI h b3 i3 a3 i) where
 mem:=by simp
 obj:=λi h st b hb=>by
  obtain⟨hz,Kt,⟨a,c,d,Kx⟩,h1,h2,h3⟩:=st
  simp only[List.mem_cons,List.mem_nil_iff,or_false] at hb
  rcases hb with q | q | q | q | q | q <;> subst q
  ·exact⟨_,hz,λv z=>by cases z⟩
  ·exact⟨_,Kx,λv z=>by cases z⟩
  ·obtain⟨o,vs,e,d⟩:=h1.obj
   exact⟨o,e,λv z=>by rw[d] at z;cases z⟩
  ·obtain⟨o,vs,e,d⟩:=h2.obj
   exact⟨o,e,λv z=>by rw[d] at z;cases z⟩
  ·obtain⟨o,vs,e,d⟩:=h3.obj
   exact⟨o,e,λv z=>by rw[d] at z;cases z⟩
  ·exact⟨_,Kt,λv z=>by cases z⟩
 keep:=λi h h' st k=>by
  obtain⟨hz,Kt,⟨a,c,d,Kx⟩,h1,h2,h3⟩:=st
  exact⟨k z (by simp) _ hz,k TI (by simp) _ Kt,⟨a,c,d,k TO (by simp) _ Kx⟩,h1.at λo e=>k i1 (by simp) o e,h2.at λo e=>k i2 (by simp) o e,h3.at λo e=>k i3 (by simp) o e⟩
 item:=by
  intro X hP hw hK hc i JS s σ H E I hf st hg
  subst hP hw hK
  obtain⟨xs,ys,zs,x,y,v,Ku,Kv,LU,hx,hy,hv⟩:=hg
  obtain⟨Ms,MI,p1,Nw⟩:=I.row Ku
  obtain⟨Lw,MJ,p2,Nx⟩:=I.row Kv
  obtain⟨Nz,rv3,p3,hz3'⟩:=I.row LU
  obtain⟨u1,hu1,ru1⟩:=MI.get hx
  obtain⟨u2,hu2,ru2⟩:=MJ.get hy
  obtain⟨u3,hu3,ru3⟩:=rv3.get hv
  obtain⟨hz,Kt,⟨a,c,d,Kx⟩,h1,h2,h3⟩:=st
  obtain⟨oi1,vs1,Nb,di1⟩:=h1.obj
  obtain⟨oi2,vs2,Nc,di2⟩:=h2.obj
  obtain⟨oi3,vs3,ei3,di3⟩:=h3.obj
  refine lx D (p9 I Ku hf) (p9 I Kv hf) (p9 I LU hf) hz Kt Kx h1 h2 h3 p1 p2 p3 (x:=u1) (y:=u2) (v:=u3) (by simpa using hu1) (by simpa using hu2) (by simpa using hu3) λh' g1 g2 g3 g4 g4' g5 g6 g7=>⟨_,rfl,?_⟩
  refine wpAny_letOwnedTupleGo_zip (s:={ s with heap:=h' }) g1 λhN hz3 L7=>?_
  have Lk:H s.heap.objs.size=none:=I.a_.fresh (Nat.le_refl _)
  have lt:∀ {c:Addr} {o:Obj},s.heap.get? c=some o->c≠s.heap.objs.size:=λe=>Nat.ne_of_lt (Heap.lt_size e)
  have Mu:∀ b o,b ∉ [z,TO,i1,i2,i3,TI]->s.heap.get? b=some o->hN.get? b=some o:=λb o hb q=>by
   simp only[List.mem_cons,List.mem_nil_iff,or_false,not_or] at hb
   exact(L7.2 b hb.1).trans (g7 b o hb.1 hb.2.1 hb.2.2.1 hb.2.2.2.1 hb.2.2.2.2.1 q)
  have hT3:hN.get? s.heap.objs.size=some { cls:=.type "tuple", data:=.seq #[u1,u2,u3] }:=(L7.2 _ (lt hz).symm).trans g5
  have I3:Inv X JS σ (upd H s.heap.objs.size (.tup [x,y,v])) { s with heap:=hN,toks:=s.toks } :=
   I.jI (ch:=[z,TO,i1,i2,i3,TI]) Mu hf (Nat.le_refl _) (λb hb=>by
    simp only[List.mem_cons,List.mem_nil_iff,or_false] at hb
    rcases hb with q | q | q | q | q | q <;> subst q
    ·exact⟨_,hz⟩
    ·exact⟨_,Kx⟩
    ·exact⟨_,Nb⟩
    ·exact⟨_,Nc⟩
    ·exact⟨_,ei3⟩
    ·exact⟨_,Kt⟩)
    ⟨by show 3<=sizeLine;decide,[u1,u2,u3],.cons ru1 (.cons ru2 (.cons ru3 .nil)),⟨_,hT3,rfl,_,rfl⟩⟩
  refine⟨.ref s.heap.objs.size,_,I3,rfl,⟨_,x,y,v,Lk,rfl,rfl,λzs' MH=>by rw[I.k9 MH Ku];exact hx,λzs' MH=>by rw[I.k9 MH Kv];exact hy,λzs' MH=>by rw[I.k9 MH LU];exact hv⟩,
   ⟨hz3,(L7.2 TI D.TIz).trans (g7 TI _ D.TIz D.TITO D.TIi1 D.TIi2 D.Hi Kt),⟨_,_,_,(L7.2 TO D.TOz).trans g2⟩,g3.at λo e=>(L7.2 i1 D.i1z).trans e,g4.at λo e=>(L7.2 i2 D.i2z).trans e,g4'.at λo e=>(L7.2 i3 D.Fj).trans e⟩,λb hb=>?_⟩
  have nb:b≠s.heap.objs.size:=by
   simp only[List.mem_cons,List.mem_nil_iff,or_false] at hb
   rcases hb with q | q | q | q | q | q <;> subst q
   ·exact lt hz
   ·exact lt Kx
   ·exact lt Nb
   ·exact lt Nc
   ·exact lt ei3
   ·exact lt Kt
  rw[au nb]
  exact(hf b hb).1
 done:=by
  intro X hP hw hK hc i JS s σ H E I hf st hg
  subst hP hw hK
  obtain⟨xs,ys,zs,Ku,Kv,LU,Lp⟩:=hg
  obtain⟨Ms,MI,p1,Nw⟩:=I.row Ku
  obtain⟨Lw,MJ,p2,Nx⟩:=I.row Kv
  obtain⟨Nz,rv3,p3,hz3'⟩:=I.row LU
  obtain⟨hz,Kt,⟨a,c,d,Kx⟩,h1,h2,h3⟩:=st
  have l1:=MI.length
  have l2:=MJ.length
  have l3:=rv3.length
  refine mx (I.ok.hd hc) D (p9 I Ku hf) (p9 I Kv hf) (p9 I LU hf) hz Kt Kx h1 h2 h3 p1 p2 p3 ?_ λh' k=>⟨rfl,?_⟩
  ·rcases Lp with q | q | q
   ·exact .inl (by simp;omega)
   ·exact .inr (.inl (by simp;omega))
   ·exact .inr (.inr (by simp;omega))
  ·exact I.vv (t':=s.toks) (ch:=[z,TO,i1,i2,i3,TI]) (λb u hb e=>by
    simp only[List.mem_cons,List.mem_nil_iff,or_false,not_or] at hb
    exact k b u hb.1 hb.2.1 hb.2.2.1 hb.2.2.2.1 hb.2.2.2.2.1 e) hf
 self:=λ_ _ _ _ _ st h=>by
  obtain⟨hz,_⟩:=st
  exact wpAny_pyIter_zip hz h
theorem B7(n:Nat):Z3 (n+5) (n+3) (n+4) n (n+1) (n+2):=by
 refine⟨?_,?_,?_,?_,?_,?_,?_,?_,?_,?_,?_,?_,?_,?_,?_⟩ <;> (show @Ne Nat _ _;omega)
section
variable{X:Cx}
def Cr(K:PySem.W.Frag)(tl:TA):TI:=fun σ H R=>tl σ H λvs H1=>∃ b1 b2 b3 a1 a2 a3,vs=[.ref a1,.ref a2,.ref a3]/\(∃ xs,jR K H1 b1 a1 xs)/\(∃ ys,jR K H1 b2 a2 ys)/\(∃ zs,jR K H1 b3 a3 zs)/\R (IK K b1 b2 b3 a1 a2 a3) H1
theorem vT{elts:List Expr}{x1:Nat}{tp:Pos}{l1 l2 l3:Expr}{tl:TA}{p pos:Pos}(hg:Gl X "zip")(hm:X.mg "zip" = none)(hl:PA X [l1,l2,l3] tl)(hs:starEach [l1,l2,l3] X.env=[(false,eval l1 X.env),(false,eval l2 X.env),(false,eval l3 X.env)]:=by rfl)(LH:starEach [l2,l3] X.env=[(false,eval l2 X.env),(false,eval l3 X.env)]:=by rfl) :
  PI X (.Tuple elts x1 tp) (.Call (.Name "zip" p) [l1,l2,l3] [] pos) (Cr X.K tl):=by
 intro JS s σ H R I h
 refine Call_ (kl I hg hm PyProof.Rows.boot_zip (PyProof.Rows.callWith_type1 (cN (hl pos JS s σ H _ I h) λus s1 ⟨vs,H1,I1,r1,q1⟩=>?_) (by rw[hs,LH]) (by rw[LH];rfl)))
 obtain⟨b1,b2,b3,a1,a2,a3,e,⟨xs,Ku⟩,⟨ys,Kv⟩,⟨zs,LU⟩,q⟩:=q1
 subst e
 cases r1 with
 | cons r rr =>
  cases rr with
  | cons r' rr =>
   cases rr with
   | cons r'' rr =>
    cases rr
    cases (show _=Value.ref a1 from r)
    cases (show _=Value.ref a2 from r')
    cases (show _=Value.ref a3 from r'')
    obtain⟨Ms,MI,p1,Nw⟩:=I1.row Ku
    obtain⟨Lw,MJ,p2,Nx⟩:=I1.row Kv
    obtain⟨Nz,rv3,p3,hz3⟩:=I1.row LU
    refine v7 p1 p2 p3 λh' g1 g2 g3 g4 g5 g6 g7=>?_
    have I2:Inv X JS σ H1 { s1 with heap:=h' }:=I1.kept (t':=s1.toks) g7
    refine wpAny_pyIter_zip (s:={ s1 with heap:=h' }) g1 ?_
    refine⟨s1.heap.objs.size+5,[s1.heap.objs.size+5,s1.heap.objs.size+4,s1.heap.objs.size,s1.heap.objs.size+1,s1.heap.objs.size+2,s1.heap.objs.size+3],_,_,H1,rfl,I2,
     wB b1 b2 b3 a1 a2 a3 _ _ _ _ _ _ (B7 s1.heap.objs.size),⟨g1,g2,⟨_,_,_,g3⟩,g4,g5,g6⟩,λb hb=>?_,q⟩
    have hle:s1.heap.objs.size<=b:=by
     simp only[List.mem_cons,List.mem_nil_iff,or_false] at hb
     rcases hb with q | q | q | q | q | q
     ·rw[q];exact Nat.le_add_right _ 5
     ·rw[q];exact Nat.le_add_right _ 4
     ·rw[q];exact Nat.le_refl _
     ·rw[q];exact Nat.le_add_right _ 1
     ·rw[q];exact Nat.le_add_right _ 2
     ·rw[q];exact Nat.le_add_right _ 3
    exact I1.sG hle (I1.a_.fresh hle)
end
end L2
namespace L2
open PySem PySem.Spec PyProof.Rows
section
variable{M:Model}{A:Around}{E:Value->Shared->Prop}{s:Shared}
theorem qo{base:Heap}{env:Env}{outer:List Env}{L e:Addr}{oe:Obj}{vs:Array Value}{head:Value}{MC:Bool}{Q:Unit->Shared->Prop}
  (Ml:A.frames=some (env::outer)) (hl:s.heap.FunFrames base (env::outer)) (hf:env.frame=some L)
  (he:s.heap.get? e=some oe) (hd:oe.data=.fields vs) (Lq:1<vs.size)
  (h:∀ h' T oT ts,h'.get? e=some (Obj.mapFields (·.setIfInBounds 1 (.ref T)) oe)->s.heap.objs.size<=T->T≠e->h'.get? T=some oT->oT.data=.fields ts->ts[3]?=some (rawInt L) ->
   (∀ b o,b≠e->b ∉ t5 (env::outer)->s.heap.get? b=some o->h'.get? b=some o)->(∀ b o,b≠e->s.heap.get? b=some o->∃ sl,h'.get? b=some { o with slots:=sl })->Q () { s with heap:=h' }) :
  wpAny M A (do let a ← frameOf env;let pl ← entryPlaceOf L MC;let b ← EntryCells.newEntry head a .none (rawInt L) .none pl;setField (.ref e) 1 b) Q E s:=by
 have hene:e ∉ (env::outer).filterMap (·.frame):=λhm=>by
  obtain⟨_,o,ho,Nr⟩:=hl.mem hm
  rw[he] at ho;injection ho with ho;subst ho;exact Nr vs hd
 refine wpAny_bind (wpAny_frameOf_fun Ml hl hf λh₁ hs1=>?_)
 refine wpAny_bind (wpAny_entryPlaceOf λpl Kd=>?_)
 unfold EntryCells.newEntry newFields
 refine wpAny_bind (wpAny_newObj_type ?_ (Kd.sizeOk5 _ _ _ _ _))
 have he1:h₁.get? e=some oe:=(hs1.2.1 e hene).trans he
 have he₂:=Heap.get?_push_of_some (h:=h₁) { cls:=.type "traceback", dict:=none,data:=.fields ([head,.ref L,.none,rawInt L,.none]++(if pl.isEmpty then List.replicate 6 Value.none else pl)).toArray } he1
 have hTe:h₁.objs.size≠e:=Nat.ne_of_gt (Heap.lt_size he1)
 have hd3:=Obj.data_mapFields hd (·.setIfInBounds 1 (Value.ref h₁.objs.size))
 have he3:=Heap.get?_update_self (Obj.mapFields (·.setIfInBounds 1 (Value.ref h₁.objs.size))) he₂ (Obj.isFreed_of_fields hd3)
 have hT₃:=(Heap.get?_update_other (h₁.push { cls:=.type "traceback", dict:=none,data:=.fields ([head,.ref L,.none,rawInt L,.none]++(if pl.isEmpty then List.replicate 6 Value.none else pl)).toArray })
  (Obj.mapFields (·.setIfInBounds 1 (Value.ref h₁.objs.size))) (Ne.symm hTe)).trans (Heap.get?_push_size h₁ rfl)
 have keep:∀ b o,b≠e->h₁.get? b=some o ->
   ((h₁.push { cls:=.type "traceback", dict:=none,data:=.fields ([head,.ref L,.none,rawInt L,.none]++(if pl.isEmpty then List.replicate 6 Value.none else pl)).toArray }).update e (Obj.mapFields (·.setIfInBounds 1 (Value.ref h₁.objs.size)))).get? b=some o:=λb o L_ hb=>by
  rw[Heap.get?_update_other _ _ (Ne.symm L_)]
  exact Heap.get?_push_of_some _ hb
 refine wpAny_setField he₂ hd Lq (h _ h₁.objs.size _ _ he3 ?_ hTe hT₃ rfl (by first | (simp;done) | (rcases Kd with rfl | ⟨_,_,_,_,_,_,_,rfl⟩ <;> simp)) ?_ ?_)
 ·exact Nat.le_of_eq hs1.1.symm
 ·intro b o L_ hbf hb
  exact keep b o L_ ((hs1.2.1 b hbf).trans hb)
 ·intro b o L_ hb
  obtain⟨sl,hs⟩:=hs1.2.2 b o hb
  exact⟨sl,keep b _ L_ hs⟩
def Lies(h:Heap)(e:Addr)(vs:Array Value)(to:Option Addr):Prop:=match to with
 | none=>vs[1]?=some .none
 | some T=>vs[1]?=some (.ref T)/\T≠e/\∃ oT ts,h.get? T=some oT/\oT.data=.fields ts/\ts[3]?=some .none
theorem w6{base:Heap}{env:Env}{outer:List Env}{L e:Addr}{oe:Obj}{vs:Array Value}{to:Option Addr}{Q:Unit->Shared->Prop}
  (Ml:A.frames=some (env::outer)) (hl:s.heap.FunFrames base (env::outer)) (hf:env.frame=some L)
  (he:s.heap.get? e=some oe) (hd:oe.data=.fields vs) (hto:Lies s.heap e vs to)
  (h:∀ h' T oT ts,h'.get? e=some (Obj.mapFields (·.setIfInBounds 1 (.ref T)) oe)->s.heap.objs.size<=T->T≠e->h'.get? T=some oT->oT.data=.fields ts->ts[3]?=some (rawInt L) ->
   (∀ b o,b≠e->(∀ T,to=some T->b≠T)->b ∉ t5 (env::outer)->s.heap.get? b=some o->h'.get? b=some o) ->
   (∀ b o,b≠e->(∀ T,to=some T->b≠T)->s.heap.get? b=some o->∃ sl,h'.get? b=some { o with slots:=sl })->(∀ b o,s.heap.get? b=some o->∃ o',h'.get? b=some o')->Q () { s with heap:=h' }) :
  wpAny M A (noteFrame (.ref e) env) Q E s:=by
 unfold noteFrame
 simp only[hf]
 cases to with
 | none =>
  have h1:vs[1]?=some .none:=hto
  refine wpAny_bind (wpAny_field he hd h1 ?_)
  rw[if_neg (by decide)]
  refine qo Ml hl hf he hd (Array.getElem?_eq_some_iff.mp h1).1 λh' T oT ts a1 a2 a3 a4 a5 a6 a7 a8=>?_
  refine h h' T oT ts a1 a2 a3 a4 a5 a6 (λb o n1 _ n2 q=>a7 b o n1 n2 q) (λb o n1 _ q=>a8 b o n1 q) λb o q=>?_
  by_cases z:b=e
  ·subst z;exact⟨_,a1⟩
  ·obtain⟨sl,r⟩:=a8 b o z q;exact⟨_,r⟩
 | some T0 =>
  obtain⟨h1,hTe,oT,ts,hT,hdT,h3⟩:=hto
  refine wpAny_bind (wpAny_field he hd h1 ?_)
  rw[if_pos (show (Value.ref T0 != Value.none)=true from by simp)]
  refine wpAny_bind (wpAny_field hT hdT h3 ?_)
  rw[if_neg (show ¬ ((Value.none==rawInt L)=true) from by simp[rawInt])]
  refine wpAny_bind (wpAny_setField hT hdT (Array.getElem?_eq_some_iff.mp h3).1 ?_)
  have other:∀ b,b≠T0->(s.heap.update T0 (Obj.mapFields (·.setIfInBounds 3 Value.none))).get? b=s.heap.get? b:=λb hb=>Heap.get?_update_other _ _ (Ne.symm hb)
  have Mx:∀ b o,s.heap.get? b=some o->(∀ vs,o.data≠.fields vs)->b≠T0:=λb o hb Nr q=>by
   rw[q,hT] at hb;injection hb with hb;subst hb;exact Nr ts hdT
  have MB:=Heap.get?_update_self (Obj.mapFields (·.setIfInBounds 3 Value.none)) hT (Obj.isFreed_of_fields (Obj.data_mapFields hdT _))
  refine qo Ml (hl.of_keeps λb o hb Nr=>⟨o,(other b (Mx b o hb Nr)).trans hb,rfl⟩) hf ((other e (Ne.symm hTe)).trans he) hd (Array.getElem?_eq_some_iff.mp h1).1 λh' T oT' ts' a1 a2 a3 a4 a5 a6 a7 a8=>?_
  refine h h' T oT' ts' a1 (by simpa [Heap.update] using a2) a3 a4 a5 a6 (λb o n1 n2 n3 q=>a7 b o n1 n3 ((other b (n2 T0 rfl)).trans q)) (λb o n1 n2 q=>a8 b o n1 ((other b (n2 T0 rfl)).trans q)) λb o q=>?_
  by_cases z:b=e
  ·subst z;exact⟨_,a1⟩
  ·by_cases z2:b=T0
   ·subst z2
    obtain⟨sl,r⟩:=a8 b _ z MB;exact⟨_,r⟩
   ·obtain⟨sl,r⟩:=a8 b o z ((other b z2).trans q);exact⟨_,r⟩
end
end L2
namespace L2
open PySem PySem.Spec PyProof.Rows
def jQ(C:Addr)(dd:Option Addr)(e:Addr):HO:=.ext λh=>∃ t,h.get? e=some ⟨.ref C,dd,.fields #[.ref t,.none,.none,.none,.bool false,.none],#[]⟩
def Gf(C:Addr)(dd:Option Addr)(e T:Addr):HO:=.ext λh=>∃ vs,h.get? e=some ⟨.ref C,dd,.fields vs,#[]⟩/\vs[1]?=some (.ref T)
def Jb(fl:Value)(T:Addr):HO:=.ext λh=>∃ oT ts,h.get? T=some oT/\oT.data=.fields ts/\ts[3]?=some fl
def ll(Hc:Hp)(e T C:Addr)(dd:Option Addr)(fl:Value):Hp:=upd (upd Hc T (Jb fl T)) e (Gf C dd e T)
theorem ng{Hc:Hp}{e T C:Addr}{dd:Option Addr}{fl:Value}:ll Hc e T C dd fl e=some (Gf C dd e T):=az
theorem oh{Hc:Hp}{e T C:Addr}{dd:Option Addr}{fl:Value}(n:T≠e):ll Hc e T C dd fl T=some (Jb fl T):=by unfold ll;rw[au n,az]
theorem iC{Hc:Hp}{e T C b:Addr}{dd:Option Addr}{fl:Value}(n:b≠e)(n2:b≠T):ll Hc e T C dd fl b=Hc b:=by unfold ll;rw[au n,au n2]
section
variable{X:Cx}{JS:List (Addr×Obj)}{σ:St}{H:Hp}{s:Shared}
theorem Inv.note{Hc:Hp}{e C:Addr}{dd:Option Addr}{to:Option Addr}{vs:Array Value}{φ:Heap->Prop}{Q:Unit->Shared->Prop}{E:Value->Shared->Prop}(I:Inv X JS σ H s)(Kw:X.stack=X.env::X.outer)(hf:X.env.frame=some X.env.locals)
  (he:H e=some (.ext φ)) (hx:s.heap.get? e=some ⟨.ref C,dd,.fields vs,#[]⟩) (lies:Lies s.heap e vs to) (hT:∀ T,to=some T->(∃ ψ,H T=some (.ext ψ))/\Hc T=none) (hc:∀ b,b≠e->(∀ T,to=some T->b≠T)->Hc b=H b)
  (h:∀ h' T,Hc T=none->T≠e->Inv X JS σ (ll Hc e T C dd (rawInt X.env.locals)) { s with heap:=h' }->Q () { s with heap:=h' }) :
  wpAny (model X.prog X.w) X.A (noteFrame (.ref e) X.env) Q E s:=by
 have hl:=I.stack
 have Ml:=I.ok.frames
 have sf:=I.qy
 rw[Kw] at hl Ml sf
 refine w6 (base:=X.base) Ml hl hf hx rfl lies λh' T oT ts a1 a2 a3 a4 a5 a6 a7 a8 a9=>?_
 have hTn:H T=none:=I.a_.fresh a2
 have nT:∀ b u,H b=some u->b≠T:=λb u q z=>by rw[z,hTn] at q;cases q
 have Me:∀ b u,H b=some u->(∀ ψ,u≠.ext ψ)->b≠e/\∀ T0,to=some T0->b≠T0:=by
  intro b u q hu
  refine⟨λz=>?_,λT0 z w=>?_⟩
  ·rw[z,he] at q;exact hu _ (Option.some.inj q).symm
  ·obtain⟨⟨ψ,q2⟩,_⟩:=hT T0 z
   rw[w,q2] at q;exact hu _ (Option.some.inj q).symm
 have old:∀ b u,H b=some u->(∀ ψ,u≠.ext ψ)->ll Hc e T C dd (rawInt X.env.locals) b=some u:=λb u q hu=>by
  obtain⟨n1,n2⟩:=Me b u q hu
  rw[iC n1 (nT b u q),hc b n1 n2];exact q
 have hcT:Hc T=none:=by
  by_cases z:∃ T0,to=some T0/\T=T0
  ·obtain⟨T0,z1,z2⟩:=z;rw[z2];exact(hT T0 z1).2
  ·rw[hc T a3 λT0 z1 z2=>z ⟨T0,z1,z2⟩];exact hTn
 have un:∀ b o,s.heap.get? b=some o->H b=none->b≠e/\(∀ T0,to=some T0->b≠T0)/\b≠T:=by
  intro b o q n
  refine⟨λz=>?_,λT0 z w=>?_,Nat.ne_of_lt (Nat.lt_of_lt_of_le (Heap.lt_size q) a2)⟩
  ·rw[z,he] at n;cases n
  ·obtain⟨⟨ψ,q2⟩,_⟩:=hT T0 z
   rw[w,q2] at n;cases n
 refine h h' T hcT a3 ?_
 have U:Un (t5 X.stack) [] H (ll Hc e T C dd (rawInt X.env.locals)) s.heap h':=by
  rw[Kw]
  refine⟨λb o q n nf _=>?_,λb o q n _ _=>?_,λb o q n _=>?_,λb o q _=>a9 b o q,λb xs q=>old b _ q (λ_ z=>nomatch z),λb ob u q=>old b _ q (λ_ z=>nomatch z),λb ps q=>⟨#[],?_⟩⟩
  ·obtain⟨n1,n2,_⟩:=un b o q n;exact a7 b o n1 n2 nf q
  ·obtain⟨n1,n2,_⟩:=un b o q n;exact a8 b o n1 n2 q
  ·obtain⟨n1,n2,n3⟩:=un b o q n
   rw[iC n1 n3,hc b n1 n2];exact n
  ·rw[old b _ q (λ_ z=>nomatch z)];simp
 have ok:lh X.prog X.w (ll Hc e T C dd (rawInt X.env.locals)) h':=λb u q=>by
  by_cases z:b=e
  ·subst z
   rw[ng] at q;cases q
   refine⟨⟨_,a1,?_⟩,⟨_,a1⟩,λh1 h2 ⟨ws,q1,q2⟩ k=>⟨ws,k _ q1,q2⟩⟩
   have Lq:1<vs.size:=by
    cases to with
    | none=>exact(Array.getElem?_eq_some_iff.mp (show vs[1]?=some .none from lies)).1
    | some T0=>exact(Array.getElem?_eq_some_iff.mp lies.1).1
   simp[Lq]
  ·by_cases z2:b=T
   ·subst z2
    rw[oh a3] at q;cases q
    exact⟨⟨oT,ts,a4,a5,a6⟩,⟨_,a4⟩,λh1 h2 ⟨o1,t1,q1,q2,q3⟩ k=>⟨o1,t1,k _ q1,q2,q3⟩⟩
   ·rw[iC z z2] at q
    have z3:∀ T0,to=some T0->b≠T0:=λT0 w w2=>by rw[w2,(hT T0 w).2] at q;cases q
    rw[hc b z z3] at q
    have nf:∀ c u',H c=some u'->c ∉ t5 (X.env::X.outer):=λc u' q' hm=>by have:=sf c hm;rw[q'] at this;cases this
    refine(I.a_ b u q).kP (λc v MD q'=>?_) (λc q'=>old c _ q' (λ_ z=>nomatch z)) λc xs q'=>old c _ q' (λ_ z=>nomatch z)
    rcases MD with rfl | MD
    ·exact a7 c v z z3 (nf c u q) q'
    ·obtain⟨n1,n2⟩:=Me c _ MD (λ_ z=>nomatch z)
     exact a7 c v n1 n2 (nf c _ MD) q'
 exact I.call (ch:=[]) U ok I.bare (λb z=>absurd z (by simp))
theorem Inv.w9{Hc:Hp}{e T C:Addr}{dd:Option Addr}{fl:Value}(I:Inv X JS σ (ll Hc e T C dd fl) s)(n:T≠e):∃ vs oT ts,s.heap.get? e=some ⟨.ref C,dd,.fields vs,#[]⟩/\vs[1]?=some (.ref T)/\s.heap.get? T=some oT/\oT.data=.fields ts/\ts[3]?=some fl:=by
 obtain⟨vs,h1,h2⟩:=(I.a_ e _ ng).1
 obtain⟨oT,ts,q⟩:=(I.a_ T _ (oh n)).1
 exact⟨vs,oT,ts,h1,h2,q⟩
theorem Inv.Gg{Hc:Hp}{e T C:Addr}{dd:Option Addr}{fl:Value}{Q:Unit->Shared->Prop}{E:Value->Shared->Prop}(I:Inv X JS σ (ll Hc e T C dd fl) s)(hfl:fl=.none\/fl=rawInt X.env.locals)(n:T≠e)(hcT:Hc T=none)(Kw:X.stack=X.env::X.outer)(hf:X.env.frame=some X.env.locals)
  (h:∀ h' T,Hc T=none->T≠e->Inv X JS σ (ll Hc e T C dd (rawInt X.env.locals)) { s with heap:=h' }->Q () { s with heap:=h' }) :
  wpAny (model X.prog X.w) X.A (noteFrame (.ref e) X.env) Q E s:=by
 obtain⟨vs,oT,ts,hx,h1,hT,hd,h3⟩:=I.w9 n
 rcases hfl with rfl | rfl
 ·refine I.note (Hc:=Hc) (to:=some T) Kw hf ng hx ⟨h1,n,oT,ts,hT,hd,h3⟩ (λT0 z=>?_) (λb n1 n2=>(iC n1 (n2 T rfl)).symm) h
  cases z
  exact⟨⟨_,oh n⟩,hcT⟩
 ·unfold noteFrame
  simp only[hf]
  refine wpAny_bind (wpAny_field hx rfl h1 ?_)
  rw[if_pos (show (Value.ref T != Value.none)=true from by simp)]
  refine wpAny_bind (wpAny_field hT hd h3 ?_)
  rw[if_pos (show (rawInt X.env.locals==rawInt X.env.locals)=true from by simp)]
  exact wpAny_pure (h s.heap T hcT n I)
theorem Inv.Gp{e C:Addr}{dd:Option Addr}{Q:Unit->Shared->Prop}{E:Value->Shared->Prop}(I:Inv X JS σ H s)(he:H e=some (jQ C dd e))(Kw:X.stack=X.env::X.outer)(hf:X.env.frame=some X.env.locals)
  (h:∀ h' T,upd H e (gP C dd e) T=none->T≠e->Inv X JS σ (ll (upd H e (gP C dd e)) e T C dd (rawInt X.env.locals)) { s with heap:=h' }->Q () { s with heap:=h' }) :
  wpAny (model X.prog X.w) X.A (noteFrame (.ref e) X.env) Q E s:=by
 obtain⟨t,hx⟩:=(I.a_ e _ he).1
 exact I.note (Hc:=upd H e (gP C dd e)) (to:=none) Kw hf he hx rfl (λ_ z=>by cases z) (λb n1 _=>au n1) h
theorem Inv.nv{Hc:Hp}{e T C:Addr}{dd:Option Addr}{fl:Value}{fr:Option Addr}{Q:Unit->Shared->Prop}{E:Value->Shared->Prop}(I:Inv X JS σ (ll Hc e T C dd fl) s)(n:T≠e)
  (h:∀ h',Inv X JS σ (ll Hc e T C dd (fr.elim .none λf=>rawInt f)) { s with heap:=h' }->Q () { s with heap:=h' }) :
  wpAny (model X.prog X.w) X.A (setFlight (.ref e) fr) Q E s:=by
 obtain⟨vs,oT,ts,hx,h1,hT,hd,h3⟩:=I.w9 n
 unfold setFlight
 refine wpAny_bind (wpAny_field hx rfl h1 ?_)
 rw[if_pos (show (Value.ref T != Value.none)=true from by simp)]
 have Lq:3<ts.size:=(Array.getElem?_eq_some_iff.mp h3).1
 refine wpAny_setField hT hd Lq (h _ ?_)
 have other:∀ b,b≠T->(s.heap.update T (Obj.mapFields (·.setIfInBounds 3 (fr.elim Value.none λf=>rawInt f)))).get? b=s.heap.get? b:=λb hb=>Heap.get?_update_other _ _ (Ne.symm hb)
 have MB:=Heap.get?_update_self (Obj.mapFields (·.setIfInBounds 3 (fr.elim Value.none λf=>rawInt f))) hT (Obj.isFreed_of_fields (Obj.data_mapFields hd _))
 have nT:∀ b,ll Hc e T C dd fl b=none->b≠T:=λb q z=>by rw[z,oh n] at q;cases q
 have same:∀ b,b≠T->ll Hc e T C dd (fr.elim .none λf=>rawInt f) b=ll Hc e T C dd fl b:=λb z=>by
  by_cases w:b=e
  ·subst w;rw[ng,ng]
  ·rw[iC w z,iC w z]
 have ne:∀ b u,ll Hc e T C dd fl b=some u->(∀ ψ,u≠.ext ψ)->b≠T:=λb u q hu z=>by rw[z,oh n] at q;exact hu _ (Option.some.inj q).symm
 refine I.un (t':=s.toks) ⟨λb o q z _ _=>(other b (nT b z)).trans q,λb o q z _ _=>⟨o.slots,(other b (nT b z)).trans q⟩,λb o q z _=>by rw[same b (nT b z)];exact z,λb o q _=>?_,λb xs q=>?_,λb ob u q=>?_,λb ps q=>⟨#[],?_⟩⟩ λb u q=>?_
 ·by_cases z:b=T
  ·subst z;exact⟨_,MB⟩
  ·exact⟨o,(other b z).trans q⟩
 ·rw[same b (ne b _ q λ_ z=>nomatch z)];exact q
 ·rw[same b (ne b _ q λ_ z=>nomatch z)];exact q
 ·rw[same b (ne b _ q λ_ z=>nomatch z),q];simp
 ·by_cases z:b=T
  ·subst z
   rw[oh n] at q;cases q
   refine⟨⟨_,_,MB,Obj.data_mapFields hd _,?_⟩,⟨_,MB⟩,λh1 h2 ⟨o1,t1,q1,q2,q3⟩ k=>⟨o1,t1,k _ q1,q2,q3⟩⟩
   simp[Lq]
  ·rw[same b z] at q
   refine(I.a_ b u q).kP (λc v hc q'=>(other c ?_).trans q') (λc q'=>?_) λc xs q'=>?_
   ·rcases hc with rfl | hc
    ·exact z
    ·exact ne c _ hc λ_ z=>nomatch z
   ·rw[same c (ne c _ q' λ_ z=>nomatch z)];exact q'
   ·rw[same c (ne c _ q' λ_ z=>nomatch z)];exact q'
end
def bG(P:Program)(w:World):AV:=λouter H s E e s'=>∃ (ea T C:Addr) (dd:Option Addr) (Hc:Hp),e=.ref ea/\s'.os=s.os/\AllBare s'.gens/\Un (t5 outer) [] H (ll Hc ea T C dd .none) s.heap s'.heap/\lh P w (ll Hc ea T C dd .none) s'.heap ∧
 Hc ea=some (gP C dd ea)/\Hc T=none/\T≠ea/\E (.ref ea) none Hc
def Zx (X : Cx) (E : St -> XK) (e : Value) (s : Shared) : Prop := ∃ (ea C : Addr) (dd : Option Addr) (JS : List (Addr × Obj)) (σ : St), e = .ref ea ∧
  ((∃ H, Inv X JS σ H s /\ H ea = some (jQ C dd ea) /\ E σ (.ref ea) none (upd H ea (gP C dd ea))) ∨
   (∃ Hc T fl, Inv X JS σ (ll Hc ea T C dd fl) s /\ (fl = .none \/ fl = rawInt X.env.locals) /\ Hc ea = some (gP C dd ea) /\ Hc T = none /\ T ≠ ea /\ E σ (.ref ea) none Hc))
theorem Zx.note{X:Cx}{E:St->XK}{e:Value}{s:Shared}{Q:Unit->Shared->Prop}{F:Value->Shared->Prop}(z:Zx X E e s)(Kw:X.stack=X.env::X.outer)(hf:X.env.frame=some X.env.locals)
  (h:∀ s' ea C dd JS σ Hc T,e=.ref ea->Inv X JS σ (ll Hc ea T C dd (rawInt X.env.locals)) s'->Hc ea=some (gP C dd ea)->Hc T=none->T≠ea->E σ (.ref ea) none Hc->Q () s') :
  wpAny (model X.prog X.w) X.A (noteFrame e X.env) Q F s:=by
 obtain⟨ea,C,dd,JS,σ,rfl,⟨H,I,h1,h2⟩ | ⟨Hc,T,fl,I,h1,h2,h3,h4,h5⟩⟩:=z
 ·exact I.Gp h1 Kw hf λh' T q1 q2 I2=>h _ ea C dd JS σ _ T rfl I2 az q1 q2 h2
 ·exact I.Gg h1 h4 h3 Kw hf λh' T q1 q2 I2=>h _ ea C dd JS σ _ T rfl I2 h2 q1 q2 h5
theorem Zx.Ei{X:Cx}{E:XK}{e:Value}{s:Shared}{F:Value->Shared->Prop}(z:Zx X (λ_=>E) e s)(Kw:X.stack=X.env::X.outer)(hf:X.env.frame=some X.env.locals)(hex:X.ex=[]) :
  wpAny (model X.prog X.w) X.A (leaving X.env e) (λ_ s'=>bG X.prog X.w X.outer X.H₀ X.s₀ E e s') F s:=by
 unfold leaving
 refine wpAny_bind (z.note Kw hf λs' ea C dd JS σ Hc T he I h1 h2 h3 h4=>?_)
 subst he
 refine I.nv h3 λh' I2=>⟨ea,T,C,dd,Hc,rfl,I2.os,I2.bare,?_,I2.a_,h1,h2,h3,h4⟩
 have:=I2.base
 rw[hex] at this
 exact this
theorem Zx.own{X:Cx}{E:St->XK}(Kw:X.stack=X.env::X.outer)(hf:X.env.frame=some X.env.locals):PassesOwn (model X.prog X.w) X.A X.env (Zx X E):=by
 intro e s z
 refine z.note Kw hf λs' ea C dd JS σ Hc T he I h1 h2 h3 h4=>?_
 subst he
 obtain⟨vs,oT,ts,hx,q1,_⟩:=I.w9 h3
 show wpAny _ _ _ _ _ _
 refine wpAny_bind (wpAny_field hx rfl q1 ?_)
 rw[if_neg (show ¬ ((Value.ref T==Value.none)=true) from by simp)]
 rw[hf]
 refine I.nv h3 λh' I2=>⟨ea,C,dd,JS,σ,rfl,.inr ⟨Hc,T,_,I2,.inr rfl,h1,h2,h3,h4⟩⟩
structure fg (X:Cx) (E:St->XK):Prop where
 pass:∀ (JS:List (Addr×Obj)) (σ:St) (H:Hp) (s:Shared) (e:Value) (s':Shared),Inv X JS σ H s->bG X.prog X.w X.stack H s (E σ) e s'->X.xe e s'
 new:∀ (JS:List (Addr×Obj)) (σ:St) (H:Hp) (s:Shared) (e C:Addr) (dd:Option Addr),Inv X JS σ H s->H e=some (jQ C dd e)->E σ (.ref e) none (upd H e (gP C dd e))->X.xe (.ref e) s
 own:PassesOwn (model X.prog X.w) X.A X.env X.xe
abbrev Cx.out(X:Cx)(E:St->XK):Cx:=X.nO (Zx X E)
theorem yq{X:Cx}{E:St->XK}(Kw:X.stack=X.env::X.outer)(hf:X.env.frame=some X.env.locals):fg (X.out E) E where
 pass:=by
  intro JS σ H s e s' I h
  obtain⟨ea,T,C,dd,Hc,rfl,os,bare,un,a_,h1,h2,h3,hE⟩:=h
  have I':=I.dO.yj (ch:=[]) os un a_ bare (λb z=>absurd z (by simp))
  exact⟨ea,C,dd,JS,σ,rfl,.inr ⟨Hc,T,.none,I',.inl rfl,h1,h2,h3,hE⟩⟩
 new:=λJS σ H s e C dd I he hE=>⟨e,C,dd,JS,σ,rfl,.inl ⟨H,I.dO,he,hE⟩⟩
 own:=Zx.own Kw hf
theorem va{P:Program}{w:World}{K:PySem.W.Frag}{mg:Str->Option Value}{base:Heap}{k:Nat}{f:Addr}{name qual:Str}{params:Arguments}{body:List Stmt}{scope:Scope}{dV kV doc pm Ka ct oc:Value}{an od:Option Addr}
  {L9:Array (Option Value)} {N ps:List Str} {sp:Sp} (lk:K.lookup f=some ⟨oc,od,.func (PySem.W.fnOf name qual params body scope dV kV doc pm an Ka ct),L9⟩) (Lh:PySem.W.codeIn K Ka qual=true) (S:av N ps scope)
  (len:∀ vs H Q E,sp vs H Q E->vs.length=ps.length)
  (Mg:∀ (A:Around) (outer:List Env) (s:Shared) (H:Hp) (vs:List V) (Q:VK) (E:XK),bN k (A.deeper (envOfC qual scope s.heap.objs.size f Ka))->sp vs H Q E ->
   ∃ t,kf ((my (bG P w) P w K mg base N qual scope f Ka A outer s H E).out λ_=>E) body t/\t { nx:=λ_ H'=>Q .bZ H',rt:=Q } (start N vs) H) :
  aF P w K mg base (bG P w) (k+1) f (PySem.W.fnOf name qual params body scope dV kV doc pm an Ka ct) ps sp:=by
 refine FN lk Lh S len λA outer s H vs Q E hr hs=>?_
 obtain⟨t,h1,h2⟩:=Mg A outer s H vs Q E hr hs
 refine⟨t,λJS s1 σ H1 D I q=>?_,h2⟩
 refine wpAny_mono (h1 JS s1 σ H1 D (I.nO _) q) (λf s' z=>z.dO) λe s' z=>?_
 exact z.Ei rfl rfl rfl
end L2
namespace L2
open PySem PySem.Spec PyProof.Rows
open PySem.Builtin.ObjectAttr (storeInOwnDict storeTaker? setByDescriptor)
theorem rk{P:Program}{w:World}{H:Hp}{h:Heap}{C e t:Addr}{dd:Option Addr}(he:h.get? e=some ⟨.ref C,dd,.fields #[.ref t,.none,.none,.none,.bool false,.none],#[]⟩):bC P w H h e (jQ C dd e) :=
 ⟨⟨t,he⟩,⟨_,he⟩,λ_ _ ⟨t,q⟩ k=>⟨t,k _ q⟩⟩
section
variable{X:Cx}{C f:Addr}{fd:FuncData}{ps:List Str}{sp:Sp}{x:Str}{p pos:Pos}{e:Expr}{es:List Expr}{t:TA}{k:Nat}
def GC(C:Addr)(t:TA):TE:=fun σ H Q=>t σ H λvs H1=>vs.length<=sizeLine/\∀ a,H1 a=none->Q (.ref a) (upd H1 a (jQ C none a))
theorem AL(hc:PySem.W.excIn X.K C eH "ValueError.__new__" = true)(kp:PySem.W.keepIn X.K (.ref C)=true)(hg:Gl X x)(hm:X.mg x=some (.ref C))
  (ha:PA X (e::es) t) (KU:(x==("__debug__" : Str))=false:=by decide) (he:starEach (e::es) X.env=(false,eval e X.env)::starEach es X.env:=by rfl) (Kd:(backTo pos (starEach es X.env)).any (·.1)=false:=by rfl) :
  PE X (.Call (.Name x p) (e::es) [] pos) (GC C t):=by
 intro JS s σ H Q I h
 refine wpAny_Call_Name_kw (hU I hg hm ?_ KU)
 refine PySem.W.callWith_K (h₀:=X.base) I.ok.mod.CY kp (cN (ha pos JS s σ H _ I h) λus s1 ⟨vs,H1,I1,r,hl,q⟩=>⟨I1.ir,?_⟩) he Kd
 obtain⟨bm,N,nm,qn,bs,LQ,sn,sub,ab,col,dd,k0,k1,k2,k3,k5,mN,hC,hN,Ma,T⟩:=Bc I1.ir hc
 obtain⟨hp,g,d,tk,os⟩:=s1
 refine wpAny_call_exc_subT PySem.F.excBase_ValueError T hC hN Ma (λh' a M=>?_) (by show us.length<=sizeLine;rw[← r.length];exact hl)
 obtain⟨t',e1,_,_⟩:=M.there
 have I2:Inv X JS σ (upd H1 a (jQ C none a)) ⟨h',g,d,tk,os⟩:=I1.CM (t':=tk) M.keeps M.new (rk e1)
 have hn:H1 a=none:=I1.qD M.new
 exact⟨.ref a,_,I2,rfl,q a hn⟩
def Eg(C:Addr)(sp:Sp)(t:TA):TE:=fun σ H Q=>t σ H λvs H1=>vs.length<=sizeLine/\∀ a,H1 a=none->sp (.ref a::vs) (upd H1 a (jQ C none a)) (λv H2=>v=.bZ/\Q (.ref a) H2) E0
theorem zM(hc:oj X.K C "ValueError.__new__" f=true)(hf:PySem.W.isFn X.K (.ref f)=true)(kp:PySem.W.keepIn X.K (.ref C)=true)(F:aF X.prog X.w X.K X.mg X.base (bG X.prog X.w) k f fd ps sp)(hr:bN (k+1) X.A)(hb:Binds X.K fd ps [])(hg:Gl X x)(hm:X.mg x=some (.ref C))
  (ha:PA X (e::es) t) (KU:(x==("__debug__" : Str))=false:=by decide) (he:starEach (e::es) X.env=(false,eval e X.env)::starEach es X.env:=by rfl) (Kd:(backTo pos (starEach es X.env)).any (·.1)=false:=by rfl) :
  PE X (.Call (.Name x p) (e::es) [] pos) (Eg C sp t):=by
 intro JS s σ H Q I h
 refine wpAny_Call_Name_kw (hU I hg hm ?_ KU)
 refine PySem.W.callWith_K (h₀:=X.base) I.ok.mod.CY kp (cN (ha pos JS s σ H _ I h) λus s1 ⟨vs,H1,I1,r,hl,q⟩=>⟨I1.ir,?_⟩) he Kd
 have X1:=I1.ir
 obtain⟨bm,N,nm,qn,bs,LQ,sn,sub,ab,col,dd,k0,k1,k2,k3,k5,mN,hC,hN,Ma,T⟩:=xO X1 hc
 obtain⟨hp,g,d,tk,os⟩:=s1
 have f1:=tc_lookup
 have f2:=tc_bind (.ref C)
 have hT:(⟨hp,g,d,tk,os⟩:Shared).TypeIs (.ref C) "type" := ⟨_,hC,rfl⟩
 refine wpAny_call (codeAny_of_tree ?_)
 show wpAny _ _ (callAny (.ref C) _) _ _ _
 repeat (any_goals (first | assumption | with_reducible refine wpAny_loadPart_at hC ?_ | wp_step))
 refine⟨rfl,?_⟩
 refine codeAny_call_builtin_at (Code.quiet_builtin _ (by decide +kernel)) entry_typeCall (wpAny_check_type_call_sub hC (oY PySem.F.excBase_ValueError T hC hN Ma
  (λh' kk self=>PySem.W.bind_fn (λb o z=>kk b o (X1 b o z)) self (beq_iff_eq.mp hf)) (λh' kk ht hx hz=>?_) (by show us.length<=sizeLine;rw[← r.length];exact hl)))
 have I2:Inv X JS σ (upd H1 (hp.objs.size+1) (jQ C none (hp.objs.size+1))) ⟨h',g,d,tk,os⟩:=I1.CM (t':=tk) kk (Heap.get?_none_of_le (Nat.le_succ _)) (rk hx)
 have hq:=q (hp.objs.size+1) (I1.qD (Heap.get?_none_of_le (Nat.le_succ _)))
 have r2:Vals (V.ref (hp.objs.size+1)::vs) (Value.ref (hp.objs.size+1)::us):=.cons rfl r
 have hlen:(Value.ref (hp.objs.size+1)::us++[]).length=ps.length:=by
  rw[List.append_nil,← r2.length]
  exact F.len _ _ _ _ hq
 refine wpAny_call (codeAny_mono (F.run _ X.stack _ _ ⟨Value.ref (hp.objs.size+1)::us,[]⟩ (Value.ref (hp.objs.size+1)::us) _ _ E0 (hr.make C us []) (I2.ki.make C us []) (by have:=hb _ (Value.ref (hp.objs.size+1)::us) I2.ir hlen;rwa [List.append_nil] at this) r2 hq) λr s' Mo=>?_)
 cases r with
 | error e =>
  obtain⟨_,_,_,_,_,_,_,_,_,_,_,_,_,z⟩:=Mo
  exact z.elim
 | ok fl =>
  cases fl with
  | ret u =>
   obtain⟨v,H',I3,rv,ev,q3⟩:=I2.after Mo
   subst ev
   exact⟨rv,⟨V.ref (hp.objs.size+1),H',I3,rfl,q3⟩⟩
  | next=>exact False.elim Mo
  | brk=>exact False.elim Mo
  | cont=>exact False.elim Mo
def DJ(K:PySem.W.Frag)(ta tv:TE)(f:Str):TS:=λD σ H=>tv σ H λy H1=>ta σ H1 λx H2=>∃ a C,x=.ref a/\H2 a=some (jQ C none a)/\fS K C/\((PySem.W.clsIn K C).any λcd=>f_ cd.mro)=true/\bQ K C f ∧
 ∀ d,H2 d=none->d≠a->D.nx σ (upd (upd H2 d (.xd [(f,y)])) a (jQ C (some d) a))
theorem yz{o value:Expr}{ta tv:TE}{n:Str}{pos':Pos}(ha:PE X o ta)(hv:PE X value tv)(hs:swapsWith value (some (.Attribute o n pos')) pos.line X.env=pure false):PS X (.Assign [.Attribute o n pos'] value pos) (DJ X.K ta tv n):=by
 intro JS s σ H D I h
 refine plainObj_wpAny_Assign_Attribute (cN (hv JS s σ H _ I h) λu s1 ⟨y,H1,I1,ry,q⟩=>cN (ha JS s1 σ H1 _ I1 q) λov s2 ⟨x,H2,I2,rx,a,C,ex,ea,c,po,na,q2⟩=>?_) hs
 subst ex
 obtain rfl:ov=Value.ref a:=rx
 obtain⟨tt,hx⟩:=(I2.a_ a _ ea).1
 refine yI po c I2.ir hx na.CW λh' tk d e1 e2 e3 e4=>?_
 have hd:H2 d=none:=I2.qD e2
 have nda:d≠a:=λz=>by rw[z,ea] at hd;cases hd
 refine⟨σ,_,?_,q2 d hd nda⟩
 have up:∀ b,b≠a->b≠d->upd (upd H2 d (.xd [(n,y)])) a (jQ C (some d) a) b=H2 b:=λb h1 h2=>by rw[au h1,au h2]
 have nd:∀ b u,s2.heap.get? b=some u->b≠d:=λb u e z=>by rw[z,e2] at e;cases e
 have nH:∀ b u,H2 b=some u->b≠d:=λb u e z=>by rw[z,hd] at e;cases e
 have nE:∀ b u,H2 b=some u->(∀ C dd,u≠jQ C dd a)->b≠a:=λb u e hu z=>by
  rw[z,ea] at e
  exact hu C none (Option.some.inj e).symm
 refine I2.un (t':=tk) ⟨λb u e z _ _=>e4 b u (λw=>by rw[w,ea] at z;cases z) e,λb u e z _ _=>⟨u.slots,e4 b u (λw=>by rw[w,ea] at z;cases z) e⟩,λb u e z _=>?_,λb u e _=>?_,λb xs e=>?_,λb ob u e=>?_,λb ps e=>?_⟩ λb u e=>?_
 ·rw[up b (λw=>by rw[w,ea] at z;cases z) (nd b u e)];exact z
 ·by_cases w:b=a
  ·rw[w];exact⟨_,e1⟩
  ·exact⟨u,e4 b u w e⟩
 ·rw[up b (nE b _ e λ_ _ z=>by cases z) (nH b _ e)];exact e
 ·rw[up b (nE b _ e λ_ _ z=>by cases z) (nH b _ e)];exact e
 ·exact⟨#[],by rw[up b (nE b _ e λ_ _ z=>by cases z) (nH b _ e),e];simp⟩
 ·by_cases w:b=a
  ·subst w
   rw[az] at e
   cases e
   exact rk e1
  ·rw[au w] at e
   by_cases w2:b=d
   ·subst w2
    rw[az] at e
    cases e
    refine⟨_,e3,λg=>?_⟩
    show lq (List.lookup g [(n,y)]) (if g=n then some _ else none)
    rw[List.lookup_cons]
    by_cases z:g=n
    ·rw[if_pos z,show (g==n)=true from by simp[z]];exact ry
    ·rw[if_neg z,show (g==n)=false from by simp[z]];exact True.intro
   ·rw[au w2] at e
    refine(I2.a_ b u e).kP (λc v hc z=>e4 c v ?_ z) (λc z=>?_) λc ys z=>?_
    ·rcases hc with z' | z'
     ·rw[z'];exact w
     ·exact nE c _ z' λ_ _ z=>by cases z
    ·rw[up c (nE c _ z λ_ _ z=>by cases z) (nH c _ z)];exact z
    ·rw[up c (nE c _ z λ_ _ z=>by cases z) (nH c _ z)];exact z
end
end L2
namespace L2
open PySem PySem.Spec PyProof.Rows
section
variable{M:Model}{A:Around}{E:Value->Shared->Prop}{s:Shared}
theorem zt{e:Addr}{o:Obj}{Q:Value->Shared->Prop}(hx:s.heap.get? e=some o)(h:Q o.cls s):wpAny M A (typeOf (.ref e)) Q E s:=by
 unfold typeOf
 exact wpAny_bind (wpAny_loadPart hx (wpAny_pure h))
theorem vz{e:Addr}{o:Obj}{vs:Array Value}{Q:Bool->Shared->Prop}(hx:s.heap.get? e=some o)(hd:o.data=.fields vs)(h:Q false s):wpAny M A (isType (.ref e)) Q E s:=by
 unfold isType loadHead
 refine wpAny_bind (wpAny_loadPart hx (wpAny_pure ?_))
 rw[hd];exact h
end
section
variable{X:Cx}{JS:List (Addr×Obj)}{σ:St}{H:Hp}{s:Shared}
def EK(K:PySem.W.Frag)(E:St->XK)(te:TE):TS:=λD σ H=>te σ H λv H1=>∃ e C dd,v=.ref e/\H1 e=some (jQ C dd e)/\fS K C/\PySem.W.typeIn K (.ref C)=some (.type "type")/\E σ (.ref e) none (upd H1 e (gP C dd e))
theorem sF{exc:Expr}{te:TE}{pos:Pos}{E:St->XK}(O:fg X E)(J4:X.calm=true)(he:PE X exc te):PS X (.Raise (some exc) none pos) (EK X.K E te):=by
 intro JS s σ H D I h
 rw[arm_exec_Raise]
 refine wpAny_bind (wpAny_standAt ?_)
 unfold raiseStmt
 dsimp only [evalOpt,Option.map]
 refine wpAny_bind (wpAny_bind (cN (he JS s σ H _ I h) λu s1 hq=>wpAny_bind (wpAny_standAt (wpAny_pure ?_))))
 obtain⟨v,H1,I1,rv,e,C,dd,ev,hN,c,ht,hE⟩:=hq
 subst ev
 obtain rfl:u=Value.ref e:=rv
 obtain⟨t,hx⟩:=(I1.a_ e _ hN).1
 have X1:=I1.ir
 refine wpAny_bind (wpAny_pure ?_)
 refine wpAny_bind (wpAny_holding ?_)
 unfold excFromValue isExcClass
 refine wpAny_bind (wpAny_bind (vz hx rfl ?_))
 refine wpAny_pure ?_
 refine wpAny_bind ?_
 unfold isInstance
 refine wpAny_bind (zt hx ((PySem.W.looks_mroIn X1 c.mb).here ?_))
 refine wpAny_pure ?_
 dsimp only
 refine wpAny_bind (vz hx rfl ?_)
 unfold raisedInstance
 refine wpAny_bind (wpAny_bind (zt hx (wpAny_bind ((PySem.W.looks_typeIn X1 ht).here ?_))))
 refine wpAny_pure ?_
 unfold setFlight
 refine wpAny_bind (wpAny_bind (wpAny_field hx rfl (x:=.none) rfl ?_))
 refine wpAny_pure ?_
 exact wpAny_raiseNew_none (I1.ok.hd J4) (O.new JS σ H1 s1 e C dd I1 hN hE)
end
end L2
namespace L2
open PySem PySem.Spec PyProof.Rows
inductive PV where
 | bZ | bl (b:Bool) | int (i:Int) | str (x:Str)
 | tup (xs:List PV) | lst (xs:List PV)
 | jo (xs:List PV)
 | obj (C:Addr) (fs:List (Str×PV))
 | exc (C:Addr) (fo:Option (List (Str×PV)))
 | emp
 deriving Inhabited
mutual
inductive Rep (H:Hp):PV->V->Prop where
 | bZ:Rep H .bZ .bZ
 | bl (b:Bool):Rep H (.bl b) (.bl b)
 | int (i:Int):Rep H (.int i) (.int i)
 | str (x:Str):Rep H (.str x) (.str x)
 | tup {a:Addr} {xs:List PV} {vs:List V}:H a=some (.tup vs)->aH H xs vs->Rep H (.tup xs) (.ref a)
 | lst {a:Addr} {xs:List PV} {vs:List V}:H a=some (.lst vs)->aH H xs vs->Rep H (.lst xs) (.ref a)
 | jo {a:Addr} {o:Obj} {xs:List PV} {vs:List V}:H a=some (.pA o (.lst vs))->aH H xs vs->Rep H (.jo xs) (.ref a)
 | obj {a C dx:Addr} {fs:List (Str×PV)} {vs:List (Str×V)}:H a=some (.ins C dx vs)->iA H fs vs->Rep H (.obj C fs) (.ref a)
 | uW {a C:Addr}:H a=some (gP C none a)->Rep H (.exc C none) (.ref a)
 | uH {a C d:Addr} {fs:List (Str×PV)} {vs:List (Str×V)}:H a=some (gP C (some d) a)->H d=some (.xd vs)->iA H fs vs->Rep H (.exc C (some fs)) (.ref a)
 | emp {a:Addr}:H a=some (.dK [])->Rep H .emp (.ref a)
inductive aH (H:Hp):List PV->List V->Prop where
 | nil:aH H [] []
 | cons {p:PV} {v:V} {ps:List PV} {vs:List V}:Rep H p v->aH H ps vs->aH H (p::ps) (v::vs)
inductive iA (H:Hp):List (Str×PV)->List (Str×V)->Prop where
 | nil:iA H [] []
 | cons {n:Str} {p:PV} {v:V} {ps:List (Str×PV)} {vs:List (Str×V)}:Rep H p v->iA H ps vs->iA H ((n,p)::ps) ((n,v)::vs)
end
mutual
theorem Rep.mono{H H':Hp}(s:aV H H'):∀ {p:PV} {v:V},Rep H p v->Rep H' p v
 | _,_,.bZ=>.bZ
 | _,_,.bl b=>.bl b
 | _,_,.int i=>.int i
 | _,_,.str x=>.str x
 | _,_,.tup h r=>.tup (s _ _ h) (r.mono s)
 | _,_,.lst h r=>.lst (s _ _ h) (r.mono s)
 | _,_,.jo h r=>.jo (s _ _ h) (r.mono s)
 | _,_,.obj h r=>.obj (s _ _ h) (r.mono s)
 | _,_,.uW h=>.uW (s _ _ h)
 | _,_,.uH h h2 r=>.uH (s _ _ h) (s _ _ h2) (r.mono s)
 | _,_,.emp h=>.emp (s _ _ h)
theorem aH.mono{H H':Hp}(s:aV H H'):∀ {p:List PV} {v:List V},aH H p v->aH H' p v
 | _,_,.nil=>.nil
 | _,_,.cons h r=>.cons (h.mono s) (r.mono s)
theorem iA.mono{H H':Hp}(s:aV H H'):∀ {p:List (Str×PV)} {v:List (Str×V)},iA H p v->iA H' p v
 | _,_,.nil=>.nil
 | _,_,.cons h r=>.cons (h.mono s) (r.mono s)
end
theorem aH.length{H:Hp}:∀ {p:List PV} {v:List V},aH H p v->p.length=v.length
 | _,_,.nil=>rfl
 | _,_,.cons _ r=>by simp[r.length]
theorem aH.get{H:Hp}:∀ {p:List PV} {v:List V} {i:Nat} {x:PV},aH H p v->p[i]?=some x->∃ u,v[i]?=some u/\Rep H x u
 | _,_,_,_,.nil,e=>by simp at e
 | _,_,0,_,.cons h _,e=>by simp at e;subst e;exact⟨_,rfl,h⟩
 | _,_,i+1,x,.cons _ r,e=>by
  obtain⟨u,h1,h2⟩:=aH.get (i:=i) (x:=x) r (by simpa using e)
  exact⟨u,by simpa using h1,h2⟩
theorem aH.append{H:Hp}:∀ {p q:List PV} {v u:List V},aH H p v->aH H q u->aH H (p++q) (v++u)
 | _,_,_,_,.nil,s=>s
 | _,_,_,_,.cons h r,s=>.cons h (r.append s)
theorem aH.take{H:Hp}:∀ {p:List PV} {v:List V} (n:Nat),aH H p v->aH H (p.take n) (v.take n)
 | _,_,0,_=>.nil
 | _,_,_+1,.nil=>.nil
 | _,_,n+1,.cons h r=>.cons h (r.take n)
theorem aH.drop{H:Hp}:∀ {p:List PV} {v:List V} (n:Nat),aH H p v->aH H (p.drop n) (v.drop n)
 | _,_,0,r=>r
 | _,_,_+1,.nil=>.nil
 | _,_,n+1,.cons _ r=>r.drop n
theorem aH.snoc{H:Hp}{p:List PV}{v:List V}{x:PV}{u:V}(r:aH H p v)(h:Rep H x u):aH H (p++[x]) (v++[u]):=r.append (.cons h .nil)
theorem iA.look{H:Hp}{f:Str}:∀ {p:List (Str×PV)} {v:List (Str×V)} {x:PV},iA H p v->p.lookup f=some x->∃ u,v.lookup f=some u/\Rep H x u
 | _,_,_,.nil,e=>by simp at e
 | (n,_)::_,_,x,.cons h r,e=>by
  rw[List.lookup_cons] at e ⊢
  cases q:f==n with
  | true=>rw[q] at e;cases e;exact⟨_,rfl,h⟩
  | false=>rw[q] at e;exact r.look e
theorem iA.none{H:Hp}{f:Str}:∀ {p:List (Str×PV)} {v:List (Str×V)},iA H p v->p.lookup f=none->v.lookup f=none
 | _,_,.nil,_=>rfl
 | (n,_)::_,_,.cons h r,e=>by
  rw[List.lookup_cons] at e ⊢
  cases q:f==n with
  | true=>rw[q] at e;cases e
  | false=>rw[q] at e;exact r.none e
theorem aH.ints{H:Hp}:∀ {ns:List Int} {v:List V},aH H (ns.map PV.int) v->v=ns.map V.int
 | [],_,.nil=>rfl
 | _::_,_,.cons (.int i) r=>by rw[r.ints];rfl
theorem aH.Jj{H:Hp}:∀ {ns:List Bool} {v:List V},aH H (ns.map PV.bl) v->v=ns.map V.bl
 | [],_,.nil=>rfl
 | _::_,_,.cons (.bl i) r=>by rw[r.Jj];rfl
structure bD (Hs H JV H':Hp):Prop where
 st:aV Hs JV
 al:aV H H'
 sub:aV JV H'
 nw:∀ a o,Hs a=none->H a=some o->JV a=none
theorem bD.refl{Hs H:Hp}(s:aV Hs H):bD Hs H Hs H:=⟨λ_ _ e=>e,λ_ _ e=>e,s,λ_ _ e _=>e⟩
theorem bD.trans{Hs H J2 H1 J5 H2:Hp}(a:bD Hs H J2 H1)(b:bD J2 H1 J5 H2):bD Hs H J5 H2 :=
 ⟨λc o e=>b.st c o (a.st c o e),λc o e=>b.al c o (a.al c o e),b.sub,λc o e q=>b.nw c o (a.nw c o e q) (a.al c o q)⟩
theorem bD.new{Hs H:Hp}{p:Addr}{o:HO}(s:aV Hs H)(n:H p=none):bD Hs H (upd Hs p o) (upd H p o):=by
 have ne:∀ c u,H c=some u->c≠p:=λc u e z=>by rw[z,n] at e;cases e
 refine⟨λc u e=>?_,λc u e=>?_,λc u e=>?_,λc u e q=>?_⟩
 ·rw[au (ne c u (s c u e))];exact e
 ·rw[au (ne c u e)];exact e
 ·by_cases z:c=p
  ·subst z;rw[az] at e ⊢;exact e
  ·rw[au z] at e ⊢;exact s c u e
 ·rw[au (ne c u q)];exact e
inductive SV where
 | sh (p:PV)
 | ow (xs:List PV)
 | bd (a C:Addr) (fs:List (Str×PV))
abbrev af:=List (Option SV)
structure SR (B H₀ Hs H:Hp) (σ:St) (env:af):Prop where
 gr:bD B H₀ Hs H
 len:σ.length=env.length
 sh:∀ (i:Nat) (p:PV),env[i]?=some (some (.sh p))->∃ v,σ[i]?=some (some v)/\Rep Hs p v
 ow:∀ (i:Nat) (xs:List PV),env[i]?=some (some (.ow xs))->∃ a vs,σ[i]?=some (some (.ref a))/\H a=some (.lst vs)/\Hs a=none/\H₀ a=none/\aH Hs xs vs
 sep:∀ (i j:Nat) (xs ys:List PV) (a:Addr),i≠j->env[i]?=some (some (.ow xs))->env[j]?=some (some (.ow ys))->σ[i]?=some (some (.ref a))->σ[j]?≠some (some (.ref a))
 bd:∀ (i:Nat) (a C:Addr) (fs:List (Str×PV)),env[i]?=some (some (.bd a C fs))->∃ dx vs,σ[i]?=some (some (.ref a))/\H a=some (.ins C dx vs)/\Hs a=none/\H₀ a=none/\iA Hs fs vs
 one:∀ (i j:Nat) (a b C D:Addr) (fs gs:List (Str×PV)),env[i]?=some (some (.bd a C fs))->env[j]?=some (some (.bd b D gs))->i=j
theorem SR.grow{B H₀ Hs H JV H':Hp}{σ:St}{env:af}(r:SR B H₀ Hs H σ env)(g:bD Hs H JV H'):SR B H₀ JV H' σ env where
 gr:=r.gr.trans g
 len:=r.len
 sh:=λi p e=>let ⟨v,h1,h2⟩:=r.sh i p e;⟨v,h1,h2.mono g.st⟩
 ow:=λi xs e=>let ⟨a,vs,h1,h2,h3,h4,h5⟩:=r.ow i xs e;⟨a,vs,h1,g.al _ _ h2,g.nw _ _ h3 h2,h4,h5.mono g.st⟩
 sep:=r.sep
 bd:=λi a C fs e=>let ⟨dx,vs,h1,h2,h3,h4,h5⟩:=r.bd i a C fs e;⟨dx,vs,h1,g.al _ _ h2,g.nw _ _ h3 h2,h4,h5.mono g.st⟩
 one:=r.one
abbrev EX:=Addr×Option (List (Str×PV))
abbrev M(α:Type):=Option (Except EX α)
def M.ok{α:Type}(a:α):M α:=some (.ok a)
def M.bind{α β:Type}(x:M α)(f:α->M β):M β:=match x with
 | some (.ok a)=>f a
 | some (.error e)=>some (.error e)
 | none=>none
instance:Monad M where
 pure:=M.ok
 bind:=M.bind
def aw{α:Type}(r:M α)(Q:α->Prop)(E:EX->Prop):Prop:=match r with
 | some (.ok a)=>Q a
 | some (.error e)=>E e
 | none=>False
theorem aw.imp{α:Type}{r:M α}{Q Q':α->Prop}{E E':EX->Prop}(h:aw r Q E)(hq:∀ a,Q a->Q' a)(he:∀ e,E e->E' e):aw r Q' E':=by
 cases r with
 | none=>exact h
 | some x=>cases x with
  | ok a=>exact hq a h
  | error e=>exact he e h
theorem aw.bind{α β:Type}{x:M α}{f:α->M β}{Q:β->Prop}{E:EX->Prop}(h:aw (x.bind f) Q E):aw x (λa=>aw (f a) Q E) E:=by
 cases x with
 | none=>exact h
 | some x=>cases x with
  | ok a=>exact h
  | error e=>exact h
def XW(E:XK)(Hs H:Hp)(x:EX):Prop:=∀ ea JV H',bD Hs H JV H'->Rep JV (.exc x.1 x.2) (.ref ea)->E (.ref ea) none H'
theorem XW.grow{E:XK}{Hs H JV H':Hp}{x:EX}(h:XW E Hs H x)(g:bD Hs H JV H'):XW E JV H' x:=λea J5 H2 g2 r=>h ea J5 H2 (g.trans g2) r
def tE(E:St->XK)(f:af->M PV):TE:=fun σ H Q=>∃ B H₀ Hs env,SR B H₀ Hs H σ env/\aw (f env) (λp=>∀ v JV H',bD Hs H JV H'->Rep JV p v->Q v H') (XW (E σ) Hs H)
theorem PE.imp{X:Cx}{e:Expr}{t t':TE}(h:PE X e t)(i:∀ σ H Q,t' σ H Q->t σ H Q):PE X e t':=λJS s σ H Q I q=>h JS s σ H Q I (i σ H Q q)
theorem vB{E:St->XK}{f:af->M PV}{g:af->PV->M PV}{σ:St}{H:Hp}{Q R:VK}(h:tE E (λenv=>(f env).bind (g env)) σ H Q)
  (k:∀ B H₀ Hs H1 env p v,SR B H₀ Hs H1 σ env->Rep Hs p v->aw (g env p) (λq=>∀ u JV H',bD Hs H1 JV H'->Rep JV q u->Q u H') (XW (E σ) Hs H1)->R v H1):tE E f σ H R:=by
 obtain⟨B,H₀,Hs,env,sr,h⟩:=h
 refine⟨B,H₀,Hs,env,sr,(aw.bind h).imp (λp hp v JV H' g r=>?_) λe he=>he⟩
 exact k B H₀ JV H' env p v (sr.grow g) r (hp.imp (λq hq u J5 H2 g2 r2=>hq u J5 H2 (g.trans g2) r2) λe he=>he.grow g)
theorem vF{E:St->XK}{f g:af->M PV}{op:PV->PV->M PV}{r:R2}{σ:St}{H:Hp}{Q:VK}(h:tE E (λenv=>(f env).bind λp=>(g env).bind λq=>op p q) σ H Q)
  (k:∀ Hs H1 p q v u,aV Hs H1->Rep Hs p v->Rep Hs q u->aw (op p q) (λz=>∀ w JV H',bD Hs H1 JV H'->Rep JV z w->Q w H') (XW (E σ) Hs H1)->r v u H1 Q):GP r (tE E f) (tE E g) σ H Q:=by
 refine vB h λB H₀ Hs H1 env p v sr rp hp=>?_
 refine⟨B,H₀,Hs,env,sr,(aw.bind hp).imp (λq hq u JV H' g ru=>?_) λe he=>he⟩
 exact k JV H' p q v u (sr.grow g).gr.sub (rp.mono g.st) ru (hq.imp (λz hz w J5 H2 g2 r2=>hz w J5 H2 (g.trans g2) r2) λe he=>he.grow g)
theorem Fw{E:St->XK}{f:af->M PV}{op:PV->M PV}{r:V->Hp->VK->Prop}{σ:St}{H:Hp}{Q:VK}(h:tE E (λenv=>(f env).bind op) σ H Q)
  (k:∀ Hs H1 p v,aV Hs H1->Rep Hs p v->aw (op p) (λz=>∀ w JV H',bD Hs H1 JV H'->Rep JV z w->Q w H') (XW (E σ) Hs H1)->r v H1 Q):Jm r (tE E f) σ H Q :=
 vB h λB H₀ Hs H1 env p v sr rp hp=>k Hs H1 p v sr.gr.sub rp hp
end L2
namespace L2
open PySem PySem.Spec PyProof.Rows
def DI(sp:Sp)(KQ:List V)(E:St->XK)(t:TA):TE:=fun σ H Q=>t σ H λvs H1=>sp (vs++KQ) H1 Q (E σ)
def Dt(C:Addr)(m:Str)(sp:Sp)(KQ:List V)(E:St->XK)(ta:TE)(t:TA):TE:=fun σ H Q=>ta σ H λx H1=>∃ a dx fs,x=.ref a/\H1 a=some (.ins C dx fs)/\fs.lookup m=none ∧
 t σ H1 λvs H2=>sp (x::(vs++KQ)) H2 Q (E σ)
def Fe(C:Addr)(sp:Sp)(KQ:List V)(E:St->XK)(t:TA):TE:=fun σ H Q=>t σ H λvs H1=>∀ x dx,H1 x=none->H1 dx=none->dx≠x ->
 sp (.ref x::(vs++KQ)) (upd (upd H1 dx (.own x)) x (.ins C dx [])) (λv H2=>v=.bZ/\Q (.ref x) H2) (E σ)
section
variable{X:Cx}{k:Nat}{f C:Addr}{fd:FuncData}{ps:List Str}{sp:Sp}{KQ:List V}{ds:List Value}{E:St->XK}{x m:Str}{p pos apos:Pos}{e o:Expr}{es:List Expr}{ta:TE}{t:TA}
theorem mT{JS:List (Addr×Obj)}{σ:St}{H:Hp}{s:Shared}{Q:VK}{us:List Value}{vs:List V}(F:aF X.prog X.w X.K X.mg X.base (bG X.prog X.w) k f fd ps sp)(hr:bN k X.A)(hb:Binds X.K fd ps ds)(hd:Vals KQ ds)(hx:fg X E)
  (I:Inv X JS σ H s) (r:Vals vs us) (h:sp (vs++KQ) H Q (E σ)):wpAny (model X.prog X.w) X.A (call (.ref f) us) (EP X JS σ Q) X.xe s:=by
 have r2:Vals (vs++KQ) (us++ds):=r.append hd
 have hl:(us++ds).length=ps.length:=by rw[← r2.length];exact F.len _ _ _ _ h
 refine wpAny_call (codeAny_mono (F.run X.A X.stack s H ⟨us,[]⟩ (us++ds) (vs++KQ) Q (E σ) hr I.ki (hb s us I.ir hl) r2 h) λr s' hq=>?_)
 cases r with
 | error e=>exact hx.pass JS σ H s e s' I hq
 | ok fl =>
  cases fl with
  | ret u=>exact I.after hq
  | next=>exact False.elim hq
  | brk=>exact False.elim hq
  | cont=>exact False.elim hq
theorem Ao(F:aF X.prog X.w X.K X.mg X.base (bG X.prog X.w) k f fd ps sp)(hr:bN k X.A)(hg:Gl X x)(hm:X.mg x=some (.ref f))(hk:PySem.W.keepIn X.K (.ref f)=true)(hb:Binds X.K fd ps ds)(hd:Vals KQ ds)(hx:fg X E)
  (ha:PA X (e::es) t) (KU:(x==("__debug__" : Str))=false:=by decide) (he:starEach (e::es) X.env=(false,eval e X.env)::starEach es X.env:=by rfl) (Kd:(backTo pos (starEach es X.env)).any (·.1)=false:=by rfl) :
  PE X (.Call (.Name x p) (e::es) [] pos) (DI sp KQ E t):=by
 intro JS s σ H Q I h
 refine wpAny_Call_Name_kw (hU I hg hm ?_ KU)
 refine PySem.W.callWith_K (h₀:=X.base) I.ok.mod.CY hk (cN (ha pos JS s σ H _ I h) λus s1 ⟨vs,H1,I1,r,q⟩=>⟨I1.ir,?_⟩) he Kd
 exact mT F hr hb hd hx I1 r q
theorem xA{pl:Sem Bool}(he:PE X o ta)(c:ko X.K C)(hm:Meth X.K C m f)(F:aF X.prog X.w X.K X.mg X.base (bG X.prog X.w) k f fd ps sp)(hr:bN k X.A)(hb:Binds X.K fd ps ds)(hd:Vals KQ ds)(hx:fg X E)
  (ht:eval (.Call (.Attribute o m apos) [] [] pos) X.env=(do
   let ov ← eval o X.env
   standAt apos.atName
   let (f,first) ← holding [ov] (getMethod ov m pl)
   callWith pos f first (backTo pos (starEach [] X.env)) (backToKw pos (keywordEach [] X.env))):=by rfl) :
  PE X (.Call (.Attribute o m apos) [] [] pos) (Dt C m sp KQ E ta GH):=by
 intro JS s σ H Q I h
 refine PySem.W.methodCall_KW (pl:=pl) (cN (he JS s σ H _ I h) λu s1 ⟨x,H1,I1,rx,a,dx,fs,ex,ea,l,q⟩=>?_) ht
 subst ex
 obtain rfl:u=Value.ref a:=rx
 refine ke I1 ea c hm l ?_
 exact PySem.W.callWith_K0 (first:=[.ref a]) I1.ir hm.kp (mT (us:=[.ref a]) (vs:=[.ref a]) F hr hb hd hx I1 (.cons rfl .nil) q)
theorem wk{JS:List (Addr×Obj)}{σ:St}{H:Hp}{s:Shared}{Q:VK}{us:List Value}{vs:List V}(M:Mk X.K C f)(F:aF X.prog X.w X.K X.mg X.base (bG X.prog X.w) k f fd ps sp)(hr:bN (k+1) X.A)(hb:Binds X.K fd ps ds)(hd:Vals KQ ds)
  (hx:fg X E) (I:Inv X JS σ H s) (r:Vals vs us)
  (h:∀ x dx,H x=none->H dx=none->dx≠x->sp (.ref x::(vs++KQ)) (upd (upd H dx (.own x)) x (.ins C dx [])) (λv H2=>v=.bZ/\Q (.ref x) H2) (E σ)) :
  wpAny (model X.prog X.w) X.A (call (.ref C) us) (EP X JS σ Q) X.xe s:=by
 have hq:=h (s.heap.objs.size+1) s.heap.objs.size (I.a_.fresh (Nat.le_succ _)) (I.a_.fresh (Nat.le_refl _)) (Nat.ne_of_lt (Nat.lt_succ_self _))
 have I2:=Inv.made (C:=C) I
 have r2:Vals (V.ref (s.heap.objs.size+1)::(vs++KQ)) (Value.ref (s.heap.objs.size+1)::(us++ds)):=.cons rfl (r.append hd)
 have hl:(Value.ref (s.heap.objs.size+1)::us++ds).length=ps.length:=by
  have e:=r2.length
  rw[F.len _ _ _ _ hq] at e
  exact e.symm
 refine wpAny_call (Aj (f:=f) I.ir M.makes M.init (beq_iff_eq.mp M.fn) (codeAny_mono (F.run _ X.stack _ _ ⟨Value.ref (s.heap.objs.size+1)::us,[]⟩ (Value.ref (s.heap.objs.size+1)::(us++ds)) _ _ (E σ) (hr.make C us [])
  (I2.ki.make C us []) (hb _ (Value.ref (s.heap.objs.size+1)::us) I2.ir hl) r2 hq) λr s' Mo=>?_))
 cases r with
 | error e=>exact hx.pass JS σ _ _ e s' I2 Mo
 | ok fl =>
  cases fl with
  | ret u =>
   obtain⟨v,H',I3,rv,ev,q3⟩:=I2.after Mo
   subst ev
   exact⟨rv,⟨V.ref (s.heap.objs.size+1),H',I3,rfl,q3⟩⟩
  | next=>exact False.elim Mo
  | brk=>exact False.elim Mo
  | cont=>exact False.elim Mo
theorem xR(M:Mk X.K C f)(F:aF X.prog X.w X.K X.mg X.base (bG X.prog X.w) k f fd ps sp)(hr:bN (k+1) X.A)(hg:Gl X x)(hm:X.mg x=some (.ref C))(hb:Binds X.K fd ps ds)(hd:Vals KQ ds)(hx:fg X E)
  (ha:PA X (e::es) t) (KU:(x==("__debug__" : Str))=false:=by decide) (he:starEach (e::es) X.env=(false,eval e X.env)::starEach es X.env:=by rfl) (Kd:(backTo pos (starEach es X.env)).any (·.1)=false:=by rfl) :
  PE X (.Call (.Name x p) (e::es) [] pos) (Fe C sp KQ E t):=by
 intro JS s σ H Q I h
 refine wpAny_Call_Name_kw (hU I hg hm ?_ KU)
 refine PySem.W.callWith_K (h₀:=X.base) I.ok.mod.CY M.kp (cN (ha pos JS s σ H _ I h) λus s1 ⟨vs,H1,I1,r,q⟩=>⟨I1.ir,?_⟩) he Kd
 exact wk M F hr hb hd hx I1 r q
end
end L2
namespace L2
open PySem PySem.Spec PyProof.Rows
abbrev cI(Hs H:Hp)(Q:VK):PV->Prop:=λz=>∀ w JV H',bD Hs H JV H'->Rep JV z w->Q w H'
theorem cI.flat{Hs H:Hp}{Q:VK}{p:PV}{v:V}(h:cI Hs H Q p)(s:aV Hs H)(r:Rep Hs p v):Q v H:=h v Hs H (.refl s) r
theorem cI.tup{Hs H:Hp}{Q:VK}{xs:List PV}{vs:List V}(h:cI Hs H Q (.tup xs))(s:aV Hs H)(r:aH Hs xs vs):∀ p,H p=none->Q (.ref p) (upd H p (.tup vs)) :=
 λp n=>h _ (upd Hs p (.tup vs)) _ (bD.new s n) (.tup az (r.mono (bD.new s n).st))
theorem cI.lst{Hs H:Hp}{Q:VK}{xs:List PV}{vs:List V}(h:cI Hs H Q (.lst xs))(s:aV Hs H)(r:aH Hs xs vs):∀ p,H p=none->Q (.ref p) (upd H p (.lst vs)) :=
 λp n=>h _ (upd Hs p (.lst vs)) _ (bD.new s n) (.lst az (r.mono (bD.new s n).st))
namespace HT
theorem Ag{prog:Program}{w:World}{A:Around}{E:Value->Shared->Prop}{s:Shared}{t b:Addr}{ws:List Value}{Q:Value->Shared->Prop}(ht:IsTup s.heap t #[])(hb:IsTup s.heap b ws.toArray)
  (h1:Q (.ref b) s):wpAny (model prog w) A (binaryOp .Add (.ref t) (.ref b)) Q E s:=by
 obtain⟨⟨cls,dd,data,sl⟩,ho,hc,n,hd⟩:=id ht
 obtain⟨⟨cls2,M_,data2,sl2⟩,Mb,Nh,n2,hd2⟩:=id hb
 simp only at hc hd Nh hd2
 subst hc hd Nh hd2
 exact concat_meets ⟨_,ho,rfl⟩ ⟨_,Mb,rfl⟩ noFill_tuple_add seq_tuple_add PySem.F.slot_tuple_add PySem.F.entry_tuple_add (PySem.F.args_tuple_add_2 _ _)
   (tuple_addW0 t b #[] ws.toArray n n2 dd M_ sl sl2 rfl) ⟨ho,Mb,h1⟩
end HT
def zk(K:PySem.W.Frag):R2:=λx y H Q=>∃ a b ys,x=.ref a/\y=.ref b/\fQ K H a []/\fQ K H b ys/\Q (.ref b) H
theorem zw{X:Cx}:gp X (binaryOp .Add) (zk X.K):=by
 intro JS s σ H x y v u Q I rx ry h
 obtain⟨a,b,ys,rfl,rfl,ha,hb,q1⟩:=h
 cases rx
 cases ry
 obtain⟨JU,r1,p1,_⟩:=I.tuple ha
 obtain⟨Lw,r2,p2,_⟩:=I.tuple hb
 have e:JU=[]:=r1.kO.mpr rfl
 subst e
 exact HT.Ag p1 p2 ⟨.ref b,H,I,rfl,q1⟩
def cO{α:Type}(c:Prop)[Decidable c](x:M α):M α:=if c then x else none
theorem aw.cO{α:Type}{c:Prop}[Decidable c]{x:M α}{Q:α->Prop}{E:EX->Prop}(h:aw (L2.cO c x) Q E):c/\aw x Q E:=by
 unfold L2.cO at h
 by_cases hc:c
 ·rw[if_pos hc] at h;exact⟨hc,h⟩
 ·rw[if_neg hc] at h;exact h.elim
def eD(o:Option PV):M PV:=match o with
 | some x=>M.ok x
 | none=>none
theorem aw.opt{o:Option PV}{Q:PV->Prop}{E:EX->Prop}(h:aw (eD o) Q E):∃ x,o=some x/\Q x:=by
 cases o with
 | none=>exact h.elim
 | some x=>exact⟨x,rfl,h⟩
section
variable{X:Cx}{E:St->XK}{a b c e:Expr}{pos:Pos}{f g h:af->M PV}
def ae(i:Nat)(env:af):M PV:=match env[i]? with
 | some (some (.sh p))=>M.ok p
 | _=>none
theorem E7{i:Nat}{x:Str}(hN:X.N[i]?=some x)(hv:A3 X.env.scope x)(hd:(x==("__debug__" : Str))=false:=by decide)(Lh:(x==("__classdict__" : Str))=false:=by decide):PE X (.Name x pos) (tE E (ae i)):=by
 refine(nR hN hv hd Lh).imp fun σ H Q q=>?_
 obtain⟨B,H₀,Hs,env,sr,q⟩:=q
 unfold ae at q
 split at q
 ·rename_i p e
  obtain⟨v,h1,h2⟩:=sr.sh i p e
  exact⟨v,h1,cI.flat q sr.gr.sub h2⟩
 ·exact q.elim
theorem k8{p:PV}{v:V}(he:PE X e (tC v))(r:∀ H,Rep H p v):PE X e (tE E λ_=>M.ok p):=by
 refine he.imp fun σ H Q q=>?_
 obtain⟨B,H₀,Hs,env,sr,q⟩:=q
 exact cI.flat q sr.gr.sub (r Hs)
theorem zJ{i:Int}{j:Nat}:PE X (.Constant (.int i) j pos) (tE E λ_=>M.ok (.int i)):=k8 DT λ_=>.int i
theorem GB{i:Bool}{j:Nat}:PE X (.Constant (.bool i) j pos) (tE E λ_=>M.ok (.bl i)):=k8 FG λ_=>.bl i
theorem Dk{j:Nat}:PE X (.Constant .none j pos) (tE E λ_=>M.ok .bZ):=k8 DF λ_=>.bZ
theorem Eo{i:Str}{j:Nat}:PE X (.Constant (.str i) j pos) (tE E λ_=>M.ok (.str i)):=k8 DH λ_=>.str i
def ai(op:PV->PV->M PV)(f g:af->M PV):af->M PV:=λenv=>(f env).bind λp=>(g env).bind λq=>op p q
def j6(E:St->XK)(r:R2)(op:PV->PV->M PV):Prop:=∀ (σ:St) (Hs H:Hp) (p q:PV) (v u:V) (Q:VK),aV Hs H->Rep Hs p v->Rep Hs q u->aw (op p q) (cI Hs H Q) (XW (E σ) Hs H)->r v u H Q
theorem lK{op:Operator}{r:R2}{o:PV->PV->M PV}(ho:gp X (binaryOp op) r)(hv:j6 E r o)(ha:PE X a (tE E f))(hb:PE X b (tE E g)):PE X (.BinOp a op b pos) (tE E (ai o f g)) :=
 (FD ho ha hb).imp fun σ H Q q=>vF q λHs H1 p q v u s rp rq h=>hv σ Hs H1 p q v u Q s rp rq h
theorem fD{op:CmpOp}{r:R2}{o:PV->PV->M PV}(ho:gp X (compareOp op) r)(hv:j6 E r o)(ha:PE X a (tE E f))(hb:PE X b (tE E g))(hm:behindInMarks op b=false):PE X (.Compare a [op] [b] pos) (tE E (ai o f g)) :=
 (Bk ho ha hb hm).imp fun σ H Q q=>vF q λHs H1 p q v u s rp rq h=>hv σ Hs H1 p q v u Q s rp rq h
def cD:PV->PV->M PV
 | .int i,.int j=>M.ok (.int (i+j))
 | .str x,.str y=>cO (x.length+y.length<=sizeLine) (M.ok (.str (x++y)))
 | .tup xs,.tup ys=>cO (xs.length+ys.length<=sizeLine) (M.ok (.tup (xs++ys)))
 | .lst xs,.lst ys=>cO (xs.length+ys.length<=sizeLine) (M.ok (.lst (xs++ys)))
 | _,_=>none
def CO(K:PySem.W.Frag):R2:=λx y H Q=>(∃ i j,x=.int i/\y=.int j/\Q (.int (i+j)) H)\/(∃ i j,x=.str i/\y=.str j/\i.length+j.length<=sizeLine/\Q (.str (i++j)) H)\/Co K x y H Q\/Gw x y H Q\/zk K x y H Q
theorem Bf:gp X (binaryOp .Add) (CO X.K):=gp.or E_ (gp.or ue (gp.or AZ (gp.or Ee zw)))
theorem Dp{K:PySem.W.Frag}:j6 E (CO K) cD:=by
 intro σ Hs H p q v u Q s rp rq h
 cases rp with
 | int i=>cases rq with
  | int j=>exact .inl ⟨i,j,rfl,rfl,cI.flat h s (.int _)⟩
  | _=>exact h.elim
 | str i=>cases rq with
  | str j =>
   obtain⟨hz,h⟩:=aw.cO h
   exact .inr (.inl ⟨i,j,rfl,rfl,hz,cI.flat h s (.str _)⟩)
  | _=>exact h.elim
 | @tup a xs vs ha hx=>cases rq with
  | @tup b ys us hb hy =>
   obtain⟨hz,h⟩:=aw.cO h
   cases hx with
   | nil=>exact .inr (.inr (.inr (.inr ⟨a,b,us,rfl,rfl,fQ.of (s _ _ ha),fQ.of (s _ _ hb),cI.flat h s (.tup hb hy)⟩)))
   | cons M8 Lr =>
    have hx:=aH.cons M8 Lr
    refine .inr (.inr (.inl ⟨a,b,_,us,rfl,rfl,fQ.of (s _ _ ha),fQ.of (s _ _ hb),(λz=>nomatch z),by rw[← hx.length,← hy.length];exact hz,λz=>?_,λz=>cI.tup h s (hx.append hy)⟩))
    have e:ys=[]:=by cases hy with | nil=>rfl | cons _ _=>cases z
    subst e
    rw[List.append_nil] at h
    exact cI.flat h s (.tup ha hx)
  | _=>exact h.elim
 | @lst a xs vs ha hx=>cases rq with
  | @lst b ys us hb hy =>
   obtain⟨hz,h⟩:=aw.cO h
   exact .inr (.inr (.inr (.inl ⟨a,b,vs,us,rfl,rfl,s _ _ ha,s _ _ hb,by rw[← hx.length,← hy.length];exact hz,cI.lst h s (hx.append hy)⟩)))
  | _=>exact h.elim
 | _=>exact h.elim
def uS(c:Int->Int->Bool)(o:Int->Int->Int):PV->PV->M PV
 | .int i,.int j=>cO (c i j=true) (M.ok (.int (o i j)))
 | _,_=>none
theorem ua{C:Int->Int->Prop}{c:Int->Int->Bool}{o:Int->Int->Int}(hc:∀ i j,c i j=true->C i j):j6 E (rI C λi j=>.int (o i j)) (uS c o):=by
 intro σ Hs H p q v u Q s rp rq h
 cases rp with
 | int i=>cases rq with
  | int j =>
   obtain⟨hz,h⟩:=aw.cO h
   exact⟨i,j,rfl,rfl,hc i j hz,cI.flat h s (.int _)⟩
  | _=>exact h.elim
 | _=>exact h.elim
def iK:PV->PV->M PV
 | .int i,.int j=>M.ok (.int (i-j))
 | _,_=>none
theorem C1:j6 E (vV λi j=>.int (i-j)) iK:=by
 intro σ Hs H p q v u Q s rp rq h
 cases rp with
 | int i=>cases rq with
  | int j=>exact⟨i,j,rfl,rfl,cI.flat h s (.int _)⟩
  | _=>exact h.elim
 | _=>exact h.elim
def yi(o:Int->Int->Bool):PV->PV->M PV
 | .int i,.int j=>M.ok (.bl (o i j))
 | _,_=>none
theorem rD{o:Int->Int->Bool}:j6 E (vV λi j=>.bl (o i j)) (yi o):=by
 intro σ Hs H p q v u Q s rp rq h
 cases rp with
 | int i=>cases rq with
  | int j=>exact⟨i,j,rfl,rfl,cI.flat h s (.bl _)⟩
  | _=>exact h.elim
 | _=>exact h.elim
def br:PV->PV->M PV
 | .tup xs,.int i=>eD (rR xs i)
 | .lst xs,.int i=>eD (rR xs i)
 | .jo xs,.int i=>eD (rR xs i)
 | .str z,.int i=>cO (z.length<=sizeLine) (eD ((rR z.cps.toList i).map λc=>.str ⟨#[c]⟩))
 | _,_=>none
theorem aH.rR{H:Hp}{xs:List PV}{vs:List V}{i:Int}{x:PV}(r:aH H xs vs)(e:L2.rR xs i=some x):∃ v,L2.rR vs i=some v/\Rep H x v:=by
 unfold L2.rR at e ⊢
 rw[← r.length]
 obtain⟨j,h1,h2⟩:=Option.bind_eq_some_iff.mp e
 obtain⟨v,h3,h4⟩:=r.get h2
 exact⟨v,by rw[h1];exact h3,h4⟩
theorem D4{K:PySem.W.Frag}:j6 E (Jg K) br:=by
 intro σ Hs H p q v u Q s rp rq h
 cases rp with
 | @tup a xs vs ha hx=>cases rq with
  | int i =>
   obtain⟨x,ex,h⟩:=aw.opt h
   obtain⟨v,h1,h2⟩:=hx.rR ex
   exact .inr (.inl ⟨a,vs,i,v,rfl,rfl,fQ.of (s _ _ ha),h1,cI.flat h s h2⟩)
  | _=>exact h.elim
 | @lst a xs vs ha hx=>cases rq with
  | int i =>
   obtain⟨x,ex,h⟩:=aw.opt h
   obtain⟨v,h1,h2⟩:=hx.rR ex
   exact .inl ⟨a,vs,i,v,rfl,rfl,ij.of (s _ _ ha),h1,cI.flat h s h2⟩
  | _=>exact h.elim
 | @jo a o xs vs ha hx=>cases rq with
  | int i =>
   obtain⟨x,ex,h⟩:=aw.opt h
   obtain⟨v,h1,h2⟩:=hx.rR ex
   exact .inl ⟨a,vs,i,v,rfl,rfl,.inl (.inr ⟨o,s _ _ ha⟩),h1,cI.flat h s h2⟩
  | _=>exact h.elim
 | str z=>cases rq with
  | int i =>
   obtain⟨hz,h⟩:=aw.cO h
   obtain⟨x,ex,h⟩:=aw.opt h
   obtain⟨c,ec,rfl⟩:=Option.map_eq_some_iff.mp ex
   exact .inr (.inr ⟨z,i,c,rfl,rfl,hz,ec,cI.flat h s (.str _)⟩)
  | _=>exact h.elim
 | _=>exact h.elim
theorem Ef(ha:PE X a (tE E f))(hb:PE X b (tE E g))(hs:qH b):PE X (.Subscript a b pos) (tE E (ai br f g)) :=
 (FW Ex ha hb hs).imp fun σ H Q q=>vF q λHs H1 p q v u s rp rq h=>D4 σ Hs H1 p q v u Q s rp rq h
end
end L2
namespace L2
open PySem PySem.Spec PyProof.Rows
def tG{α:Type}(E:St->XK)(f:af->M α)(K:Hp->Hp->α->Prop):St->Hp->Prop:=fun σ H=>∃ B H₀ Hs env,SR B H₀ Hs H σ env/\aw (f env) (K Hs H) (XW (E σ) Hs H)
def KG{α:Type}(K:Hp->Hp->α->Prop):Prop:=∀ Hs H JV H' b,K Hs H b->bD Hs H JV H'->K JV H' b
abbrev KB(Q:Bool->Hp->Prop):Hp->Hp->Bool->Prop:=λHs H k=>∀ JV H',bD Hs H JV H'->Q k H'
abbrev jP(Q:VK):Hp->Hp->PV->Prop:=λHs H p=>cI Hs H Q p
abbrev KL(Q:List V->Hp->Prop):Hp->Hp->List PV->Prop:=λHs H ps=>∀ vs JV H',bD Hs H JV H'->aH JV ps vs->Q vs H'
theorem KB.g{Q:Bool->Hp->Prop}:KG (KB Q):=λHs H JV H' b k g J5 H2 g2=>k J5 H2 (g.trans g2)
theorem jP.g{Q:VK}:KG (jP Q):=λHs H JV H' b k g w J5 H2 g2 r=>k w J5 H2 (g.trans g2) r
theorem KL.g{Q:List V->Hp->Prop}:KG (KL Q):=λHs H JV H' b k g w J5 H2 g2 r=>k w J5 H2 (g.trans g2) r
def tT(E:St->XK)(f:af->M Bool):TT:=fun σ H Q=>tG E f (KB Q) σ H
def tL(E:St->XK)(f:af->M (List PV)):TA:=fun σ H Q=>tG E f (KL Q) σ H
theorem PT.imp{X:Cx}{e:Expr}{t t':TT}(h:PT X e t)(i:∀ σ H Q,t' σ H Q->t σ H Q):PT X e t':=λJS s σ H Q I q=>h JS s σ H Q I (i σ H Q q)
theorem PW.imp{X:Cx}{e:Expr}{t t':TT}(h:PW X e t)(i:∀ σ H Q,t' σ H Q->t σ H Q):PW X e t':=λw JS s σ H Q I q=>h w JS s σ H Q I (i σ H Q q)
theorem PA.imp{X:Cx}{e:List Expr}{t t':TA}(h:PA X e t)(i:∀ σ H Q,t' σ H Q->t σ H Q):PA X e t':=λw JS s σ H Q I q=>h w JS s σ H Q I (i σ H Q q)
section
variable{β:Type}{E:St->XK}{K:Hp->Hp->β->Prop}{σ:St}{H:Hp}
theorem bT{f:af->M PV}{g:af->PV->M β}{R:VK}(kg:KG K)(h:tG E (λenv=>(f env).bind (g env)) K σ H)
  (k:∀ B H₀ Hs H1 env p v,SR B H₀ Hs H1 σ env->Rep Hs p v->aw (g env p) (K Hs H1) (XW (E σ) Hs H1)->R v H1):tE E f σ H R:=by
 obtain⟨B,H₀,Hs,env,sr,h⟩:=h
 refine⟨B,H₀,Hs,env,sr,(aw.bind h).imp (λp hp v JV H' g r=>?_) λe he=>he⟩
 exact k B H₀ JV H' env p v (sr.grow g) r (hp.imp (λq hq=>kg _ _ _ _ q hq g) λe he=>he.grow g)
theorem tf{f:af->M Bool}{g:af->Bool->M β}{R:Bool->Hp->Prop}(kg:KG K)(h:tG E (λenv=>(f env).bind (g env)) K σ H)
  (k:∀ B H₀ Hs H1 env p,SR B H₀ Hs H1 σ env->aw (g env p) (K Hs H1) (XW (E σ) Hs H1)->R p H1):tT E f σ H R:=by
 obtain⟨B,H₀,Hs,env,sr,h⟩:=h
 refine⟨B,H₀,Hs,env,sr,(aw.bind h).imp (λp hp JV H' g=>?_) λe he=>he⟩
 exact k B H₀ JV H' env p (sr.grow g) (hp.imp (λq hq=>kg _ _ _ _ q hq g) λe he=>he.grow g)
theorem eh{f:af->M (List PV)}{g:af->List PV->M β}{R:List V->Hp->Prop}(kg:KG K)(h:tG E (λenv=>(f env).bind (g env)) K σ H)
  (k:∀ B H₀ Hs H1 env p v,SR B H₀ Hs H1 σ env->aH Hs p v->aw (g env p) (K Hs H1) (XW (E σ) Hs H1)->R v H1):tL E f σ H R:=by
 obtain⟨B,H₀,Hs,env,sr,h⟩:=h
 refine⟨B,H₀,Hs,env,sr,(aw.bind h).imp (λp hp v JV H' g r=>?_) λe he=>he⟩
 exact k B H₀ JV H' env p v (sr.grow g) r (hp.imp (λq hq=>kg _ _ _ _ q hq g) λe he=>he.grow g)
end
def uz:PV->M Bool
 | .bl b=>M.ok b
 | _=>none
def cf(f:af->M PV):af->M Bool:=λenv=>(f env).bind uz
theorem aw.As{p:PV}{Q:Bool->Prop}{E:EX->Prop}(h:aw (uz p) Q E):∃ b,p=.bl b/\Q b:=by
 cases p with
 | bl b=>exact⟨b,rfl,h⟩
 | _=>exact h.elim
section
variable{X:Cx}{E:St->XK}{a b c e:Expr}{pos:Pos}{f g h:af->M PV}{u v:af->M Bool}{rest:List Expr}
theorem tQ{σ:St}{H:Hp}{Q:Bool->Hp->Prop}(q:tT E (cf f) σ H Q):tB (tE E f) σ H Q:=by
 refine bT KB.g q λB H₀ Hs H1 env p v sr rp hp=>?_
 obtain⟨k,rfl,hp⟩:=aw.As hp
 cases rp
 exact⟨k,rfl,hp Hs H1 (.refl sr.gr.sub)⟩
theorem oI(he:PE X e (tE E f))(hw:∀ whole,isTrue e X.env whole=(do let v ← whole;standAt e.pos;holding [v] (truthy v)):=by intro _;rfl):PT X e (tT E (cf f)) :=
 (E8 he hw).imp fun σ H Q q=>tQ q
theorem fw{op:CmpOp}{r:R2}{o:PV->PV->M PV}(ho:gp X (compareOp op) r)(hv:j6 E r o)(ha:PE X a (tE E f))(hb:PE X b (tE E g))(hm:behindInMarks op b=false):PT X (.Compare a [op] [b] pos) (tT E (cf (ai o f g))):=by
 refine(Bt ho ha hb hm).imp fun σ H Q q=>?_
 have q':=tQ q
 exact vF q' λHs H1 p q v u s rp rq h=>hv σ Hs H1 p q v u _ s rp rq h
def gf(u:af->M Bool):af->M Bool:=λenv=>(u env).bind λb=>M.ok (!b)
def H0(u v:af->M Bool):af->M Bool:=λenv=>(u env).bind λb=>if b=true then v env else M.ok false
def qL(u v:af->M Bool):af->M Bool:=λenv=>(u env).bind λb=>if b=true then M.ok true else v env
theorem D9(ha:PT X a (tT E u)):PT X (.UnaryOp .Not a pos) (tT E (gf u)) :=
 (El ha).imp fun σ H Q q=>tf KB.g q λB H₀ Hs H1 env p sr hp=>hp Hs H1 (.refl sr.gr.sub)
theorem fz(ha:PT X a (tT E u)):PW X (.BoolOp .Or [a] pos) (tT E u):=pw_or1 ha
theorem fj(ha:PT X a (tT E u))(hb:PW X (.BoolOp .Or (b::rest) pos) (tT E v)):PW X (.BoolOp .Or (a::b::rest) pos) (tT E (qL u v)):=by
 refine(pw_or ha hb).imp fun σ H Q q=>tf KB.g q λB H₀ Hs H1 env p sr hp=>?_
 cases p with
 | true=>exact hp Hs H1 (.refl sr.gr.sub)
 | false=>exact⟨B,H₀,Hs,env,sr,hp⟩
def B5(f:af->M PV):af->M PV:=λenv=>(f env).bind λp=>(uz p).bind λb=>M.ok (.bl (!b))
def pN(f g:af->M PV):af->M PV:=λenv=>(f env).bind λp=>(uz p).bind λb=>if b=true then g env else M.ok (.bl false)
def Js(f g:af->M PV):af->M PV:=λenv=>(f env).bind λp=>(uz p).bind λb=>if b=true then M.ok (.bl true) else g env
theorem Ad(ha:PE X a (tE E f)):PE X (.UnaryOp .Not a pos) (tE E (B5 f)):=by
 refine(C4 ha).imp fun σ H Q q=>bT (K:=jP Q) jP.g q λB H₀ Hs H1 env p v sr rp hp=>?_
 obtain⟨k,rfl,hp⟩:=aw.As (aw.bind hp)
 cases rp
 exact⟨k,rfl,cI.flat hp sr.gr.sub (.bl _)⟩
theorem je(ha:PE X a (tE E f))(hb:PE X (.BoolOp .And (b::rest) pos) (tE E g)):PE X (.BoolOp .And (a::b::rest) pos) (tE E (pN f g)):=by
 refine(EB ha hb).imp fun σ H Q q=>bT (K:=jP Q) jP.g q λB H₀ Hs H1 env p v sr rp hp=>?_
 obtain⟨k,rfl,hp⟩:=aw.As (aw.bind hp)
 cases rp
 refine⟨k,rfl,?_⟩
 cases k with
 | true=>exact⟨B,H₀,Hs,env,sr,hp⟩
 | false=>exact cI.flat hp sr.gr.sub (.bl _)
def GA(u:af->M Bool)(f g:af->M PV):af->M PV:=λenv=>(u env).bind λb=>if b=true then f env else g env
def ar:af->M (List PV):=λ_=>M.ok []
def aa(f:af->M PV)(fs:af->M (List PV)):af->M (List PV):=λenv=>(f env).bind λp=>(fs env).bind λps=>M.ok (p::ps)
variable{fs:af->M (List PV)}{es:List Expr}
theorem zE:PA X [] (tL E ar):=by
 refine lE.imp fun σ H Q q=>?_
 obtain⟨B,H₀,Hs,env,sr,q⟩:=q
 exact q [] Hs H (.refl sr.gr.sub) .nil
theorem vj(ha:PE X e (tE E f))(hr:PA X es (tL E fs))(hs:starEach (e::es) X.env=(false,eval e X.env)::starEach es X.env:=by rfl):PA X (e::es) (tL E (aa f fs)):=by
 refine(e7 ha hr hs).imp fun σ H Q q=>bT (K:=KL Q) KL.g q λB H₀ Hs H1 env p v sr rp hp=>?_
 refine⟨B,H₀,Hs,env,sr,(aw.bind hp).imp (λps MN vs JV H' g r=>?_) λe he=>he⟩
 exact MN (v::vs) JV H' g (.cons (rp.mono g.st) r)
def i9(fs:af->M (List PV)):af->M PV:=λenv=>(fs env).bind λps=>cO (ps.length<=sizeLine) (M.ok (.tup ps))
def i8(fs:af->M (List PV)):af->M PV:=λenv=>(fs env).bind λps=>cO (ps.length<=sizeLine) (M.ok (.lst ps))
theorem Ep{x1:Nat}(hr:PA X es (tL E fs)):PE X (.Tuple es x1 pos) (tE E (i9 fs)):=by
 refine(yF hr).imp fun σ H Q q=>eh (K:=jP Q) jP.g q λB H₀ Hs H1 env p v sr rp hp=>?_
 obtain⟨hz,hp⟩:=aw.cO hp
 exact⟨by rw[← rp.length];exact hz,cI.tup hp sr.gr.sub rp⟩
theorem zC(hr:PA X es (tL E fs)):PE X (.List es pos) (tE E (i8 fs)):=by
 refine(yC hr).imp fun σ H Q q=>eh (K:=jP Q) jP.g q λB H₀ Hs H1 env p v sr rp hp=>?_
 obtain⟨hz,hp⟩:=aw.cO hp
 exact⟨by rw[← rp.length];exact hz,cI.lst hp sr.gr.sub rp⟩
def ah(o:List PV->M PV)(fs:af->M (List PV)):af->M PV:=λenv=>(fs env).bind o
def jV(E:St->XK)(r:List V->Hp->VK->Prop)(o:List PV->M PV):Prop:=∀ (σ:St) (Hs H:Hp) (ps:List PV) (vs:List V) (Q:VK),aV Hs H->aH Hs ps vs->aw (o ps) (cI Hs H Q) (XW (E σ) Hs H)->r vs H Q
theorem xY{r:List V->Hp->VK->Prop}{o:List PV->M PV}{σ:St}{H:Hp}{Q:VK}(hv:jV E r o)(q:tE E (ah o fs) σ H Q):HP r (tL E fs) σ H Q :=
 eh (K:=jP Q) jP.g q λB H₀ Hs H1 env p v sr rp hp=>hv σ Hs H1 p v Q sr.gr.sub rp hp
variable{x:Str}{p:Pos}{id T:String}
theorem kU{r:List V->Hp->VK->Prop}{o:List PV->M PV}(hc:cJ X (.builtin id) r)(hv:jV E r o)(hg:Gl X x)(hm:X.mg x=none)(hx:bootBuiltins x=some (.builtin id))(ha:PA X (e::es) (tL E fs))(hn:x ≠ "__name__" := by decide)(KU:(x==("__debug__" : Str))=false:=by decide)
  (he:starEach (e::es) X.env=(false,eval e X.env)::starEach es X.env:=by rfl) (Kd:(backTo pos (starEach es X.env)).any (·.1)=false:=by rfl):PE X (.Call (.Name x p) (e::es) [] pos) (tE E (ah o fs)) :=
 (kF hc hg hm hx ha hn KU he Kd).imp fun σ H Q q=>xY hv q
theorem lu{r:List V->Hp->VK->Prop}{o:List PV->M PV}(hc:cJ X (.type T) r)(hv:jV E r o)(hg:Gl X x)(hm:X.mg x=none)(hx:bootBuiltins x=some (.type T))(ha:PA X (e::es) (tL E fs))(hn:x ≠ "__name__" := by decide)(KU:(x==("__debug__" : Str))=false:=by decide)
  (he:starEach (e::es) X.env=(false,eval e X.env)::starEach es X.env:=by rfl) (Kd:(backTo pos (starEach es X.env)).any (·.1)=false:=by rfl):PE X (.Call (.Name x p) (e::es) [] pos) (tE E (ah o fs)) :=
 (w8 hc hg hm hx ha hn KU he Kd).imp fun σ H Q q=>xY hv q
end
end L2
namespace L2
open PySem PySem.Spec PyProof.Rows
section
variable{E:St->XK}
def bO:PV->Option (List PV)
 | .tup xs=>some xs
 | .lst xs=>some xs
 | .jo xs=>some xs
 | _=>none
theorem zf{K:PySem.W.Frag}{Hs H:Hp}{p:PV}{v:V}{xs:List PV}(s:aV Hs H)(r:Rep Hs p v)(e:bO p=some xs):∃ a vs,v=.ref a/\(ij K H a vs\/fQ K H a vs)/\aH Hs xs vs:=by
 cases r with
 | tup h r=>cases e;exact⟨_,_,rfl,.inr (fQ.of (s _ _ h)),r⟩
 | lst h r=>cases e;exact⟨_,_,rfl,.inl (ij.of (s _ _ h)),r⟩
 | jo h r=>cases e;exact⟨_,_,rfl,.inl (.inl (.inr ⟨_,s _ _ h⟩)),r⟩
 | _=>cases e
def tW:PV->M PV
 | .str z=>cO (z.length<=sizeLine) (M.ok (.int z.length))
 | p=>eD ((bO p).map λxs=>.int xs.length)
def gb:List PV->M PV
 | [p]=>tW p
 | _=>none
theorem aH.one{H:Hp}{p:PV}{vs:List V}(r:aH H [p] vs):∃ v,vs=[v]/\Rep H p v:=by
 cases r with
 | cons h r=>cases r;exact⟨_,rfl,h⟩
theorem aH.two{H:Hp}{p q:PV}{vs:List V}(r:aH H [p,q] vs):∃ v u,vs=[v,u]/\Rep H p v/\Rep H q u:=by
 cases r with
 | cons h r=>obtain⟨u,rfl,h2⟩:=r.one;exact⟨_,_,rfl,h,h2⟩
def CF(K:PySem.W.Frag):List V->Hp->VK->Prop:=λxs H Q=>(∃ p ys,xs=[.ref p]/\(ij K H p ys\/fQ K H p ys)/\Q (.int ys.length) H)\/∃ z,xs=[.str z]/\z.length<=sizeLine/\Q (.int z.length) H
theorem xa{X:Cx}:cJ X (.builtin "len") (CF X.K):=cJ.or rF qF
theorem Ez{K:PySem.W.Frag}:jV E (CF K) gb:=by
 intro σ Hs H ps vs Q s r h
 match ps,r with
 | [],_=>exact h.elim
 | _::_::_,_=>exact h.elim
 | [p],r =>
  obtain⟨v,rfl,rp⟩:=r.one
  cases hp:bO p with
  | none =>
   cases p with
   | str z =>
    cases rp
    obtain⟨hz,h⟩:=aw.cO h
    exact .inr ⟨z,rfl,hz,cI.flat h s (.int _)⟩
   | tup _=>cases hp
   | lst _=>cases hp
   | jo _=>cases hp
   | _=>exact h.elim
  | some xs =>
   obtain⟨a,us,rfl,hq,hx⟩:=zf (K:=K) s rp hp
   have h':aw (eD ((bO p).map λxs=>PV.int xs.length)) (cI Hs H Q) (XW (E σ) Hs H):=by
    cases p with
    | str z=>cases hp
    | _=>exact h
   rw[hp] at h'
   refine .inl ⟨a,us,rfl,hq,?_⟩
   rw[← hx.length]
   exact cI.flat h' s (.int _)
def tN:List PV->M PV
 | [p]=>eD ((bO p).map .lst)
 | _=>none
theorem B4{K:PySem.W.Frag}:jV E (λxs H Q=>∃ p ys,xs=[.ref p]/\(ij K H p ys\/fQ K H p ys)/\∀ l,H l=none->Q (.ref l) (upd H l (.lst ys))) tN:=by
 intro σ Hs H ps vs Q s r h
 match ps,r with
 | [],_=>exact h.elim
 | _::_::_,_=>exact h.elim
 | [p],r =>
  obtain⟨v,rfl,rp⟩:=r.one
  obtain⟨x,ex,h⟩:=aw.opt h
  obtain⟨xs,hp,rfl⟩:=Option.map_eq_some_iff.mp ex
  obtain⟨a,us,rfl,hq,hx⟩:=zf (K:=K) s rp hp
  exact⟨a,us,rfl,hq,cI.lst h s hx⟩
def dk:List PV->M PV
 | [p]=>eD ((bO p).map .tup)
 | _=>none
theorem xZ{K:PySem.W.Frag}:jV E (λxs H Q=>∃ p ys,xs=[.ref p]/\((ij K H p ys/\∀ l,H l=none->Q (.ref l) (upd H l (.tup ys)))\/(fQ K H p ys/\Q (.ref p) H))) dk:=by
 intro σ Hs H ps vs Q s r h
 match ps,r with
 | [],_=>exact h.elim
 | _::_::_,_=>exact h.elim
 | [p],r =>
  obtain⟨v,rfl,rp⟩:=r.one
  obtain⟨x,ex,h⟩:=aw.opt h
  obtain⟨xs,hp,rfl⟩:=Option.map_eq_some_iff.mp ex
  cases rp with
  | tup ha hx=>cases hp;exact⟨_,_,rfl,.inr ⟨fQ.of (s _ _ ha),cI.flat h s (.tup ha hx)⟩⟩
  | lst ha hx=>cases hp;exact⟨_,_,rfl,.inl ⟨ij.of (s _ _ ha),cI.tup h s hx⟩⟩
  | jo ha hx=>cases hp;exact⟨_,_,rfl,.inl ⟨.inl (.inr ⟨_,s _ _ ha⟩),cI.tup h s hx⟩⟩
  | _=>cases hp
def sq:List PV->Option (List Int)
 | []=>some []
 | .int i::r=>(sq r).map (i::·)
 | _=>none
def yf:List PV->Option (List Bool)
 | []=>some []
 | .bl i::r=>(yf r).map (i::·)
 | _=>none
theorem vi:∀ {ps:List PV} {ns:List Int},sq ps=some ns->ps=ns.map PV.int
 | [],_,e=>by cases e;rfl
 | .int i::r,_,e=>by
  obtain⟨ms,h1,rfl⟩:=Option.map_eq_some_iff.mp e
  rw[vi h1];rfl
theorem zi:∀ {ps:List PV} {ns:List Bool},yf ps=some ns->ps=ns.map PV.bl
 | [],_,e=>by cases e;rfl
 | .bl i::r,_,e=>by
  obtain⟨ms,h1,rfl⟩:=Option.map_eq_some_iff.mp e
  rw[zi h1];rfl
theorem qp:∀ (ns:List Int),sq (ns.map PV.int)=some ns
 | []=>rfl
 | n::r=>by show (sq (r.map PV.int)).map (n::·)=_;rw[qp r];rfl
theorem sE:∀ (ns:List Bool),yf (ns.map PV.bl)=some ns
 | []=>rfl
 | n::r=>by show (yf (r.map PV.bl)).map (n::·)=_;rw[sE r];rfl
def F9:PV->M PV
 | .lst xs=>eD ((sq xs).map λns=>.int ns.sum)
 | _=>none
def w_:List PV->M PV
 | [p]=>F9 p
 | _=>none
theorem ER{K:PySem.W.Frag}:jV E (λxs H Q=>∃ (a:Addr) (ns:List Int),xs=[.ref a]/\ij K H a (ns.map V.int)/\Q (.int ns.sum) H) w_:=by
 intro σ Hs H ps vs Q s r h
 match ps,r with
 | [],_=>exact h.elim
 | _::_::_,_=>exact h.elim
 | [p],r =>
  obtain⟨v,rfl,rp⟩:=r.one
  cases rp with
  | lst ha hx =>
   obtain⟨x,ex,h⟩:=aw.opt h
   obtain⟨ns,hn,rfl⟩:=Option.map_eq_some_iff.mp ex
   rw[vi hn] at hx
   exact⟨_,ns,rfl,hx.ints▸ij.of (s _ _ ha),cI.flat h s (.int _)⟩
  | _=>exact h.elim
def all1:PV->M PV
 | .lst xs=>eD ((yf xs).map λns=>.bl (ns.all id))
 | _=>none
def pT:List PV->M PV
 | [p]=>all1 p
 | _=>none
theorem DO{K:PySem.W.Frag}:jV E (λxs H Q=>∃ (a:Addr) (bs:List Bool),xs=[.ref a]/\ij K H a (bs.map V.bl)/\Q (.bl (bs.all id)) H) pT:=by
 intro σ Hs H ps vs Q s r h
 match ps,r with
 | [],_=>exact h.elim
 | _::_::_,_=>exact h.elim
 | [p],r =>
  obtain⟨v,rfl,rp⟩:=r.one
  cases rp with
  | lst ha hx =>
   obtain⟨x,ex,h⟩:=aw.opt h
   obtain⟨ns,hn,rfl⟩:=Option.map_eq_some_iff.mp ex
   rw[zi hn] at hx
   exact⟨_,ns,rfl,hx.Jj▸ij.of (s _ _ ha),cI.flat h s (.bl _)⟩
  | _=>exact h.elim
def Iy(o:Int->Int->Int):PV->PV->M PV
 | .int i,.int j=>M.ok (.int (o i j))
 | _,_=>none
def CZ(o:Int->Int->Int):List PV->M PV
 | [p,q]=>Iy o p q
 | _=>none
theorem A0{o:Int->Int->Int}:jV E (λxs H Q=>∃ i j,xs=[.int i,.int j]/\Q (.int (o i j)) H) (CZ o):=by
 intro σ Hs H ps vs Q s r h
 match ps,r with
 | [],_=>exact h.elim
 | [_],_=>exact h.elim
 | _::_::_::_,_=>exact h.elim
 | [p,q],r =>
  obtain⟨v,u,rfl,rp,rq⟩:=r.two
  cases rp with
  | int i=>cases rq with
   | int j=>exact⟨i,j,rfl,cI.flat h s (.int _)⟩
   | _=>exact h.elim
  | _=>exact h.elim
end
def dh(n:Nat)(sem:List PV->M PV):Sp:=λvs H Q E=>vs.length=n/\∃ Hs ps,aV Hs H/\aH Hs ps vs/\aw (sem ps) (cI Hs H Q) (XW E Hs H)
section
variable{X:Cx}{E:St->XK}{k n:Nat}{f C:Addr}{fd:FuncData}{ps:List Str}{sem:List PV->M PV}{x m:Str}{p pos apos:Pos}{e o:Expr}{es:List Expr}{fs:af->M (List PV)}{g:af->M PV}
theorem AK{ds:List Value}{KQ:List V}{Lo:List PV}(F:aF X.prog X.w X.K X.mg X.base (bG X.prog X.w) k f fd ps (dh n sem))(hr:bN k X.A)(hg:Gl X x)(hm:X.mg x=some (.ref f))(hk:PySem.W.keepIn X.K (.ref f)=true)(hb:Binds X.K fd ps ds)(hd:Vals KQ ds)(hdp:∀ H,aH H Lo KQ)(O:fg X E)
  (hl:∀ ps,sem (ps++Lo)≠none->ps.length+Lo.length=n)
  (ha:PA X (e::es) (tL E fs)) (KU:(x==("__debug__" : Str))=false:=by decide) (he:starEach (e::es) X.env=(false,eval e X.env)::starEach es X.env:=by rfl) (Kd:(backTo pos (starEach es X.env)).any (·.1)=false:=by rfl) :
  PE X (.Call (.Name x p) (e::es) [] pos) (tE E (ah (λps=>sem (ps++Lo)) fs)):=by
 refine(Ao F hr hg hm hk hb hd O ha KU he Kd).imp fun σ H Q q=>eh (K:=jP Q) jP.g q λB H₀ Hs H1 env Lx v sr rp hp=>?_
 have r2:aH Hs (Lx++Lo) (v++KQ):=rp.append (hdp Hs)
 have hn:sem (Lx++Lo)≠none:=λz=>by rw[z] at hp;exact hp
 refine⟨?_,Hs,Lx++Lo,sr.gr.sub,r2,hp⟩
 rw[← r2.length,List.length_append]
 exact hl Lx hn
def iJ(ok:Addr->Bool)(f:Str)(g:af->M PV):af->M PV:=λenv=>(g env).bind λp=>match p with
 | .obj C fs=>cO (ok C=true) (eD (fs.lookup f))
 | _=>none
theorem De{ok:Addr->Bool}{fl:Str}(he:PE X e (tE E g))(a_:∀ C,ok C=true->ko X.K C/\bQ X.K C fl)(hb:attributeBase e fl X.env (eval e X.env)=eval e X.env):PE X (.Attribute e fl pos) (tE E (iJ ok fl g)):=by
 refine(DW he hb).imp fun σ H Q q=>bT (K:=jP Q) jP.g q λB H₀ Hs H1 env p v sr rp hp=>?_
 cases rp with
 | obj ha hx =>
  obtain⟨hc,hp⟩:=aw.cO hp
  obtain⟨x,ex,hp⟩:=aw.opt hp
  obtain⟨u,h1,h2⟩:=hx.look ex
  exact⟨_,_,_,_,u,rfl,sr.gr.sub _ _ ha,(a_ _ hc).1,(a_ _ hc).2,h1,cI.flat hp sr.gr.sub h2⟩
 | _=>exact hp.elim
def gG(C:Addr)(m:Str)(sem:List PV->M PV)(g:af->M PV)(fs:af->M (List PV)):af->M PV:=λenv=>(g env).bind λp=>match p with
 | .obj C' fl=>cO (C'=C/\fl.lookup m=none) ((fs env).bind λps=>sem (.obj C' fl::ps))
 | _=>none
theorem yx{pl:Sem Bool}(he:PE X o (tE E g))(c:ko X.K C)(hm:Meth X.K C m f)(F:aF X.prog X.w X.K X.mg X.base (bG X.prog X.w) k f fd ps (dh n sem))(hr:bN k X.A)(hb:Binds X.K fd ps [])(O:fg X E)(hl:∀ ps,sem ps≠none->ps.length=n)
  (ht:eval (.Call (.Attribute o m apos) [] [] pos) X.env=(do
   let ov ← eval o X.env
   standAt apos.atName
   let (f,first) ← holding [ov] (getMethod ov m pl)
   callWith pos f first (backTo pos (starEach [] X.env)) (backToKw pos (keywordEach [] X.env))):=by rfl) :
  PE X (.Call (.Attribute o m apos) [] [] pos) (tE E (gG C m sem g ar)):=by
 refine(xA he c hm F hr hb .nil O ht).imp fun σ H Q q=>bT (K:=jP Q) jP.g q λB H₀ Hs H1 env p v sr rp hp=>?_
 cases rp with
 | @obj a C' dx fl fvs ho hx =>
  obtain⟨⟨e1,hn⟩,CP⟩:=aw.cO hp
  subst e1
  have r2:aH Hs [.obj C' fl] [V.ref a]:=.cons (Rep.obj ho hx) .nil
  have Nq:sem [.obj C' fl]≠none:=λz=>by
   have MM:aw (sem [.obj C' fl]) (cI Hs H1 Q) (XW (E σ) Hs H1):=CP
   rw[z] at MM;exact MM
  exact⟨a,dx,fvs,rfl,sr.gr.sub _ _ ho,hx.none hn,by rw[show ([]:List V)++[]=[] from rfl];exact r2.length▸hl _ Nq,Hs,_,sr.gr.sub,r2,CP⟩
 | _=>exact hp.elim
end
end L2
namespace L2
open PySem PySem.Spec PyProof.Rows
inductive Out where
 | nx (env:af) | rt (p:PV) | bk (env:af) | ct (env:af)
def KS(D:Ends)(B H₀:Hp):Out->Prop
 | .nx env=>∀ σ Hs H,SR B H₀ Hs H σ env->D.nx σ H
 | .rt p=>∀ v Hs H,bD B H₀ Hs H->Rep Hs p v->D.rt v H
 | .bk env=>∀ σ Hs H,SR B H₀ Hs H σ env->D.bk σ H
 | .ct env=>∀ σ Hs H,SR B H₀ Hs H σ env->D.ct σ H
def tS(E:XK)(f:af->M Out):TS:=λD σ H=>∃ B H₀ Hs env,SR B H₀ Hs H σ env/\aw (f env) (KS D B H₀) (XW E B H₀)
theorem PS.imp{X:Cx}{st:Stmt}{t t':TS}(h:PS X st t)(i:∀ D σ H,t' D σ H->t D σ H):PS X st t':=λJS s σ H D I q=>h JS s σ H D I (i D σ H q)
theorem kf.imp{X:Cx}{st:List Stmt}{t t':TS}(h:kf X st t)(i:∀ D σ H,t' D σ H->t D σ H):kf X st t':=λJS s σ H D I q=>h JS s σ H D I (i D σ H q)
def aj:af->M Out:=λenv=>M.ok (.nx env)
def Ap(g:af->M Out):Out->M Out
 | .nx env=>g env
 | o=>M.ok o
def ao(f g:af->M Out):af->M Out:=λenv=>(f env).bind (Ap g)
theorem kM{E:XK}{f:af->M PV}{g:af->PV->M Out}{D:Ends}{σ:St}{H:Hp}{R:VK}(h:tS E (λenv=>(f env).bind (g env)) D σ H)
  (k:∀ B H₀ Hs H1 env p v,SR B H₀ Hs H1 σ env->Rep Hs p v->aw (g env p) (KS D B H₀) (XW E B H₀)->R v H1):tE (λ_=>E) f σ H R:=by
 obtain⟨B,H₀,Hs,env,sr,h⟩:=h
 refine⟨B,H₀,Hs,env,sr,(aw.bind h).imp (λp hp v JV H' g r=>?_) λe he=>he.grow sr.gr⟩
 exact k B H₀ JV H' env p v (sr.grow g) r hp
theorem zU{E:XK}{f:af->M Bool}{g:af->Bool->M Out}{D:Ends}{σ:St}{H:Hp}{R:Bool->Hp->Prop}(h:tS E (λenv=>(f env).bind (g env)) D σ H)
  (k:∀ B H₀ Hs H1 env p,SR B H₀ Hs H1 σ env->aw (g env p) (KS D B H₀) (XW E B H₀)->R p H1):tT (λ_=>E) f σ H R:=by
 obtain⟨B,H₀,Hs,env,sr,h⟩:=h
 refine⟨B,H₀,Hs,env,sr,(aw.bind h).imp (λp hp JV H' g=>?_) λe he=>he.grow sr.gr⟩
 exact k B H₀ JV H' env p (sr.grow g) hp
theorem kG{E:XK}{f:af->M (List PV)}{g:af->List PV->M Out}{D:Ends}{σ:St}{H:Hp}{R:List V->Hp->Prop}(h:tS E (λenv=>(f env).bind (g env)) D σ H)
  (k:∀ B H₀ Hs H1 env p v,SR B H₀ Hs H1 σ env->aH Hs p v->aw (g env p) (KS D B H₀) (XW E B H₀)->R v H1):tL (λ_=>E) f σ H R:=by
 obtain⟨B,H₀,Hs,env,sr,h⟩:=h
 refine⟨B,H₀,Hs,env,sr,(aw.bind h).imp (λp hp v JV H' g r=>?_) λe he=>he.grow sr.gr⟩
 exact k B H₀ JV H' env p v (sr.grow g) r hp
theorem SR.set{B H₀ Hs H:Hp}{σ:St}{env:af}{p:PV}{v:V}{i:Nat}(r:SR B H₀ Hs H σ env)(h:Rep Hs p v):SR B H₀ Hs H (σ.set i (some v)) (env.set i (some (.sh p))) where
 gr:=r.gr
 len:=by rw[List.length_set,List.length_set];exact r.len
 sh:=λj q e=>by
  rw[List.getElem?_set] at e ⊢
  by_cases z:i=j
  ·subst z
   rw[if_pos rfl] at e ⊢
   split at e
   ·cases e
    rw[if_pos (by rw[r.len];assumption)]
    exact⟨v,rfl,h⟩
   ·cases e
  ·rw[if_neg z] at e ⊢
   exact r.sh j q e
 ow:=λj xs e=>by
  rw[List.getElem?_set] at e ⊢
  by_cases z:i=j
  ·subst z
   rw[if_pos rfl] at e
   split at e <;> cases e
  ·rw[if_neg z] at e ⊢
   exact r.ow j xs e
 sep:=λj k xs ys a n e1 e2 e3 e4=>by
  rw[List.getElem?_set] at e1 e2 e3 e4
  by_cases z:i=j
  ·subst z
   rw[if_pos rfl] at e1
   split at e1 <;> cases e1
  ·by_cases z2:i=k
   ·subst z2
    rw[if_pos rfl] at e2
    split at e2 <;> cases e2
   ·rw[if_neg z] at e1 e3
    rw[if_neg z2] at e2 e4
    exact r.sep j k xs ys a n e1 e2 e3 e4
 bd:=λj a C fs e=>by
  rw[List.getElem?_set] at e ⊢
  by_cases z:i=j
  ·subst z
   rw[if_pos rfl] at e
   split at e <;> cases e
  ·rw[if_neg z] at e ⊢
   exact r.bd j a C fs e
 one:=λj k a b C D fs gs e1 e2=>by
  rw[List.getElem?_set] at e1 e2
  by_cases z:i=j
  ·subst z
   rw[if_pos rfl] at e1
   split at e1 <;> cases e1
  ·by_cases z2:i=k
   ·subst z2
    rw[if_pos rfl] at e2
    split at e2 <;> cases e2
   ·rw[if_neg z] at e1
    rw[if_neg z2] at e2
    exact r.one j k _ _ C D fs gs e1 e2
theorem SR.own{B H₀ Hs H:Hp}{σ:St}{env:af}{xs:List PV}{vs:List V}{i:Nat}{p:Addr}(r:SR B H₀ Hs H σ env)(h:aH Hs xs vs)(n:H p=none):SR B H₀ Hs (upd H p (.lst vs)) (σ.set i (some (.ref p))) (env.set i (some (.ow xs))):=by
 have ne:∀ c u,H c=some u->c≠p:=λc u e z=>by rw[z,n] at e;cases e
 have hs:Hs p=none:=by
  cases q:Hs p with
  | none=>rfl
  | some o=>have:=r.gr.sub _ _ q;rw[n] at this;cases this
 have h0:H₀ p=none:=by
  cases q:H₀ p with
  | none=>rfl
  | some o=>have:=r.gr.al _ _ q;rw[n] at this;cases this
 refine⟨⟨r.gr.st,λc u e=>by rw[au (ne c u (r.gr.al c u e))];exact r.gr.al c u e,λc u e=>by rw[au (ne c u (r.gr.sub c u e))];exact r.gr.sub c u e,r.gr.nw⟩,by rw[List.length_set,List.length_set];exact r.len,λj q e=>?_,λj ys e=>?_,λj k ys zs a nj e1 e2 e3 e4=>?_,λj ba C fs e=>?_,λj k _ _ C D fs gs e1 e2=>?_⟩
 ·rw[List.getElem?_set] at e ⊢
  by_cases z:i=j
  ·subst z
   rw[if_pos rfl] at e
   split at e <;> cases e
  ·rw[if_neg z] at e ⊢
   exact r.sh j q e
 ·rw[List.getElem?_set] at e ⊢
  by_cases z:i=j
  ·subst z
   rw[if_pos rfl] at e ⊢
   split at e
   ·cases e
    rw[if_pos (by rw[r.len];assumption)]
    exact⟨p,vs,rfl,az,hs,h0,h⟩
   ·cases e
  ·rw[if_neg z] at e ⊢
   obtain⟨a,us,h1,h2,h3,h4,h5⟩:=r.ow j ys e
   exact⟨a,us,h1,by rw[au (ne a _ h2)];exact h2,h3,h4,h5⟩
 ·rw[List.getElem?_set] at e1 e2 e3 e4
  by_cases z:i=j
  ·subst z
   rw[if_pos rfl] at e3
   split at e3
   ·cases e3
    rw[if_neg nj] at e2 e4
    obtain⟨a',us,h1,h2,_⟩:=r.ow k zs e2
    rw[e4] at h1;cases h1
    rw[n] at h2;cases h2
   ·cases e3
  ·rw[if_neg z] at e1 e3
   by_cases z2:i=k
   ·subst z2
    rw[if_pos rfl] at e4
    split at e4
    ·cases e4
     obtain⟨a',us,h1,h2,_⟩:=r.ow j ys e1
     rw[e3] at h1;cases h1
     rw[n] at h2;cases h2
    ·cases e4
   ·rw[if_neg z2] at e2 e4
    exact r.sep j k ys zs a nj e1 e2 e3 e4
 ·rw[List.getElem?_set] at e ⊢
  by_cases z:i=j
  ·subst z
   rw[if_pos rfl] at e
   split at e <;> cases e
  ·rw[if_neg z] at e ⊢
   obtain⟨dx,us,h1,h2,h3,h4,h5⟩:=r.bd j ba C fs e
   exact⟨dx,us,h1,by rw[au (ne ba _ h2)];exact h2,h3,h4,h5⟩
 ·rw[List.getElem?_set] at e1 e2
  by_cases z:i=j
  ·subst z
   rw[if_pos rfl] at e1
   split at e1 <;> cases e1
  ·by_cases z2:i=k
   ·subst z2
    rw[if_pos rfl] at e2
    split at e2 <;> cases e2
   ·rw[if_neg z] at e1
    rw[if_neg z2] at e2
    exact r.one j k _ _ C D fs gs e1 e2
def yL(i:Nat)(env:af):af:=match env[i]? with
 | some (some (.ow xs))=>env.set i (some (.sh (.lst xs)))
 | _=>env
theorem SR.pA{B H₀ Hs H:Hp}{σ:St}{env:af}(i:Nat)(r:SR B H₀ Hs H σ env):∃ JV,SR B H₀ JV H σ (yL i env)/\aV Hs JV:=by
 unfold yL
 split
 ·rename_i xs e
  obtain⟨a,vs,h1,h2,h3,h4,h5⟩:=r.ow i xs e
  have ne:∀ c u,Hs c=some u->c≠a:=λc u q z=>by rw[z,h3] at q;cases q
  have Kw:aV Hs (upd Hs a (.lst vs)):=λc u q=>by rw[au (ne c u q)];exact q
  refine⟨upd Hs a (.lst vs),⟨⟨λc u q=>Kw c u (r.gr.st c u q),r.gr.al,λc u q=>?_,λc u q1 q2=>?_⟩,by rw[List.length_set];exact r.len,λj q ej=>?_,λj ys ej=>?_,λj k ys zs b nj e1 e2 e3 e4=>?_,λj ba C fs ej=>?_,λj k _ _ C D fs gs e1 e2=>?_⟩,Kw⟩
  ·by_cases z:c=a
   ·subst z;rw[az] at q;cases q;exact h2
   ·rw[au z] at q;exact r.gr.sub c u q
  ·have z:c≠a:=λz=>by rw[z,h4] at q2;cases q2
   rw[au z];exact r.gr.nw c u q1 q2
  ·rw[List.getElem?_set] at ej
   by_cases z:i=j
   ·subst z
    rw[if_pos rfl] at ej
    split at ej
    ·cases ej
     exact⟨.ref a,h1,.lst az (h5.mono Kw)⟩
    ·cases ej
   ·rw[if_neg z] at ej
    obtain⟨v,q1,q2⟩:=r.sh j q ej
    exact⟨v,q1,q2.mono Kw⟩
  ·rw[List.getElem?_set] at ej
   by_cases z:i=j
   ·subst z
    rw[if_pos rfl] at ej
    split at ej <;> cases ej
   ·rw[if_neg z] at ej
    obtain⟨b,us,q1,q2,q3,q4,q5⟩:=r.ow j ys ej
    have nb:b≠a:=λw=>by subst w;exact r.sep i j xs ys b z e ej h1 q1
    exact⟨b,us,q1,q2,by rw[au nb];exact q3,q4,q5.mono Kw⟩
  ·rw[List.getElem?_set] at e1 e2
   by_cases z:i=j
   ·subst z
    rw[if_pos rfl] at e1
    split at e1 <;> cases e1
   ·by_cases z2:i=k
    ·subst z2
     rw[if_pos rfl] at e2
     split at e2 <;> cases e2
    ·rw[if_neg z] at e1
     rw[if_neg z2] at e2
     exact r.sep j k ys zs b nj e1 e2 e3 e4
  ·rw[List.getElem?_set] at ej
   by_cases z:i=j
   ·subst z
    rw[if_pos rfl] at ej
    split at ej <;> cases ej
   ·rw[if_neg z] at ej
    obtain⟨dx,us,q1,q2,q3,q4,q5⟩:=r.bd j ba C fs ej
    have nb:ba≠a:=λw=>by subst w;rw[h2] at q2;cases q2
    exact⟨dx,us,q1,q2,by rw[au nb];exact q3,q4,q5.mono Kw⟩
  ·rw[List.getElem?_set] at e1 e2
   by_cases z:i=j
   ·subst z
    rw[if_pos rfl] at e1
    split at e1 <;> cases e1
   ·by_cases z2:i=k
    ·subst z2
     rw[if_pos rfl] at e2
     split at e2 <;> cases e2
    ·rw[if_neg z] at e1
     rw[if_neg z2] at e2
     exact r.one j k _ _ C D fs gs e1 e2
 ·exact⟨Hs,r,λ_ _ q=>q⟩
def ph(is:List Nat)(f:af->M Out):af->M Out:=λenv=>f (is.foldl (λe i=>yL i e) env)
theorem SR.j2{B H₀ H:Hp}{σ:St}:∀ {is:List Nat} {Hs:Hp} {env:af},SR B H₀ Hs H σ env->∃ JV,SR B H₀ JV H σ (is.foldl (λe i=>yL i e) env)/\aV Hs JV
 | [],Hs,_,r=>⟨Hs,r,λ_ _ q=>q⟩
 | i::is,_,_,r=>by
  obtain⟨J2,r1,s1⟩:=r.pA i
  obtain⟨J5,r2,s2⟩:=SR.j2 (is:=is) r1
  exact⟨J5,r2,λc u q=>s2 c u (s1 c u q)⟩
section
variable{X:Cx}{E:XK}{e:Expr}{pos pos':Pos}{f:af->M PV}{st:Stmt}{sts rest:List Stmt}{u:af->M Bool}{g h:af->M Out}{i:Nat}{x:Str}
theorem D_(is:List Nat)(hs:PS X st (tS E g)):PS X st (tS E (ph is g)):=hs.imp λD σ H q=>by
 obtain⟨B,H₀,Hs,env,sr,q⟩:=q
 obtain⟨JV,r,_⟩:=sr.j2 (is:=is)
 exact⟨B,H₀,JV,_,r,q⟩
theorem BR:kf X [] (tS E aj):=vk.imp λD σ H q=>by
 obtain⟨B,H₀,Hs,env,sr,q⟩:=q
 exact q σ Hs H sr
theorem yk(h1:PS X st (tS E g))(h2:kf X rest (tS E h)):kf X (st::rest) (tS E (ao g h)):=by
 refine(tj h1 h2).imp λD σ H q=>?_
 obtain⟨B,H₀,Hs,env,sr,q⟩:=q
 refine⟨B,H₀,Hs,env,sr,(aw.bind q).imp (λo ho=>?_) λe he=>he⟩
 cases o with
 | nx JT=>exact fun σ' JV H' LC=>⟨B,H₀,JV,JT,LC,ho⟩
 | rt p=>exact ho
 | bk JT=>exact ho
 | ct JT=>exact ho
def bp(i:Nat)(f:af->M PV):af->M Out:=λenv=>(f env).bind λp=>M.ok (.nx (env.set i (some (.sh p))))
theorem Eh{pos':Pos}(hN:X.N.Nodup)(hi:X.N[i]?=some x)(hx:Loc X.env.scope x)(he:PE X e (tE (λ_=>E) f))(hs:swapsWith e (some (.Name x pos')) pos.line X.env=pure false:=by rfl)(hf:X.fn x=true\/X.env.scope.names.lookup x=some .local:=by first | exact .inl rfl | exact .inr rfl | assumption) :
  PS X (.Assign [.Name x pos'] e pos) (tS E (bp i f)) :=
 (za hN hi hx he hs hf).imp λD σ H q=>kM q λB H₀ Hs H1 env p v sr rp hp=>hp _ Hs H1 (sr.set rp)
def retS(f:af->M PV):af->M Out:=λenv=>(f env).bind λp=>M.ok (.rt p)
theorem Dm(he:PE X e (tE (λ_=>E) f)):PS X (.Return (some e) pos) (tS E (retS f)) :=
 (Ff he).imp λD σ H q=>kM q λB H₀ Hs H1 env p v sr rp hp=>hp v Hs H1 sr.gr rp
def eE(f:af->M PV):af->M Out:=λenv=>(f env).bind λ_=>M.ok (.nx env)
theorem Bo(he:PE X e (tE (λ_=>E) f))(hs:swapsWith e none pos.line X.env=pure false:=by rfl):PS X (.Expr e pos) (tS E (eE f)) :=
 (qS he hs).imp λD σ H q=>kM q λB H₀ Hs H1 env p v sr rp hp=>hp σ Hs H1 sr
def gm(u:af->M Bool)(g h:af->M Out):af->M Out:=λenv=>(u env).bind λb=>if b=true then g env else h env
theorem FO{c:Expr}{a b:List Stmt}(hc:PT X c (tT (λ_=>E) u))(ha:kf X a (tS E g))(hb:kf X b (tS E h)):PS X (.If c a b pos) (tS E (gm u g h)):=by
 refine(F6 hc ha hb).imp λD σ H q=>zU q λB H₀ Hs H1 env p sr hp=>?_
 cases p with
 | true=>exact⟨B,H₀,Hs,env,sr,hp⟩
 | false=>exact⟨B,H₀,Hs,env,sr,hp⟩
end
end L2
namespace L2
open PySem PySem.Spec PyProof.Rows
def ov(Hs H₀:Hp):Hp:=λa=>match Hs a with
 | some o=>some o
 | none=>H₀ a
theorem mQ{Hs H₀:Hp}{a:Addr}{o:HO}(h:Hs a=some o):ov Hs H₀ a=some o:=by unfold ov;rw[h]
theorem iL{Hs H₀:Hp}{a:Addr}(h:Hs a=none):ov Hs H₀ a=H₀ a:=by unfold ov;rw[h]
theorem Bg{Hs H₀ H:Hp}(s:aV Hs H)(t:aV H₀ H):aV (ov Hs H₀) H:=λa o e=>by
 cases q:Hs a with
 | some o'=>rw[mQ q] at e;cases e;exact s _ _ q
 | none=>rw[iL q] at e;exact t _ _ e
theorem SR.rebase{B H₀ Hs H:Hp}{σ:St}{env:af}(r:SR B H₀ Hs H σ env):SR Hs (ov Hs H₀) Hs H σ env where
 gr:=⟨λ_ _ e=>e,Bg r.gr.sub r.gr.al,r.gr.sub,λ_ _ e _=>e⟩
 len:=r.len
 sh:=r.sh
 ow:=λi xs e=>let ⟨a,vs,h1,h2,h3,h4,h5⟩:=r.ow i xs e;⟨a,vs,h1,h2,h3,by rw[iL h3];exact h4,h5⟩
 sep:=r.sep
 bd:=λi a C fs e=>let ⟨dx,vs,h1,h2,h3,h4,h5⟩:=r.bd i a C fs e;⟨dx,vs,h1,h2,h3,by rw[iL h3];exact h4,h5⟩
 one:=r.one
theorem bD.j7{B H₀ Hs H J5 H2:Hp}(g:bD B H₀ Hs H)(g2:bD Hs (ov Hs H₀) J5 H2):bD B H₀ J5 H2 where
 st:=λa o e=>g2.st a o (g.st a o e)
 al:=λa o e=>by
  cases q:Hs a with
  | some o' =>
   have h1:=g.sub a o' q
   have h2:=g.al a o e
   rw[h1] at h2;cases h2
   exact g2.al a _ (mQ q)
  | none=>exact g2.al a o (by rw[iL q];exact e)
 sub:=g2.sub
 nw:=λa o e q=>by
  have h1:=g.nw a o e q
  exact g2.nw a o h1 (by rw[iL h1];exact q)
theorem SR.j7{B H₀ Hs H J5 H2:Hp}{σ:St}{env:af}(g:bD B H₀ Hs H)(r:SR Hs (ov Hs H₀) J5 H2 σ env):SR B H₀ J5 H2 σ env where
 gr:=g.j7 r.gr
 len:=r.len
 sh:=r.sh
 ow:=λi xs e=>by
  obtain⟨a,vs,h1,h2,h3,h4,h5⟩:=r.ow i xs e
  refine⟨a,vs,h1,h2,h3,?_,h5⟩
  cases q:Hs a with
  | some o=>rw[mQ q] at h4;cases h4
  | none=>rw[iL q] at h4;exact h4
 sep:=r.sep
 bd:=λi a C fs e=>by
  obtain⟨dx,vs,h1,h2,h3,h4,h5⟩:=r.bd i a C fs e
  refine⟨dx,vs,h1,h2,h3,?_,h5⟩
  cases q:Hs a with
  | some o=>rw[mQ q] at h4;cases h4
  | none=>rw[iL q] at h4;exact h4
 one:=r.one
theorem XW.rebase{E:XK}{B H₀ Hs H:Hp}(g:bD B H₀ Hs H){x:EX}(h:XW E B H₀ x):XW E Hs (ov Hs H₀) x:=λea J5 H2 r q=>h ea J5 H2 (g.j7 r) q
def FX(k:af->M Out):Out->M Out
 | .nx env=>k env
 | .ct env=>k env
 | .bk env=>M.ok (.nx env)
 | .rt p=>M.ok (.rt p)
def iz(set:PV->af->M af)(body:af->M Out):List PV->af->M Out
 | [],env=>M.ok (.nx env)
 | x::xs,env=>(set x env).bind λJT=>(body JT).bind (FX (iz set body xs))
def Cm(E:XK)(g:TG)(set:PV->af->M af):Prop:=∀ (B H₀ Hs H:Hp) (σ:St) (env:af) (p:PV) (v:V) (Q:St->Hp->Prop) (Z:EX->Prop),SR B H₀ Hs H σ env->Rep Hs p v->aw (set p env) (λJT=>∀ σ',SR B H₀ Hs H σ' JT->Q σ' H) Z->g v σ H Q
def dH(i:Nat)(p:PV)(env:af):M af:=M.ok (env.set i (some (.sh p)))
theorem cy{E:XK}{i:Nat}:Cm E (aI i) (dH i):=λB H₀ Hs H σ env p v Q Z sr r h=>h _ (sr.set r)
def bx(i j:Nat):PV->af->M af
 | .tup [p,q],env=>M.ok ((env.set i (some (.sh p))).set j (some (.sh q)))
 | _,_=>none
theorem cL{E:XK}{K:PySem.W.Frag}{i j:Nat}:Cm E (iM K 2 (aZ (aI i) (aZ (aI j) iI))) (bx i j):=by
 intro B H₀ Hs H σ env p v Q Z sr r h
 cases r with
 | @tup a xs vs ha hx =>
  match xs,hx with
  | [p,q],hx =>
   obtain⟨v,u,rfl,rp,rq⟩:=hx.two
   exact⟨a,[v,u],rfl,fQ.of (sr.gr.sub _ _ ha),rfl,v,[u],rfl,u,[],rfl,rfl,h _ ((sr.set rp).set rq)⟩
  | [],_=>exact h.elim
  | [_],_=>exact h.elim
  | _::_::_::_,_=>exact h.elim
 | _=>exact h.elim
section
variable{E:XK}{g:TG}{set:PV->af->M af}{body:af->M Out}{D:Ends}{B H₀ J2:Hp}{xs:List PV}
def Jv(E:XK)(set:PV->af->M af)(body:af->M Out)(D:Ends)(B H₀ J2:Hp)(xs:List PV)(i:Nat)(σ:St)(H:Hp):Prop:=∃ Hs env,SR B H₀ Hs H σ env/\aV J2 Hs/\aw (iz set body (xs.drop i) env) (KS D B H₀) (XW E B H₀)
theorem Jv.done{n:Nat}{σ:St}{H:Hp}(j:Jv E set body D B H₀ J2 xs n σ H)(hn:xs.length<=n):D.nx σ H:=by
 obtain⟨Hs,env,sr,_,h⟩:=j
 rw[List.drop_eq_nil_of_le hn] at h
 exact h σ Hs H sr
theorem Jv.turn{i:Nat}{σ:St}{H H1 Hx:Hp}{x:PV}{v:V}(tg:Cm E g set)(hx:xs[i]?=some x){Hs:Hp}{env:af}(sr:SR B H₀ Hs H σ env)(s1:aV J2 Hs)(h:aw (iz set body (xs.drop i) env) (KS D B H₀) (XW E B H₀)){J5 H2:Hp}(gr:bD Hs H J5 H2)(rv:Rep J5 x v) :
  g v σ H2 fun σ2 H3=>tS E body { D with nx:=Jv E set body D B H₀ J2 xs (i+1),ct:=Jv E set body D B H₀ J2 xs (i+1),bk:=D.nx } σ2 H3:=by
 have Le:i<xs.length:=(List.getElem?_eq_some_iff.mp hx).1
 have hd:xs.drop i=x::xs.drop (i+1):=by
  rw[List.drop_eq_getElem_cons Le]
  rw[List.getElem?_eq_getElem Le] at hx
  rw[Option.some.inj hx]
 rw[hd] at h
 have KR:=sr.grow gr
 refine tg B H₀ J5 H2 σ env x v _ _ KR rv ((aw.bind h).imp (λJT h' σ' LC=>?_) λ_ z=>z)
 refine⟨J5,ov J5 H₀,J5,JT,LC.rebase,(aw.bind h').imp (λo ho=>?_) λe he=>he.rebase LC.gr⟩
 cases o with
 | nx e2=>exact fun σ3 Lz H3 r=>⟨Lz,e2,r.j7 LC.gr,λa o z=>r.gr.st a o (gr.st a o (s1 a o z)),ho⟩
 | ct e2=>exact fun σ3 Lz H3 r=>⟨Lz,e2,r.j7 LC.gr,λa o z=>r.gr.st a o (gr.st a o (s1 a o z)),ho⟩
 | bk e2=>exact fun σ3 Lz H3 r=>ho σ3 Lz H3 (r.j7 LC.gr)
 | rt p=>exact λv3 Lz H3 r q=>ho v3 Lz H3 (LC.gr.j7 r) q
end
def ib(it:af->M (List PV))(set:PV->af->M af)(body:af->M Out):af->M Out:=λenv=>(it env).bind λxs=>iz set body xs env
def itemsOf(f:af->M PV):af->M (List PV):=λenv=>(f env).bind λp=>match bO p with | some xs=>M.ok xs | none=>none
theorem jB{K:PySem.W.Frag}{Hs H:Hp}{p:PV}{v:V}{xs:List PV}(s:aV Hs H)(r:Rep Hs p v)(e:bO p=some xs):∃ b a vs,v=.ref a/\(∀ JV H',aV Hs JV->aV JV H'->jR K H' b a vs)/\aH Hs xs vs:=by
 cases r with
 | tup h r=>cases e;exact⟨false,_,_,rfl,λJV H' s1 s2=>fQ.of (s2 _ _ (s1 _ _ h)),r⟩
 | lst h r=>cases e;exact⟨true,_,_,rfl,λJV H' s1 s2=>ij.of (s2 _ _ (s1 _ _ h)),r⟩
 | jo h r=>cases e;exact⟨true,_,_,rfl,λJV H' s1 s2=>.inl (.inr ⟨_,s2 _ _ (s1 _ _ h)⟩),r⟩
 | _=>cases e
section
variable{X:Cx}{E:XK}{tg iter:Expr}{pos p:Pos}{f f2:af->M PV}{g:TG}{set:PV->af->M af}{body:af->M Out}{bd:List Stmt}
end
end L2
namespace L2
open PySem PySem.Spec PyProof.Rows
def IS:PV->M (List PV)
 | .int n=>cO (-(2^62)<=n/\n<2^62) (M.ok ((List.range n.toNat).map λ(i:Nat)=>.int (0+(i:Int))))
 | _=>none
def uR:List PV->M (List PV)
 | [p]=>IS p
 | _=>none
theorem xp{ps:List PV}{α:Type}{k:List PV->M α}{Q:α->Prop}{Z:EX->Prop}(h:aw ((uR ps).bind k) Q Z):∃ n:Int,ps=[.int n]/\-(2^62)<=n/\n<2^62/\aw (k ((List.range n.toNat).map λ(i:Nat)=>.int (0+(i:Int)))) Q Z:=by
 match ps with
 | []=>exact h.elim
 | _::_::_=>exact h.elim
 | [p] =>
  cases p with
  | int n =>
   obtain⟨hc,h⟩:=aw.cO (aw.bind h)
   exact⟨n,rfl,hc.1,hc.2,h⟩
  | _=>exact h.elim
def zip2:List PV->M (List PV)
 | [p,q]=>match bO p,bO q with
  | some xs,some ys=>M.ok (List.zipWith (λa b=>.tup [a,b]) xs ys)
  | _,_=>none
 | _=>none
theorem wO{ps:List PV}{α:Type}{k:List PV->M α}{Q:α->Prop}{Z:EX->Prop}(h:aw ((zip2 ps).bind k) Q Z):∃ p q xs ys,ps=[p,q]/\bO p=some xs/\bO q=some ys/\aw (k (List.zipWith (λa b=>.tup [a,b]) xs ys)) Q Z:=by
 match ps with
 | []=>exact h.elim
 | [_]=>exact h.elim
 | _::_::_::_=>exact h.elim
 | [p,q] =>
  unfold zip2 at h
  dsimp only at h
  cases e1:bO p with
  | none=>rw[e1] at h;exact h.elim
  | some xs =>
   cases e2:bO q with
   | none=>rw[e1,e2] at h;exact h.elim
   | some ys=>rw[e1,e2] at h;exact⟨p,q,xs,ys,rfl,e1,e2,h⟩
theorem wa{n i:Nat}{f:Nat->PV}(h:i<n):((List.range n).map f)[i]?=some (f i):=by
 rw[List.getElem?_map,List.getElem?_range h];rfl
section
variable{X:Cx}{E:XK}{tg a b l l1 l2:Expr}{pos p tp:Pos}{fs:af->M (List PV)}{g:TG}{set:PV->af->M af}{body:af->M Out}{bd:List Stmt}
end
def KO(Q:VK):Hp->Hp->List PV->Prop:=λHs H ps=>∀ vs p JV H',bD Hs H JV H'->aH JV ps vs->H' p=none->Q (.ref p) (upd H' p (.lst vs))
def tO(E:St->XK)(f:af->M (List PV)):TE:=fun σ H Q=>tG E f (KO Q) σ H
section
variable{X:Cx}{E:XK}{e:Expr}{es:List Expr}{pos pos':Pos}{fs:af->M (List PV)}{f:af->M PV}{i:Nat}{x:Str}
def pd(i:Nat)(f:af->M (List PV)):af->M Out:=λenv=>(f env).bind λps=>M.ok (.nx (env.set i (some (.ow ps))))
theorem BU{pos':Pos}(hN:X.N.Nodup)(hi:X.N[i]?=some x)(hx:Loc X.env.scope x)(he:PE X e (tO (λ_=>E) fs))(hs:swapsWith e (some (.Name x pos')) pos.line X.env=pure false:=by rfl)(hf:X.fn x=true\/X.env.scope.names.lookup x=some .local:=by first | exact .inl rfl | exact .inr rfl | assumption) :
  PS X (.Assign [.Name x pos'] e pos) (tS E (pd i fs)):=by
 refine(za hN hi hx he hs hf).imp λD σ H q=>?_
 obtain⟨B,H₀,Hs,env,sr,q⟩:=q
 refine⟨B,H₀,Hs,env,sr,(aw.bind q).imp (λps hp vs p JV H' g r n=>?_) λe he=>he.grow sr.gr⟩
 exact hp _ JV _ ((sr.grow g).own r n)
def jh(fs:af->M (List PV)):af->M (List PV):=λenv=>(fs env).bind λps=>if ps.length<=sizeLine then M.ok ps else none
theorem Dr{E:St->XK}(hr:PA X es (tL E fs)):PE X (.List es pos) (tO E (jh fs)):=by
 refine(yC hr).imp fun σ H Q q=>?_
 obtain⟨B,H₀,Hs,env,sr,q⟩:=q
 refine⟨B,H₀,Hs,env,sr,(aw.bind q).imp (λps hp vs JV H' g r=>?_) λe he=>he⟩
 by_cases hz:ps.length<=sizeLine
 ·rw[if_pos hz] at hp
  exact⟨by rw[← r.length];exact hz,λp n=>hp vs p JV H' g r n⟩
 ·rw[if_neg hz] at hp;exact hp.elim
def iw(i:Nat)(f:af->M PV):af->M Out:=λenv=>match env[i]? with
 | some (some (.ow xs))=>(f env).bind λp=>if xs.length<sizeLine then M.ok (.nx (env.set i (some (.ow (xs++[p]))))) else none
 | _=>none
theorem SR.put{B H₀ Hs H:Hp}{σ:St}{env:af}{i:Nat}{a:Addr}{xs ys:List PV}{us:List V}(r:SR B H₀ Hs H σ env)(e:env[i]?=some (some (.ow xs)))(hi:σ[i]?=some (some (.ref a)))(h:aH Hs ys us):SR B H₀ Hs (upd H a (.lst us)) σ (env.set i (some (.ow ys))):=by
 obtain⟨a',vs,h1,h2,h3,h4,h5⟩:=r.ow i xs e
 rw[hi] at h1;cases h1
 have nS:∀ c u,Hs c=some u->c≠a:=λc u q z=>by rw[z,h3] at q;cases q
 have n0:∀ c u,H₀ c=some u->c≠a:=λc u q z=>by rw[z,h4] at q;cases q
 refine⟨⟨r.gr.st,λc u q=>by rw[au (n0 c u q)];exact r.gr.al c u q,λc u q=>by rw[au (nS c u q)];exact r.gr.sub c u q,r.gr.nw⟩,by rw[List.length_set];exact r.len,λj q ej=>?_,λj zs ej=>?_,λj k y1 y2 b nj e1 e2 e3 e4=>?_,λj ba C fs ej=>?_,λj k _ _ C D fs gs e1 e2=>?_⟩
 ·rw[List.getElem?_set] at ej
  by_cases z:i=j
  ·subst z
   rw[if_pos rfl] at ej
   split at ej <;> cases ej
  ·rw[if_neg z] at ej;exact r.sh j q ej
 ·rw[List.getElem?_set] at ej
  by_cases z:i=j
  ·subst z
   rw[if_pos rfl] at ej
   split at ej
   ·cases ej;exact⟨a,us,hi,az,h3,h4,h⟩
   ·cases ej
  ·rw[if_neg z] at ej
   obtain⟨b,ws,q1,q2,q3,q4,q5⟩:=r.ow j zs ej
   have nb:b≠a:=λw=>by subst w;exact r.sep i j xs zs b z e ej hi q1
   exact⟨b,ws,q1,by rw[au nb];exact q2,q3,q4,q5⟩
 ·have o1:∃ w,env[j]?=some (some (.ow w)):=by
   rw[List.getElem?_set] at e1
   by_cases z:i=j
   ·subst z;exact⟨xs,e⟩
   ·rw[if_neg z] at e1;exact⟨_,e1⟩
  have o2:∃ w,env[k]?=some (some (.ow w)):=by
   rw[List.getElem?_set] at e2
   by_cases z:i=k
   ·subst z;exact⟨xs,e⟩
   ·rw[if_neg z] at e2;exact⟨_,e2⟩
  obtain⟨w1,o1⟩:=o1
  obtain⟨w2,o2⟩:=o2
  exact r.sep j k w1 w2 b nj o1 o2 e3 e4
 ·rw[List.getElem?_set] at ej
  by_cases z:i=j
  ·subst z
   rw[if_pos rfl] at ej
   split at ej <;> cases ej
  ·rw[if_neg z] at ej
   obtain⟨dx,ws,q1,q2,q3,q4,q5⟩:=r.bd j ba C fs ej
   have nb:ba≠a:=λw=>by subst w;rw[h2] at q2;cases q2
   exact⟨dx,ws,q1,by rw[au nb];exact q2,q3,q4,q5⟩
 ·rw[List.getElem?_set] at e1 e2
  by_cases z:i=j
  ·subst z
   rw[if_pos rfl] at e1
   split at e1 <;> cases e1
  ·by_cases z2:i=k
   ·subst z2
    rw[if_pos rfl] at e2
    split at e2 <;> cases e2
   ·rw[if_neg z] at e1
    rw[if_neg z2] at e2
    exact r.one j k _ _ C D fs gs e1 e2
theorem xt{apos J6 px:Pos}(hi:X.N[i]?=some x)(hv:A3 X.env.scope x)(he:PE X e (tE (λ_=>E) f))(hd:(x==("__debug__" : Str))=false:=by decide)(Lh:(x==("__classdict__" : Str))=false:=by decide)
  (Mf:attributeBase (.Name x px) "append" X.env (eval (.Name x px) X.env)=eval (.Name x px) X.env:=by rfl)
  (MQ:((backTo J6 (starEach [e] X.env)).all (λx=>!x.1)&&(backToKw J6 (keywordEach [] X.env)).all (λx=>x.1.isSome)
   && decide (([e]:List Expr).length+([]:List Keyword).length+(if ([]:List Keyword).isEmpty then 0 else 1)<30))=true:=by rfl)
  (Mn:(apos.endLine==J6.line)=true:=by rfl) (Kw:starEach [e] X.env=(false,eval e X.env)::starEach [] X.env:=by rfl) (LR:(backTo J6 (starEach [] X.env)).any (·.1)=false:=by rfl)
  (hs:swapsWith (.Call (.Attribute (.Name x px) "append" apos) [e] [] J6) none pos.line X.env=pure false:=by rfl) :
  PS X (.Expr (.Call (.Attribute (.Name x px) "append" apos) [e] [] J6) pos) (tS E (iw i f)):=by
 refine(qS (GF PySem.F.plainAttrs_list PySem.F.slot_list_append PySem.F.type_list_append pW (nR hi hv hd Lh) (e7 he lE Kw) Mf MQ Mn Kw LR) hs).imp λD σ H q=>?_
 obtain⟨B,H₀,Hs,env,sr,q⟩:=q
 unfold iw at q
 split at q
 ·rename_i xs ex
  obtain⟨a,vs,h1,h2,h3,h4,h5⟩:=sr.ow i xs ex
  refine⟨.ref a,h1,.inl ⟨rfl,vs,ij.of h2⟩,B,H₀,Hs,env,sr,(aw.bind q).imp (λp hp v JV H' g r=>?_) λe he=>he.grow sr.gr⟩
  by_cases hz:xs.length<sizeLine
  ·rw[if_pos hz] at hp
   have LC:=sr.grow g
   have r5:aH JV (xs++[p]) (vs++[v]):=(h5.mono g.st).snoc r
   exact⟨a,vs,v,rfl,rfl,g.al _ _ h2,by rw[← h5.length];exact hz,hp σ JV _ (LC.put ex h1 r5)⟩
  ·rw[if_neg hz] at hp;exact hp.elim
 ·exact q.elim
end
end L2
namespace L2
open PySem PySem.Spec PyProof.Rows
def Ec:Out->M PV
 | .rt p=>M.ok p
 | .nx _=>M.ok .bZ
 | _=>none
def ki(m:Nat)(ps:List PV):af:=ps.map (λp=>some (.sh p))++List.replicate (m-ps.length) none
def ay(m:Nat)(g:af->M Out)(ps:List PV):M PV:=(g (ki m ps)).bind Ec
theorem SR.start{Hs H:Hp}{N:List Str}{ps:List PV}{vs:List V}(s:aV Hs H)(r:aH Hs ps vs):SR Hs H Hs H (start N vs) (ki N.length ps) where
 gr:=.refl s
 len:=by unfold L2.start ki;simp[r.length]
 sh:=λi p e=>by
  unfold ki at e
  unfold L2.start
  by_cases hi:i<ps.length
  ·rw[List.getElem?_append_left (by simpa using hi),List.getElem?_map,List.getElem?_eq_getElem hi] at e
   cases e
   obtain⟨v,h1,h2⟩:=r.get (List.getElem?_eq_getElem hi)
   exact⟨v,by rw[List.getElem?_append_left (by simpa using (r.length▸hi)),List.getElem?_map,h1];rfl,h2⟩
  ·rw[List.getElem?_append_right (by simpa using hi),List.getElem?_replicate] at e
   split at e <;> cases e
 ow:=λi xs e=>by
  unfold ki at e
  by_cases hi:i<ps.length
  ·rw[List.getElem?_append_left (by simpa using hi),List.getElem?_map,List.getElem?_eq_getElem hi] at e
   cases e
  ·rw[List.getElem?_append_right (by simpa using hi),List.getElem?_replicate] at e
   split at e <;> cases e
 sep:=λi j xs ys a _ e=>by
  unfold ki at e
  by_cases hi:i<ps.length
  ·rw[List.getElem?_append_left (by simpa using hi),List.getElem?_map,List.getElem?_eq_getElem hi] at e
   cases e
  ·rw[List.getElem?_append_right (by simpa using hi),List.getElem?_replicate] at e
   split at e <;> cases e
 bd:=λi a C fs e=>by
  unfold ki at e
  by_cases hi:i<ps.length
  ·rw[List.getElem?_append_left (by simpa using hi),List.getElem?_map,List.getElem?_eq_getElem hi] at e
   cases e
  ·rw[List.getElem?_append_right (by simpa using hi),List.getElem?_replicate] at e
   split at e <;> cases e
 one:=λi j a b C D fs gs e=>by
  unfold ki at e
  by_cases hi:i<ps.length
  ·rw[List.getElem?_append_left (by simpa using hi),List.getElem?_map,List.getElem?_eq_getElem hi] at e
   cases e
  ·rw[List.getElem?_append_right (by simpa using hi),List.getElem?_replicate] at e
   split at e <;> cases e
theorem Ew{P:Program}{w:World}{K:PySem.W.Frag}{mg:Str->Option Value}{base:Heap}{k:Nat}{f:Addr}{name qual:Str}{params:Arguments}{body:List Stmt}{scope:Scope}{dV kV doc pm Ka ct oc:Value}{an od:Option Addr}
  {L9:Array (Option Value)} {N ps:List Str} {g:af->M Out} (lk:K.lookup f=some ⟨oc,od,.func (PySem.W.fnOf name qual params body scope dV kV doc pm an Ka ct),L9⟩) (Lh:PySem.W.codeIn K Ka qual=true) (S:av N ps scope)
  (hb:∀ (A:Around) (outer:List Env) (s:Shared) (H:Hp) (E:XK),bN k (A.deeper (envOfC qual scope s.heap.objs.size f Ka))->kf ((my (bG P w) P w K mg base N qual scope f Ka A outer s H E).out λ_=>E) body (tS E g)) :
  aF P w K mg base (bG P w) (k+1) f (PySem.W.fnOf name qual params body scope dV kV doc pm an Ka ct) ps (dh ps.length (ay N.length g)):=by
 refine va lk Lh S (λvs H Q E h=>h.1) λA outer s H vs Q E hr hs=>⟨_,hb A outer s H E hr,?_⟩
 obtain⟨_,Hs,Lx,sm,r,h⟩:=hs
 refine⟨Hs,H,Hs,_,SR.start sm r,(aw.bind h).imp (λo ho=>?_) λe he=>he⟩
 cases o with
 | rt p=>exact λv JV H' gr rv=>ho v JV H' gr rv
 | nx env=>exact fun σ JV H' sr=>ho .bZ JV H' sr.gr .bZ
 | bk env=>exact ho.elim
 | ct env=>exact ho.elim
section
variable{X:Cx}{E:XK}{e:Expr}{es:List Expr}{pos p J6:Pos}{x:Str}{C f:Addr}{k:Nat}{fd:FuncData}{ps:List Str}{fs:af->M (List PV)}
def jf(C:Addr)(fs:af->M (List PV)):af->M Out:=λenv=>(fs env).bind λps=>cO (ps.length<=sizeLine) (some (.error (C,none)))
theorem xf(O:fg X λ_=>E)(J4:X.calm=true)(hc:PySem.W.excIn X.K C eH "ValueError.__new__" = true)(c:fS X.K C)(ht:PySem.W.typeIn X.K (.ref C)=some (.type "type"))(kp:PySem.W.keepIn X.K (.ref C)=true)(hg:Gl X x)(hm:X.mg x=some (.ref C))(ha:PA X (e::es) (tL (λ_=>E) fs))
  (KU:(x==("__debug__" : Str))=false:=by decide) (he:starEach (e::es) X.env=(false,eval e X.env)::starEach es X.env:=by rfl) (Kd:(backTo J6 (starEach es X.env)).any (·.1)=false:=by rfl) :
  PS X (.Raise (some (.Call (.Name x p) (e::es) [] J6)) none pos) (tS E (jf C fs)):=by
 refine(sF O J4 (AL hc kp hg hm ha KU he Kd)).imp λD σ H q=>kG q λB H₀ Hs H1 env Lx v sr rp hp=>?_
 obtain⟨hz,hp⟩:=aw.cO hp
 refine⟨by rw[← rp.length];exact hz,λa n=>⟨a,C,none,rfl,az,c,ht,?_⟩⟩
 rw[vR]
 exact hp a (upd Hs a (gP C none a)) _ (sr.gr.trans (bD.new sr.gr.sub n)) (.uW az)
def wx(K:PySem.W.Frag)(C:Addr)(fl:Str):Sp:=λvs H Q _=>∃ a y,vs=[.ref a,y]/\H a=some (jQ C none a)/\∀ d,H d=none->d≠a->Q .bZ (upd (upd H d (.xd [(fl,y)])) a (jQ C (some d) a))
def ja(C:Addr)(fl:Str)(fs:af->M (List PV)):af->M Out:=λenv=>(fs env).bind λps=>match ps with
 | [p]=>some (.error (C,some [(fl,p)]))
 | _=>none
theorem xo{fl:Str}(O:fg X λ_=>E)(J4:X.calm=true)(hc:oj X.K C "ValueError.__new__" f=true)(hf:PySem.W.isFn X.K (.ref f)=true)(c:fS X.K C)(ht:PySem.W.typeIn X.K (.ref C)=some (.type "type"))(kp:PySem.W.keepIn X.K (.ref C)=true)(F:aF X.prog X.w X.K X.mg X.base (bG X.prog X.w) k f fd ps (wx X.K C fl))(hr:bN (k+1) X.A)(hb:Binds X.K fd ps [])
  (hg:Gl X x) (hm:X.mg x=some (.ref C)) (ha:PA X [e] (tL (λ_=>E) fs))
  (KU:(x==("__debug__" : Str))=false:=by decide) (he:starEach [e] X.env=(false,eval e X.env)::starEach [] X.env:=by rfl) (Kd:(backTo J6 (starEach [] X.env)).any (·.1)=false:=by rfl) :
  PS X (.Raise (some (.Call (.Name x p) [e] [] J6)) none pos) (tS E (ja C fl fs)):=by
 refine(sF O J4 (zM hc hf kp F hr hb hg hm ha KU he Kd)).imp λD σ H q=>kG q λB H₀ Hs H1 env Lx v sr rp hp=>?_
 match Lx,rp,hp with
 | [],_,hp=>exact hp.elim
 | _::_::_,_,hp=>exact hp.elim
 | [y],rp,hp =>
  obtain⟨v,rfl,ry⟩:=rp.one
  refine⟨by show 1<=sizeLine;decide,λa n=>⟨a,v,rfl,az,λd hd hda=>⟨rfl,a,C,some d,rfl,az,c,ht,?_⟩⟩⟩
  rw[vR]
  have hd1:H1 d=none:=by rw[au hda] at hd;exact hd
  have g1:=bD.new (o:=.xd [(fl,v)]) sr.gr.sub hd1
  have MG:upd H1 d (.xd [(fl,v)]) a=none:=by rw[au (Ne.symm hda)];exact n
  have g2:=bD.new (o:=gP C (some d) a) g1.sub MG
  have hH:upd (upd (upd H1 a (jQ C none a)) d (.xd [(fl,v)])) a (gP C (some d) a)=upd (upd H1 d (.xd [(fl,v)])) a (gP C (some d) a):=by
   funext b
   by_cases z:b=a
   ·subst z;rw[az,az]
   ·rw[au z,au z]
    by_cases z2:b=d
    ·subst z2;rw[az,az]
    ·rw[au z2,au z2,au z]
  rw[hH]
  refine hp a (upd (upd Hs d (.xd [(fl,v)])) a (gP C (some d) a)) _ ((sr.gr.trans g1).trans g2) ?_
  exact .uH az (by rw[au hda];exact az) (.cons ((ry.mono g1.st).mono g2.st) .nil)
theorem oS{P:Program}{w:World}{K:PySem.W.Frag}{mg:Str->Option Value}{base:Heap}{f:Addr}{name qual:Str}{params:Arguments}{scope:Scope}{dV kV doc pm Ka ct oc:Value}{an od:Option Addr}
  {L9:Array (Option Value)} {n0 n1 fl:Str} {p0 p1 p2 p3:Pos} (lk:K.lookup f=some ⟨oc,od,.func (PySem.W.fnOf name qual params [.Assign [.Attribute (.Name n0 p0) fl p1] (.Name n1 p2) p3] scope dV kV doc pm an Ka ct),L9⟩) (Lh:PySem.W.codeIn K Ka qual=true) (S:av [n0,n1] [n0,n1] scope)
  (c:fS K C) (ho:((PySem.W.clsIn K C).any λcd=>f_ cd.mro)=true) (na:bQ K C fl) (v0:A3 scope n0) (v1:A3 scope n1) (d0:(n0==("__debug__" : Str))=false) (d1:(n1==("__debug__" : Str))=false) (c0:(n0==("__classdict__" : Str))=false) (c1:(n1==("__classdict__" : Str))=false)
  (hs:∀ env,swapsWith (.Name n1 p2) (some (.Attribute (.Name n0 p0) fl p1)) p3.line env=pure false) :
  aF P w K mg base (bG P w) 1 f (PySem.W.fnOf name qual params [.Assign [.Attribute (.Name n0 p0) fl p1] (.Name n1 p2) p3] scope dV kV doc pm an Ka ct) [n0,n1] (wx K C fl):=by
 refine va (k:=0) lk Lh S (λvs H Q E h=>by obtain⟨a,y,rfl,_⟩:=h;rfl) λA outer s H vs Q E hr h=>?_
 obtain⟨a,y,rfl,ha,hq⟩:=h
 refine⟨_,AM (yz (nR (i:=0) rfl v0 d0 c0) (nR (i:=1) rfl v1 d1 c1) (hs _)),?_⟩
 exact⟨y,rfl,.ref a,rfl,a,C,rfl,ha,c,ho,na,hq⟩
end
end L2
namespace L2
open PySem PySem.Spec PyProof.Rows
structure kd (J:It) (J2:Hp) (xs:List PV):Prop where
 stop:∀ (i:Nat) (Hs H:Hp),aV J2 Hs->aV Hs H->xs.length<=i->J.stop i H
 go:∀ (i:Nat) (Hs H:Hp),aV J2 Hs->aV Hs H->i<xs.length->J.go i H
 uJ:∀ (i:Nat) (Hs H:Hp) (x:V) (H2:Hp),aV J2 Hs->aV Hs H->i<xs.length->J.uJ i H x H2->∃ p J5,xs[i]?=some p/\bD Hs H J5 H2/\Rep J5 p x
def KI(R:It->Hp->Prop):Hp->Hp->List PV->Prop:=λHs H xs=>∀ J JV H',bD Hs H JV H'->kd J JV xs->R J H'
def BQ(E:St->XK)(wi:TI)(it:af->M (List PV)):Prop:=∀ (σ:St) (H:Hp) (R:It->Hp->Prop),tG E it (KI R) σ H->wi σ H R
theorem KI.g{R:It->Hp->Prop}:KG (KI R):=λHs H JV H' b k g J J5 H2 g2 o=>k J J5 H2 (g.trans g2) o
section
variable{E:St->XK}{K:PySem.W.Frag}{f:af->M PV}{fs:af->M (List PV)}
theorem yT{b:Bool}{a:Addr}{J2:Hp}{xs:List PV}{vs:List V}(hq:∀ JV H',aV J2 JV->aV JV H'->jR K H' b a vs)(hr:aH J2 xs vs):kd (G8 K b a) J2 xs where
 stop:=λi Hs H s1 s2 hi=>by
  have q:=hq Hs H s1 s2
  cases b with
  | true=>exact⟨vs,q,by rw[← hr.length];exact hi⟩
  | false=>exact⟨vs,q,by rw[← hr.length];exact hi⟩
 go:=λi Hs H s1 s2 hi=>by
  have q:=hq Hs H s1 s2
  obtain⟨v,e,_⟩:=hr.get (List.getElem?_eq_getElem hi)
  cases b with
  | true=>exact⟨vs,v,q,e⟩
  | false=>exact⟨vs,v,q,e⟩
 uJ:=λi Hs H x H2 s1 s2 hi y=>by
  have q:=hq Hs H s1 s2
  obtain⟨v,e,r⟩:=hr.get (List.getElem?_eq_getElem hi)
  have z:H2=H/\vs[i]?=some x:=by
   cases b with
   | true=>exact⟨y.1,y.2 vs q⟩
   | false=>exact⟨y.1,y.2 vs q⟩
  obtain⟨rfl,z⟩:=z
  rw[e] at z;cases z
  exact⟨xs[i],Hs,List.getElem?_eq_getElem hi,.refl s2,r.mono s1⟩
theorem dD:BQ E (F3 K (tE E f)) (itemsOf f):=by
 intro σ H R q
 refine bT (K:=KI R) KI.g q λB H₀ Hs H1 env p v sr rp hp=>?_
 cases e:bO p with
 | none=>rw[e] at hp;exact hp.elim
 | some xs =>
  rw[e] at hp
  obtain⟨b,a,vs,rfl,hq,hr⟩:=jB (K:=K) sr.gr.sub rp e
  exact⟨b,a,rfl,⟨vs,hq Hs H1 (λ_ _ z=>z) sr.gr.sub⟩,hp (G8 K b a) Hs H1 (.refl sr.gr.sub) (yT hq hr)⟩
def mW(o:List PV->M (List PV))(fs:af->M (List PV)):af->M (List PV):=λenv=>(fs env).bind o
theorem yE{lo:Int}{n:Nat}{J2:Hp}:kd (G3 lo n) J2 ((List.range n).map λ(i:Nat)=>PV.int (lo+(i:Int))) where
 stop:=λi Hs H s1 s2 hi=>show n<=i by simpa using hi
 go:=λi Hs H s1 s2 hi=>show i<n by simpa using hi
 uJ:=λi Hs H x H2 s1 s2 hi y=>by
  obtain⟨rfl,rfl⟩:=y
  exact⟨_,Hs,wa (by simpa using hi),.refl s2,.int _⟩
theorem aO{α:Type}(x:M α):x.bind M.ok=x:=by
 cases x with
 | none=>rfl
 | some x=>cases x <;> rfl
theorem n5:BQ E (Cz (tL E fs)) (mW uR fs):=by
 intro σ H R q
 refine eh (K:=KI R) KI.g q λB H₀ Hs H1 env ps v sr rp hp=>?_
 rw[← aO (uR ps)] at hp
 obtain⟨n,rfl,h1,h2,hp⟩:=xp hp
 obtain⟨w,rfl,Ly⟩:=rp.one
 cases Ly
 exact⟨n,rfl,h1,h2,hp _ Hs H1 (.refl sr.gr.sub) yE⟩
theorem xQ{xs ys:List PV}{i:Nat}(h1:i<xs.length)(h2:i<ys.length):(List.zipWith (λa b=>PV.tup [a,b]) xs ys)[i]?=some (.tup [xs[i],ys[i]]):=by
 rw[List.getElem?_zipWith,List.getElem?_eq_getElem h1,List.getElem?_eq_getElem h2]
theorem zR{b1 b2:Bool}{a1 a2:Addr}{J2:Hp}{xs ys:List PV}{vs us:List V}(Ku:∀ JV H',aV J2 JV->aV JV H'->jR K H' b1 a1 vs)(Mp:aH J2 xs vs)(Kv:∀ JV H',aV J2 JV->aV JV H'->jR K H' b2 a2 us)(Mq:aH J2 ys us) :
  kd (HX K b1 b2 a1 a2) J2 (List.zipWith (λa b=>PV.tup [a,b]) xs ys) where
 stop:=λi Hs H s1 s2 hi=>by
  rw[List.length_zipWith,Mp.length,Mq.length] at hi
  exact⟨vs,us,Ku Hs H s1 s2,Kv Hs H s1 s2,by omega⟩
 go:=λi Hs H s1 s2 hi=>by
  rw[List.length_zipWith] at hi
  obtain⟨v,e,_⟩:=Mp.get (List.getElem?_eq_getElem (show i<xs.length by omega))
  obtain⟨u,e',_⟩:=Mq.get (List.getElem?_eq_getElem (show i<ys.length by omega))
  exact⟨vs,us,v,u,Ku Hs H s1 s2,Kv Hs H s1 s2,e,e'⟩
 uJ:=λi Hs H x H2 s1 s2 hi y=>by
  rw[List.length_zipWith] at hi
  have l1:i<xs.length:=by omega
  have l2:i<ys.length:=by omega
  obtain⟨v,e,r⟩:=Mp.get (List.getElem?_eq_getElem l1)
  obtain⟨u,e',r'⟩:=Mq.get (List.getElem?_eq_getElem l2)
  obtain⟨pa,v',u',hn,rfl,rfl,y1,y2⟩:=y
  have z1:=y1 vs (Ku Hs H s1 s2)
  have z2:=y2 us (Kv Hs H s1 s2)
  rw[e] at z1;cases z1
  rw[e'] at z2;cases z2
  have gr:=bD.new (o:=.tup [v,u]) s2 hn
  exact⟨_,_,xQ l1 l2,gr,.tup az (.cons ((r.mono s1).mono gr.st) (.cons ((r'.mono s1).mono gr.st) .nil))⟩
theorem dZ:BQ E (F1 K (tL E fs)) (mW zip2 fs):=by
 intro σ H R q
 refine eh (K:=KI R) KI.g q λB H₀ Hs H1 env ps v sr rp hp=>?_
 rw[← aO (zip2 ps)] at hp
 obtain⟨p,q,xs,ys,rfl,e1,e2,hp⟩:=wO hp
 obtain⟨w,u,rfl,Ly,ru⟩:=rp.two
 obtain⟨b1,a1,vs,rfl,Ku,Mp⟩:=jB (K:=K) sr.gr.sub Ly e1
 obtain⟨b2,a2,us,rfl,Kv,Mq⟩:=jB (K:=K) sr.gr.sub ru e2
 exact⟨b1,b2,a1,a2,rfl,⟨vs,Ku Hs H1 (λ_ _ z=>z) sr.gr.sub⟩,⟨us,Kv Hs H1 (λ_ _ z=>z) sr.gr.sub⟩,hp _ Hs H1 (.refl sr.gr.sub) (zR Ku Mp Kv Mq)⟩
end
theorem bH{X:Cx}{E:XK}{tg iter:Expr}{pos:Pos}{g:TG}{set:PV->af->M af}{body:af->M Out}{bd:List Stmt}{wi:TI}{it:af->M (List PV)}(O:fg X λ_=>E)(hc:X.calm=true)(hi:PI X tg iter wi)(hv:BQ (λ_=>E) wi it)(hg:PG X tg g)(M0:Cm E g set)(hb:kf X bd (tS E body))(hs:∀ x,foldedSetIterable iter X.env x=pure x:=by intro _;rfl) :
  PS X (.For tg iter bd [] pos) (tS E (ib it set body)):=by
 refine(D6 O.own hc hi hg hb hs).imp λD σ H q=>hv σ H _ ?_
 obtain⟨B,H₀,Hs,env,sr,q⟩:=q
 refine⟨B,H₀,Hs,env,sr,(aw.bind q).imp (λxs hp J JV H' gr ok=>?_) λe he=>he.grow sr.gr⟩
 have LC:=sr.grow gr
 refine⟨λi m σ H=>m=xs.length-i/\i<=xs.length/\Jv E set body D B H₀ JV xs i σ H,⟨xs.length,by simp,Nat.zero_le _,JV,env,LC,λ_ _ z=>z,hp⟩,?_⟩
 rintro i m σ' H2 ⟨rfl,hi,J5,env2,KR,s2,h2⟩
 by_cases Le:i<xs.length
 ·refine .inr ⟨ok.go i J5 H2 s2 KR.gr.sub Le,Jv E set body D B H₀ JV xs (i+1),fun σ3 H3 j=>⟨xs.length-(i+1),by omega,rfl,Le,j⟩,λx H3 y=>?_⟩
  obtain⟨p,Lz,ep,g3,r3⟩:=ok.uJ i J5 H2 x H3 s2 KR.gr.sub Le y
  exact Jv.turn (Hx:=H2) (H1:=H2) M0 ep KR s2 h2 g3 r3
 ·have e:i=xs.length:=by omega
  refine .inl ⟨ok.stop i J5 H2 s2 KR.gr.sub (by omega),?_⟩
  exact Jv.done (E:=E) (set:=set) (body:=body) (xs:=xs) (B:=B) (H₀:=H₀) (J2:=JV) (n:=i) ⟨J5,env2,KR,s2,h2⟩ (by omega)
end L2
namespace L2
open PySem PySem.Spec PyProof.Rows
abbrev EF:St->XK:=λ_ _ _ _=>False
def mq(env:af):Prop:=∀ (i:Nat) (x:SV),env[i]?=some (some x)->∃ p,x=.sh p
theorem mq.ow{env:af}(n:mq env){i:Nat}{xs:List PV}(e:env[i]?=some (some (.ow xs))):False:=by obtain⟨p,z⟩:=n i _ e;cases z
theorem mq.bd{env:af}(n:mq env){i:Nat}{a C:Addr}{fs:List (Str×PV)}(e:env[i]?=some (some (.bd a C fs))):False:=by obtain⟨p,z⟩:=n i _ e;cases z
def Am{α:Type}:M α->M α
 | some (.ok a)=>some (.ok a)
 | _=>none
theorem aw.Am{α:Type}{x:M α}{Q:α->Prop}{E:EX->Prop}(h:aw (L2.Am x) Q E):aw x Q (λ_=>False):=by
 cases x with
 | none=>exact h
 | some x=>cases x with
  | ok a=>exact h
  | error e=>exact h
def j9(n:Nat)(js:List Nat)(env:af):af:=List.replicate n none++js.map λj=>match env[j]? with
 | some (some (.sh p))=>some (.sh p)
 | _=>none
theorem qi{n:Nat}{js:List Nat}{env:af}{i:Nat}{x:SV}(h:(j9 n js env)[i]?=some (some x)):∃ j p,n<=i/\js[i-n]?=some j/\env[j]?=some (some (.sh p))/\x=.sh p:=by
 unfold j9 at h
 by_cases hi:i<n
 ·rw[List.getElem?_append_left (by simpa using hi),List.getElem?_replicate] at h
  split at h <;> cases h
 ·rw[List.getElem?_append_right (by simpa using hi),List.getElem?_map,List.length_replicate] at h
  cases hj:js[i-n]? with
  | none=>rw[hj] at h;cases h
  | some j =>
   rw[hj] at h
   have h':(match env[j]? with | some (some (.sh p))=>some (SV.sh p) | _=>none)=some x:=Option.some.inj h
   split at h'
   ·rename_i p e
    cases h'
    exact⟨j,p,by omega,rfl,e,rfl⟩
   ·cases h'
theorem eI{n:Nat}{js:List Nat}{env:af}:mq (j9 n js env):=λi xs e=>by
 obtain⟨_,p,_,_,_,z⟩:=qi e
 exact⟨p,z⟩
theorem SR.block{B H₀ Hs H:Hp}{σ:St}{env:af}{ts:List Str}{js:List Nat}{D:Addr}(r:SR B H₀ Hs H σ env)(hD:H D=none):SR Hs H Hs (upd H D (.lst [])) (fO ts js σ) (j9 ts.length js env) where
 gr:=by
  have ne:∀ c u,H c=some u->c≠D:=λc u q z=>by rw[z,hD] at q;cases q
  exact⟨λ_ _ e=>e,λc u e=>by rw[au (ne c u e)];exact e,λc u e=>by rw[au (ne c u (r.gr.sub c u e))];exact r.gr.sub c u e,λ_ _ e _=>e⟩
 len:=by unfold fO j9;simp
 sh:=λi p e=>by
  obtain⟨j,q,hn,hj,he,z⟩:=qi e
  cases z
  obtain⟨v,h1,h2⟩:=r.sh j p he
  refine⟨v,?_,h2⟩
  unfold fO
  rw[List.getElem?_append_right (by simpa using hn),List.getElem?_map,List.length_map,hj]
  show some (σ[j]?).join=_
  rw[h1];rfl
 ow:=λi xs e=>(eI.ow e).elim
 sep:=λi j xs ys a _ e=>(eI.ow e).elim
 bd:=λi a C fs e=>(eI.bd e).elim
 one:=λi j a b C D fs gs e=>(eI.bd e).elim
theorem SR.Fb{B H₀ Hs H:Hp}{σ:St}{env:af}{D:Addr}{o:HO}(r:SR B H₀ Hs H σ env)(n:mq env)(h1:Hs D=none)(h2:H₀ D=none):SR B H₀ Hs (upd H D o) σ env where
 gr:=⟨r.gr.st,λc u q=>by rw[au (λz=>by rw[z,h2] at q;cases q)];exact r.gr.al c u q,λc u q=>by rw[au (λz=>by rw[z,h1] at q;cases q)];exact r.gr.sub c u q,r.gr.nw⟩
 len:=r.len
 sh:=r.sh
 ow:=λi xs e=>(n.ow e).elim
 sep:=λi j xs ys a _ e=>(n.ow e).elim
 bd:=λi a C fs e=>(n.bd e).elim
 one:=λi j a b C D fs gs e=>(n.bd e).elim
def dj(set:PV->af->M af)(t:Option (af->M Bool))(f:af->M PV):List PV->af->M (List PV)
 | [],_=>M.ok []
 | x::xs,env=>(set x env).bind λe=>match t with
  | none=>(f e).bind λy=>(dj set t f xs e).bind λys=>M.ok (y::ys)
  | some t'=>(t' e).bind λb=>if b=true then (f e).bind λy=>(dj set t f xs e).bind λys=>M.ok (y::ys) else dj set t f xs e
def fI(it:af->M (List PV))(set:PV->af->M af)(t:Option (af->M Bool))(f:af->M PV)(n:Nat)(js:List Nat):af->M (List PV):=λenv=>(it env).bind λxs=>cO (xs.length<=sizeLine) (Am (dj set t f xs (j9 n js env)))
def qe(set:PV->af->M af):Prop:=∀ p env e,set p env=some (.ok e)->mq env->mq e
theorem jD{i:Nat}{env:af}{p:PV}(n:mq env):mq (env.set i (some (.sh p))):=λj xs e=>by
 rw[List.getElem?_set] at e
 by_cases z:i=j
 ·rw[if_pos z] at e
  split at e
  ·cases e;exact⟨p,rfl⟩
  ·cases e
 ·rw[if_neg z] at e;exact n j xs e
theorem gB{i:Nat}:qe (dH i):=λp env e h n=>by
 cases h
 exact jD n
theorem eN{i j:Nat}:qe (bx i j):=λp env e h n=>by
 unfold bx at h
 split at h
 ·cases h;exact jD (jD n)
 ·cases h
section
variable{set:PV->af->M af}{t:Option (af->M Bool)}{f:af->M PV}{Q:VK}{J2 H1:Hp}{D:Addr}{xs:List PV}
def Jc(set:PV->af->M af)(t:Option (af->M Bool))(f:af->M PV)(Q:VK)(J2 H1:Hp)(D:Addr)(xs:List PV)(i:Nat)(σ:St)(H:Hp):Prop:=∃ Hs env ys vs,SR J2 H1 Hs H σ env/\mq env/\H D=some (.lst vs)/\Hs D=none/\aH Hs ys vs/\ys.length<=i ∧
 aw (dj set t f (xs.drop i) env) (λzs=>KO Q J2 H1 (ys++zs)) (λ_=>False)
def rem(H:Hp)(D:Addr):Hp:=λa=>if a=D then none else H a
theorem xU{H:Hp}{D:Addr}:rem H D D=none:=by unfold rem;rw[if_pos rfl]
theorem u4{H:Hp}{D a:Addr}(n:a≠D):rem H D a=H a:=by unfold rem;rw[if_neg n]
theorem Bm{H:Hp}{D:Addr}{o:HO}(h:H D=some o):upd (rem H D) D o=H:=by
 funext a
 by_cases z:a=D
 ·subst z;rw[az,h]
 ·rw[au z,u4 z]
theorem Jc.done{i:Nat}{σ:St}{H:Hp}(hD:H1 D=none)(j:Jc set t f Q J2 H1 D xs i σ H)(hi:xs.length<=i):Q (.ref D) H:=by
 obtain⟨Hs,env,ys,vs,sr,n,h1,h2,r,_,h⟩:=j
 rw[List.drop_eq_nil_of_le hi] at h
 have h':KO Q J2 H1 (ys++[]):=h
 rw[List.append_nil] at h'
 have gr:bD J2 H1 Hs (rem H D):=by
  refine⟨sr.gr.st,λc u q=>?_,λc u q=>?_,sr.gr.nw⟩
  ·rw[u4 (λz=>by rw[z,hD] at q;cases q)];exact sr.gr.al c u q
  ·rw[u4 (λz=>by rw[z,h2] at q;cases q)];exact sr.gr.sub c u q
 have:=h' vs D Hs (rem H D) gr r xU
 rw[Bm h1] at this
 exact this
theorem Jc.put{i:Nat}{σ:St}{Hs H:Hp}{env:af}{ys:List PV}{vs:List V}{y:PV}{v:V}(hD:H1 D=none)(sr:SR J2 H1 Hs H σ env)(n:mq env)(h1:H D=some (.lst vs))(h2:Hs D=none)(r:aH Hs ys vs)(hy:ys.length<=i)(hi:i<sizeLine)(rv:Rep Hs y v)
  (h:aw ((dj set t f (xs.drop (i+1)) env).bind λzs=>M.ok (y::zs)) (λzs=>KO Q J2 H1 (ys++zs)) (λ_=>False)) :
  ∃ us,H D=some (.lst us)/\us.length<sizeLine/\Jc set t f Q J2 H1 D xs (i+1) σ (upd H D (.lst (us++[v]))):=by
 refine⟨vs,h1,by rw[← r.length];omega,Hs,env,ys++[y],vs++[v],sr.Fb n h2 hD,n,az,h2,r.snoc rv,by rw[List.length_append];show ys.length+1<=i+1;omega,(aw.bind h).imp (λzs hz=>?_) λ_ z=>z⟩
 have LI:KO Q J2 H1 (ys++(y::zs)):=hz
 rw[List.append_assoc]
 exact LI
end
section
variable{X:Cx}{E:St->XK}{tg elt iter c:Expr}{scope:Scope}{cl:List (Str×Addr)}{pos:Pos}{wi:TI}{it:af->M (List PV)}{g:TG}{set:PV->af->M af}{f:af->M PV}{u:af->M Bool}{ts fs:List Str}{js:List Nat}
theorem qc{C:Addr}{s₀:Shared}{H₀:Hp}{ex:List Addr}{JS:List (Addr×Obj)}{N:List Str}:fg (tX X scope cl N C s₀ H₀ ex JS) EF where
 pass:=λ_ _ _ _ _ _ _ h=>by
  obtain⟨_,_,_,_,_,_,_,_,_,_,_,_,_,z⟩:=h
  exact z.elim
 new:=λ_ _ _ _ _ _ _ _ _ z=>z.elim
 own:=PassesOwn.never
theorem dr(J4:X.calm=true)
  (Ky:closureFor scope X.env=pure cl) (hk:scope.kind=.function) (nc:ic scope.names=true) (lo:jG scope.names=true) (fh:jA cl scope.names=true) (ag:fE X cl) (fr:jt X scope cl fs js)
  (hi:PI X tg iter wi) (hv:BQ E wi it) (hg:∀ C s₀ H₀ ex JS,PG (tX X scope cl (ts++fs) C s₀ H₀ ex JS) tg g) (M0:∀ E,Cm E g set) (so:qe set) (he:∀ C s₀ H₀ ex JS,PE (tX X scope cl (ts++fs) C s₀ H₀ ex JS) elt (tE EF f))
  (hs:∀ x,foldedSetIterable iter X.env x=pure x:=by intro _;rfl):PE X (.ListComp elt [⟨tg,iter,[],0⟩] scope pos) (tO E (fI it set none f ts.length js)):=by
 refine(yU J4 Ky hk nc lo fh ag fr hi hg he hs).imp fun σ H Q q=>hv σ H _ ?_
 obtain⟨B,H₀,Hs,env,sr,q⟩:=q
 refine⟨B,H₀,Hs,env,sr,(aw.bind q).imp (λxs hp J J2 H1 gr ok D hD=>?_) λe he=>he⟩
 obtain⟨hz,hp⟩:=aw.cO hp
 have hp:=aw.Am hp
 have MZ:=sr.grow gr
 refine⟨λi m σ H=>m=xs.length-i/\i<=xs.length/\Jc set none f Q J2 H1 D xs i σ H,⟨xs.length,by simp,Nat.zero_le _,J2,_,[],[],MZ.block hD,eI,az,?_,.nil,Nat.le_refl _,hp.imp (λzs hz vs p J5 H2 g2 r n=>hz vs p J5 H2 (gr.trans g2) r n) λ_ z=>z⟩,?_⟩
 ·cases z:J2 D with
  | none=>rfl
  | some o=>have:=gr.sub _ _ z;rw[hD] at this;cases this
 rintro i m σ' H2 ⟨rfl,hi,J5,env2,ys,vs,KR,n2,d1,d2,r2,l2,h2⟩
 by_cases Le:i<xs.length
 ·refine .inr ⟨ok.go i J5 H2 KR.gr.st KR.gr.sub Le,Jc set none f Q J2 H1 D xs (i+1),fun σ3 H3 j=>⟨xs.length-(i+1),by omega,rfl,Le,j⟩,λx H3 y=>?_⟩
  obtain⟨p,Lz,ep,g3,r3⟩:=ok.uJ i J5 H2 x H3 KR.gr.st KR.gr.sub Le y
  have hd:xs.drop i=p::xs.drop (i+1):=by
   rw[List.drop_eq_getElem_cons Le]
   rw[List.getElem?_eq_getElem Le] at ep
   rw[Option.some.inj ep]
  rw[hd] at h2
  have h3:=aw.bind h2
  have LW:=KR.grow g3
  refine M0 (λ_ _ _=>False) J2 H1 Lz H3 σ' env2 p x _ (λ_=>False) LW r3 ?_
  cases hset:set p env2 with
  | none=>rw[hset] at h3;exact h3
  | some z=>cases z with
   | error e=>rw[hset] at h3;exact h3
   | ok e3 =>
    rw[hset] at h3
    intro σ4 sr4
    have n4:=so p env2 e3 hset n2
    refine⟨J2,H1,Lz,e3,sr4,(aw.bind h3).imp (λy hy v Hs5 H5 g5 r5=>?_) λ_ z=>z.elim⟩
    exact Jc.put (set:=set) (t:=none) (f:=f) hD (sr4.grow g5) n4 (g5.al _ _ (g3.al _ _ d1)) (g5.nw _ _ (g3.nw _ _ d2 d1) (g3.al _ _ d1)) ((r2.mono g3.st).mono g5.st) l2 (by omega) r5 hy
 ·refine .inl ⟨ok.stop i J5 H2 KR.gr.st KR.gr.sub (by omega),?_⟩
  exact Jc.done (set:=set) (t:=none) (f:=f) (xs:=xs) (J2:=J2) (H1:=H1) (i:=i) hD ⟨J5,env2,ys,vs,KR,n2,d1,d2,r2,l2,h2⟩ (by omega)
def gO(fo:af->M (List PV)):af->M PV:=λenv=>(fo env).bind λps=>M.ok (.lst ps)
theorem hZ{fo:af->M (List PV)}{e:Expr}(he:PE X e (tO E fo)):PE X e (tE E (gO fo)):=he.imp fun σ H Q q=>by
 obtain⟨B,H₀,Hs,env,sr,q⟩:=q
 refine⟨B,H₀,Hs,env,sr,(aw.bind q).imp (λps hp vs p JV H' g r n=>?_) λe he=>he⟩
 have gn:=bD.new (o:=.lst vs) g.sub n
 exact hp _ _ _ (g.trans gn) (.lst az (r.mono gn.st))
end
end L2
namespace L2
open PySem PySem.Spec PyProof.Rows
def rP(f:Str)(v:PV):List (Str×PV)->List (Str×PV)
 | []=>[(f,v)]
 | (g,x)::r=>if g=f then (g,v)::r else (g,x)::rP f v r
theorem iA.put{H:Hp}{f:Str}{p:PV}{v:V}(h:Rep H p v):∀ {fs:List (Str×PV)} {vs:List (Str×V)},iA H fs vs->iA H (rP f p fs) (i7 f v vs)
 | _,_,.nil=>.cons h .nil
 | (g,x)::r,_,.cons hx hr=>by
  unfold rP i7
  by_cases z:g=f
  ·rw[if_pos z,if_pos z];exact .cons h hr
  ·rw[if_neg z,if_neg z];exact .cons hx (hr.put h)
theorem iA.length{H:Hp}:∀ {fs:List (Str×PV)} {vs:List (Str×V)},iA H fs vs->fs.length=vs.length
 | _,_,.nil=>rfl
 | _,_,.cons _ r=>by simp[r.length]
theorem SR.HA{B H₀ Hs H:Hp}{σ:St}{env:af}{i:Nat}{a C dx:Addr}{fs gs:List (Str×PV)}{us:List (Str×V)}(r:SR B H₀ Hs H σ env)(e:env[i]?=some (some (.bd a C fs)))(h:iA Hs gs us):SR B H₀ Hs (upd H a (.ins C dx us)) σ (env.set i (some (.bd a C gs))):=by
 obtain⟨dx0,vs,h1,h2,h3,h4,h5⟩:=r.bd i a C fs e
 have nS:∀ c u,Hs c=some u->c≠a:=λc u q z=>by rw[z,h3] at q;cases q
 have n0:∀ c u,H₀ c=some u->c≠a:=λc u q z=>by rw[z,h4] at q;cases q
 refine⟨⟨r.gr.st,λc u q=>by rw[au (n0 c u q)];exact r.gr.al c u q,λc u q=>by rw[au (nS c u q)];exact r.gr.sub c u q,r.gr.nw⟩,by rw[List.length_set];exact r.len,λj q ej=>?_,λj zs ej=>?_,λj k y1 y2 b nj e1 e2 e3 e4=>?_,λj ba D MK ej=>?_,λj k _ _ C' D MK gs' e1 e2=>?_⟩
 ·rw[List.getElem?_set] at ej
  by_cases z:i=j
  ·subst z
   rw[if_pos rfl] at ej
   split at ej <;> cases ej
  ·rw[if_neg z] at ej;exact r.sh j q ej
 ·rw[List.getElem?_set] at ej
  by_cases z:i=j
  ·subst z
   rw[if_pos rfl] at ej
   split at ej <;> cases ej
  ·rw[if_neg z] at ej
   obtain⟨b,ws,q1,q2,q3,q4,q5⟩:=r.ow j zs ej
   have nb:b≠a:=λw=>by subst w;rw[h2] at q2;cases q2
   exact⟨b,ws,q1,by rw[au nb];exact q2,q3,q4,q5⟩
 ·rw[List.getElem?_set] at e1 e2
  by_cases z:i=j
  ·subst z
   rw[if_pos rfl] at e1
   split at e1 <;> cases e1
  ·by_cases z2:i=k
   ·subst z2
    rw[if_pos rfl] at e2
    split at e2 <;> cases e2
   ·rw[if_neg z] at e1
    rw[if_neg z2] at e2
    exact r.sep j k y1 y2 b nj e1 e2 e3 e4
 ·rw[List.getElem?_set] at ej
  by_cases z:i=j
  ·subst z
   rw[if_pos rfl] at ej
   split at ej
   ·cases ej;exact⟨dx,us,h1,az,h3,h4,h⟩
   ·cases ej
  ·rw[if_neg z] at ej
   exact absurd (r.one i j _ _ _ _ _ _ e ej) z
 ·have o1:∃ b D w,env[j]?=some (some (.bd b D w)):=by
   rw[List.getElem?_set] at e1
   by_cases z:i=j
   ·subst z;exact⟨_,_,_,e⟩
   ·rw[if_neg z] at e1;exact⟨_,_,_,e1⟩
  have o2:∃ b D w,env[k]?=some (some (.bd b D w)):=by
   rw[List.getElem?_set] at e2
   by_cases z:i=k
   ·subst z;exact⟨_,_,_,e⟩
   ·rw[if_neg z] at e2;exact⟨_,_,_,e2⟩
  obtain⟨_,_,w1,o1⟩:=o1
  obtain⟨_,_,w2,o2⟩:=o2
  exact r.one j k _ _ _ _ _ _ o1 o2
def zu(i:Nat)(C:Addr)(f:Str)(p:PV)(env:af):M Out:=match env[i]? with
 | some (some (.bd a C' fs))=>cO (C'=C/\fs.length<1000) (M.ok (.nx (env.set i (some (.bd a C (rP f p fs))))))
 | _=>none
def lF(i:Nat)(C:Addr)(fl:Str)(f:af->M PV):af->M Out:=λenv=>(f env).bind λp=>zu i C fl p env
section
variable{X:Cx}{E:XK}{e:Expr}{pos pos' px:Pos}{f:af->M PV}{i:Nat}{x fl:Str}{C:Addr}
theorem lR(hi:X.N[i]?=some x)(hv:A3 X.env.scope x)(c:ko X.K C)(na:bQ X.K C fl)(he:PE X e (tE (λ_=>E) f))(hd:(x==("__debug__" : Str))=false:=by decide)(Lh:(x==("__classdict__" : Str))=false:=by decide)
  (hs:swapsWith e (some (.Attribute (.Name x px) fl pos')) pos.line X.env=pure false:=by rfl):PS X (.Assign [.Attribute (.Name x px) fl pos'] e pos) (tS E (lF i C fl f)):=by
 refine(EN (nR hi hv hd Lh) he hs).imp λD σ H q=>kM q λB H₀ Hs H1 env p v sr rp hp=>?_
 unfold zu at hp
 split at hp
 ·rename_i a C' fs ex
  obtain⟨⟨rfl,hz⟩,hp⟩:=aw.cO hp
  obtain⟨dx,vs,h1,h2,h3,h4,h5⟩:=sr.bd i a _ fs ex
  exact⟨.ref a,h1,a,_,dx,vs,rfl,h2,c,na,by rw[← h5.length];exact hz,hp σ Hs _ (sr.HA ex (h5.put rp))⟩
 ·exact hp.elim
end
def uo(m:Nat)(a C:Addr)(ps:List PV):af:=some (.bd a C [])::ki (m-1) ps
def yv(a C:Addr)(env:af):M (List (Str×PV)):=match (env[0]?:Option (Option SV)) with
 | some (some (.bd b D fs))=>cO (b=a/\D=C) (M.ok fs)
 | _=>none
def outI(a C:Addr):Out->M (List (Str×PV))
 | .nx env=>yv a C env
 | _=>none
def tK(m:Nat)(g:af->M Out)(C a:Addr)(ps:List PV):M (List (Str×PV)):=(g (uo m a C ps)).bind (outI a C)
def Dn{α:Type}(s:Addr->M α):M α:=open Classical in if h:∃ r,∀ a,s a=r then h.choose else none
theorem uF{α:Type}{s:Addr->M α}{r:M α}(h:∀ a,s a=r):Dn s=r:=by
 have hx:∃ r,∀ a,s a=r:=⟨r,h⟩
 unfold Dn
 rw[dif_pos hx,← hx.choose_spec 0,h 0]
theorem aw.Dn{α:Type}{s:Addr->M α}{Q:α->Prop}{E:EX->Prop}(h:aw (L2.Dn s) Q E)(a:Addr):aw (s a) Q E:=by
 unfold L2.Dn at h
 split at h
 ·rename_i hx
  rw[hx.choose_spec a];exact h
 ·exact h.elim
def BK(n:Nat)(C:Addr)(sem:Addr->List PV->M (List (Str×PV))):Sp:=λvs H Q E=>vs.length=n/\∃ a dx us Hs H1 ps,vs=.ref a::us/\H1 a=none/\H1 dx=none/\dx≠a/\H=upd (upd H1 dx (.own a)) a (.ins C dx [])/\aV Hs H1/\aH Hs ps us ∧
 aw (sem a ps) (λfs=>∀ M1 ws JV H',bD Hs H1 JV H'->H' a=some (.ins C M1 ws)->JV a=none->iA JV fs ws->Q .bZ H') (XW E Hs H1)
theorem SR.C3{Hs H₀ H:Hp}{N:List Str}{a C dx:Addr}{ps:List PV}{vs:List V}(s:aV Hs H₀)(hN:0<N.length)(ha:H₀ a=none)(r:aH Hs ps vs)(hH:H=upd H₀ a (.ins C dx [])):SR Hs H₀ Hs H (L2.start N (.ref a::vs)) (uo N.length a C ps):=by
 have hs:Hs a=none:=by
  cases q:Hs a with
  | none=>rfl
  | some o=>have:=s _ _ q;rw[ha] at this;cases this
 have ne:∀ c u,H₀ c=some u->c≠a:=λc u e z=>by rw[z,ha] at e;cases e
 have s0:=SR.start (N:=N.tail) s r
 have e1:L2.start N (.ref a::vs)=some (.ref a)::L2.start N.tail vs:=by
  unfold L2.start
  simp only[List.map_cons,List.cons_append,List.length_cons,List.length_tail]
  rw[Nat.sub_sub,Nat.add_comm]
 have e2:uo N.length a C ps=some (.bd a C [])::ki N.tail.length ps:=by unfold uo;rw[List.length_tail]
 have al:aV H₀ H:=λc u q=>by rw[hH,au (ne c u q)];exact q
 rw[e1,e2]
 refine⟨⟨λ_ _ e=>e,al,λc u q=>al c u (s c u q),λc u q _=>q⟩,by simp[s0.len],λj q ej=>?_,λj zs ej=>?_,λj k y1 y2 b nj e1 e2 e3 e4=>?_,λj ba D MK ej=>?_,λj k a1 a2 C' D MK gs' e1 e2=>?_⟩
 ·cases j with
  | zero=>cases ej
  | succ j=>exact s0.sh j q (by simpa using ej)
 ·cases j with
  | zero=>cases ej
  | succ j=>exact absurd (s0.ow j zs (by simpa using ej)) (λ⟨b,ws,q1,q2,q3,q4,q5⟩=>by rw[q4] at q2;cases q2)
 ·cases j with
  | zero=>cases e1
  | succ j=>exact absurd (s0.ow j y1 (by simpa using e1)) (λ⟨b,ws,q1,q2,q3,q4,q5⟩=>by rw[q4] at q2;cases q2)
 ·cases j with
  | zero=>cases ej;exact⟨dx,[],rfl,by rw[hH];exact az,hs,ha,.nil⟩
  | succ j=>exact absurd (s0.bd j ba D MK (by simpa using ej)) (λ⟨b,ws,q1,q2,q3,q4,q5⟩=>by rw[q4] at q2;cases q2)
 ·cases j with
  | zero=>cases k with
   | zero=>rfl
   | succ k=>exact absurd (s0.bd k a2 D gs' (by simpa using e2)) (λ⟨b,ws,q1,q2,q3,q4,q5⟩=>by rw[q4] at q2;cases q2)
  | succ j=>exact absurd (s0.bd j a1 C' MK (by simpa using e1)) (λ⟨b,ws,q1,q2,q3,q4,q5⟩=>by rw[q4] at q2;cases q2)
theorem BF{P:Program}{w:World}{K:PySem.W.Frag}{mg:Str->Option Value}{base:Heap}{k:Nat}{f C:Addr}{name qual:Str}{params:Arguments}{body:List Stmt}{scope:Scope}{dV kV doc pm Ka ct oc:Value}{an od:Option Addr}
  {L9:Array (Option Value)} {N ps:List Str} {g:af->M Out} (lk:K.lookup f=some ⟨oc,od,.func (PySem.W.fnOf name qual params body scope dV kV doc pm an Ka ct),L9⟩) (Lh:PySem.W.codeIn K Ka qual=true) (S:av N ps scope) (hN:0<N.length)
  (hb:∀ (A:Around) (outer:List Env) (s:Shared) (H:Hp) (E:XK),bN k (A.deeper (envOfC qual scope s.heap.objs.size f Ka))->kf ((my (bG P w) P w K mg base N qual scope f Ka A outer s H E).out λ_=>E) body (tS E g)) :
  aF P w K mg base (bG P w) (k+1) f (PySem.W.fnOf name qual params body scope dV kV doc pm an Ka ct) ps (BK ps.length C (tK N.length g C)):=by
 refine va lk Lh S (λvs H Q E h=>h.1) λA outer s H vs Q E hr hs=>⟨_,hb A outer s H E hr,?_⟩
 obtain⟨_,a,dx,us,Hs,H1,Lx,rfl,ha,hdx,Mc,hH,sm,r,h⟩:=hs
 have ne:∀ c u,H1 c=some u->c≠dx:=λc u e z=>by rw[z,hdx] at e;cases e
 have s0:aV H1 (upd H1 dx (.own a)):=λc u q=>by rw[au (ne c u q)];exact q
 have g0:bD Hs H1 Hs (upd H1 dx (.own a)):=⟨λ_ _ e=>e,s0,λc u q=>s0 c u (sm c u q),λ_ _ e _=>e⟩
 refine⟨Hs,_,Hs,_,SR.C3 (dx:=dx) g0.sub hN (by rw[au (Ne.symm Mc)];exact ha) r hH,(aw.bind h).imp (λo ho=>?_) λe he=>he.grow g0⟩
 cases o with
 | rt p=>exact ho.elim
 | bk env=>exact ho.elim
 | ct env=>exact ho.elim
 | nx env =>
  intro σ JV H' sr
  have LP:aw (yv a C env) _ _:=ho
  unfold yv at LP
  split at LP
  ·rename_i b D fs ex
   obtain⟨⟨rfl,rfl⟩,hp⟩:=aw.cO LP
   obtain⟨M1,ws,h1,h2,h3,h4,h5⟩:=sr.bd 0 _ _ fs ex
   exact hp M1 ws JV H' (g0.trans sr.gr) h2 h3 h5
  ·exact LP.elim
def gI(C:Addr)(sem:Addr->List PV->M (List (Str×PV)))(Lo:List PV)(ps:List PV):M PV:=(Dn λa=>sem a (ps++Lo)).bind λfs=>M.ok (.obj C fs)
section
variable{X:Cx}{E:St->XK}{k n:Nat}{f C:Addr}{fd:FuncData}{ns:List Str}{sem:Addr->List PV->M (List (Str×PV))}{x:Str}{p pos:Pos}{e:Expr}{es:List Expr}{fs:af->M (List PV)}
theorem AW{ds:List Value}{KQ:List V}{Lo:List PV}(Mk:Mk X.K C f)(F:aF X.prog X.w X.K X.mg X.base (bG X.prog X.w) k f fd ns (BK n C sem))(hr:bN (k+1) X.A)(hg:Gl X x)(hm:X.mg x=some (.ref C))(hb:Binds X.K fd ns ds)(hd:Vals KQ ds)(hdp:∀ H,aH H Lo KQ)(O:fg X E)
  (hl:∀ a ps,sem a (ps++Lo)≠none->ps.length+Lo.length+1=n)
  (ha:PA X (e::es) (tL E fs)) (KU:(x==("__debug__" : Str))=false:=by decide) (he:starEach (e::es) X.env=(false,eval e X.env)::starEach es X.env:=by rfl) (Kd:(backTo pos (starEach es X.env)).any (·.1)=false:=by rfl) :
  PE X (.Call (.Name x p) (e::es) [] pos) (tE E (ah (gI C sem Lo) fs)):=by
 refine(xR Mk F hr hg hm hb hd O ha KU he Kd).imp fun σ H Q q=>eh (K:=jP Q) jP.g q λB H₀ Hs H1 env Lx v sr rp hp=>?_
 intro a dx ha hdx Mc
 have r2:aH Hs (Lx++Lo) (v++KQ):=rp.append (hdp Hs)
 have MM:=(aw.bind hp).Dn a
 have hn:sem a (Lx++Lo)≠none:=λz=>by
  rw[z] at MM;exact MM
 refine⟨?_,a,dx,v++KQ,Hs,H1,Lx++Lo,rfl,ha,hdx,Mc,rfl,sr.gr.sub,r2,MM.imp (λfl hfl M1 ws JV H' g hw Nv Ly=>⟨rfl,?_⟩) λe he=>he⟩
 ·show (v++KQ).length+1=n
  rw[← r2.length,List.length_append]
  exact hl a Lx hn
 ·have ne:∀ c u,JV c=some u->c≠a:=λc u q z=>by rw[z,Nv] at q;cases q
  have Kw:aV JV (upd JV a (.ins C M1 ws)):=λc u q=>by rw[au (ne c u q)];exact q
  refine hfl (.ref a) (upd JV a (.ins C M1 ws)) H' ⟨λc u q=>Kw c u (g.st c u q),g.al,λc u q=>?_,λc u q1 q2=>?_⟩ (.obj az (Ly.mono Kw))
  ·by_cases z:c=a
   ·subst z;rw[az] at q;cases q;exact hw
   ·rw[au z] at q;exact g.sub c u q
  ·have z:c≠a:=λz=>by rw[z,ha] at q2;cases q2
   rw[au z];exact g.nw c u q1 q2
end
end L2
namespace L2
open PySem PySem.Spec PyProof.Rows
section
variable{X:Cx}{E:St->XK}{a b c e:Expr}{pos:Pos}{f g h:af->M PV}
theorem me{n m:Nat}(h:n.log2<m):n<2^m:=by
 by_cases z:n=0
 ·subst z;exact Nat.two_pow_pos m
 ·exact(Nat.log2_lt z).mp h
theorem aH.rep{H:Hp}{xs:List PV}{vs:List V}(r:aH H xs vs):∀ k:Nat,aH H (List.replicate k xs).flatten (List.replicate k vs).flatten
 | 0=>.nil
 | k+1=>by rw[List.replicate_succ,List.replicate_succ,List.flatten_cons,List.flatten_cons];exact r.append (r.rep k)
def bV:PV->PV->M PV
 | .int i,.int j=>cO (i.natAbs.log2<67108864/\j.natAbs.log2<67108864) (M.ok (.int (i*j)))
 | .tup xs,.int k=>cO (xs.isEmpty=false/\-(2^63)<=k/\k<2^63/\xs.length*k.toNat<=sizeLine) (M.ok (.tup (List.replicate k.toNat xs).flatten))
 | .lst xs,.int k=>cO (-(2^63)<=k/\k<2^63/\xs.length*k.toNat<=sizeLine) (M.ok (.lst (List.replicate k.toNat xs).flatten))
 | _,_=>none
def CD(K:PySem.W.Frag):R2:=λx y H Q=>(rI (λi j=>IntMulOk i j) λi j=>.int (i*j)) x y H Q\/CB K x y H Q\/FA x y H Q
theorem Bs:gp X (binaryOp .Mult) (CD X.K):=gp.or Cf (gp.or BE Ds)
theorem Dq{K:PySem.W.Frag}:j6 E (CD K) bV:=by
 intro σ Hs H p q v u Q s rp rq h
 cases rp with
 | int i=>cases rq with
  | int j =>
   obtain⟨hz,h⟩:=aw.cO h
   exact .inl ⟨i,j,rfl,rfl,xW (me hz.1) (me hz.2) (Nat.le_refl _),cI.flat h s (.int _)⟩
  | _=>exact h.elim
 | @tup a xs vs ha hx=>cases rq with
  | int k =>
   obtain⟨⟨h0,h1,h2,h3⟩,h⟩:=aw.cO h
   have n1:vs≠[]:=λz=>by
    have:=hx.length
    rw[z] at this
    cases xs with
    | nil=>cases h0
    | cons _ _=>cases this
   refine .inr (.inl ⟨a,k,vs,rfl,rfl,fQ.of (s _ _ ha),n1,h1,h2,by rw[← hx.length];exact h3,λz=>?_,λz=>cI.tup h s (hx.rep _)⟩)
   subst z
   rw[show (1:Int).toNat=1 from rfl,List.replicate_succ,List.replicate_zero,List.flatten_cons,List.flatten_nil,List.append_nil] at h
   exact cI.flat h s (.tup ha hx)
  | _=>exact h.elim
 | @lst a xs vs ha hx=>cases rq with
  | int k =>
   obtain⟨⟨h1,h2,h3⟩,h⟩:=aw.cO h
   exact .inr (.inr ⟨a,k,vs,rfl,rfl,s _ _ ha,h1,h2,by rw[← hx.length];exact h3,cI.lst h s (hx.rep _)⟩)
  | _=>exact h.elim
 | _=>exact h.elim
theorem BV:j6 E (rI yZ λi j=>.int (i.fdiv j)) (uS (λ_ j=>decide (j≠0/\j.natAbs.log2<9000)) λi j=>i.fdiv j):=ua λi j z=>(of_decide_eq_true z:j≠0/\j.natAbs.log2<9000)
theorem Dg:j6 E (rI (λ_ j=>j≠0) λi j=>.int (i.fmod j)) (uS (λ_ j=>decide (j≠0)) λi j=>i.fmod j):=ua λi j z=>of_decide_eq_true z
theorem EW:j6 E (rI Dj λi j=>.int (i^j.toNat)) (uS (λi j=>decide (0<=j/\j<=1000000/\i.natAbs<2^64)) λi j=>i^j.toNat):=ua λi j z=>(of_decide_eq_true z:0<=j/\j<=1000000/\i.natAbs<2^64)
def FE:PV->M PV
 | .int i=>M.ok (.int (-i))
 | _=>none
def n6(f:af->M PV):af->M PV:=λenv=>(f env).bind FE
theorem DB(ha:PE X a (tE E f)):PE X (.UnaryOp .USub a pos) (tE E (n6 f)) :=
 (Gb En ha).imp fun σ H Q q=>Fw q λHs H1 p v s rp h=>by
  cases rp with
  | int i=>exact⟨i,rfl,cI.flat h s (.int _)⟩
  | _=>exact h.elim
def vN:PV->Bool
 | .bZ=>true
 | _=>false
theorem zT{H:Hp}{p:PV}{v:V}(r:Rep H p v):decide (v=.bZ)=vN p:=by
 cases r <;> rfl
def z9:PV->PV->M PV
 | p,.bZ=>M.ok (.bl (vN p))
 | _,_=>none
theorem zV:j6 E (λx y H Q=>y=.bZ/\Q (.bl (decide (x=.bZ))) H) z9:=by
 intro σ Hs H p q v u Q s rp rq h
 cases rq with
 | bZ =>
  have h':aw (M.ok (PV.bl (vN p))) (cI Hs H Q) (XW (E σ) Hs H):=by cases p <;> exact h
  exact⟨rfl,by rw[zT rp];exact cI.flat h' s (.bl _)⟩
 | _=>cases p <;> exact h.elim
def j5(o o':PV->PV->M PV)(f g h:af->M PV):af->M PV:=λenv=>(f env).bind λp=>(g env).bind λq=>(o p q).bind λz=>(uz z).bind λk=>if k=true then (h env).bind λr=>o' q r else M.ok (.bl false)
theorem Ae{r r':R2}{o o':PV->PV->M PV}(hv:j6 E r o)(M7:j6 E r' o'){σ:St}{H:Hp}{Q:VK}(q:tE E (j5 o o' f g h) σ H Q):ya r r' (tE E f) (tE E g) (tE E h) σ H Q:=by
 refine bT (K:=jP Q) jP.g q λB H₀ Hs H1 env p v sr rp hp=>?_
 refine⟨B,H₀,Hs,env,sr,(aw.bind hp).imp (λq hq u J5 H2 g2 ru=>?_) λe he=>he⟩
 have KR:=sr.grow g2
 refine hv σ J5 H2 p q v u _ KR.gr.sub (rp.mono g2.st) ru ((aw.bind hq).imp (λz hz w Lz H3 g3 Ly=>?_) λe he=>he.grow g2)
 obtain⟨k,ek,hk⟩:=aw.As (aw.bind hz)
 subst ek
 cases Ly
 refine⟨k,rfl,?_⟩
 have LW:=KR.grow g3
 cases k with
 | false=>exact hk _ _ _ (g2.trans g3) (.bl _)
 | true =>
  have hk':aw ((h env).bind λr=>o' q r) (jP Q Hs H1) (XW (E σ) Hs H1):=hk
  refine⟨B,H₀,Lz,env,LW,(aw.bind hk').imp (λr hr w Hs4 H4 g4 rw4=>?_) λe he=>he.grow (g2.trans g3)⟩
  exact M7 σ Hs4 H4 q r u w Q (LW.grow g4).gr.sub ((ru.mono g3.st).mono g4.st) rw4 (hr.imp (λz hz w' Hs5 H5 g5 r5=>hz w' Hs5 H5 ((g2.trans g3).trans (g4.trans g5)) r5) λe he=>he.grow ((g2.trans g3).trans g4))
theorem sA{op MY:CmpOp}{r r':R2}{o o':PV->PV->M PV}(ho:gp X (compareOp op) r)(hv:j6 E r o)(LP:gp X (compareOp MY) r')(M7:j6 E r' o')(ha:PE X a (tE E f))(hb:PE X b (tE E g))(hc:PE X c (tE E h))
  (hm:lastMarks [op,MY] [b,c]=false:=by with_unfolding_all rfl):PE X (.Compare a [op,MY] [b,c] pos) (tE E (j5 o o' f g h)) :=
 (zD ho LP ha hb hc hm).imp fun σ H Q q=>Ae hv M7 q
def ck(u:af->M Bool)(b:af->M Out):Nat->af->M Out
 | 0,_=>none
 | n+1,env=>(u env).bind λt=>if t=true then (b env).bind λo=>match o with
   | .nx JT=>ck u b n JT
   | .ct JT=>ck u b n JT
   | .bk JT=>M.ok (.nx JT)
   | .rt p=>M.ok (.rt p)
  else M.ok (.nx env)
theorem xv{E:XK}{u:af->M Bool}{g:af->M Out}{body:List Stmt}(n:af->Nat)(O:fg X λ_=>E)(hc:PT X c (tT (λ_=>E) u))(hb:kf X body (tS E g)):PS X (.While c body [] pos) (tS E λenv=>ck u g (n env) env):=by
 refine(yN O.own hc hb).imp λD σ H q=>?_
 obtain⟨B,H₀,Hs,env,sr,q⟩:=q
 refine⟨λm σ H=>∃ Hs env,SR B H₀ Hs H σ env/\aw (ck u g m env) (KS D B H₀) (XW E B H₀),⟨n env,Hs,env,sr,q⟩,?_⟩
 rintro m σ1 H1 ⟨J2,env1,MZ,q1⟩
 cases m with
 | zero=>exact q1.elim
 | succ m =>
  refine⟨B,H₀,J2,env1,MZ,(aw.bind q1).imp (λt ht J5 H2 g2=>?_) λe he=>he.grow MZ.gr⟩
  have KR:=MZ.grow g2
  cases t with
  | false=>exact ht σ1 J5 H2 KR
  | true =>
   refine⟨fun σ' H'=>∃ JV JT,SR B H₀ JV H' σ' JT/\aw (ck u g m JT) (KS D B H₀) (XW E B H₀),fun σ' H' z=>⟨m,Nat.lt_succ_self m,z⟩,B,H₀,J5,env1,KR,(aw.bind ht).imp (λo ho=>?_) λe he=>he⟩
   cases o with
   | nx JT=>exact fun σ' JV H' LC=>⟨JV,JT,LC,ho⟩
   | ct JT=>exact fun σ' JV H' LC=>⟨JV,JT,LC,ho⟩
   | bk JT=>exact ho
   | rt p=>exact ho
theorem iG{u:af->M Bool}{g:af->M Out}:∀ (n k:Nat) (env:af),ck u g n env≠none->ck u g (n+k) env=ck u g n env
 | 0,_,_,h=>(h rfl).elim
 | n+1,k,env,h=>by
  rw[show n+1+k=(n+k)+1 by omega]
  unfold ck at h ⊢
  cases hu:u env with
  | none=>rfl
  | some z =>
   cases z with
   | error e=>rfl
   | ok t =>
    rw[hu] at h
    cases t with
    | false=>rfl
    | true =>
     show M.bind (g env) _=M.bind (g env) _
     have h':M.bind (g env) (λo=>match o with
      | .nx JT=>ck u g n JT
      | .ct JT=>ck u g n JT
      | .bk JT=>M.ok (.nx JT)
      | .rt p=>M.ok (.rt p))≠none:=h
     cases hg:g env with
     | none=>rfl
     | some z =>
      cases z with
      | error e=>rfl
      | ok o =>
       rw[hg] at h'
       cases o with
       | nx JT=>exact iG n k JT h'
       | ct JT=>exact iG n k JT h'
       | bk JT=>rfl
       | rt p=>rfl
def kc(u:af->M Bool)(b:af->M Out)(env:af):M Out:=open Classical in ck u b (if h:∃ n,ck u b n env≠none then h.choose else 0) env
theorem xu{u:af->M Bool}{b:af->M Out}{n:Nat}{env:af}(h:ck u b n env≠none):kc u b env=ck u b n env:=by
 have hx:∃ n,ck u b n env≠none:=⟨n,h⟩
 unfold kc
 rw[dif_pos hx]
 have h1:=hx.choose_spec
 rw[← iG _ n env h1,← iG n hx.choose env h,Nat.add_comm]
theorem sX{E:XK}{u:af->M Bool}{g:af->M Out}{body:List Stmt}(O:fg X λ_=>E)(hc:PT X c (tT (λ_=>E) u))(hb:kf X body (tS E g)):PS X (.While c body [] pos) (tS E (kc u g)) :=
 xv (λenv=>open Classical in if h:∃ n,ck u g n env≠none then h.choose else 0) O hc hb
end
end L2
namespace L2
open PySem PySem.Spec PyProof.Rows
def Ct:PV->Option String
 | .bZ=>some "NoneType"
 | .bl _=>some "bool"
 | .int _=>some "int"
 | .str _=>some "str"
 | .lst _=>some "list"
 | .jo _=>some "list"
 | .tup _=>some "tuple"
 | .emp=>some "dict"
 | _=>none
def i6(a t:String):Bool:=a==t||(a == "bool" && t == "int")
theorem ml(K:PySem.W.Frag):PySem.W.kitOne K (.type "NoneType") (.type "int")=some false:=by with_unfolding_all kernel_rfl
theorem sO(K:PySem.W.Frag):PySem.W.kitOne K (.type "bool") (.type "int")=some true:=by with_unfolding_all kernel_rfl
def tys:List String:=["int", "bool", "str", "list", "tuple"]
theorem FY(K:PySem.W.Frag){p:PV}{a t:String}(ha:Ct p=some a)(ht:t∈tys):PySem.W.kitOne K (.type a) (.type t)=some (i6 a t):=by
 have ht2:t = "int" \/ t = "bool" \/ t = "str" \/ t = "list" \/ t = "tuple" := by simpa [tys] using ht
 cases p <;> cases ha <;> rcases ht2 with rfl | rfl | rfl | rfl | rfl <;> first
  | exact ml K
  | exact kt_NoneType_bool K
  | exact kt_NoneType_str K
  | exact kt_NoneType_list K
  | exact kt_NoneType_tuple K
  | exact sO K
  | exact kt_bool_bool K
  | exact kt_bool_str K
  | exact kt_bool_list K
  | exact kt_bool_tuple K
  | exact kt_int_int K
  | exact kt_int_bool K
  | exact kt_int_str K
  | exact kt_int_list K
  | exact kt_int_tuple K
  | exact kt_str_int K
  | exact kt_str_bool K
  | exact kt_str_str K
  | exact kt_str_list K
  | exact kt_str_tuple K
  | exact kt_list_int K
  | exact kt_list_bool K
  | exact kt_list_str K
  | exact kt_list_list K
  | exact kt_list_tuple K
  | exact kt_tuple_int K
  | exact kt_tuple_bool K
  | exact kt_tuple_str K
  | exact kt_tuple_list K
  | exact kt_tuple_tuple K
  | exact kt_dict_int K
  | exact kt_dict_bool K
  | exact kt_dict_str K
  | exact kt_dict_list K
  | exact kt_dict_tuple K
theorem uU{K:PySem.W.Frag}{Hs H:Hp}{p:PV}{v:V}{a:String}(s:aV Hs H)(r:Rep Hs p v)(ha:Ct p=some a):i5 K H v (.type a):=by
 cases r with
 | bZ=>cases ha;exact .bZ
 | bl b=>cases ha;exact .bl b
 | int i=>cases ha;exact .int i
 | str x=>cases ha;exact .str x
 | tup h _=>cases ha;exact .tup (s _ _ h)
 | lst h _=>cases ha;exact .lst (s _ _ h)
 | jo h _=>cases ha;exact .pA (s _ _ h)
 | emp h=>cases ha;exact .dK (s _ _ h)
 | _=>cases ha
theorem vS(K:PySem.W.Frag){p:PV}{a:String}(ha:Ct p=some a):∀ {Ts:List String},(∀ t∈Ts,t∈tys)->PySem.W.kitAny K (.type a) (Ts.map Value.type)=some (Ts.any λt=>i6 a t)
 | [],_=>rfl
 | t::r,h=>by
  have h1:=FY K ha (h t List.mem_cons_self)
  have h2:=vS K ha (Ts:=r) λt q=>h t (List.mem_cons_of_mem _ q)
  simp only[List.map_cons,PySem.W.kitAny,h1,List.any_cons]
  cases i6 a t with
  | true=>rfl
  | false=>exact h2
structure nu (K:PySem.W.Frag) (C:Addr):Prop where
 cls:ko K C
 ha:PySem.W.findIn K (.ref C) "__class__" = some (some (.builtin "object.__class__"))
 hn:PySem.W.specialIn K (.builtin "object.__class__") "__get__" = some (some (.builtin "getset_descriptor.__get__"))
 Ft:PySem.W.takesIn K (.builtin "object.__class__")=some true
 hm:PySem.W.mroIn K C (.type "object")=some true
def uK(b:String->Bool)(ob oe:Addr->Option Bool):PV->M PV
 | .obj C _=>eD ((ob C).map .bl)
 | .exc C _=>eD ((oe C).map .bl)
 | p=>eD ((Ct p).map λa=>.bl (b a))
section
variable{X:Cx}{E:St->XK}{e:Expr}{pos p px pt:Pos}{f:af->M PV}{T:String}{x:Str}{C:Addr}{ob oe:Addr->Option Bool}
theorem yP{H:Hp}{C:Addr}{fo:Option (List (Str×PV))}{Hs:Hp}{v:V}(s:aV Hs H)(r:Rep Hs (.exc C fo) v):∃ a Nd,v=.ref a/\ExcAt H a C Nd:=by
 cases r with
 | @uW a _ h=>exact⟨a,none,rfl,s _ _ h⟩
 | @uH a _ d _ vs h h2 _=>exact⟨a,some vs,rfl,d,s _ _ h,s _ _ h2⟩
def o_(b:String->Bool)(ob oe:Addr->Option Bool)(f:af->M PV):af->M PV:=λenv=>(f env).bind (uK b ob oe)
theorem nY{b:String->Bool}{p:PV}{Q:PV->Prop}{F:EX->Prop}(h:aw (uK b ob oe p) Q F):(∃ a,Ct p=some a/\Q (.bl (b a)))\/(∃ C fs k,p=.obj C fs/\ob C=some k/\Q (.bl k))\/∃ C fo k,p=.exc C fo/\oe C=some k/\Q (.bl k):=by
 cases p with
 | obj C fs =>
  obtain⟨z,e,q⟩:=aw.opt h
  obtain⟨k,e2,rfl⟩:=Option.map_eq_some_iff.mp e
  exact .inr (.inl ⟨C,fs,k,rfl,e2,q⟩)
 | exc C fo =>
  obtain⟨z,e,q⟩:=aw.opt h
  obtain⟨k,e2,rfl⟩:=Option.map_eq_some_iff.mp e
  exact .inr (.inr ⟨C,fo,k,rfl,e2,q⟩)
 | bZ=>exact .inl ⟨_,rfl,h⟩
 | bl _=>exact .inl ⟨_,rfl,h⟩
 | int _=>exact .inl ⟨_,rfl,h⟩
 | str _=>exact .inl ⟨_,rfl,h⟩
 | tup _=>exact .inl ⟨_,rfl,h⟩
 | lst _=>exact .inl ⟨_,rfl,h⟩
 | jo _=>exact .inl ⟨_,rfl,h⟩
 | emp=>exact .inl ⟨_,rfl,h⟩
theorem t6{K:PySem.W.Frag}{Hs H:Hp}{C:Addr}{fs:List (Str×PV)}{v:V}(s:aV Hs H)(r:Rep Hs (.obj C fs) v)(c:nu K C):i5 K H v (.ref C):=by
 cases r with
 | obj h _=>exact .ins (s _ _ h) c.cls c.ha c.hn c.Ft c.hm
theorem gM(hg:Gl X "isinstance")(hm:X.mg "isinstance" = none)(hT:PE X (.Name x pt) (tC (.ty T)))(ht:T∈tys)(ML:∀ C b,ob C=some b->nu X.K C/\PySem.W.kitOne X.K (.ref C) (.type T)=some b)(Ll:∀ C b,oe C=some b->fS X.K C/\PySem.W.kitOne X.K (.ref C) (.type T)=some b)(he:PE X e (tE E f))
  (h1:starEach [e,.Name x pt] X.env=(false,eval e X.env)::starEach [.Name x pt] X.env:=by rfl) (h2:starEach [.Name x pt] X.env=(false,eval (.Name x pt) X.env)::starEach [] X.env:=by rfl) (Kd:(backTo pos (starEach [.Name x pt] X.env)).any (·.1)=false:=by rfl) :
  PE X (.Call (.Name "isinstance" p) [e,.Name x pt] [] pos) (tE E (o_ (λa=>i6 a T) ob oe f)):=by
 refine(kF (cJ.or yh sV) hg hm u_ (e7 he (e7 hT lE h2) h1) (by decide) (by decide) h1 Kd).imp fun σ H Q q=>bT (K:=jP Q) jP.g q λB H₀ Hs H1 env p v sr rp hp=>?_
 rcases nY hp with ⟨a,ha,q⟩ | ⟨C,fs,k,rfl,e,q⟩ | ⟨C,fo,k,rfl,e,q⟩
 ·exact .inl ⟨v,T,_,_,rfl,uU sr.gr.sub rp ha,FY X.K ha ht,cI.flat q sr.gr.sub (.bl _)⟩
 ·exact .inl ⟨v,T,_,_,rfl,t6 sr.gr.sub rp (ML C k e).1,(ML C k e).2,cI.flat q sr.gr.sub (.bl _)⟩
 ·obtain⟨a,Nd,rfl,hx⟩:=yP sr.gr.sub rp
  exact .inr ⟨a,C,Nd,k,(Ll C k e).1,hx,.inl ⟨T,rfl,(Ll C k e).2⟩,cI.flat q sr.gr.sub (.bl _)⟩
theorem Ej{D:Addr}(hg:Gl X "isinstance")(hm:X.mg "isinstance" = none)(hT:PE X (.Name x pt) (tC (.ref D)))(hk:∀ p a,Ct p=some a->PySem.W.kitOne X.K (.type a) (.ref D)=some false)(ML:∀ C b,ob C=some b->nu X.K C/\PySem.W.kitOne X.K (.ref C) (.ref D)=some b)(Ll:∀ C b,oe C=some b->fS X.K C/\PySem.W.kitOne X.K (.ref C) (.ref D)=some b)(he:PE X e (tE E f))
  (h1:starEach [e,.Name x pt] X.env=(false,eval e X.env)::starEach [.Name x pt] X.env:=by rfl) (h2:starEach [.Name x pt] X.env=(false,eval (.Name x pt) X.env)::starEach [] X.env:=by rfl) (Kd:(backTo pos (starEach [.Name x pt] X.env)).any (·.1)=false:=by rfl) :
  PE X (.Call (.Name "isinstance" p) [e,.Name x pt] [] pos) (tE E (o_ (λ_=>false) ob oe f)):=by
 refine(kF (cJ.or zZ sV) hg hm u_ (e7 he (e7 hT lE h2) h1) (by decide) (by decide) h1 Kd).imp fun σ H Q q=>bT (K:=jP Q) jP.g q λB H₀ Hs H1 env p v sr rp hp=>?_
 rcases nY hp with ⟨a,ha,q⟩ | ⟨C,fs,k,rfl,e,q⟩ | ⟨C,fo,k,rfl,e,q⟩
 ·exact .inl ⟨v,D,_,_,rfl,uU sr.gr.sub rp ha,hk p a ha,cI.flat q sr.gr.sub (.bl _)⟩
 ·exact .inl ⟨v,D,_,_,rfl,t6 sr.gr.sub rp (ML C k e).1,(ML C k e).2,cI.flat q sr.gr.sub (.bl _)⟩
 ·obtain⟨a,Nd,rfl,hx⟩:=yP sr.gr.sub rp
  exact .inr ⟨a,C,Nd,k,(Ll C k e).1,hx,.inr ⟨D,rfl,(Ll C k e).2⟩,cI.flat q sr.gr.sub (.bl _)⟩
theorem Ay{e2:Expr}{t2:TE}{Ts:List String}(hg:Gl X "isinstance")(hm:X.mg "isinstance" = none)(hT:PE X e2 t2)(ht2:∀ σ H R,(∀ p,H p=none->R (.ref p) (upd H p (.tup (Ts.map V.ty))))->t2 σ H R)(ht:∀ t∈Ts,t∈tys)(ML:∀ C b,ob C=some b->nu X.K C/\PySem.W.kitAny X.K (.ref C) (Ts.map Value.type)=some b)(he:PE X e (tE E f))
  (h1:starEach [e,e2] X.env=(false,eval e X.env)::starEach [e2] X.env:=by rfl) (h2:starEach [e2] X.env=(false,eval e2 X.env)::starEach [] X.env:=by rfl) (Kd:(backTo pos (starEach [e2] X.env)).any (·.1)=false:=by rfl) :
  PE X (.Call (.Name "isinstance" p) [e,e2] [] pos) (tE E (o_ (λa=>Ts.any λt=>i6 a t) ob (λ_=>none) f)):=by
 refine(kF xh hg hm u_ (e7 he (e7 hT lE h2) h1) (by decide) (by decide) h1 Kd).imp fun σ H Q q=>bT (K:=jP Q) jP.g q λB H₀ Hs H1 env p v sr rp hp=>?_
 refine ht2 σ H1 _ λtp hn=>?_
 have g:=bD.new (o:=.tup (Ts.map V.ty)) sr.gr.sub hn
 rcases nY hp with ⟨a,ha,q⟩ | ⟨C,fs,k,rfl,e,q⟩ | ⟨C,fo,k,rfl,e,q⟩
 ·exact⟨v,tp,Ts,_,_,rfl,az,uU g.sub (rp.mono g.st) ha,vS X.K ha ht,q _ _ _ g (.bl _)⟩
 ·exact⟨v,tp,Ts,_,_,rfl,az,t6 g.sub (rp.mono g.st) (ML C k e).1,(ML C k e).2,q _ _ _ g (.bl _)⟩
 ·cases e
end
end L2
namespace L2
open PySem PySem.Spec PyProof.Rows
open PySem.SeqAt (shaped noMix noMixAll)
mutual
def dat:PV->Option PyData
 | .bZ=>some .none
 | .bl b=>some (.bool b)
 | .int i=>some (.int i)
 | .str x=>some (.str x)
 | .tup xs=>(jg xs).map .tuple
 | .lst xs=>(jg xs).map .list
 | .jo xs=>(jg xs).map .list
 | .obj _ _=>none
 | .exc _ _=>none
 | .emp=>none
def jg:List PV->Option (List PyData)
 | []=>some []
 | p::r=>(dat p).bind λd=>(jg r).map (d::·)
end
section
variable{X:Cx}{JS:List (Addr×Obj)}{σ:St}{H:Hp}{s:Shared}
mutual
theorem Rep.reads{Hs:Hp}(I:Inv X JS σ H s)(sm:aV Hs H):∀ {p:PV} {v:V} {u:Value} {d:PyData},Rep Hs p v->RelV v u->dat p=some d->∃ as,Reads s.heap u d as
 | _,_,u,d,.bZ,r,e=>by
  cases e;cases (show u=Value.none from r);exact⟨_,.none⟩
 | _,_,u,d,.bl b,r,e=>by
  cases e;cases (show u=Value.bool b from r);exact⟨_,.bool b⟩
 | _,_,u,d,.int i,r,e=>by
  cases e;obtain⟨t,rfl⟩:=(show ∃ t,u=Value.int i t from r);exact⟨_,.int i t⟩
 | _,_,u,d,.str i,r,e=>by
  cases e;obtain⟨t,rfl⟩:=(show ∃ t,u=Value.str i t from r);exact⟨_,.str i t⟩
 | _,_,u,d,.tup (a:=a) ha hx,r,e=>by
  obtain⟨ds,e2,rfl⟩:=Option.map_eq_some_iff.mp (show (jg _).map PyData.tuple=some d from e)
  cases (show u=Value.ref a from r)
  obtain⟨JU,r1,⟨o,ho,hc,n,hd⟩,_⟩:=I.tuple (fQ.of (sm _ _ ha))
  obtain⟨as,ra⟩:=aH.reads I sm hx r1 e2
  exact⟨_,.tuple ho hc hd (by simpa using ra)⟩
 | _,_,u,d,.lst (a:=a) ha hx,r,e=>by
  obtain⟨ds,e2,rfl⟩:=Option.map_eq_some_iff.mp (show (jg _).map PyData.list=some d from e)
  cases (show u=Value.ref a from r)
  obtain⟨JU,r1,⟨o,n,ho,hc,_,hd⟩,_⟩:=I.list (ij.of (sm _ _ ha))
  obtain⟨as,ra⟩:=aH.reads I sm hx r1 e2
  exact⟨_,.list ho hc hd (by simpa using ra)⟩
 | _,_,u,d,.jo (a:=a) (o:=ob) ha hx,r,e=>by
  obtain⟨ds,e2,rfl⟩:=Option.map_eq_some_iff.mp (show (jg _).map PyData.list=some d from e)
  cases (show u=Value.ref a from r)
  obtain⟨JU,r1,⟨o,n,ho,hc,_,hd⟩,_⟩:=I.list (.inl (.inr ⟨ob,sm _ _ ha⟩))
  obtain⟨as,ra⟩:=aH.reads I sm hx r1 e2
  exact⟨_,.list ho hc hd (by simpa using ra)⟩
 | _,_,u,d,.obj _ _,r,e=>by cases e
 | _,_,u,d,.uW _,r,e=>by cases e
 | _,_,u,d,.uH _ _ _,r,e=>by cases e
 | _,_,u,d,.emp _,r,e=>by cases e
theorem aH.reads{Hs:Hp}(I:Inv X JS σ H s)(sm:aV Hs H):∀ {p:List PV} {v:List V} {u:List Value} {d:List PyData},aH Hs p v->Vals v u->jg p=some d->∃ as,ReadsAll s.heap u d as
 | _,_,_,_,.nil,.nil,e=>by cases e;exact⟨_,.nil⟩
 | _,_,_,d,.cons (p:=p) (ps:=ps) h hr,.cons r rr,e=>by
  obtain⟨d1,e1,e2⟩:=Option.bind_eq_some_iff.mp (show (dat p).bind (λd=>(jg ps).map (d::·))=some d from e)
  obtain⟨ds,e3,rfl⟩:=Option.map_eq_some_iff.mp e2
  obtain⟨as,ra⟩:=Rep.reads I sm h r e1
  obtain⟨bs,rb⟩:=aH.reads I sm hr rr e3
  exact⟨_,.cons ra rb⟩
end
end
def Fl(d e:PyData):M Bool:=cO (shaped d=true/\shaped e=true/\noMix d e=true) (M.ok (same d e))
def rC(o:Bool->PV)(p q:PV):M PV:=match dat p,dat q with
 | some d,some e=>(Fl d e).bind λb=>M.ok (o b)
 | _,_=>none
def jS:PV->PV->M PV:=rC λb=>.bl b
def tZ:PV->PV->M PV:=rC λb=>.bl (!b)
def yK(o:Bool->Bool):R2:=λx y H Q=>∃ Hs p q d e,aV Hs H/\Rep Hs p x/\Rep Hs q y/\dat p=some d/\dat q=some e/\shaped d=true/\shaped e=true/\noMix d e=true/\Q (.bl (o (same d e))) H
section
variable{X:Cx}{E:St->XK}
theorem x8(hu:X.A.units+64<cLine):gp X (compareOp .Eq) (yK id):=by
 intro JS s σ H x y v u Q I rx ry h
 obtain⟨Hs,p,q,d,e,sm,rp,rq,hd,he,h1,h2,h3,hq⟩:=h
 obtain⟨as,ra⟩:=Rep.reads I sm rp rx hd
 obtain⟨bs,rb⟩:=Rep.reads I sm rq ry he
 exact eq_dataH_same ra rb h1 h2 hu h3 (gE I hq rfl)
theorem zK(hu:X.A.units+64<cLine):gp X (compareOp .NotEq) (yK not):=by
 intro JS s σ H x y v u Q I rx ry h
 obtain⟨Hs,p,q,d,e,sm,rp,rq,hd,he,h1,h2,h3,hq⟩:=h
 obtain⟨as,ra⟩:=Rep.reads I sm rp rx hd
 obtain⟨bs,rb⟩:=Rep.reads I sm rq ry he
 exact ne_dataH_same ra rb h1 h2 hu h3 (gE I hq rfl)
theorem Al{o:Bool->Bool}:j6 E (yK o) (rC λb=>.bl (o b)):=by
 intro σ Hs H p q v u Q s rp rq h
 unfold rC at h
 split at h
 ·rename_i d e hd he
  have h':=aw.bind h
  obtain⟨⟨h1,h2,h3⟩,h⟩:=aw.cO h'
  exact⟨Hs,p,q,d,e,s,rp,rq,hd,he,h1,h2,h3,cI.flat h s (.bl _)⟩
 ·exact h.elim
theorem CA:j6 E (yK id) jS:=Al
theorem Cn:j6 E (yK not) tZ:=Al
end
def mr(xs:List PV)(lo hi:Option Int):List PV:=(xs.drop (HT.cM xs.length 0 lo)).take (HT.cM xs.length xs.length hi-HT.cM xs.length 0 lo)
theorem aH.cut{H:Hp}{xs:List PV}{vs:List V}(r:aH H xs vs)(lo hi:Option Int):aH H (mr xs lo hi) (sx vs lo hi):=by
 unfold mr sx
 rw[r.length]
 exact(r.drop _).take _
abbrev Gh(Q:Option Int->Hp->Prop):Hp->Hp->Option Int->Prop:=λHs H k=>∀ JV H',bD Hs H JV H'->Q k H'
def GX(E:St->XK)(g:af->M (Option Int)):TO:=fun σ H Q=>tG E g (Gh Q) σ H
theorem PO.imp{X:Cx}{e:Option Expr}{t t':TO}(h:PO X e t)(i:∀ σ H Q,t' σ H Q->t σ H Q):PO X e t':=λJS s σ H Q I q=>h JS s σ H Q I (i σ H Q q)
def ud:PV->M (Option Int)
 | .int i=>M.ok (some i)
 | _=>none
def rL:af->M (Option Int):=λ_=>M.ok none
def fF(f:af->M PV):af->M (Option Int):=λenv=>(f env).bind ud
section
variable{X:Cx}{E:St->XK}{e:Expr}{lo hi:Option Expr}{pos p2:Pos}{f:af->M PV}{gl gh:af->M (Option Int)}
theorem Gh.g{Q:Option Int->Hp->Prop}:KG (Gh Q):=λHs H JV H' b k g J5 H2 g2=>k J5 H2 (g.trans g2)
theorem rh:PO X none (GX E rL):=Ca.imp fun σ H Q q=>by
 obtain⟨B,H₀,Hs,env,sr,q⟩:=q
 exact q Hs H (.refl sr.gr.sub)
theorem kA(he:PE X e (tE E f)):PO X (some e) (GX E (fF f)):=(AR he).imp fun σ H Q q=>bT (K:=Gh Q) Gh.g q λB H₀ Hs H1 env p v sr rp hp=>by
 cases rp with
 | int i=>exact⟨i,rfl,hp Hs H1 (.refl sr.gr.sub)⟩
 | _=>exact hp.elim
end
def g9(xs:List PV):List PV:=xs.mapIdx λi x=>.tup [.int (i:Nat),x]
section
variable{E:St->XK}{K:PySem.W.Frag}{fs:af->M (List PV)}
theorem p4{a:Addr}{J2:Hp}{xs:List PV}{vs:List V}(hq:∀ JV H',aV J2 JV->aV JV H'->ij K H' a vs)(hr:aH J2 xs vs):kd (E3 K a) J2 (g9 xs) where
 stop:=λi Hs H s1 s2 hi=>by
  unfold g9 at hi
  rw[List.length_mapIdx,hr.length] at hi
  exact⟨vs,hq Hs H s1 s2,hi⟩
 go:=λi Hs H s1 s2 hi=>by
  unfold g9 at hi
  rw[List.length_mapIdx] at hi
  obtain⟨v,e,_⟩:=hr.get (List.getElem?_eq_getElem hi)
  exact⟨vs,v,hq Hs H s1 s2,e⟩
 uJ:=λi Hs H x H2 s1 s2 hi y=>by
  unfold g9 at hi
  rw[List.length_mapIdx] at hi
  obtain⟨v,e,r⟩:=hr.get (List.getElem?_eq_getElem hi)
  obtain⟨pa,v',hn,rfl,rfl,y1⟩:=y
  have z1:=y1 vs (hq Hs H s1 s2)
  rw[e] at z1;cases z1
  have gr:=bD.new (o:=.tup [.int (i:Nat),v]) s2 hn
  refine⟨.tup [.int (i:Nat),xs[i]],_,?_,gr,.tup az (.cons (.int _) (.cons ((r.mono s1).mono gr.st) .nil))⟩
  unfold g9
  rw[List.getElem?_mapIdx,List.getElem?_eq_getElem hi]
  rfl
end
end L2
namespace L2
open PySem PySem.Spec PyProof.Rows
section
variable{X:Cx}{tg:Expr}
end
section
variable{E:St->XK}{K:PySem.W.Frag}{fs:af->M (List PV)}
theorem aH.three{H:Hp}{p q r:PV}{vs:List V}(h:aH H [p,q,r] vs):∃ v u w,vs=[v,u,w]/\Rep H p v/\Rep H q u/\Rep H r w:=by
 cases h with
 | cons h r=>obtain⟨u,w,rfl,h2,h3⟩:=r.two;exact⟨_,_,_,rfl,h,h2,h3⟩
end
end L2
namespace L2
open PySem PySem.Spec PyProof.Rows
def iO:List PV->List PV->List PV->List PV
 | x::xs,y::ys,z::zs=>.tup [x,y,z]::iO xs ys zs
 | _,_,_=>[]
theorem pZ:∀ {xs ys zs:List PV} {i:Nat} (h1:i<xs.length) (h2:i<ys.length) (h3:i<zs.length),(iO xs ys zs)[i]?=some (.tup [xs[i],ys[i],zs[i]])
 | x::xs,y::ys,z::zs,0,_,_,_=>rfl
 | x::xs,y::ys,z::zs,i+1,h1,h2,h3=>by
  show (iO xs ys zs)[i]?=_
  exact pZ (xs:=xs) (ys:=ys) (zs:=zs) (i:=i) (by simpa using h1) (by simpa using h2) (by simpa using h3)
 | [],_,_,_,h1,_,_=>by simp at h1
 | _::_,[],_,_,_,h2,_=>by simp at h2
 | _::_,_::_,[],_,_,_,h3=>by simp at h3
theorem jE:∀ {xs ys zs:List PV},(iO xs ys zs).length=min xs.length (min ys.length zs.length)
 | x::xs,y::ys,z::zs=>by
  show (iO xs ys zs).length+1=_
  rw[jE]
  simp only[List.length_cons]
  omega
 | [],_,_=>by simp[iO]
 | _::_,[],_=>by simp[iO]
 | _::_,_::_,[]=>by simp[iO]
def u7:List PV->M (List PV)
 | [p,q,r]=>match bO p,bO q,bO r with
  | some xs,some ys,some zs=>M.ok (iO xs ys zs)
  | _,_,_=>none
 | _=>none
section
variable{E:St->XK}{K:PySem.W.Frag}{fs:af->M (List PV)}
theorem wA{b1 b2 b3:Bool}{a1 a2 a3:Addr}{J2:Hp}{xs ys zs:List PV}{vs us ws:List V}(Ku:∀ JV H',aV J2 JV->aV JV H'->jR K H' b1 a1 vs)(Mp:aH J2 xs vs)(Kv:∀ JV H',aV J2 JV->aV JV H'->jR K H' b2 a2 us)(Mq:aH J2 ys us)
  (LU:∀ JV H',aV J2 JV->aV JV H'->jR K H' b3 a3 ws) (Nt:aH J2 zs ws):kd (IK K b1 b2 b3 a1 a2 a3) J2 (iO xs ys zs) where
 stop:=λi Hs H s1 s2 hi=>by
  rw[jE,Mp.length,Mq.length,Nt.length] at hi
  exact⟨vs,us,ws,Ku Hs H s1 s2,Kv Hs H s1 s2,LU Hs H s1 s2,by omega⟩
 go:=λi Hs H s1 s2 hi=>by
  rw[jE] at hi
  obtain⟨v,e,_⟩:=Mp.get (List.getElem?_eq_getElem (show i<xs.length by omega))
  obtain⟨u,e',_⟩:=Mq.get (List.getElem?_eq_getElem (show i<ys.length by omega))
  obtain⟨w,e'',_⟩:=Nt.get (List.getElem?_eq_getElem (show i<zs.length by omega))
  exact⟨vs,us,ws,v,u,w,Ku Hs H s1 s2,Kv Hs H s1 s2,LU Hs H s1 s2,e,e',e''⟩
 uJ:=λi Hs H x H2 s1 s2 hi y=>by
  rw[jE] at hi
  have l1:i<xs.length:=by omega
  have l2:i<ys.length:=by omega
  have l3:i<zs.length:=by omega
  obtain⟨v,e,r⟩:=Mp.get (List.getElem?_eq_getElem l1)
  obtain⟨u,e',r'⟩:=Mq.get (List.getElem?_eq_getElem l2)
  obtain⟨w,e'',r''⟩:=Nt.get (List.getElem?_eq_getElem l3)
  obtain⟨pa,v',u',w',hn,rfl,rfl,y1,y2,y3⟩:=y
  have z1:=y1 vs (Ku Hs H s1 s2)
  have z2:=y2 us (Kv Hs H s1 s2)
  have z3:=y3 ws (LU Hs H s1 s2)
  rw[e] at z1;cases z1
  rw[e'] at z2;cases z2
  rw[e''] at z3;cases z3
  have gr:=bD.new (o:=.tup [v,u,w]) s2 hn
  exact⟨_,_,pZ l1 l2 l3,gr,.tup az (.cons ((r.mono s1).mono gr.st) (.cons ((r'.mono s1).mono gr.st) (.cons ((r''.mono s1).mono gr.st) .nil)))⟩
theorem xq{ps:List PV}{Q:List PV->Prop}{F:EX->Prop}(h:aw (u7 ps) Q F):∃ p q r xs ys zs,ps=[p,q,r]/\bO p=some xs/\bO q=some ys/\bO r=some zs/\Q (iO xs ys zs):=by
 unfold u7 at h
 split at h
 ·split at h
  ·exact⟨_,_,_,_,_,_,rfl,by assumption,by assumption,by assumption,h⟩
  ·exact h.elim
 ·exact h.elim
theorem tH:BQ E (Cr K (tL E fs)) (mW u7 fs):=by
 intro σ H R q
 refine eh (K:=KI R) KI.g q λB H₀ Hs H1 env ps v sr rp hp=>?_
 obtain⟨p,q,r,xs,ys,zs,rfl,e1,e2,e3,hp⟩:=xq hp
 obtain⟨w,u,z,rfl,Ly,ru,rz⟩:=rp.three
 obtain⟨b1,a1,vs,rfl,Ku,Mp⟩:=jB (K:=K) sr.gr.sub Ly e1
 obtain⟨b2,a2,us,rfl,Kv,Mq⟩:=jB (K:=K) sr.gr.sub ru e2
 obtain⟨b3,a3,ws,rfl,LU,Nt⟩:=jB (K:=K) sr.gr.sub rz e3
 exact⟨b1,b2,b3,a1,a2,a3,rfl,⟨vs,Ku Hs H1 (λ_ _ z=>z) sr.gr.sub⟩,⟨us,Kv Hs H1 (λ_ _ z=>z) sr.gr.sub⟩,⟨ws,LU Hs H1 (λ_ _ z=>z) sr.gr.sub⟩,hp _ Hs H1 (.refl sr.gr.sub) (wA Ku Mp Kv Mq LU Nt)⟩
end
end L2
namespace L2
open PySem PySem.Spec PyProof.Rows
def mh(i j k:Nat):PV->af->M af
 | .tup [p,q,r],env=>M.ok (((env.set i (some (.sh p))).set j (some (.sh q))).set k (some (.sh r)))
 | _,_=>none
theorem vJ{E:XK}{K:PySem.W.Frag}{i j k:Nat}:Cm E (iM K 3 (aZ (aI i) (aZ (aI j) (aZ (aI k) iI)))) (mh i j k):=by
 intro B H₀ Hs H σ env p v Q Z sr r h
 cases r with
 | @tup a xs vs ha hx =>
  match xs,hx with
  | [p,q,r],hx =>
   obtain⟨v,u,w,rfl,rp,rq,rr⟩:=hx.three
   exact⟨a,[v,u,w],rfl,fQ.of (sr.gr.sub _ _ ha),rfl,v,[u,w],rfl,u,[w],rfl,w,[],rfl,rfl,h _ (((sr.set rp).set rq).set rr)⟩
  | [],_=>exact h.elim
  | [_],_=>exact h.elim
  | [_,_],_=>exact h.elim
  | _::_::_::_::_,_=>exact h.elim
 | _=>exact h.elim
theorem uE{i j k:Nat}:qe (mh i j k):=λp env e h n=>by
 unfold mh at h
 split at h
 ·cases h;exact jD (jD (jD n))
 ·cases h
section
variable{X:Cx}{E:XK}{e:Expr}{es:List Expr}{pos pos' px:Pos}{fs:af->M (List PV)}{f h:af->M PV}{i:Nat}{x:Str}
def ownAt(i:Nat)(env:af):M (List PV):=match env[i]? with
 | some (some (.ow xs))=>M.ok xs
 | _=>none
end
section
variable{X:Cx}{E:St->XK}{k n:Nat}{f C:Addr}{fd:FuncData}{ps:List Str}{sem:List PV->M (List PV)}{m:Str}{p pos apos J6:Pos}{e o:Expr}{es:List Expr}{fs:af->M (List PV)}{g:af->M PV}
end
end L2
namespace L2
open PySem PySem.Spec PyProof.Rows
mutual
def An:PV->Bool
 | .bZ=>true
 | .bl _=>true
 | .int _=>true
 | .str _=>true
 | .tup xs=>qx xs
 | _=>false
def qx:List PV->Bool
 | []=>true
 | p::r=>An p&&qx r
end
mutual
theorem Rep.away{Hs:Hp}{a:Addr}{ws:List V}(ha:Hs a=some (.lst ws)):∀ {p:PV} {v:V},Rep Hs p v->An p=true->Rep (rem Hs a) p v
 | _,_,.bZ,_=>.bZ
 | _,_,.bl b,_=>.bl b
 | _,_,.int b,_=>.int b
 | _,_,.str b,_=>.str b
 | _,_,.tup (a:=c) h r,n=>by
  have nc:c≠a:=λz=>by subst z;rw[ha] at h;cases h
  exact .tup (by unfold rem;rw[if_neg nc];exact h) (r.away ha n)
 | _,_,.lst _ _,n=>by cases n
 | _,_,.jo _ _,n=>by cases n
 | _,_,.obj _ _,n=>by cases n
 | _,_,.uW _,n=>by cases n
 | _,_,.uH _ _ _,n=>by cases n
theorem aH.away{Hs:Hp}{a:Addr}{ws:List V}(ha:Hs a=some (.lst ws)):∀ {p:List PV} {v:List V},aH Hs p v->qx p=true->aH (rem Hs a) p v
 | _,_,.nil,_=>.nil
 | _,_,.cons h r,n=>by
  have n':=Bool.and_eq_true_iff.mp (show (An _&&qx _)=true from n)
  exact .cons (h.away ha n'.1) (r.away ha n'.2)
end
section
variable{X:Cx}{E:St->XK}{e:Expr}{f:af->M PV}{u:af->M Bool}
end
end L2
namespace L2
open PySem PySem.Spec PyProof.Rows
def bj:PV->PV->M PV:=uS (λ_ j=>decide (j≠0/\j.natAbs.log2<9000)) λi j=>i.fdiv j
def bB:PV->PV->M PV:=uS (λ_ j=>decide (j≠0)) λi j=>i.fmod j
def rX:PV->PV->M PV:=uS (λi j=>decide (0<=j/\j<=1000000/\i.natAbs<2^64)) λi j=>i^j.toNat
def Aq:PV->PV->M PV:=yi λi j=>decide (i<j)
def AO:PV->PV->M PV:=yi λi j=>decide (i<=j)
def Fu:PV->PV->M PV:=yi λi j=>decide (j<i)
def ES:PV->PV->M PV:=yi λi j=>decide (j<=i)
section
variable{E:St->XK}
theorem zP:j6 E (rI yZ λi j=>.int (i.fdiv j)) bj:=BV
theorem B9:j6 E (rI (λ_ j=>j≠0) λi j=>.int (i.fmod j)) bB:=Dg
theorem BX:j6 E (rI Dj λi j=>.int (i^j.toNat)) rX:=EW
theorem uj:j6 E (vV λi j=>.bl (decide (i<j))) Aq:=rD
theorem nB:j6 E (vV λi j=>.bl (decide (i<=j))) AO:=rD
theorem yR:j6 E (vV λi j=>.bl (decide (j<i))) Fu:=rD
theorem yc:j6 E (vV λi j=>.bl (decide (j<=i))) ES:=rD
end
def aT(n:Nat)(s:List PV->M PV):List PV->M PV:=λps=>cO (ps.length=n) (s ps)
theorem o7{n:Nat}{s:List PV->M PV}{ps:List PV}(h:aT n s ps≠none):ps.length=n:=by
 unfold aT cO at h
 split at h
 ·assumption
 ·exact(h rfl).elim
section
variable{P:Program}{w:World}{K:PySem.W.Frag}{mg:Str->Option Value}{base:Heap}
theorem zm{k n:Nat}{f:Addr}{fd:FuncData}{ps:List Str}{s:List PV->M PV}(F:aF P w K mg base (bG P w) k f fd ps (dh n s)):aF P w K mg base (bG P w) k f fd ps (dh n (aT n s)) where
 len:=λvs H Q E h=>by
  obtain⟨h0,Hs,qs,sm,r,h⟩:=h
  exact F.len vs H Q E ⟨h0,Hs,qs,sm,r,(aw.cO h).2⟩
 run:=λA outer s H args us vs Q E hr e hb rv h=>by
  obtain⟨h0,Hs,qs,sm,r,h⟩:=h
  exact F.run A outer s H args us vs Q E hr e hb rv ⟨h0,Hs,qs,sm,r,(aw.cO h).2⟩
structure cF (P:Program) (w:World) (K:PySem.W.Frag) (mg:Str->Option Value) (base:Heap) (n:Nat) (x:Str) (m:Nat) (sem:List PV->M PV):Prop where
 ex:∃ (f:Addr) (fd:FuncData) (ps:List Str),mg x=some (.ref f)/\PySem.W.keepIn K (.ref f)=true/\ps.length=m/\Binds K fd ps []/\aF P w K mg base (bG P w) n f fd ps (dh m (aT m sem))
theorem aQ.eG{x qual:Str}{st:Stmt}{dv:Value}{f:Addr}{fd:FuncData}{N ps:List Str}{k:Nat}{g:af->M Out}(F:aQ K x qual st dv f fd)(S:av N ps (aq st))
  (hb:∀ (Ka:Value) (A:Around) (outer:List Env) (s:Shared) (H:Hp) (E:XK),bN k (A.deeper (envOfC qual (aq st) s.heap.objs.size f Ka))->fg ((my (bG P w) P w K mg base N qual (aq st) f Ka A outer s H E).out λ_=>E) (λ_=>E)->kf ((my (bG P w) P w K mg base N qual (aq st) f Ka A outer s H E).out λ_=>E) (eX st) (tS E g)) :
  aF P w K mg base (bG P w) (k+1) f fd ps (dh ps.length (aT ps.length (ay N.length g))):=by
 obtain⟨oc,od,kV,doc,pm,an,Ka,ct,L9,rfl,lk,Lh⟩:=F.ex
 exact zm (Ew lk Lh S λA outer s H E hr=>hb Ka A outer s H E hr (yq rfl rfl))
end
section
variable{X:Cx}{E:St->XK}{n m k:Nat}{x:Str}{sem:List PV->M PV}{e:Expr}{es:List Expr}{fs:af->M (List PV)}{p pos:Pos}
theorem cF.call(F:cF X.prog X.w X.K X.mg X.base n x m sem)(hr:bN k X.A)(hn:n<=k)(hg:Gl X x)(O:fg X E)(ha:PA X (e::es) (tL E fs))(KU:(x==("__debug__" : Str))=false:=by decide)(he:starEach (e::es) X.env=(false,eval e X.env)::starEach es X.env:=by rfl)(Kd:(backTo pos (starEach es X.env)).any (·.1)=false:=by rfl) :
  PE X (.Call (.Name x p) (e::es) [] pos) (tE E (ah (aT m sem) fs)):=by
 obtain⟨f,fd,ps,h1,h2,h3,h4,h5⟩:=F.ex
 have:=AK (p:=p) (Lo:=[]) h5 (hr.mono hn) hg h1 h2 h4 .nil (λ_=>.nil) O (λLx hp=>by rw[List.append_nil] at hp;exact o7 hp) ha KU he Kd
 refine this.imp fun σ H Q q=>?_
 have e:(λps=>aT m sem (ps++[]))=aT m sem:=by funext ps;rw[List.append_nil]
 rw[e];exact q
structure mD (P:Program) (w:World) (K:PySem.W.Frag) (mg:Str->Option Value) (base:Heap) (C:Addr) (n:Nat) (x:Str) (m:Nat) (sem:List PV->M PV):Prop where
 ex:∃ (f:Addr) (fd:FuncData) (ps:List Str),ko K C/\Meth K C x f/\Binds K fd ps []/\aF P w K mg base (bG P w) n f fd ps (dh m (aT m sem))
theorem mD.zY{C:Addr}{o:Expr}{g:af->M PV}{apos:Pos}{pl:Sem Bool}(F:mD X.prog X.w X.K X.mg X.base C n x m sem)(hr:bN k X.A)(hn:n<=k)(O:fg X E)(ho:PE X o (tE E g))
  (ht:eval (.Call (.Attribute o x apos) [] [] pos) X.env=(do
   let ov ← eval o X.env
   standAt apos.atName
   let (f,first) ← holding [ov] (getMethod ov x pl)
   callWith pos f first (backTo pos (starEach [] X.env)) (backToKw pos (keywordEach [] X.env))):=by rfl) :
  PE X (.Call (.Attribute o x apos) [] [] pos) (tE E (gG C x (aT m sem) g ar)):=by
 obtain⟨f,fd,ps,h1,h2,h3,h4⟩:=F.ex
 exact yx ho h1 h2 h4 (hr.mono hn) h3 O (λLx hp=>o7 hp) ht
end
structure xV (P:Program) (w:World) (K:PySem.W.Frag) (mg:Str->Option Value) (base:Heap) (C:Addr) (n:Nat) (x:Str) (m:Nat) (Lo:List PV) (sem:Addr->List PV->M (List (Str×PV))):Prop where
 ex:∃ (f:Addr) (fd:FuncData) (ps:List Str) (ds:List Value) (KQ:List V),mg x=some (.ref C)/\Mk K C f/\Binds K fd ps ds/\Vals KQ ds/\(∀ H,aH H Lo KQ)/\aF P w K mg base (bG P w) n f fd ps (BK m C sem)
def nF(m:Nat)(sem:Addr->List PV->M (List (Str×PV))):Addr->List PV->M (List (Str×PV)):=λa ps=>cO (ps.length+1=m) (sem a ps)
theorem v8{P:Program}{w:World}{K:PySem.W.Frag}{mg:Str->Option Value}{base:Heap}{k n:Nat}{f C:Addr}{fd:FuncData}{ps:List Str}{s:Addr->List PV->M (List (Str×PV))}(F:aF P w K mg base (bG P w) k f fd ps (BK n C s)):aF P w K mg base (bG P w) k f fd ps (BK n C (nF n s)) where
 len:=λvs H Q E h=>by
  obtain⟨h0,a,dx,us,Hs,H1,qs,e1,e2,e3,e4,e5,sm,r,h⟩:=h
  exact F.len vs H Q E ⟨h0,a,dx,us,Hs,H1,qs,e1,e2,e3,e4,e5,sm,r,(aw.cO h).2⟩
 run:=λA outer s H args us vs Q E hr e hb rv h=>by
  obtain⟨h0,a,dx,us',Hs,H1,qs,e1,e2,e3,e4,e5,sm,r,h⟩:=h
  exact F.run A outer s H args us vs Q E hr e hb rv ⟨h0,a,dx,us',Hs,H1,qs,e1,e2,e3,e4,e5,sm,r,(aw.cO h).2⟩
theorem aQ.ID{P:Program}{w:World}{K:PySem.W.Frag}{mg:Str->Option Value}{base:Heap}{x qual:Str}{st:Stmt}{dv:Value}{f C:Addr}{fd:FuncData}{N ps:List Str}{k:Nat}{g:af->M Out}(F:aQ K x qual st dv f fd)(S:av N ps (aq st))(hN:0<N.length)
  (hb:∀ (Ka:Value) (A:Around) (outer:List Env) (s:Shared) (H:Hp) (E:XK),bN k (A.deeper (envOfC qual (aq st) s.heap.objs.size f Ka))->fg ((my (bG P w) P w K mg base N qual (aq st) f Ka A outer s H E).out λ_=>E) (λ_=>E)->kf ((my (bG P w) P w K mg base N qual (aq st) f Ka A outer s H E).out λ_=>E) (eX st) (tS E g)) :
  aF P w K mg base (bG P w) (k+1) f fd ps (BK ps.length C (nF ps.length (tK N.length g C))):=by
 obtain⟨oc,od,kV,doc,pm,an,Ka,ct,L9,rfl,lk,Lh⟩:=F.ex
 exact v8 <| BF lk Lh S hN λA outer s H E hr=>hb Ka A outer s H E hr (yq rfl rfl)
section
variable{X:Cx}{E:St->XK}{n m k:Nat}{x:Str}{e:Expr}{es:List Expr}{fs:af->M (List PV)}{p pos:Pos}
theorem xV.make{C:Addr}{Lo:List PV}{sem:Addr->List PV->M (List (Str×PV))}(F:xV X.prog X.w X.K X.mg X.base C n x m Lo (nF m sem))(hr:bN k X.A)(hn:n+1<=k)(hg:Gl X x)(O:fg X E)(ha:PA X (e::es) (tL E fs))(KU:(x==("__debug__" : Str))=false:=by decide)(he:starEach (e::es) X.env=(false,eval e X.env)::starEach es X.env:=by rfl)(Kd:(backTo pos (starEach es X.env)).any (·.1)=false:=by rfl) :
  PE X (.Call (.Name x p) (e::es) [] pos) (tE E (ah (gI C (nF m sem) Lo) fs)):=by
 obtain⟨f,fd,ps,ds,KQ,h1,h2,h4,h5,h6,h7⟩:=F.ex
 refine AW (p:=p) h2 h7 (hr.mono hn) hg h1 h4 h5 h6 O (λa Lx hp=>?_) ha KU he Kd
 unfold nF cO at hp
 split at hp
 ·rename_i h;rwa [List.length_append] at h
 ·exact(hp rfl).elim
end
def ka:Addr->Option Bool:=λ_=>none
theorem gF{P:Addr->Bool->Prop}:∀ C b,ka C=some b->P C b:=λ_ _ h=>by cases h
theorem vr{X:Cx}{E:St->XK}{x:Str}{pos:Pos}(i:Nat)(hN:X.N[i]?=some x:=by rfl)(hv:A3 X.env.scope x:=by first | exact .inl rfl | exact .inr (.inl rfl) | exact .inr (.inr rfl))(hd:(x==("__debug__" : Str))=false:=by decide)(Lh:(x==("__classdict__" : Str))=false:=by decide):PE X (.Name x pos) (tE E (ae i)):=E7 hN hv hd Lh
end L2
namespace L2
open PySem PySem.Spec PyProof.Rows
theorem Cy{env:Env}{e:Expr}{es:List Expr}(h:(match e with | .Starred ..=>true | _=>false)=false):starEach (e::es) env=(false,eval e env)::starEach es env:=by
 cases e <;> first | rfl | cases h
def jy:List Expr->Option (List Int)
 | []=>some []
 | .Constant (.int i) _ _::r=>(jy r).map (i::·)
 | _=>none
section
variable{X:Cx}{E:St->XK}{pos:Pos}
theorem vq:∀ {es:List Expr} {ns:List Int},jy es=some ns->PA X es (tL E λ_=>M.ok (ns.map PV.int))
 | [],_,h=>by cases h;exact zE
 | .Constant (.int i) j p::r,ns,h=>by
  obtain⟨ms,h1,rfl⟩:=Option.map_eq_some_iff.mp (show (jy r).map (i::·)=some ns from h)
  exact vj zJ (vq h1) (Cy rfl)
theorem qz{es:List Expr}(ns:List Int)(h:jy es=some ns:=by rfl)(hz:ns.length<=1000:=by decide):PE X (.List es pos) (tE E λ_=>M.ok (.lst (ns.map PV.int))):=by
 refine(zC (E:=E) (vq h)).imp fun σ H Q q=>?_
 have e:(i8 λ_=>M.ok (ns.map PV.int))=λ_=>M.ok (.lst (ns.map PV.int)):=by
  funext env
  show cO _ _=_
  unfold cO
  rw[if_pos (by rw[List.length_map];exact Nat.le_trans hz (by decide))]
 rw[e];exact q
end
end L2
namespace L2
open PySem PySem.Spec PyProof.Rows
section
variable{X:Cx}{E:St->XK}{a b:Expr}{pos:Pos}{f g:af->M PV}
end
end L2
namespace L2
open PySem PySem.Spec PyProof.Rows
structure wQ (K:PySem.W.Frag) (mg:Str->Option Value) (C:Addr) (x:Str):Prop where
 hc:PySem.W.excIn K C eH "ValueError.__new__" = true
 c:fS K C
 ht:PySem.W.typeIn K (.ref C)=some (.type "type")
 kp:PySem.W.keepIn K (.ref C)=true
 m:mg x=some (.ref C)
structure rO (P:Program) (w:World) (K:PySem.W.Frag) (mg:Str->Option Value) (base:Heap) (C:Addr) (x fl:Str):Prop where
 ex:∃ (f:Addr) (fd:FuncData) (ps:List Str),oj K C "ValueError.__new__" f=true/\PySem.W.isFn K (.ref f)=true/\aF P w K mg base (bG P w) 1 f fd ps (wx K C fl)/\Binds K fd ps []
 c:fS K C
 ht:PySem.W.typeIn K (.ref C)=some (.type "type")
 kp:PySem.W.keepIn K (.ref C)=true
 m:mg x=some (.ref C)
section
variable{X:Cx}{E:XK}{e:Expr}{es:List Expr}{pos p J6:Pos}{x fl:Str}{C:Addr}{k:Nat}{fs:af->M (List PV)}
theorem wQ.raise(F:wQ X.K X.mg C x)(O:fg X λ_=>E)(J4:X.calm=true)(hg:Gl X x)(ha:PA X (e::es) (tL (λ_=>E) fs))
  (KU:(x==("__debug__" : Str))=false:=by decide) (he:starEach (e::es) X.env=(false,eval e X.env)::starEach es X.env:=by rfl) (Kd:(backTo J6 (starEach es X.env)).any (·.1)=false:=by rfl) :
  PS X (.Raise (some (.Call (.Name x p) (e::es) [] J6)) none pos) (tS E (jf C fs)):=xf O J4 F.hc F.c F.ht F.kp hg F.m ha KU he Kd
theorem rO.raise(F:rO X.prog X.w X.K X.mg X.base C x fl)(hr:bN k X.A)(hn:2<=k)(O:fg X λ_=>E)(J4:X.calm=true)(hg:Gl X x)(ha:PA X [e] (tL (λ_=>E) fs))
  (KU:(x==("__debug__" : Str))=false:=by decide) (he:starEach [e] X.env=(false,eval e X.env)::starEach [] X.env:=by rfl) (Kd:(backTo J6 (starEach [] X.env)).any (·.1)=false:=by rfl) :
  PS X (.Raise (some (.Call (.Name x p) [e] [] J6)) none pos) (tS E (ja C fl fs)):=by
 obtain⟨f,fd,ps,h1,h2,h3,h4⟩:=F.ex
 exact xo O J4 h1 h2 F.c F.ht F.kp h3 (hr.mono hn) h4 hg F.m ha KU he Kd
end
end L2
namespace L2
open PySem PySem.Spec PyProof.Rows
section
variable{X:Cx}{E:St->XK}
end
end L2
namespace L2
open PySem PySem.Spec PyProof.Rows
end L2
namespace L2
open PySem PySem.Spec PyProof.Rows
def Fz(i j:Nat)(env:af):List PV->M Out
 | [p,q]=>M.ok (.nx ((env.set i (some (.sh p))).set j (some (.sh q))))
 | _=>none
def zS(i j:Nat)(fs:af->M (List PV)):af->M Out:=λenv=>(fs env).bind (Fz i j env)
theorem yD{X:Cx}{E:XK}{i j:Nat}{x y:Str}{a b:Expr}{fs:af->M (List PV)}{px py pt pos:Pos}{kt k2:Nat}{LV:Pos}(hc:X.calm=true)(hN:X.N.Nodup)(hi:X.N[i]?=some x)(hj:X.N[j]?=some y)(MF:i≠j)
  (hx:X.env.scope.names.lookup x=some .local) (hy:X.env.scope.names.lookup y=some .local) (ha:PA X [a,b] (tL (λ_=>E) fs))
  (hw:swappedStores [.Tuple [.Name x px,.Name y py] kt pt] (.Tuple [a,b] k2 LV) X.env=pure (some [x,y]))
  (hs:swapsWithSole [.Tuple [.Name x px,.Name y py] kt pt] (.Tuple [a,b] k2 LV) pos.line X.env=pure false:=by rfl) :
  PS X (.Assign [.Tuple [.Name x px,.Name y py] kt pt] (.Tuple [a,b] k2 LV) pos) (tS E (zS i j fs)):=by
 refine(DC hc hN hi hj MF hx hy ha hw hs).imp λD σ H q=>kG q λB H₀ Hs H1 env ps v sr rp hp=>?_
 match ps,rp,hp with
 | [],_,hp=>exact hp.elim
 | [_],_,hp=>exact hp.elim
 | _::_::_::_,_,hp=>exact hp.elim
 | [p,q],rp,hp =>
  obtain⟨v,u,rfl,r1,r2⟩:=rp.two
  exact⟨v,u,rfl,hp _ Hs H1 ((sr.set r1).set r2)⟩
end L2
namespace L2
open PySem PySem.Spec PyProof.Rows
section
variable{X:Cx}{E:St->XK}{pos:Pos}
theorem cI.emp{Hs H:Hp}{Q:VK}(h:cI Hs H Q .emp)(s:aV Hs H):∀ p,H p=none->Q (.ref p) (upd H p (.dK [])) :=
 λp n=>h _ (upd Hs p (.dK [])) _ (bD.new s n) (.emp az)
theorem DR:PE X (.Dict [] [] pos) (tE E λ_=>M.ok .emp):=by
 refine zG.imp fun σ H Q q=>?_
 obtain⟨B,H₀,Hs,env,sr,q⟩:=q
 exact cI.emp q sr.gr.sub
end
end L2
namespace L2
open PySem PySem.Spec PyProof.Rows
section
variable{X:Cx}{tg elt iter c:Expr}{scope:Scope}{cl:List (Str×Addr)}{pos:Pos}{wi:TI}{it:af->M (List PV)}{g:TG}{set:PV->af->M af}{f:af->M PV}{ts fs:List Str}{js:List Nat}
theorem yV{E:St->XK}{σ:St}{H:Hp}{Q:VK}(hv:BQ E wi it)(M0:∀ E,Cm E g set)(so:qe set)(q:tO E (fI it set none f ts.length js) σ H Q):uZ wi g (tE EF f) ts js σ H Q:=by
 refine hv σ H _ ?_
 obtain⟨B,H₀,Hs,env,sr,q⟩:=q
 refine⟨B,H₀,Hs,env,sr,(aw.bind q).imp (λxs hp J J2 H1 gr ok D hD=>?_) λe he=>he⟩
 obtain⟨hz,hp⟩:=aw.cO hp
 have hp:=aw.Am hp
 have MZ:=sr.grow gr
 refine⟨λi m σ H=>m=xs.length-i/\i<=xs.length/\Jc set none f Q J2 H1 D xs i σ H,⟨xs.length,by simp,Nat.zero_le _,J2,_,[],[],MZ.block hD,eI,az,?_,.nil,Nat.le_refl _,hp.imp (λzs hz vs p J5 H2 g2 r n=>hz vs p J5 H2 (gr.trans g2) r n) λ_ z=>z⟩,?_⟩
 ·cases z:J2 D with
  | none=>rfl
  | some o=>have:=gr.sub _ _ z;rw[hD] at this;cases this
 rintro i m σ' H2 ⟨rfl,hi,J5,env2,ys,vs,KR,n2,d1,d2,r2,l2,h2⟩
 by_cases Le:i<xs.length
 ·refine .inr ⟨ok.go i J5 H2 KR.gr.st KR.gr.sub Le,Jc set none f Q J2 H1 D xs (i+1),fun σ3 H3 j=>⟨xs.length-(i+1),by omega,rfl,Le,j⟩,λx H3 y=>?_⟩
  obtain⟨p,Lz,ep,g3,r3⟩:=ok.uJ i J5 H2 x H3 KR.gr.st KR.gr.sub Le y
  have hd:xs.drop i=p::xs.drop (i+1):=by
   rw[List.drop_eq_getElem_cons Le]
   rw[List.getElem?_eq_getElem Le] at ep
   rw[Option.some.inj ep]
  rw[hd] at h2
  have h3:=aw.bind h2
  have LW:=KR.grow g3
  refine M0 (λ_ _ _=>False) J2 H1 Lz H3 σ' env2 p x _ (λ_=>False) LW r3 ?_
  cases hset:set p env2 with
  | none=>rw[hset] at h3;exact h3
  | some z=>cases z with
   | error e=>rw[hset] at h3;exact h3
   | ok e3 =>
    rw[hset] at h3
    intro σ4 sr4
    have n4:=so p env2 e3 hset n2
    refine⟨J2,H1,Lz,e3,sr4,(aw.bind h3).imp (λy hy v Hs5 H5 g5 r5=>?_) λ_ z=>z.elim⟩
    exact Jc.put (set:=set) (t:=none) (f:=f) hD (sr4.grow g5) n4 (g5.al _ _ (g3.al _ _ d1)) (g5.nw _ _ (g3.nw _ _ d2 d1) (g3.al _ _ d1)) ((r2.mono g3.st).mono g5.st) l2 (by omega) r5 hy
 ·refine .inl ⟨ok.stop i J5 H2 KR.gr.st KR.gr.sub (by omega),?_⟩
  exact Jc.done (set:=set) (t:=none) (f:=f) (xs:=xs) (J2:=J2) (H1:=H1) (i:=i) hD ⟨J5,env2,ys,vs,KR,n2,d1,d2,r2,l2,h2⟩ (by omega)
variable{E:XK}{i:Nat}{y:Str}{py Mz:Pos}
theorem vx(J4:X.calm=true)
  (Ky:closureFor scope X.env=pure cl) (hk:scope.kind=.function) (nc:ic scope.names=true) (lo:jG scope.names=true) (fh:jA cl scope.names=true) (ag:fE X cl) (fr:jt X scope cl fs js)
  (hi:PI X tg iter wi) (hv:BQ (λ_=>E) wi it) (hg:∀ C s₀ H₀ ex JS,PG (tX X scope cl (ts++fs) C s₀ H₀ ex JS) tg g) (M0:∀ E,Cm E g set) (so:qe set) (he:∀ C s₀ H₀ ex JS,PE (tX X scope cl (ts++fs) C s₀ H₀ ex JS) elt (tE EF f))
  (hN:X.N.Nodup) (hiy:X.N[i]?=some y) (hy:Loc X.env.scope y)
  (hs:∀ x,foldedSetIterable iter X.env x=pure x:=by intro _;rfl) (Nv:swapsWith (.ListComp elt [⟨tg,iter,[],0⟩] scope pos) (some (.Name y py)) Mz.line X.env=pure true:=by rfl)
  (hf:X.fn y=true\/X.env.scope.names.lookup y=some .local:=by first | exact .inl rfl | exact .inr rfl | assumption) :
  PS X (.Assign [.Name y py] (.ListComp elt [⟨tg,iter,[],0⟩] scope pos) Mz) (tS E (bp i (gO (fI it set none f ts.length js)))):=by
 refine(Cc hN hiy hy J4 Ky hk nc lo fh ag fr hi hg he hs Nv hf).imp λD σ H q=>?_
 refine yV hv M0 so ?_
 obtain⟨B,H₀,Hs,env,sr,q⟩:=q
 refine⟨B,H₀,Hs,env,sr,(aw.bind (aw.bind q)).imp (λps hp vs p JV H' g r n=>?_) λe he=>he.grow sr.gr⟩
 have gn:=bD.new (o:=.lst vs) g.sub n
 exact hp _ _ _ ((sr.grow (g.trans gn)).set (.lst az (r.mono gn.st)))
end
end L2
namespace L2
open PySem PySem.Spec PyProof.Rows
section
variable{X:Cx}{tg:Expr}{a:Expr}{ta:TA}{p pos:Pos}
end
section
variable{E:St->XK}{X:Cx}{fs:af->M (List PV)}{a tg:Expr}{p p2 pos pos2:Pos}
end
end L2
namespace L2
open PySem PySem.Spec PyProof.Rows
open AutoSeq1 (wpAny_loadPart')
theorem wU(l:Addr)(items:Array Value)(n:Nat)(dct:Option Addr)(sl:Array (Option Value)) :
  Meets (Builtin.«enumerate.__new__» ⟨[.type "enumerate", .ref l],[]⟩) (λ_ R s=>s.heap.get? l=some { cls:=.type "tuple", dict:=dct,data:=.seq items n,slots:=sl } ∧
   R (.ok (.ret (.ref (s.heap.push { cls:=.type "tuple_iterator", data:=.fields #[.ref l,.int 0 0] }).objs.size)))
    { s with heap:=(s.heap.push { cls:=.type "tuple_iterator", data:=.fields #[.ref l,.int 0 0] }).push { cls:=.type "enumerate", data:=.fields #[.none,.bool false,.ref s.heap.objs.size,rawInt 0,.none,.none] } }) :=
 .of_wp λprog w A R s h=>by
  obtain⟨hp,g,d,tk,os⟩:=s;obtain⟨hl,h⟩:=h
  have Nu:=sub_enumerate
  have hL:Heap.IsTuple (Shared.heap ⟨hp,g,d,tk,os⟩) l items:=⟨_,hl,rfl,n,rfl⟩
  wp_walk using wpAny_loadPart' hl
  refine wpAny_stack_any λst=>wpAny_pure ?_
  split
  ·rename_i c _ _ _ _ _
   cases (c==Value.type "enumerate")
   ·wp_walk using wpAny_loadPart' hl,wpAny_pyIter_tuple hL
    exact⟨_,rfl,h⟩
   ·wp_walk using wpAny_loadPart' hl,wpAny_pyIter_tuple hL
    exact⟨_,rfl,h⟩
  ·wp_walk using wpAny_loadPart' hl,wpAny_pyIter_tuple hL
   exact⟨_,rfl,h⟩
section
variable{prog:Program}{w:World}{A:Around}{E:Value->Shared->Prop}{s:Shared}
theorem uA{l:Addr}{items:Array Value}{Q:Value->Shared->Prop}(hL:s.heap.IsTuple l items)
  (h:∀ h',IsEnum h' (s.heap.objs.size+1) s.heap.objs.size 0 .none->h'.IsTupleIter s.heap.objs.size l 0->h'.objs.size=s.heap.objs.size+2 ->
   (∀ b o,s.heap.get? b=some o->h'.get? b=some o)->Q (.ref (s.heap.objs.size+1)) { s with heap:=h' }) :
  wpAny (model prog w) A (call (.type "enumerate") [.ref l]) Q E s:=by
 obtain⟨⟨c,dct,dt,sl⟩,hl,hc,n,hd⟩:=hL
 replace hc:c=.type "tuple" := hc
 replace hd:dt=.seq items n:=hd
 subst hc hd
 refine callType_new F.called_enumerate (by decide) (F.typeCall_enumerate_1 _) (F.newCall_enumerate_1 _) (λobj=>F.args_object_init_2 obj _) F.entry_enumerate_new
  (wU l items n dct sl) ⟨hl,?_⟩
 have hz:(s.heap.push { cls:=.type "tuple_iterator", data:=.fields #[.ref l,.int 0 0] }).objs.size=s.heap.objs.size+1:=Heap.size_push ..
 show _/\_
 rw[hz]
 have he:IsEnum ((s.heap.push { cls:=.type "tuple_iterator", data:=.fields #[.ref l,.int 0 0] }).push
   { cls:=.type "enumerate", data:=.fields #[.none,.bool false,.ref s.heap.objs.size,rawInt 0,.none,.none] }) (s.heap.objs.size+1) s.heap.objs.size 0 .none:=by
  have:=Heap.get?_push_size (s.heap.push { cls:=.type "tuple_iterator", data:=.fields #[.ref l,.int 0 0] })
   (o:={ cls:=.type "enumerate", data:=.fields #[.none,.bool false,.ref s.heap.objs.size,rawInt 0,.none,.none] }) rfl
  rw[hz] at this;exact this
 refine⟨⟨_,he,rfl⟩,h _ he ⟨_,Heap.get?_push_of_some _ (Heap.get?_push_size _ rfl),rfl,rfl⟩ (by rw[Heap.size_push,hz]) λb o x=>Heap.get?_push_of_some _ (Heap.get?_push_of_some _ x)⟩
end
theorem EU{prog:Program}{w:World}{A:Around}(hh:A.handled=none)(it t:Addr)(items:Array Value) :
  Draws prog w A it [it,t] items.size (λi v=>items[i]?=some v) (λi h=>h.IsTupleIter it t i/\h.IsTuple t items) where
 live:=λ_ _ st=>let ⟨⟨o,ho,_⟩,_⟩:=st;⟨o,ho⟩
 frame:=λ_ _ _ st hk=>by
  obtain⟨⟨o,ho,r⟩,⟨o2,Mb,r2⟩⟩:=st
  exact⟨⟨o,hk it (by simp) o ho,r⟩,⟨o2,hk t (by simp) o2 Mb,r2⟩⟩
 item:=λi s Q E hi st hQ=>by
  obtain⟨st,tt⟩:=st
  refine g8 st tt (x:=items[i]) (by simp[hi]) λh' MS M6=>?_
  refine hQ _ h' s.toks (by simp[hi]) ⟨MS,?_⟩ M6
  obtain⟨o,ho,c1,_⟩:=st
  obtain⟨o2,Mb,c2,r2⟩:=tt
  refine⟨o2,(M6.2 t λz=>?_).trans Mb,c2,r2⟩
  rw[z,ho] at Mb;cases Mb
  rw[c1] at c2;exact absurd c2 (by decide)
 done:=λs Q E st hE=>eM hh st.1 st.2 (by simp) hE
section
variable{X:Cx}
def DS (K : PySem.W.Frag) (a : Addr) : It :=
  ⟨λi H => ∃ xs x, fQ K H a xs /\ xs[i]? = some x,
   λi H y H' => ∃ p x, H p = none /\ y = .ref p /\ H' = upd H p (.tup [.int i, x]) /\ ∀ xs, fQ K H a xs -> xs[i]? = some x,
   λi H => ∃ xs, fQ K H a xs /\ xs.length <= i⟩
theorem uY{P:Program}{w:World}{K:PySem.W.Frag}{elts:List Expr}{x1:Nat}{tp:Pos}(a e it:Addr)(Mc:e≠it):Turn P w K (.Tuple elts x1 tp) (DS K a) [e,it] e (λi h=>(∃ old,IsEnum h e it i old)/\h.IsTupleIter it a i) where
 mem:=by simp
 obj:=λi h st b hb=>by
  obtain⟨⟨old,he⟩,⟨o,e1,c,d⟩⟩:=st
  rcases List.mem_cons.mp hb with z | z
  ·subst z
   exact⟨_,he,λv z=>by cases z⟩
  ·have z':b=it:=by simpa using z
   subst z'
   exact⟨o,e1,λv z=>by rw[d] at z;cases z⟩
 keep:=λi h h' st k=>by
  obtain⟨⟨old,he⟩,⟨o,ho,r⟩⟩:=st
  exact⟨⟨old,k e (by simp) _ he⟩,⟨o,k it (by simp) o ho,r⟩⟩
 item:=by
  intro X hP hw hK hc i JS s σ H E I hf st hg
  subst hP hw hK
  obtain⟨xs,x,hq,hx⟩:=hg
  obtain⟨JU,rv,p,hz⟩:=I.tuple hq
  obtain⟨u,hu,ru⟩:=rv.get hx
  obtain⟨⟨old,he⟩,hit⟩:=st
  have Mj:e<s.heap.objs.size:=Heap.lt_size he
  have MR:it<s.heap.objs.size:=by obtain⟨_,z,_⟩:=hit;exact Heap.lt_size z
  have hea:e ∉ [it,a]:=λz=>by
   rcases List.mem_cons.mp z with z | z
   ·exact Mc z
   ·obtain⟨o,ho,c,_⟩:=p
    rw[← List.mem_singleton.mp z,he] at ho
    cases ho;exact absurd (show Value.type "enumerate" = Value.type "tuple" from c) (by decide)
  have M5:i<JU.toArray.size:=by
   have:=(List.getElem?_eq_some_iff.mp hu).1
   simpa using this
  refine wpAny_pyNext_enum_itemD (EU (A:=X.A.in1) (I.ok.hd hc) it a JU.toArray) he ⟨hit,p⟩ M5 Mc hea λu' h' tk hu' ho Kw hT Lq hk=>⟨_,rfl,?_⟩
  have eu:u'=u:=by
   rw[List.getElem?_toArray,hu] at hu';exact(Option.some.inj hu').symm
  subst eu
  refine wpAny_letOwnedTupleGo_enum (s:={ s with heap:=h',toks:=tk+1 }) ho λh2 he2 LH=>?_
  have Mt:∀ b o,b ∉ [e,it]->s.heap.get? b=some o->h2.get? b=some o:=λb o hb q=>by
   have n1:b≠e:=λz=>hb (by simp[z])
   have n2:b≠it:=λz=>hb (by simp[z])
   exact(LH.2 b n1).trans (hk b o n1 n2 q)
  have MB:h2.get? s.heap.objs.size=some { cls:=.type "tuple", data:=.seq #[.int i tk,u'] }:=(LH.2 _ (Nat.ne_of_gt Mj)).trans hT
  have I2:Inv X JS σ (upd H s.heap.objs.size (.tup [.int i,x])) { s with heap:=h2,toks:=tk+1 } :=
   I.jI (ch:=[e,it]) Mt hf (Nat.le_refl _) (λb hb=>by
    rcases List.mem_cons.mp hb with z | z
    ·subst z;exact⟨_,he⟩
    ·have z':b=it:=by simpa using z
     subst z'
     obtain⟨o,z,_⟩:=hit
     exact⟨o,z⟩)
    ⟨by show 2<=sizeLine;decide,[.int i tk,u'],.cons ⟨_,rfl⟩ (.cons ru .nil),⟨_,MB,rfl,_,rfl⟩⟩
  have Lk:H s.heap.objs.size=none:=I.a_.fresh (Nat.le_refl _)
  obtain⟨oi,hoi,ri⟩:=Kw.1
  refine⟨.ref s.heap.objs.size,_,I2,rfl,⟨_,x,Lk,rfl,rfl,λys hy=>by rw[I.lM hy hq];exact hx⟩,⟨⟨u',by simpa using he2⟩,⟨oi,(LH.2 it (Ne.symm Mc)).trans hoi,ri⟩⟩,λb hb=>?_⟩
  have nb:b≠s.heap.objs.size:=by
   rcases List.mem_cons.mp hb with z | z
   ·rw[z];exact Nat.ne_of_lt Mj
   ·have z':b=it:=by simpa using z
    rw[z'];exact Nat.ne_of_lt MR
  rw[au nb]
  exact(hf b hb).1
 done:=by
  intro X hP hw hK hc i JS s σ H E I hf st hg
  subst hP hw hK
  obtain⟨xs,hq,hx⟩:=hg
  obtain⟨JU,rv,p,hz⟩:=I.tuple hq
  have hl:=rv.length
  obtain⟨⟨old,he⟩,hit⟩:=st
  obtain⟨f0,f1,f2,f3,f4,f5⟩:=hf it (by simp)
  have hT:s.TypeIs (.ref e) "enumerate" := ⟨_,he,rfl⟩
  unfold pyNext
  refine wpAny_bind (wpAny_attempt (wpAny_callSpecial?_slot (name:=Str.ofString "__next__") hT F.slot_enumerate_next
   (wpAny_call_entry F.slot_enumerate_next hT F.entry_enumerate_next ?_ (F.args_enumerate_next_1 _))))
  show wpAny _ _ (field (.ref e) 2 >>= _) _ _ _
  refine wpAny_bind (wpAny_field he rfl (x:=.ref it) rfl ?_)
  refine wpAny_bind (eM (I.ok.hd hc) hit p (by simp;omega) λh' x he' MW=>?_)
  obtain⟨o,ho,MD⟩:=MW
  refine wpAny_bind (wpAny_isInstance (T := "StopIteration") (b:=true) ⟨o,ho,MD⟩ isSubtype_stop ?_)
  exact wpAny_pure ⟨rfl,I.turned (t':=s.toks) (λb o hb e=>he' b o hb e) f0 f1 f3 f4 f5⟩
 self:=λ_ _ _ _ _ st h=>by
  obtain⟨⟨old,he⟩,_⟩:=st
  exact wpAny_pyIter_enum he h
def GL(K:PySem.W.Frag)(tl:TA):TI:=fun σ H R=>tl σ H λvs H1=>∃ a,vs=[.ref a]/\(((∃ xs,ij K H1 a xs)/\R (E3 K a) H1)\/((∃ xs,fQ K H1 a xs)/\R (DS K a) H1))
theorem ux{elts:List Expr}{x1:Nat}{tp:Pos}{l:Expr}{tl:TA}{p pos:Pos}(hg:Gl X "enumerate")(hm:X.mg "enumerate" = none)(hl:PA X [l] tl)(hs:starEach [l] X.env=[(false,eval l X.env)]:=by rfl) :
  PI X (.Tuple elts x1 tp) (.Call (.Name "enumerate" p) [l] [] pos) (GL X.K tl):=by
 intro JS s σ H R I h
 refine Call_ (kl I hg hm PyProof.Rows.boot_enumerate (PyProof.Rows.callWith_type1 (cN (hl pos JS s σ H _ I h) λus s1 ⟨vs,H1,I1,r1,q1⟩=>?_) hs rfl))
 obtain⟨a,e,q⟩:=q1
 subst e
 cases r1 with
 | cons r rr =>
  cases rr
  cases (show _=Value.ref a from r)
  have fp:∀ b∈[s1.heap.objs.size+1,s1.heap.objs.size],kZ X JS H1 b:=λb hb=>by
   rcases List.mem_cons.mp hb with z | z
   ·subst z
    exact I1.sG (Nat.le_succ _) (I1.a_.fresh (Nat.le_succ _))
   ·have z':b=s1.heap.objs.size:=by simpa using z
    subst z'
    exact I1.sG (Nat.le_refl _) (I1.a_.fresh (Nat.le_refl _))
  rcases q with ⟨⟨xs,hq⟩,q⟩ | ⟨⟨xs,hq⟩,q⟩
  ·obtain⟨JU,rv,pl,hz⟩:=I1.list hq
   refine call_enumerate_list pl.isList λh' he hit Lq hk=>?_
   refine wpAny_pyIter_enum (s:={ s1 with heap:=h' }) he ?_
   exact⟨s1.heap.objs.size+1,[s1.heap.objs.size+1,s1.heap.objs.size],_,_,H1,rfl,I1.kept (t':=s1.toks) hk,wj a _ _ (Nat.succ_ne_self _),⟨⟨_,he⟩,hit⟩,fp,q⟩
  ·obtain⟨JU,rv,pl,hz⟩:=I1.tuple hq
   refine uA pl λh' he hit Lq hk=>?_
   refine wpAny_pyIter_enum (s:={ s1 with heap:=h' }) he ?_
   exact⟨s1.heap.objs.size+1,[s1.heap.objs.size+1,s1.heap.objs.size],_,_,H1,rfl,I1.kept (t':=s1.toks) hk,uY a _ _ (Nat.succ_ne_self _),⟨⟨_,he⟩,hit⟩,fp,q⟩
end
def IG(p:PV):M (List PV):=match bO p with
 | some xs=>M.ok (g9 xs)
 | none=>none
def ET:List PV->M (List PV)
 | [p]=>IG p
 | _=>none
section
variable{E:St->XK}{K:PySem.W.Frag}{fs:af->M (List PV)}
theorem zL{a:Addr}{J2:Hp}{xs:List PV}{vs:List V}(hq:∀ JV H',aV J2 JV->aV JV H'->fQ K H' a vs)(hr:aH J2 xs vs):kd (DS K a) J2 (g9 xs) where
 stop:=λi Hs H s1 s2 hi=>by
  unfold g9 at hi
  rw[List.length_mapIdx,hr.length] at hi
  exact⟨vs,hq Hs H s1 s2,hi⟩
 go:=λi Hs H s1 s2 hi=>by
  unfold g9 at hi
  rw[List.length_mapIdx] at hi
  obtain⟨v,e,_⟩:=hr.get (List.getElem?_eq_getElem hi)
  exact⟨vs,v,hq Hs H s1 s2,e⟩
 uJ:=λi Hs H x H2 s1 s2 hi y=>by
  unfold g9 at hi
  rw[List.length_mapIdx] at hi
  obtain⟨v,e,r⟩:=hr.get (List.getElem?_eq_getElem hi)
  obtain⟨pa,v',hn,rfl,rfl,y1⟩:=y
  have z1:=y1 vs (hq Hs H s1 s2)
  rw[e] at z1;cases z1
  have gr:=bD.new (o:=.tup [.int (i:Nat),v]) s2 hn
  refine⟨.tup [.int (i:Nat),xs[i]],_,?_,gr,.tup az (.cons (.int _) (.cons ((r.mono s1).mono gr.st) .nil))⟩
  unfold g9
  rw[List.getElem?_mapIdx,List.getElem?_eq_getElem hi]
  rfl
theorem rE:BQ E (GL K (tL E fs)) (mW ET fs):=by
 intro σ H R q
 refine eh (K:=KI R) KI.g q λB H₀ Hs H1 env ps v sr rp hp=>?_
 match ps,rp,hp with
 | [],_,hp=>exact hp.elim
 | _::_::_,_,hp=>exact hp.elim
 | [p],rp,hp =>
  obtain⟨w,rfl,Ly⟩:=rp.one
  cases Ly with
  | lst ha hx=>exact⟨_,rfl,.inl ⟨⟨_,ij.of (sr.gr.sub _ _ ha)⟩,hp _ Hs H1 (.refl sr.gr.sub) (p4 (λJV H' s1 s2=>ij.of (s2 _ _ (s1 _ _ ha))) hx)⟩⟩
  | jo ha hx=>exact⟨_,rfl,.inl ⟨⟨_,.inl (.inr ⟨_,sr.gr.sub _ _ ha⟩)⟩,hp _ Hs H1 (.refl sr.gr.sub) (p4 (λJV H' s1 s2=>.inl (.inr ⟨_,s2 _ _ (s1 _ _ ha)⟩)) hx)⟩⟩
  | tup ha hx=>exact⟨_,rfl,.inr ⟨⟨_,fQ.of (sr.gr.sub _ _ ha)⟩,hp _ Hs H1 (.refl sr.gr.sub) (zL (λJV H' s1 s2=>fQ.of (s2 _ _ (s1 _ _ ha))) hx)⟩⟩
  | _=>exact hp.elim
end
end L2
namespace L2
open PySem PySem.Spec PyProof.Rows
def Hb(E:St->XK)(f:af->M Out):TS:=λD σ H=>∃ B H₀ Hs env,SR B H₀ Hs H σ env/\aw (f env) (KS D B H₀) (XW (E σ) Hs H)
theorem wg{E:St->XK}{f:af->M PV}{g:af->PV->M Out}{D:Ends}{σ:St}{H:Hp}{R:VK}(h:Hb E (λenv=>(f env).bind (g env)) D σ H)
  (k:∀ B H₀ Hs H1 env p v,SR B H₀ Hs H1 σ env->Rep Hs p v->aw (g env p) (KS D B H₀) (λ_=>True)->R v H1):tE E f σ H R:=by
 obtain⟨B,H₀,Hs,env,sr,h⟩:=h
 refine⟨B,H₀,Hs,env,sr,(aw.bind h).imp (λp hp v JV H' g r=>?_) λe he=>he⟩
 exact k B H₀ JV H' env p v (sr.grow g) r (hp.imp (λ_ z=>z) λ_ _=>trivial)
section
variable{X:Cx}{E:St->XK}{e:Expr}{pos pos':Pos}{f:af->M PV}{i:Nat}{x:Str}
theorem vI(he:PE X e (tE E f))(hs:swapsWith e none pos.line X.env=pure false:=by rfl):kf X [.Expr e pos] (Hb E (eE f)):=by
 intro JS s σ H D I q
 exact tj (qS he hs) vk JS s σ H D I (wg q λB H₀ Hs H1 env p v sr rp hp=>hp σ Hs H1 sr)
end
theorem SR.unset{B H₀ Hs H:Hp}{σ:St}{env:af}{i:Nat}(r:SR B H₀ Hs H σ env):SR B H₀ Hs H (σ.set i none) (env.set i none):=by
 have key:∀ (j:Nat) (q:SV),(env.set i none)[j]?=some (some q)->env[j]?=some (some q)/\i≠j:=λj q e=>by
  rw[List.getElem?_set] at e
  by_cases z:i=j
  ·rw[if_pos z] at e
   split at e <;> cases e
  ·rw[if_neg z] at e;exact⟨e,z⟩
 have old:∀ j,i≠j->(σ.set i none)[j]?=σ[j]?:=λj z=>by rw[List.getElem?_set,if_neg z]
 refine⟨r.gr,by rw[List.length_set,List.length_set];exact r.len,λj q e=>?_,λj xs e=>?_,λj k xs ys a n e1 e2 e3=>?_,λj a C fs e=>?_,λj k a b C D fs gs e1 e2=>?_⟩
 ·obtain⟨e,z⟩:=key j _ e
  rw[old j z];exact r.sh j q e
 ·obtain⟨e,z⟩:=key j _ e
  rw[old j z];exact r.ow j xs e
 ·obtain⟨e1,z1⟩:=key j _ e1
  obtain⟨e2,z2⟩:=key k _ e2
  rw[old j z1] at e3
  rw[old k z2];exact r.sep j k xs ys a n e1 e2 e3
 ·obtain⟨e,z⟩:=key j _ e
  rw[old j z];exact r.bd j a C fs e
 ·exact r.one j k a b C D fs gs (key j _ e1).1 (key k _ e2).1
section
variable{X:Cx}{E:St->XK}{e:Expr}{pos pos':Pos}{f:af->M PV}{i:Nat}{x:Str}
end
abbrev Cx.oP(X:Cx)(pn:List (Addr×Obj)):Cx:={ X with pn:=pn }
abbrev Cx.hand(X:Cx)(ea:Addr):Cx:={ X with A:=X.A.mark (some (.ref ea)),calm:=false,xe:=λ_ _=>False }
section
variable{X:Cx}{JS LN:List (Addr×Obj)}{σ:St}{H:Hp}{s:Shared}{ea:Addr}
theorem Cx.Ok.oP(ok:X.Ok)(pn:List (Addr×Obj)):(X.oP pn).Ok:=⟨ok.mod,ok.kind,ok.glob,ok.blt,ok.above,ok.inj,ok.has,ok.CV,ok.hd,ok.frames,ok.DV,ok.Fs,ok.bs,ok.z7,ok.qV,ok.sZ,ok.kj,ok.Aw⟩
theorem Cx.Ok.oy{pn:List (Addr×Obj)}(ok:(X.oP pn).Ok):X.Ok:=⟨ok.mod,ok.kind,ok.glob,ok.blt,ok.above,ok.inj,ok.has,ok.CV,ok.hd,ok.frames,ok.DV,ok.Fs,ok.bs,ok.z7,ok.qV,ok.sZ,ok.kj,ok.Aw⟩
theorem Cx.Ok.hand(ok:X.Ok)(ea:Addr):(X.hand ea).Ok:=⟨ok.mod,ok.kind,ok.glob,ok.blt,ok.above,ok.inj,ok.has,ok.CV,(λz=>nomatch z),ok.frames,ok.DV,ok.Fs,ok.bs,ok.z7,ok.qV,ok.sZ,ok.kj,ok.Aw⟩
theorem Inv.oP(I:Inv X JS σ H s):Inv (X.oP (X.pn++JS)) [] σ H s:=⟨I.ok.oP _,I.os,I.bare,I.base,I.loc,I.cell,I.free,I.fH,(λp hp=>I.pin p (by rw[List.append_nil] at hp;exact hp)),I.a_,I.len⟩
theorem Inv.oy(I:Inv (X.oP (X.pn++JS)) LN σ H s):Inv X JS σ H s:=⟨I.ok.oy,I.os,I.bare,I.base,I.loc,I.cell,I.free,I.fH,(λp hp=>I.pin p (List.mem_append_left _ hp)),I.a_,I.len⟩
theorem Inv.hand(I:Inv X JS σ H s)(ea:Addr):Inv (X.hand ea) JS σ H s:=⟨I.ok.hand ea,I.os,I.bare,I.base,I.loc,I.cell,I.free,I.fH,I.pin,I.a_,I.len⟩
theorem Inv.hX(I:Inv (X.hand ea) JS σ H s)(ok:X.Ok):Inv X JS σ H s:=⟨ok,I.os,I.bare,I.base,I.loc,I.cell,I.free,I.fH,I.pin,I.a_,I.len⟩
theorem Inv.xP{Hc:Hp}{T C:Addr}{dd:Option Addr}{fl:Value}(I:Inv X JS σ (ll Hc ea T C dd fl) s)(h1:Hc ea=some (gP C dd ea))(h2:Hc T=none)(h3:T≠ea):Inv X JS σ Hc s:=by
 have no:∀ b,ll Hc ea T C dd fl b=none->Hc b=none:=λb e=>by
  by_cases z:b=ea
  ·rw[z,ng] at e;cases e
  ·by_cases z2:b=T
   ·rw[z2];exact h2
   ·rw[iC z z2] at e;exact e
 have so:∀ b o,ll Hc ea T C dd fl b=some o->(∀ φ,o≠.ext φ)->Hc b=some o:=λb o e n=>by
  by_cases z:b=ea
  ·rw[z,ng] at e;cases e;exact absurd rfl (n _)
  ·by_cases z2:b=T
   ·rw[z2,oh h3] at e;cases e;exact absurd rfl (n _)
   ·rw[iC z z2] at e;exact e
 refine⟨I.ok,I.os,I.bare,⟨I.base.keep,I.base.slot,λb o e n hx=>no b (I.base.free b o e n hx),I.base.there,λb xs e=>so b _ (I.base.m_ b xs e) (λ_ z=>nomatch z),λb o u e=>so b _ (I.base.j2 b o u e) (λ_ z=>nomatch z),λb ps e=>?_⟩,I.loc,I.cell,no _ I.free,λx c e=>no _ (I.fH x c e),λp hp=>?_,λb o e=>?_,I.len⟩
 ·obtain⟨more,q⟩:=I.base.mX b ps e
  exact⟨more,so b _ q λ_ z=>nomatch z⟩
 ·obtain⟨e,n,r⟩:=I.pin p hp
  exact⟨e,no _ n,r⟩
 ·by_cases z:b=ea
  ·subst z
   rw[h1] at e;cases e
   obtain⟨vs,_,_,hx,_⟩:=I.w9 h3
   exact BY hx
  ·by_cases z2:b=T
   ·rw[z2,h2] at e;cases e
   ·refine(I.a_ b o (by rw[iC z z2];exact e)).kP (λ_ _ _ q=>q) (λc q=>so c _ q λ_ z=>nomatch z) λc xs q=>so c _ q λ_ z=>nomatch z
theorem Inv.gone{A:Around}{E:Value->Shared->Prop}{i:Nat}{n:Str}{pos:Pos}{Q:Unit->Shared->Prop}(I:Inv X JS σ H s)(hN:X.N.Nodup)(hi:X.N[i]?=some n)(hx:X.env.scope.names.lookup n=some .local)
  (h:∀ s',Inv X JS (σ.set i none) H s'->Q () s'):wpAny (model X.prog X.w) A (do bindName X.env n .none;unbindBehindTheSuite X.env n pos) Q E s:=by
 obtain⟨m,hn,hl⟩:=id I.loc
 have y_:=I.y_
 refine wpAny_nameGoes_keeps hx hn (by rw[I.ok.kind];rfl) λh' v Nq hs=>?_
 obtain⟨oL,_,_,hoL,_⟩:=id hn
 have tracked:lh X.prog X.w H h':=λb ob e=>by
  refine(I.a_ b ob e).kP (λc w' hc q=>(hs.2 c ?_).trans q) (λ_ q=>q) λ_ _ q=>q
  rintro rfl
  rcases hc with z | hc
  ·rw[← z,I.free] at e;cases e
  ·rw[I.free] at hc;cases hc
 refine h _ ⟨I.ok,I.os,I.bare,⟨λb o e n hb hx=>?_,λb o e n hb hx=>?_,I.base.free,λb o e hx=>?_,I.base.m_,I.base.j2,I.base.mX⟩,⟨_,Nq,λj y v' e1 e2 e3=>?_⟩,λy c e=>?_,I.free,I.fH,λp hp=>?_,tracked,by simpa using I.len⟩
 ·exact(hs.2 b (Nat.ne_of_lt (Nat.lt_of_lt_of_le (Heap.lt_size e) I.ok.above))).trans (I.base.keep b o e n hb hx)
 ·obtain⟨sl,e1⟩:=I.base.slot b o e n hb hx
  exact⟨sl,(hs.2 b (Nat.ne_of_lt (Nat.lt_of_lt_of_le (Heap.lt_size e) I.ok.above))).trans e1⟩
 ·obtain⟨o',e1⟩:=I.base.there b o e hx
  exact⟨o',(hs.2 b (Nat.ne_of_lt (Nat.lt_of_lt_of_le (Heap.lt_size e) I.ok.above))).trans e1⟩
 ·have hj:i≠j:=λz=>by
   subst z
   rw[List.getElem?_set,if_pos rfl] at e2
   split at e2 <;> cases e2
  rw[List.getElem?_set_ne hj] at e2
  obtain⟨u',r',q⟩:=hl j y v' e1 e2 e3
  refine⟨u',r',?_⟩
  rcases q with ⟨k,e⟩ | ⟨k,c,e,z⟩
  ·refine .inl ⟨k,?_⟩
   have:y≠n:=λe=>hj (ot hN hi (e▸e1))
   simp[this,e]
  ·exact .inr ⟨k,c,e,z.sameBut hs (y_ y c e)⟩
 ·obtain⟨w',z⟩:=I.cell y c e
  exact⟨w',z.sameBut hs (y_ y c e)⟩
 ·obtain⟨e,n,ne,nf,d⟩:=I.pin p hp
  exact⟨(hs.2 p.1 ne).trans e,n,ne,nf,d⟩
end
abbrev Hd:=(Addr->Option Bool)×Option Nat×(af->M Out)
def yH(i:Nat):Out->Out
 | .nx e=>.nx (e.set i none)
 | .bk e=>.bk (e.set i none)
 | .ct e=>.ct (e.set i none)
 | .rt p=>.rt p
def nM(o:Option Nat)(h:af->M Out)(x:EX)(env:af):M Out:=match o with
 | none=>Am (h env)
 | some i=>(Am (h (env.set i (some (.sh (.exc x.1 x.2)))))).bind λout=>M.ok (yH i out)
def rQ(b:Option Bool)(x y:M Out):M Out:=match b with
 | some true=>x
 | some false=>y
 | none=>none
def iq:List Hd->EX->af->M Out
 | [],_,_=>none
 | (t,o,h)::r,x,env=>rQ (t x.1) (nM o h x env) (iq r x env)
def qJ(r:M Out)(k:EX->M Out):M Out:=match r with
 | some (.error x)=>k x
 | r=>r
def xS(f:af->M Out)(hs:List Hd):af->M Out:=λenv=>qJ (f env) λx=>iq hs x env
inductive CU (X:Cx) (E:XK):List ExceptHandler->List Hd->Prop where
 | nil:CU X E [] []
 | zh {x:Str} {np pos:Pos} {b₀:Stmt} {Lv:List Stmt} {rest:List ExceptHandler} {t:Addr->Option Bool} {h:af->M Out} {hs:List Hd} {D:Addr} (hg:Gl X x) (hm:X.mg x=some (.ref D)) (hd:(x==("__debug__" : Str))=false)
   (ht:∀ C b,t C=some b->PySem.W.exmOne X.K (.ref C) (.ref D)=some b) (hb:∀ ea,kf (X.hand ea) (b₀::Lv) (tS E h)) (r:CU X E rest hs):CU X E (.ExceptHandler (some (.Name x np)) none (b₀::Lv) pos::rest) ((t,none,h)::hs)
 | FZ {x n:Str} {i:Nat} {np pos:Pos} {b₀:Stmt} {Lv:List Stmt} {rest:List ExceptHandler} {t:Addr->Option Bool} {h:af->M Out} {hs:List Hd} {D:Addr} (hg:Gl X x) (hm:X.mg x=some (.ref D)) (hd:(x==("__debug__" : Str))=false)
   (hN:X.N.Nodup) (hi:X.N[i]?=some n) (hx:X.env.scope.names.lookup n=some .local)
   (ht:∀ C b,t C=some b->PySem.W.exmOne X.K (.ref C) (.ref D)=some b) (hb:∀ ea,kf (X.hand ea) (b₀::Lv) (tS E h)) (r:CU X E rest hs):CU X E (.ExceptHandler (some (.Name x np)) (some n) (b₀::Lv) pos::rest) ((t,some i,h)::hs)
section
variable{X:Cx}{JS:List (Addr×Obj)}{σ:St}{H Hc B H₀ Hs:Hp}{s:Shared}{ea T C:Addr}{dd:Option Addr}{E:XK}{env:af}{fo:Option (List (Str×PV))}{D:Ends}{Z:EX->Prop}{F:Value->Shared->Prop}
theorem SP.hX{D:Ends}{f:Flow}{s':Shared}(h:SP (X.hand ea) JS D f s')(ok:X.Ok):SP X JS D f s':=by
 cases f with
 | next=>obtain⟨σ',H',I,q⟩:=h;exact⟨σ',H',I.hX ok,q⟩
 | brk=>obtain⟨σ',H',I,q⟩:=h;exact⟨σ',H',I.hX ok,q⟩
 | cont=>obtain⟨σ',H',I,q⟩:=h;exact⟨σ',H',I.hX ok,q⟩
 | ret u=>obtain⟨v,σ',H',I,r,q⟩:=h;exact⟨v,σ',H',I.hX ok,r,q⟩
theorem aw.err{α:Type}{r:M α}{Q:α->Prop}{E':EX->Prop}(h:aw r Q (λ_=>False)):aw r Q E':=h.imp (λ_ z=>z) λ_ z=>z.elim
def Ends.gone(D:Ends)(i:Nat):Ends:=⟨fun σ H=>D.nx (σ.set i none) H,D.rt,fun σ H=>D.bk (σ.set i none) H,fun σ H=>D.ct (σ.set i none) H⟩
theorem KS.gone{i:Nat}{o:Out}(h:KS D B H₀ (yH i o)):KS (D.gone i) B H₀ o:=by
 cases o with
 | nx e=>exact fun σ Hs H sr=>h _ Hs H sr.unset
 | bk e=>exact fun σ Hs H sr=>h _ Hs H sr.unset
 | ct e=>exact fun σ Hs H sr=>h _ Hs H sr.unset
 | rt p=>exact h
theorem yp{M:Model}{o:Obj}(hx:s.heap.get? ea=some o):PySem.W.Looks M s.heap (typeOf (.ref ea)) o.cls:=by
 intro A Q E s' k q
 exact zt (k _ _ hx) q
theorem CU.run{Np:List ExceptHandler}{hd:List Hd}(hh:CU X E Np hd):∀ {s:Shared},Inv X JS σ (ll Hc ea T C dd .none) s->Hc ea=some (gP C dd ea)->Hc T=none->T≠ea->SR B H₀ Hs Hc σ env->Rep Hs (.exc C fo) (.ref ea) ->
  aw (iq hd (C,fo) env) (KS D B H₀) Z->wpAny (model X.prog X.w) X.A (handleBy (.ref ea) X.env Np) (SP X JS D) F s:=by
 induction hh with
 | nil=>intro s I h1 h2 h3 sr rp q;exact q.elim
 | @zh x np pos b₀ Lv rest t h hs Dc hg hm hd ht hb r ih =>
  intro s I h1 h2 h3 sr rp q
  obtain⟨vs,oT,ts,hx,_⟩:=I.w9 h3
  refine wpAny_handleBy_cons (codeAny_handlers_test (hU (I.hand ea) hg hm ?_ hd)) (λq=>nomatch q)
  have LT:=yp (M:=model X.prog X.w) hx
  cases e:t C with
  | none=>simp only[iq,e,rQ] at q;exact q.elim
  | some b =>
   refine(PySem.W.exm_one I.ir LT (ht C b e)).here ?_
   cases b with
   | false =>
    simp only[iq,e,rQ] at q
    exact ih I h1 h2 h3 sr rp q
   | true =>
    simp only[iq,e,rQ,nM] at q
    refine codeAny_handlers_suite ((I.hand ea).nv (fr:=none) h3 λh' I2=>?_)
    refine wpAny_mono (hb ea JS _ σ Hc D (I2.xP h1 h2 h3) ⟨B,H₀,Hs,env,sr,(aw.Am q).err⟩) (λf s' z=>z.hX I.ok) λ_ _ z=>z.elim
 | @FZ x n i np pos b₀ Lv rest t h hs Dc hg hm hd hN hi hxn ht hb r ih =>
  intro s I h1 h2 h3 sr rp q
  obtain⟨vs,oT,ts,hx,_⟩:=I.w9 h3
  refine wpAny_handleBy_cons (codeAny_handlers_test (hU (I.hand ea) hg hm ?_ hd)) (λq=>nomatch q)
  have LT:=yp (M:=model X.prog X.w) hx
  cases e:t C with
  | none=>simp only[iq,e,rQ] at q;exact q.elim
  | some b =>
   refine(PySem.W.exm_one I.ir LT (ht C b e)).here ?_
   cases b with
   | false =>
    simp only[iq,e,rQ] at q
    exact ih I h1 h2 h3 sr rp q
   | true =>
    simp only[iq,e,rQ,nM] at q
    refine codeAny_handlers_suite_as ((I.hand ea).nv (fr:=none) h3 λh' I2=>?_)
    refine fb (X:=X.hand ea) (v:=.ref ea) (i:=i) (I2.xP h1 h2 h3) hN hi (.inl hxn) rfl (λs3 I3=>?_) (.inr hxn)
    refine wpAny_mono (hb ea JS _ _ Hc (D.gone i) I3 ⟨B,H₀,Hs,_,sr.set rp,(aw.Am (E:=Z) ?_).err⟩) (λf s' z=>?_) λ_ _ z=>z.elim
    ·exact(aw.bind q).imp (λo z=>KS.gone z) λ_ z=>z
    ·cases f with
     | next=>obtain⟨σ',H',I4,d⟩:=z;exact(I4.hX I.ok).gone hN hi hxn λs5 I5=>⟨_,H',I5,d⟩
     | brk=>obtain⟨σ',H',I4,d⟩:=z;exact(I4.hX I.ok).gone hN hi hxn λs5 I5=>⟨_,H',I5,d⟩
     | cont=>obtain⟨σ',H',I4,d⟩:=z;exact(I4.hX I.ok).gone hN hi hxn λs5 I5=>⟨_,H',I5,d⟩
     | ret u=>obtain⟨v,σ',H',I4,rv,d⟩:=z;exact(I4.hX I.ok).gone hN hi hxn λs5 I5=>⟨v,_,H',I5,rv,d⟩
theorem z6{body:List Stmt}{h₀:ExceptHandler}{Np:List ExceptHandler}{pos:Pos}{f:af->M Out}{hd:List Hd}(Kw:X.stack=X.env::X.outer)(hf:X.env.frame=some X.env.locals)
  (hb:∀ (pn:List (Addr×Obj)) (E2:St->XK),fg ((X.oP pn).out E2) E2->kf ((X.oP pn).out E2) body (Hb E2 f)) (hh:CU X E (h₀::Np) hd):PS X (.Try body (h₀::Np) [] [] pos) (tS E (xS f hd)):=by
 intro JS s σ H D I q
 obtain⟨B,H₀,Hs,env,sr,q⟩:=q
 refine wpAny_Try_except ?_
 let E2:St->XK:=fun σ v _ Hc=>∃ Hs C fo ea,v=.ref ea/\SR B H₀ Hs Hc σ env/\Rep Hs (.exc C fo) (.ref ea)/\aw (iq hd (C,fo) env) (KS D B H₀) (XW E B H₀)
 have q1:aw (f env) (KS D B H₀) (XW (E2 σ) Hs H):=by
  unfold xS at q
  cases e:f env with
  | none=>rw[e] at q;exact q
  | some r =>
   rw[e] at q
   cases r with
   | ok o=>exact q
   | error x=>exact λea JV H' g rp=>⟨JV,x.1,x.2,ea,rfl,sr.grow g,rp,q⟩
 refine wpAny_mono (hb (X.pn++JS) E2 (yq Kw hf) [] s σ H D (I.oP.nO _) ⟨B,H₀,Hs,env,sr,q1⟩) (λfl s1 hq=>?_) (λe s1 z=>?_)
 ·cases fl with
  | next=>obtain⟨σ',H',I',d⟩:=hq;exact wpAny_execs_nil ⟨σ',H',I'.dO.oy,d⟩
  | brk=>obtain⟨σ',H',I',d⟩:=hq;exact⟨σ',H',I'.dO.oy,d⟩
  | cont=>obtain⟨σ',H',I',d⟩:=hq;exact⟨σ',H',I'.dO.oy,d⟩
  | ret u=>obtain⟨v,σ',H',I',r,d⟩:=hq;exact⟨v,σ',H',I'.dO.oy,r,d⟩
 ·refine Zx.note (X:=X.oP (X.pn++JS)) z Kw hf λs' ea C dd LN σ' Hc T he I2 h1 h2 h3 h4=>?_
  subst he
  refine I2.nv (fr:=none) h3 λh' I3=>?_
  obtain⟨JV,C',fo,ea',ee,LC,rp,hp⟩:=h4
  cases ee
  have I4:=I3.xP h1 h2 h3
  have eC:C'=C:=by
   obtain⟨vs,hx⟩:=I4.oX h1
   cases rp with
   | uW hr =>
    obtain⟨vs2,Lr⟩:=I4.oX (LC.gr.sub _ _ hr)
    rw[hx] at Lr;injection Lr with Lr;injection Lr with Lr;injection Lr with Lr;exact Lr.symm
   | uH hr _ _ =>
    obtain⟨vs2,Lr⟩:=I4.oX (LC.gr.sub _ _ hr)
    rw[hx] at Lr;injection Lr with Lr;injection Lr with Lr;injection Lr with Lr;exact Lr.symm
  subst eC
  exact hh.run I3.oy h1 h2 h3 LC rp hp
end
end L2
namespace L2
open PySem PySem.Spec PyProof.Rows
def jb(ys ns:List Addr)(C:Addr):Option Bool:=if ys.contains C=true then some true else if ns.contains C=true then some false else none
theorem n9{ys ns:List Addr}{C:Addr}{b:Bool}(h:jb ys ns C=some b):(b=true/\C∈ys)\/(b=false/\C∈ns):=by
 unfold jb at h
 by_cases h1:ys.contains C=true
 ·rw[if_pos h1] at h;cases h;exact .inl ⟨rfl,by simpa using h1⟩
 ·rw[if_neg h1] at h
  by_cases h2:ns.contains C=true
  ·rw[if_pos h2] at h;cases h;exact .inr ⟨rfl,by simpa using h2⟩
  ·rw[if_neg h2] at h;cases h
def xJ(f:Addr->Option Bool)(ys ns:List Addr):Bool:=ys.all (λC=>f C==some true)&&ns.all λC=>f C==some false
theorem uC{f:Addr->Option Bool}{ys ns:List Addr}(h:xJ f ys ns=true){C:Addr}{b:Bool}(e:jb ys ns C=some b):f C=some b:=by
 unfold xJ at h
 rw[Bool.and_eq_true,List.all_eq_true,List.all_eq_true] at h
 rcases n9 e with ⟨rfl,m⟩ | ⟨rfl,m⟩
 ·exact eq_of_beq (h.1 C m)
 ·exact eq_of_beq (h.2 C m)
structure Hf (K:PySem.W.Frag) (mg:Str->Option Value) (x:Str) (D:Addr) (ys ns:List Addr):Prop where
 mg:mg x=some (.ref D)
 ok:∀ C b,jb ys ns C=some b->PySem.W.exmOne K (.ref C) (.ref D)=some b
theorem Hf.of{K:PySem.W.Frag}{mg:Str->Option Value}{x:Str}{D:Addr}{ys ns:List Addr}(h1:mg x=some (.ref D))(h2:xJ (λC=>PySem.W.exmOne K (.ref C) (.ref D)) ys ns=true):Hf K mg x D ys ns:=⟨h1,λ_ _ e=>uC h2 e⟩
theorem mj{α:Type}{p:α->Prop}:∀ x∈([]:List α),p x:=λ_ h=>nomatch h
theorem xI{α:Type}{p:α->Prop}{a:α}{l:List α}(h:p a)(r:∀ x∈l,p x):∀ x∈a::l,p x:=λx m=>by
 rcases List.mem_cons.mp m with rfl | m
 ·exact h
 ·exact r x m
def zQ:List String:=["NoneType", "bool", "int", "str", "tuple", "list", "dict"]
theorem AG{p:PV}{a:String}(h:Ct p=some a):a∈zQ:=by
 cases p <;> first | (cases h;decide) | cases h
structure EG (K:PySem.W.Frag) (mg:Str->Option Value) (x:Str) (D:Addr) (ys ns yo no:List Addr):Prop where
 mg:mg x=some (.ref D)
 ty:∀ p a,Ct p=some a->PySem.W.kitOne K (.type a) (.ref D)=some false
 ob:∀ C b,jb yo no C=some b->nu K C/\PySem.W.kitOne K (.ref C) (.ref D)=some b
 oe:∀ C b,jb ys ns C=some b->fS K C/\PySem.W.kitOne K (.ref C) (.ref D)=some b
theorem EG.of{K:PySem.W.Frag}{mg:Str->Option Value}{x:Str}{D:Addr}{ys ns yo no:List Addr}(h1:mg x=some (.ref D))(h2:(zQ.all λa=>PySem.W.kitOne K (.type a) (.ref D)==some false)=true)
  (h3:xJ (λC=>PySem.W.kitOne K (.ref C) (.ref D)) yo no=true) (h4:xJ (λC=>PySem.W.kitOne K (.ref C) (.ref D)) ys ns=true) (o1:∀ C∈yo,nu K C) (o2:∀ C∈no,nu K C) (e1:∀ C∈ys,fS K C) (e2:∀ C∈ns,fS K C):EG K mg x D ys ns yo no where
 mg:=h1
 ty:=λp a h=>by
  rw[List.all_eq_true] at h2
  exact eq_of_beq (h2 a (AG h))
 ob:=λC b h=>⟨by rcases n9 h with ⟨_,m⟩ | ⟨_,m⟩ <;> first | exact o1 C m | exact o2 C m,uC h3 h⟩
 oe:=λC b h=>⟨by rcases n9 h with ⟨_,m⟩ | ⟨_,m⟩ <;> first | exact e1 C m | exact e2 C m,uC h4 h⟩
section
variable{X:Cx}{E:St->XK}{e:Expr}{pos p px pt:Pos}{f:af->M PV}{x:Str}{D:Addr}{ys ns yo no:List Addr}
theorem EG.is(c:EG X.K X.mg x D ys ns yo no)(hg:Gl X "isinstance")(hm:X.mg "isinstance" = none)(hx:Gl X x)(he:PE X e (tE E f))(hd:(x==("__debug__" : Str))=false:=by decide)
  (h1:starEach [e,.Name x pt] X.env=(false,eval e X.env)::starEach [.Name x pt] X.env:=by rfl) (h2:starEach [.Name x pt] X.env=(false,eval (.Name x pt) X.env)::starEach [] X.env:=by rfl) (Kd:(backTo pos (starEach [.Name x pt] X.env)).any (·.1)=false:=by rfl) :
  PE X (.Call (.Name "isinstance" p) [e,.Name x pt] [] pos) (tE E (o_ (λ_=>false) (jb yo no) (jb ys ns) f)) :=
 Ej hg hm (vg hx c.mg rfl hd) c.ty c.ob c.oe he h1 h2 Kd
end
end L2
namespace L2
open PySem PySem.Spec PyProof.Rows
section
variable{X:Cx}{E:St->XK}{e o:Expr}{pos apos J6:Pos}{f g:af->M PV}
def CQ:List V->Hp->VK->Prop:=λxs H Q=>∃ b,xs=[.bl b]/\Q (.int (if b then 1 else 0)) H
theorem wN:cJ X (.type "int") CQ:=by
 intro JS s σ H xs us Q I r h
 obtain⟨b,rfl,q⟩:=h
 obtain⟨u,rfl,rx⟩:=vals1 r
 cases rx
 exact call_int_bool ⟨.int _,H,I.kept (t':=s.toks+1) λ_ _ z=>z,⟨_,rfl⟩,q⟩
def FT:PV->M PV
 | .bl b=>M.ok (.int (if b then 1 else 0))
 | _=>none
def p8:List PV->M PV
 | [p]=>FT p
 | _=>none
theorem BN:jV E CQ p8:=by
 intro σ Hs H ps vs Q s rp h
 match ps,rp,h with
 | [],_,h=>exact h.elim
 | _::_::_,_,h=>exact h.elim
 | [p],rp,h =>
  obtain⟨w,rfl,Ly⟩:=rp.one
  cases Ly with
  | bl b=>exact⟨b,rfl,cI.flat h s (.int _)⟩
  | _=>exact h.elim
end
end L2
namespace L2
open PySem PySem.Spec PyProof.Rows _root_.HT
section
variable{prog:Program}{w:World}{A:Around}{E:Value->Shared->Prop}{s:Shared}
theorem ky{t sl:Addr}{items:Array Value}{vl vu:Value}{lo hi:Option Int}{Q:Value->Shared->Prop}(ht:IsTup s.heap t items)(hs:s.heap.IsSliceOf sl vl vu .none)(pl:IsPart vl lo)(pu:IsPart vu hi)
  (hw:cM items.size 0 lo=0/\cM items.size items.size hi=items.size) (h:Q (.ref t) s):wpAny (model prog w) A (getItem (.ref t) (.ref sl)) Q E s:=by
 obtain⟨os,MU,hcs,Nj⟩:=id hs
 have hTs:s.TypeIs (.ref sl) "slice" := ⟨os,MU,hcs⟩
 unfold getItem
 try with_reducible refine wpAny_holding ?_
 first | refine wpAny_bind (wpAny_pure ?_) | skip
 refine wpAny_bind (wpAny_sequenceKey ht.typeIs (by decide) ?_)
 refine wpAny_bind (wpAny_callSpecial?_slot (name:=Str.ofString "__getitem__") ht.typeIs PyProof.Rows.slot_tuple_getitem
  (wpAny_call_entry PyProof.Rows.slot_tuple_getitem ht.typeIs entry_tuple_getitem ?_ (args_tuple_getitem _ _)))
 show wpAny _ _ (Builtin.Tuple.tupleItemsOf (.ref t) >>= _) _ _ s
 refine wpAny_bind (tupleItemsOf_ ht ?_)
 refine wpAny_bind (wpAny_typeOf hTs ?_)
 rw[if_pos (by decide)]
 refine wpAny_bind (iu hs pl pu ?_)
 have hyes:(((cM items.size 0 lo:Nat):Int)==0&&(1:Int)==1&&(cM items.size items.size hi-cM items.size 0 lo)==items.size)=true:=by
  rw[hw.1,hw.2];simp
 show wpAny _ _ (if (((cM items.size 0 lo:Nat):Int)==0&&(1:Int)==1&&(cM items.size items.size hi-cM items.size 0 lo)==items.size)=true then _ else _) _ _ s
 rw[if_pos hyes]
 unfold Builtin.Tuple.tupleIsExact
 refine wpAny_bind (wpAny_bind (wpAny_typeOf ht.typeIs (wpAny_pure ?_)))
 rw[if_pos (show ((Value.type "tuple" == Value.type "tuple")=true) from beq_self_eq_true _)]
 refine wpAny_bind (wpAny_rule ?_)
 first
  | exact wpAny_bind (wpAny_pure (wpAny_pure ⟨_,rfl,wpAny_pure h⟩))
  | exact wpAny_bind (wpAny_pure ⟨_,rfl,wpAny_pure h⟩)
  | exact wpAny_pure ⟨_,rfl,wpAny_pure h⟩
end
section
variable{X:Cx}{E:St->XK}{e:Expr}{lo hi:Option Expr}{pos p2:Pos}{f:af->M PV}{gl gh:af->M (Option Int)}
def HB(K:PySem.W.Frag):V->Option Int->Option Int->Hp->VK->Prop:=λx lo hi H Q=>∃ a xs,x=.ref a/\fQ K H a xs/\(cM xs.length 0 lo=0/\cM xs.length xs.length hi=xs.length)/\Q (.ref a) H
theorem AF:Ax X (HB X.K):=by
 intro JS s σ H x v vl vu lo hi sl Q I rx hs pl pu h
 obtain⟨a,xs,rfl,hx,hw,q⟩:=h
 cases rx
 obtain⟨JU,r,ht,hz⟩:=I.tuple hx
 have hlen:JU.toArray.size=xs.length:=by rw[List.size_toArray];exact r.length.symm
 refine⟨"tuple", _,PyProof.Rows.slot_tuple_getitem.lookup,ht.typeIs,?_⟩
 exact ky ht hs pl pu (by rw[hlen];exact hw) ⟨.ref a,H,I,rfl,q⟩
def Fm(p:PV)(lo hi:Option Int):M PV:=match p with
 | .tup xs=>M.ok (.tup (mr xs lo hi))
 | .lst xs=>M.ok (.lst (mr xs lo hi))
 | .jo xs=>M.ok (.lst (mr xs lo hi))
 | _=>none
def gz(f:af->M PV)(lo hi:af->M (Option Int)):af->M PV:=λenv=>(f env).bind λp=>(lo env).bind λl=>(hi env).bind λh=>Fm p l h
theorem jO(he:PE X e (tE E f))(hl:PO X lo (GX E gl))(hh:PO X hi (GX E gh)):PE X (.Subscript e (.Slice lo hi none p2) pos) (tE E (gz f gl gh)):=by
 refine(zO (Ax.or Em (Ax.or AF BZ)) he hl hh).imp fun σ H Q q=>bT (K:=jP Q) jP.g q λB H₀ Hs H1 env p v sr rp hp=>?_
 refine⟨B,H₀,Hs,env,sr,(aw.bind hp).imp (λl hl J5 H2 g2=>?_) λe he=>he⟩
 have KR:=sr.grow g2
 refine⟨B,H₀,J5,env,KR,(aw.bind hl).imp (λh hh Lz H3 g3=>?_) λe he=>he.grow g2⟩
 have LW:=KR.grow g3
 have hz:aw (Fm p l h) (cI Lz H3 Q) (λ_=>True):=hh.imp (λz hz w Hs4 H4 g4 r=>hz w Hs4 H4 ((g2.trans g3).trans g4) r) λ_ _=>trivial
 have rp3:=(rp.mono g2.st).mono g3.st
 cases rp3 with
 | @tup a xs vs ha hx =>
  by_cases hn:cM xs.length 0 l=0/\cM xs.length xs.length h=xs.length
  ·refine .inr (.inl ⟨_,_,rfl,fQ.of (LW.gr.sub _ _ ha),by rw[← hx.length];exact hn,?_⟩)
   have e:mr xs l h=xs:=by
    unfold mr;rw[hn.1,hn.2,List.drop_zero,Nat.sub_zero,List.take_length]
   have LI:cI Lz H3 Q (.tup xs):=by
    have z:cI Lz H3 Q (.tup (mr xs l h)):=hz
    rw[e] at z;exact z
   exact cI.flat LI LW.gr.sub (.tup ha hx)
  ·exact .inl ⟨_,_,rfl,fQ.of (LW.gr.sub _ _ ha),by rw[← hx.length];exact hn,cI.tup hz LW.gr.sub (hx.cut l h)⟩
 | lst ha hx=>exact .inr (.inr ⟨_,_,rfl,ij.of (LW.gr.sub _ _ ha),cI.lst hz LW.gr.sub (hx.cut l h)⟩)
 | jo ha hx=>exact .inr (.inr ⟨_,_,rfl,.inl (.inr ⟨_,LW.gr.sub _ _ ha⟩),cI.lst hz LW.gr.sub (hx.cut l h)⟩)
 | _=>exact hz.elim
end
end L2
namespace L2
open PySem PySem.Spec PyProof.Rows
end L2
namespace L2
open PySem PySem.Spec PyProof.Rows
section
variable{X:Cx}{E:St->XK}
def zo:PV->PV->M PV
 | .bl a,.bl b=>M.ok (.bl (a==b))
 | .bZ,.bl _=>M.ok (.bl false)
 | _,_=>none
def gR:PV->PV->M PV
 | .bl a,.bl b=>M.ok (.bl (!(a==b)))
 | .bZ,.bl _=>M.ok (.bl true)
 | _,_=>none
def AX(o:Bool->Bool):R2:=λx y H Q=>∃ b,y=.bl b/\((∃ a,x=.bl a/\Q (.bl (o (a==b))) H)\/(x=.bZ/\Q (.bl (o false)) H))
theorem vK:gp X (compareOp .Is) (AX id):=by
 intro JS s σ H x y v u Q I rx ry h
 obtain⟨b,rfl,h⟩:=h
 cases ry
 rcases h with ⟨a,rfl,q⟩ | ⟨rfl,q⟩
 ·cases rx
  cases a <;> cases b <;> exact wpAny_bind (wpAny_pure (wpAny_pure (gE I q rfl)))
 ·cases rx
  cases b <;> exact wpAny_bind (wpAny_pure (wpAny_pure (gE I q rfl)))
theorem nq:gp X (compareOp .IsNot) (AX not):=by
 intro JS s σ H x y v u Q I rx ry h
 obtain⟨b,rfl,h⟩:=h
 cases ry
 rcases h with ⟨a,rfl,q⟩ | ⟨rfl,q⟩
 ·cases rx
  cases a <;> cases b <;> exact wpAny_bind (wpAny_pure (wpAny_pure (gE I q rfl)))
 ·cases rx
  cases b <;> exact wpAny_bind (wpAny_pure (wpAny_pure (gE I q rfl)))
theorem vo:j6 E (AX id) zo:=by
 intro σ Hs H p q v u Q s rp rq h
 cases rq with
 | bl b =>
  cases rp with
  | bl a=>exact⟨b,rfl,.inl ⟨a,rfl,cI.flat h s (.bl _)⟩⟩
  | bZ=>exact⟨b,rfl,.inr ⟨rfl,cI.flat h s (.bl _)⟩⟩
  | _=>exact h.elim
 | _=>cases rp <;> exact h.elim
theorem nZ:j6 E (AX not) gR:=by
 intro σ Hs H p q v u Q s rp rq h
 cases rq with
 | bl b =>
  cases rp with
  | bl a=>exact⟨b,rfl,.inl ⟨a,rfl,cI.flat h s (.bl _)⟩⟩
  | bZ=>exact⟨b,rfl,.inr ⟨rfl,cI.flat h s (.bl _)⟩⟩
  | _=>exact h.elim
 | _=>cases rp <;> exact h.elim
end
section
variable{X:Cx}{E:St->XK}{o e:Expr}{es:List Expr}{pos apos:Pos}{m:Str}{k:Nat}{g:af->M PV}{fs:af->M (List PV)}{L:List (Addr×(List PV->M PV))}{P:Program}{w:World}{K:PySem.W.Frag}{mg:Str->Option Value}{base:Heap}
structure uN (P:Program) (w:World) (K:PySem.W.Frag) (mg:Str->Option Value) (base:Heap) (m:Str) (k:Nat) (L:List (Addr×(List PV->M PV))):Prop where
 ex:∀ C sem,L.lookup C=some sem->∃ n f fd ps j,n<=k/\ko K C/\Meth K C m f/\Binds K fd ps []/\aF P w K mg base (bG P w) n f fd ps (dh j sem)/\∀ ps,sem ps≠none->ps.length=j
theorem uN.nil:uN P w K mg base m k []:=⟨λC sem h=>by cases h⟩
theorem uN.cons{C:Addr}{n j:Nat}{sem:List PV->M PV}(F:mD P w K mg base C n m j sem)(hn:n<=k)(r:uN P w K mg base m k L):uN P w K mg base m k ((C,aT j sem)::L):=⟨λC' sem' h=>by
 rw[List.lookup_cons] at h
 by_cases e:C'=C
 ·rw[e,beq_self_eq_true] at h
  cases h
  obtain⟨f,fd,ps,h1,h2,h3,h4⟩:=F.ex
  exact⟨n,f,fd,ps,j,hn,by rw[e];exact h1,by rw[e];exact h2,h3,h4,λLx hp=>o7 hp⟩
 ·rw[beq_false_of_ne e] at h
  exact r.ex C' sem' h⟩
def Ho(L:List (Addr×(List PV->M PV)))(C:Addr)(ps:List PV):M PV:=match L.lookup C with
 | some sem=>sem ps
 | none=>none
def gL(L:List (Addr×(List PV->M PV)))(m:Str)(p:PV)(x:M (List PV)):M PV:=match p with
 | .obj B fl=>cO ((L.lookup B).isSome/\fl.lookup m=none) (x.bind λps=>Ho L B (.obj B fl::ps))
 | _=>none
def c7(L:List (Addr×(List PV->M PV)))(m:Str)(g:af->M PV)(fs:af->M (List PV)):af->M PV:=λenv=>(g env).bind λp=>gL L m p (fs env)
def Fi(L:List (Addr×(List PV->M PV)))(m:Str)(E:St->XK)(ta:TE)(t:TA):TE:=fun σ H Q=>ta σ H λx H1 =>
 ∃ C sem a dx fs,L.lookup C=some sem/\x=V.ref a/\H1 a=some (HO.ins C dx fs)/\List.lookup m fs=none/\t σ H1 λvs H2=>∀ j,(∀ ps,sem ps≠none->ps.length=j)->dh j sem (x::(vs++[])) H2 Q (E σ)
theorem qj{σ:St}{H:Hp}{Q:VK}(q:tE E (c7 L m g fs) σ H Q):Fi L m E (tE E g) (tL E fs) σ H Q:=by
 refine bT (K:=jP Q) jP.g q λB H₀ Hs H1 env p v sr rp hp=>?_
 cases rp with
 | @obj a C' dx fl fvs ho hx =>
  obtain⟨⟨e1,hn⟩,CP⟩:=aw.cO hp
  obtain⟨sem,es⟩:=Option.isSome_iff_exists.mp e1
  refine⟨C',sem,a,dx,fvs,es,rfl,sr.gr.sub _ _ ho,hx.none hn,B,H₀,Hs,env,sr,(aw.bind CP).imp (λLx MN vs JV H' g' r j hl=>?_) λe he=>he⟩
  unfold Ho at MN
  rw[es] at MN
  have r2:aH JV (.obj C' fl::Lx) (V.ref a::(vs++[])):=by rw[List.append_nil];exact .cons ((Rep.obj ho hx).mono g'.st) r
  have hn:sem (.obj C' fl::Lx)≠none:=λz=>by rw[show (some sem:Option (List PV->M PV))=some sem from rfl] at MN;simp only[z] at MN;exact MN
  exact⟨by rw[← r2.length];exact hl _ hn,JV,_,g'.sub,r2,MN.imp (λz hz w J5 H2 g2 r2=>hz w J5 H2 (g'.trans g2) r2) λe he=>he.grow g'⟩
 | _=>exact hp.elim
theorem uN.call{pl:Sem Bool}(hr:bN k X.A)(F:uN X.prog X.w X.K X.mg X.base m k L)(O:fg X E)(he:PE X o (tE E g))(ha:PA X (e::es) (tL E fs))
  (Kw:starEach (e::es) X.env=(false,eval e X.env)::starEach es X.env:=by rfl) (Kd:(backTo pos (starEach es X.env)).any (·.1)=false:=by rfl)
  (ht:eval (.Call (.Attribute o m apos) (e::es) [] pos) X.env=(do
   let ov ← eval o X.env
   standAt apos.atName
   let (f,first) ← holding [ov] (getMethod ov m pl)
   callWith pos f first (backTo pos (starEach (e::es) X.env)) (backToKw pos (keywordEach [] X.env))):=by rfl) :
  PE X (.Call (.Attribute o m apos) (e::es) [] pos) (tE E (c7 L m g fs)):=by
 intro JS s σ H Q I h
 refine PySem.W.methodCall_KW (pl:=pl) (cN (he JS s σ H _ I (qj h)) λu s1 ⟨x,H1,I1,rx,q⟩=>?_) ht
 obtain⟨C,sem,a,dx,fs,ex,rfl,ea,l,q⟩:=q
 obtain⟨n,f,fd,ps,j,hn,c,hm,hb,F',hl⟩:=F.ex C sem ex
 obtain rfl:u=Value.ref a:=rx
 refine ke I1 ea c hm l ?_
 refine PySem.W.callWith_K (first:=[.ref a]) (h₀:=X.base) I.ok.mod.CY hm.kp (cN (ha pos JS s1 σ H1 _ I1 q) λus s2 ⟨vs,H2,I2,r,q2⟩=>⟨I2.ir,?_⟩) Kw Kd
 exact mT (us:=.ref a::us) (vs:=.ref a::vs) F' (hr.mono hn) hb .nil O I2 (.cons rfl r) (q2 j hl)
theorem uN.zY{pl:Sem Bool}(hr:bN k X.A)(F:uN X.prog X.w X.K X.mg X.base m k L)(O:fg X E)(he:PE X o (tE E g))
  (ht:eval (.Call (.Attribute o m apos) [] [] pos) X.env=(do
   let ov ← eval o X.env
   standAt apos.atName
   let (f,first) ← holding [ov] (getMethod ov m pl)
   callWith pos f first (backTo pos (starEach [] X.env)) (backToKw pos (keywordEach [] X.env))):=by rfl) :
  PE X (.Call (.Attribute o m apos) [] [] pos) (tE E (c7 L m g ar)):=by
 intro JS s σ H Q I h
 refine PySem.W.methodCall_KW (pl:=pl) (cN (he JS s σ H _ I (qj h)) λu s1 ⟨x,H1,I1,rx,q⟩=>?_) ht
 obtain⟨C,sem,a,dx,fs,ex,rfl,ea,l,B,H₀,Hs,env,sr,q⟩:=q
 obtain⟨n,f,fd,ps,j,hn,c,hm,hb,F',hl⟩:=F.ex C sem ex
 obtain rfl:u=Value.ref a:=rx
 refine ke I1 ea c hm l ?_
 exact PySem.W.callWith_K0 (first:=[.ref a]) I1.ir hm.kp (mT (us:=[.ref a]) (vs:=[.ref a]) F' (hr.mono hn) hb .nil O I1 (.cons rfl .nil) (q [] Hs H1 (.refl sr.gr.sub) .nil j hl))
end
structure IY (K:PySem.W.Frag) (mg:Str->Option Value) (x:Str) (C:Addr):Prop where
 makes:PySem.W.makesIn K C=true
 init:PySem.W.findIn K (.ref C) "__init__" = some (some (.builtin "object.__init__"))
 kp:PySem.W.keepIn K (.ref C)=true
 nm:mg x=some (.ref C)
def lY(C:Addr):af->M PV:=λ_=>M.ok (.obj C [])
theorem BL{X:Cx}{E:St->XK}{C:Addr}{x:Str}{p pos:Pos}(M:IY X.K X.mg x C)(hg:Gl X x)(KU:(x==("__debug__" : Str))=false:=by decide):PE X (.Call (.Name x p) [] [] pos) (tE E (lY C)):=by
 intro JS s σ H Q I h
 obtain⟨B,H₀,Hs,env,sr,h⟩:=h
 have I2:=Inv.made (C:=C) I
 have f1:=I.a_.fresh (Nat.le_succ s.heap.objs.size)
 have f2:=I.a_.fresh (Nat.le_refl s.heap.objs.size)
 have sub:aV Hs H:=sr.gr.sub
 refine wpAny_Call_Name_kw (hU I hg M.nm ?_ KU)
 refine PySem.W.callWith_K0 I.ir M.kp (wpAny_call (xD I.ir M.makes M.init (λself=>PySem.W.Looks.of_pure (PySem.W.oi_bind self)) ?_))
 have Y:=PySem.W.makes_of (M:=model X.prog X.w) I.ir M.makes
 have e2:((s.heap.push PySem.W.emptyDict).push (PySem.W.instObj C s.heap.objs.size)).get? (s.heap.objs.size+1)=some (PySem.W.instObj C s.heap.objs.size):=by
  have:=Heap.get?_push_size (s.heap.push PySem.W.emptyDict) (o:=PySem.W.instObj C s.heap.objs.size) rfl
  rwa [Heap.size_push] at this
 have t1:PySem.W.Looks (model X.prog X.w) ((s.heap.push PySem.W.emptyDict).push (PySem.W.instObj C s.heap.objs.size)) (typeOf (.ref (s.heap.objs.size+1))) (.ref C):=(PySem.W.Looks.ld e2).andThen .now
 have t2:PySem.W.Looks (model X.prog X.w) ((s.heap.push PySem.W.emptyDict).push (PySem.W.instObj C s.heap.objs.size)) (isInstance (.ref (s.heap.objs.size+1)) (.type "object")) true:=t1.andThen (Y.top.keeps λb o e=>Heap.get?_push_of_some _ (Heap.get?_push_of_some _ e))
 refine codeAny_call_builtin PySem.W.oi_plain PySem.W.entry_oi (@PySem.W.check_slot (model X.prog X.w) _ _ _ "object.__init__" "object" "__init__" (.ref (s.heap.objs.size+1)) [] [] _ PySem.W.oi_kind PySem.W.oi_split t2 (PySem.W.oi_args (.ref (s.heap.objs.size+1))) ?_)
 rw[PySem.W.oi_run]
 refine wpAny_pure (And.intro rfl ⟨V.ref (s.heap.objs.size+1),_,I2,rfl,?_⟩)
 have ne:s.heap.objs.size+1≠s.heap.objs.size:=Nat.succ_ne_self _
 have na:∀ c u,H c=some u->c≠s.heap.objs.size+1:=λc u e z=>by rw[z,f1] at e;cases e
 have nd:∀ c u,H c=some u->c≠s.heap.objs.size:=λc u e z=>by rw[z,f2] at e;cases e
 refine h (.ref (s.heap.objs.size+1)) (upd Hs (s.heap.objs.size+1) (.ins C s.heap.objs.size [])) _ ⟨λc u e=>?_,λc u e=>?_,λc u e=>?_,λc u e1 e2=>?_⟩ (.obj az .nil)
 ·rw[au (na c u (sub c u e))];exact e
 ·rw[au (na c u e),au (nd c u e)];exact e
 ·by_cases z:c=s.heap.objs.size+1
  ·subst z;rw[az] at e;cases e;exact az
  ·rw[au z] at e
   rw[au z,au (nd c u (sub c u e))];exact sub c u e
 ·rw[au (na c u e2)];exact e1
end L2
namespace L2
open PySem PySem.Spec PyProof.Rows
def EH(i j k:Nat)(env:af):List PV->M Out
 | [p,q,r]=>M.ok (.nx (((env.set i (some (.sh p))).set j (some (.sh q))).set k (some (.sh r))))
 | _=>none
def yg(i j k:Nat)(fs:af->M (List PV)):af->M Out:=λenv=>(fs env).bind (EH i j k env)
def F_(i j k:Nat)(ta:TA):TS:=λD σ H=>ta σ H λvs H1=>∃ v w u,vs=[v,w,u]/\D.nx (((σ.set i (some v)).set j (some w)).set k (some u)) H1
theorem BB{X:Cx}{i j k:Nat}{x y z:Str}{a b c:Expr}{ta:TA}{px py pz pt pos:Pos}{kt k2 LV}(hc:X.calm=true)(hN:X.N.Nodup)(hi:X.N[i]?=some x)(hj:X.N[j]?=some y)(hk:X.N[k]?=some z)(MF:i≠j/\i≠k/\j≠k)
  (hx:X.env.scope.names.lookup x=some .local) (hy:X.env.scope.names.lookup y=some .local) (hz:X.env.scope.names.lookup z=some .local) (ha:PA X [a,b,c] ta)
  (hw:swappedStores [.Tuple [.Name x px,.Name y py,.Name z pz] kt pt] (.Tuple [a,b,c] k2 LV) X.env=pure (some [x,y,z]))
  (hs:swapsWithSole [.Tuple [.Name x px,.Name y py,.Name z pz] kt pt] (.Tuple [a,b,c] k2 LV) pos.line X.env=pure false:=by rfl) :
  PS X (.Assign [.Tuple [.Name x px,.Name y py,.Name z pz] kt pt] (.Tuple [a,b,c] k2 LV) pos) (F_ i j k ta):=by
 intro JS s σ H D I h
 rw[exec_Assign_arm]
 refine wpAny_bind (wpAny_standAt ?_)
 rw[hs]
 refine wpAny_bind (wpAny_pure ?_)
 rw[if_neg (by decide)]
 refine wpAny_bind (Tuple_ (cN (ha _ JS s σ H _ I h) λus s1 ⟨vs,H1,I1,r1,q1⟩=>?_))
 obtain⟨v,w,u,e1,q1⟩:=q1
 subst e1
 obtain⟨u1,u2,u3,rfl,rv,Ly,ru⟩:∃ u1 u2 u3,us=[u1,u2,u3]/\RelV v u1/\RelV w u2/\RelV u u3:=by
  cases r1 with
  | cons p q=>cases q with
   | cons p' q'=>cases q' with
    | cons p2 q2=>cases q2;exact⟨_,_,_,rfl,p,p',p2⟩
 refine wpAny_newObj_type ?_ (by show 3<=sizeLine;decide)
 have I2:Inv X JS σ H1 { s1 with heap:=s1.heap.push { cls:=.type "tuple", data:=.seq [u1,u2,u3].toArray } }:=I1.kept (t':=s1.toks) λb o e=>Heap.get?_push_of_some _ e
 rw[hw]
 refine wpAny_bind (wpAny_pure ?_)
 show wpAny (model X.prog X.w) X.A (do rule "assign.swapped-stores";let items ← unpackItems (.ref s1.heap.objs.size) 3 none;assignInOrder [λv=>bindName X.env z v,λv=>bindName X.env y v,λv=>bindName X.env x v] items.reverse;pure Flow.next) _ _ _
 refine wpAny_bind (wpAny_rule (wpAny_bind (unpackItems_tuple (items:=#[u1,u2,u3]) (I.ok.hd hc) (IsTup.new s1.heap _) λh' MW=>?_)))
 have I3:=I2.kept (h':=h') (t':=s1.toks) λb o e=>MW b o (Nat.ne_of_lt (Heap.lt_size e)) e
 show wpAny _ _ (assignInOrder [λv=>bindName X.env z v,λv=>bindName X.env y v,λv=>bindName X.env x v] [u3,u2,u1] >>= λ_=>pure Flow.next) _ _ _
 refine wpAny_bind (assignInOrder_cons (wpAny_bindName (fb I3 hN hk (.inl hz) ru (λs2 I4=>?_) (.inr hz))))
 refine assignInOrder_cons (wpAny_bindName (fb I4 hN hj (.inl hy) Ly (λs3 I5=>?_) (.inr hy)))
 refine assignInOrder_cons (wpAny_bindName (fb I5 hN hi (.inl hx) rv (λs4 I6=>assignInOrder_nil (wpAny_pure ?_)) (.inr hx)))
 rw[List.set_comm _ _ (Ne.symm MF.1),List.set_comm _ _ (Ne.symm MF.2.1),List.set_comm _ _ (Ne.symm MF.2.2)] at I6
 exact⟨_,H1,I6,q1⟩
theorem Bl{X:Cx}{E:XK}{i j k:Nat}{x y z:Str}{a b c:Expr}{fs:af->M (List PV)}{px py pz pt pos:Pos}{kt k2:Nat}{LV:Pos}(hc:X.calm=true)(hN:X.N.Nodup)(hi:X.N[i]?=some x)(hj:X.N[j]?=some y)(hk:X.N[k]?=some z)(MF:i≠j/\i≠k/\j≠k)
  (hx:X.env.scope.names.lookup x=some .local) (hy:X.env.scope.names.lookup y=some .local) (hz:X.env.scope.names.lookup z=some .local) (ha:PA X [a,b,c] (tL (λ_=>E) fs))
  (hw:swappedStores [.Tuple [.Name x px,.Name y py,.Name z pz] kt pt] (.Tuple [a,b,c] k2 LV) X.env=pure (some [x,y,z]))
  (hs:swapsWithSole [.Tuple [.Name x px,.Name y py,.Name z pz] kt pt] (.Tuple [a,b,c] k2 LV) pos.line X.env=pure false:=by rfl) :
  PS X (.Assign [.Tuple [.Name x px,.Name y py,.Name z pz] kt pt] (.Tuple [a,b,c] k2 LV) pos) (tS E (yg i j k fs)):=by
 refine(BB hc hN hi hj hk MF hx hy hz ha hw hs).imp λD σ H q=>kG q λB H₀ Hs H1 env ps v sr rp hp=>?_
 unfold EH at hp
 split at hp
 ·cases rp with
  | cons r1 q=>cases q with
   | cons r2 q=>cases q with
    | cons r3 q =>
     cases q
     exact⟨_,_,_,rfl,hp _ Hs H1 (((sr.set r1).set r2).set r3)⟩
 ·exact hp.elim
end L2
namespace L2
open PySem PySem.Spec PyProof.Rows
open PySem.SeqAt (shaped EqAt RcAt RcNeAt)
section
variable{X:Cx}{E:St->XK}{JS:List (Addr×Obj)}{σ:St}{H:Hp}{s:Shared}{a b:Addr}{A:Around}
theorem rl(I:Inv X JS σ H s)(e:H a=some (.dK [])):(a==sysModules)=false/\∀ (P:Program) (w:World),s.heap.DictOf (qE P w) a ([]:List (Key×Value)):=by
 obtain⟨_,h1,vs,kv,o,es,ep,ho,ex,hd,_,pr,_⟩:=(show bC X.prog X.w H s.heap a (.dK []) from I.a_ a _ e)
 cases kv
 have e0:es=#[]:=by
  have:es.toList=[]:=by cases h:es.toList with
   | nil=>rfl
   | cons x y=>rw[h] at pr;cases pr
  exact Array.toList_inj.mp this
 subst e0
 exact⟨h1,λP w=>⟨o,#[],ep,ho,ex,hd,λe he=>absurd he (by simp),.nil,by simp⟩⟩
theorem yY(I:Inv X JS σ H s)(ea:H a=some (.dK []))(eb:H b=some (.dK []))(hu:A.units<cLine):RcAt A s (.ref a) (.ref b) true:=λprog w E Q h =>
 PySem.W.keq_eq (rl I ea).1 (rl I eb).1 ((rl I ea).2 prog w) ((rl I eb).2 prog w) hu (λ_=>.nil) h
theorem Dw(I:Inv X JS σ H s)(ea:H a=some (.dK []))(eb:H b=some (.dK []))(hu:A.units<cLine):EqAt A s (.ref a) (.ref b) true:=by
 by_cases e:a=b
 ·subst e;exact .same _
 ·exact .of_refs e (yY I ea eb hu)
end
def C2(o:Bool->PV)(d e:PyData):M PV:=cO (shaped d=true/\shaped e=true) (M.ok (o (PyData.eqv d e)))
def wd(o:Bool->PV)(p q:PV):M PV:=match dat p,dat q with
 | some d,some e=>C2 o d e
 | _,_=>none
def ql:PV->Bool
 | .emp=>true
 | _=>false
def z_:PV->Option Str
 | .tup [.str x,p]=>if ql p then some x else none
 | _=>none
def Cw(p q:PV):M PV:=if ql p=true/\ql q=true then M.ok (.bl true) else wd (λb=>.bl b) p q
def v5(p q:PV):M PV:=match z_ p,z_ q with
 | some x,some y=>M.ok (.bl (!(x==y)))
 | _,_=>wd (λb=>.bl (!b)) p q
def DP(o:Bool->Bool):R2:=λx y H Q=>∃ Hs p q d e,aV Hs H/\Rep Hs p x/\Rep Hs q y/\dat p=some d/\dat q=some e/\shaped d=true/\shaped e=true/\Q (.bl (o (PyData.eqv d e))) H
def FL:R2:=λx y H Q=>DP id x y H Q\/∃ a b,x=.ref a/\y=.ref b/\H a=some (.dK [])/\H b=some (.dK [])/\Q (.bl true) H
def FJ:R2:=λx y H Q=>DP not x y H Q\/∃ t u z z' a b,x=.ref t/\y=.ref u/\H t=some (.tup [.str z,.ref a])/\H u=some (.tup [.str z',.ref b])/\H a=some (.dK [])/\H b=some (.dK [])/\Q (.bl (!(z==z'))) H
section
variable{X:Cx}{E:St->XK}
theorem yr(hu:X.A.units+64<cLine):gp X (compareOp .Eq) FL:=by
 intro JS s σ H x y v u Q I rx ry h
 rcases h with h | ⟨a,b,rfl,rfl,ea,eb,hq⟩
 ·obtain⟨Hs,p,q,d,e,sm,rp,rq,hd,he,h1,h2,hq⟩:=h
  obtain⟨as,ra⟩:=Rep.reads I sm rp rx hd
  obtain⟨bs,rb⟩:=Rep.reads I sm rq ry he
  exact PySem.SeqAt.compareEq_shaped ra rb h1 h2 hu (gE I hq rfl)
 ·cases (show v=Value.ref a from rx)
  cases (show u=Value.ref b from ry)
  exact yY I ea eb (by omega) _ _ _ _ (gE I hq rfl)
theorem zl(hu:X.A.units+64<cLine):gp X (compareOp .NotEq) FJ:=by
 intro JS s σ H x y v u Q I rx ry h
 rcases h with h | ⟨t,t',z,z',a,b,rfl,rfl,et,et',ea,eb,hq⟩
 ·obtain⟨Hs,p,q,d,e,sm,rp,rq,hd,he,h1,h2,hq⟩:=h
  obtain⟨as,ra⟩:=Rep.reads I sm rp rx hd
  obtain⟨bs,rb⟩:=Rep.reads I sm rq ry he
  exact PySem.SeqAt.compareNe_shaped ra rb h1 h2 hu (gE I hq rfl)
 ·cases (show v=Value.ref t from rx)
  cases (show u=Value.ref t' from ry)
  obtain⟨JU,r1,i1,_⟩:=I.tuple (fQ.of et)
  obtain⟨its',r2,i2,_⟩:=I.tuple (fQ.of et')
  have key:∀ {z:Str} {a:Addr} {JU:List Value},Vals [.str z,.ref a] JU->∃ tk,JU=[.str z tk,.ref a]:=λr=>by
   cases r with
   | cons p q=>cases q with
    | cons p' q' =>
     cases q'
     obtain⟨tk,rfl⟩:=p
     cases p'
     exact⟨tk,rfl⟩
  obtain⟨k1,rfl⟩:=key r1
  obtain⟨k2,rfl⟩:=key r2
  have:=RcNeAt.tuples (A:=X.A) (e:=λj=>if j=0 then z==z' else true) i1 i2 (by omega) λj h1 h2=>by
   match j,h1 with
   | 0,_=>exact EqAt.str_str z k1 z' k2
   | 1,_=>exact Dw I ea eb (by show X.A.units+1<cLine;omega)
  refine this _ _ _ _ (gE I hq ?_)
  simp[List.range_succ]
theorem vt{o:Bool->Bool}{σ:St}{Hs H:Hp}{p q:PV}{v u:V}{Q:VK}(s:aV Hs H)(rp:Rep Hs p v)(rq:Rep Hs q u)(h:aw (wd (λb=>.bl (o b)) p q) (cI Hs H Q) (XW (E σ) Hs H)):DP o v u H Q:=by
 unfold wd at h
 split at h
 ·rename_i d e hd he
  obtain⟨⟨h1,h2⟩,h⟩:=aw.cO h
  exact⟨Hs,p,q,d,e,s,rp,rq,hd,he,h1,h2,cI.flat h s (.bl _)⟩
 ·exact h.elim
theorem lD{Hs:Hp}{p:PV}{v:V}(r:Rep Hs p v)(h:ql p=true):∃ a,v=.ref a/\Hs a=some (.dK []):=by
 cases r with
 | emp e=>exact⟨_,rfl,e⟩
 | _=>cases h
theorem tD{Hs:Hp}{p:PV}{v:V}{x:Str}(r:Rep Hs p v)(h:z_ p=some x):∃ t a,v=.ref t/\Hs t=some (.tup [.str x,.ref a])/\Hs a=some (.dK []):=by
 unfold z_ at h
 split at h
 ·split at h
  ·rename_i hp
   cases h
   cases r with
   | tup ht hx=>cases hx with
    | cons h1 h2=>cases h2 with
     | cons h3 h4 =>
      cases h4;cases h1
      obtain⟨a,rfl,ea⟩:=lD h3 hp
      exact⟨_,a,rfl,ht,ea⟩
  ·cases h
 ·cases h
theorem Ac:j6 E FL Cw:=by
 intro σ Hs H p q v u Q s rp rq h
 unfold Cw at h
 split at h
 ·rename_i hh
  obtain⟨a,rfl,ea⟩:=lD rp hh.1
  obtain⟨b,rfl,eb⟩:=lD rq hh.2
  exact .inr ⟨a,b,rfl,rfl,s _ _ ea,s _ _ eb,cI.flat h s (.bl _)⟩
 ·exact .inl (vt s rp rq h)
theorem yG:j6 E FJ v5:=by
 intro σ Hs H p q v u Q s rp rq h
 unfold v5 at h
 split at h
 ·rename_i x y hx hy
  obtain⟨t,a,rfl,et,ea⟩:=tD rp hx
  obtain⟨t',b,rfl,et',eb⟩:=tD rq hy
  exact .inr ⟨t,t',x,y,a,b,rfl,rfl,s _ _ et,s _ _ et',s _ _ ea,s _ _ eb,cI.flat h s (.bl _)⟩
 ·exact .inl (vt s rp rq h)
end
end L2
namespace L2
open PySem PySem.Spec PyProof.Rows
open PySem.SeqAt (shaped noMix noMixAll)
section
variable{α β:Type}
theorem M.aO(a:α)(f:α->M β):M.bind (M.ok a) f=f a:=Eq.trans rfl rfl
theorem M.yS(e:EX)(f:α->M β):M.bind (some (Except.error e)) f=some (.error e):=Eq.trans rfl rfl
theorem M.bind_none(f:α->M β):M.bind none f=none:=Eq.trans rfl rfl
theorem M.bind_some(a:α)(f:α->M β):M.bind (some (Except.ok a)) f=f a:=Eq.trans rfl rfl
theorem M.bind_assoc{γ:Type}(x:M α)(f:α->M β)(g:β->M γ):M.bind (M.bind x f) g=M.bind x λa=>M.bind (f a) g:=by
 cases x with
 | none=>rfl
 | some x=>cases x <;> rfl
theorem ax{c:Prop}[Decidable c]{x:M α}(h:c):cO c x=x:=if_pos h
theorem EC(a:α):Am (M.ok a)=M.ok a:=Eq.trans rfl rfl
end
theorem w4(x:PV):eD (some x)=M.ok x:=Eq.trans rfl rfl
theorem sY(g:af->M Out)(env:af):Ap g (.nx env)=g env:=Eq.trans rfl rfl
theorem r6(g:af->M Out)(p:PV):Ap g (.rt p)=M.ok (.rt p):=Eq.trans rfl rfl
theorem Bw(b:Bool):uz (.bl b)=M.ok b:=Eq.trans rfl rfl
theorem BW(p:PV):Ec (.rt p)=M.ok p:=Eq.trans rfl rfl
theorem A_(e:af):Ec (.nx e)=M.ok .bZ:=Eq.trans rfl rfl
def tI(xs:List Int):PV:=.tup (xs.map PV.int)
def lI(xs:List Int):PV:=.lst (xs.map PV.int)
theorem AS(xs:List Int):bO (tI xs)=some (xs.map PV.int):=Eq.trans rfl rfl
theorem A5(xs:List Int):bO (lI xs)=some (xs.map PV.int):=Eq.trans rfl rfl
theorem y0(xs:List PV):bO (.tup xs)=some xs:=Eq.trans rfl rfl
theorem nL(xs:List PV):bO (.lst xs)=some xs:=Eq.trans rfl rfl
theorem yt(xs:List PV):bO (.jo xs)=some xs:=Eq.trans rfl rfl
theorem Bv(xs:List Int):tW (tI xs)=M.ok (.int xs.length):=by simp[tW,tI,bO,eD]
theorem BC(xs:List Int):tW (lI xs)=M.ok (.int xs.length):=by simp[tW,lI,bO,eD]
theorem yn(xs:List PV):tW (.tup xs)=M.ok (.int xs.length):=Eq.trans rfl rfl
theorem zz(xs:List PV):tW (.lst xs)=M.ok (.int xs.length):=Eq.trans rfl rfl
theorem xT(xs:List PV):tW (.jo xs)=M.ok (.int xs.length):=Eq.trans rfl rfl
theorem yO(xs:List Int):w_ [.lst (xs.map PV.int)]=M.ok (.int xs.sum):=by simp[w_,F9,qp,eD]
theorem oV(xs:List Bool):pT [.lst (xs.map PV.bl)]=M.ok (.bl (xs.all id)):=by simp[pT,all1,sE,eD]
theorem oA{α:Type}{f:af->M PV}{inj h:α->PV}{rest:af}{x0:Option SV}(xs:List α)(H:∀ a∈xs,f (some (.sh (inj a))::rest)=M.ok (h a)):dj (dH 0) none f (xs.map inj) (x0::rest)=M.ok (xs.map h):=by
 induction xs generalizing x0 with
 | nil=>rfl
 | cons a r ih =>
  rw[List.map_cons,dj]
  show M.bind (M.ok ((x0::rest).set 0 (some (.sh (inj a))))) _=_
  rw[M.aO,List.set_cons_zero]
  show M.bind (f _) _=_
  rw[H a List.mem_cons_self,M.aO,ih λb hb=>H b (List.mem_cons_of_mem _ hb)]
  rfl
theorem lJ{α:Type}{f:af->M PV}{p q h:α->PV}{rest:af}{x0 x1:Option SV}(xs:List α)(H:∀ a∈xs,f (some (.sh (p a))::some (.sh (q a))::rest)=M.ok (h a)):dj (bx 0 1) none f (xs.map λa=>.tup [p a,q a]) (x0::x1::rest)=M.ok (xs.map h):=by
 induction xs generalizing x0 x1 with
 | nil=>rfl
 | cons a r ih =>
  rw[List.map_cons,dj]
  show M.bind (M.ok (((x0::x1::rest).set 0 (some (.sh (p a)))).set 1 (some (.sh (q a))))) _=_
  rw[M.aO,List.set_cons_zero,List.set_cons_succ,List.set_cons_zero]
  show M.bind (f _) _=_
  rw[H a List.mem_cons_self,M.aO,ih λb hb=>H b (List.mem_cons_of_mem _ hb)]
  rfl
theorem Dx{α:Type}{f:af->M PV}{p q s h:α->PV}{rest:af}{x0 x1 x2:Option SV}(xs:List α)(H:∀ a∈xs,f (some (.sh (p a))::some (.sh (q a))::some (.sh (s a))::rest)=M.ok (h a)):dj (mh 0 1 2) none f (xs.map λa=>.tup [p a,q a,s a]) (x0::x1::x2::rest)=M.ok (xs.map h):=by
 induction xs generalizing x0 x1 x2 with
 | nil=>rfl
 | cons a r ih =>
  rw[List.map_cons,dj]
  show M.bind (M.ok ((((x0::x1::x2::rest).set 0 (some (.sh (p a)))).set 1 (some (.sh (q a)))).set 2 (some (.sh (s a))))) _=_
  rw[M.aO,List.set_cons_zero,List.set_cons_succ,List.set_cons_zero,List.set_cons_succ,List.set_cons_succ,List.set_cons_zero]
  show M.bind (f _) _=_
  rw[H a List.mem_cons_self,M.aO,ih λb hb=>H b (List.mem_cons_of_mem _ hb)]
  rfl
theorem cQ{α β:Type}{f:α->PV}{g:β->PV}{p q:PV}(xs:List α)(ys:List β)(hp:bO p=some (xs.map f))(hq:bO q=some (ys.map g)):zip2 [p,q]=M.ok ((xs.zip ys).map λz=>.tup [f z.1,g z.2]):=by
 simp only[zip2,hp,hq]
 congr 2
 rw[List.zipWith_map,List.zip_eq_zipWith,List.map_zipWith]
theorem s_{α β γ:Type}{f:α->PV}{g:β->PV}{h:γ->PV}{p q r:PV}(xs:List α)(ys:List β)(zs:List γ)(hp:bO p=some (xs.map f))(hq:bO q=some (ys.map g))(hr:bO r=some (zs.map h)):u7 [p,q,r]=M.ok ((xs.zip (ys.zip zs)).map λz=>.tup [f z.1,g z.2.1,h z.2.2]):=by
 simp only[u7,hp,hq,hr]
 congr 2
 clear hp hq hr
 induction xs generalizing ys zs with
 | nil=>cases ys <;> cases zs <;> rfl
 | cons a r ih =>
  cases ys with
  | nil=>rfl
  | cons b s =>
   cases zs with
   | nil=>rfl
   | cons c t=>simp only[List.map_cons,iO,List.zip_cons_cons,ih]
theorem wY{α:Type}{f:α->PV}(xs:List α):g9 (xs.map f)=(xs.zipIdx).map λz=>.tup [.int (z.2:Int),f z.1]:=by
 unfold g9
 rw[List.mapIdx_eq_zipIdx_map,List.zipIdx_map,List.map_map]
 rfl
theorem kq{set:PV->af->M af}{body:af->M Out}{α:Type}{inj:α->PV}(J:List α->af->Prop)
  (H:∀ a r env,J (a::r) env->∃ e' JT,set (inj a) env=M.ok e'/\body e'=M.ok (.nx JT)/\J r JT):∀ (xs:List α) (env:af),J xs env->∃ JT,iz set body (xs.map inj) env=M.ok (.nx JT)/\J [] JT
 | [],env,h=>⟨env,rfl,h⟩
 | a::r,env,h=>by
  obtain⟨e',JT,h1,h2,h3⟩:=H a r env h
  obtain⟨Md,h4,h5⟩:=kq J H r JT h3
  refine⟨Md,?_,h5⟩
  rw[List.map_cons,iz,h1,M.aO,h2,M.aO]
  exact h4
theorem p7{u:af->M Bool}{b:af->M Out}(J:af->Prop)(m:af->Nat)
  (H:∀ env,J env->(u env=M.ok false)\/(u env=M.ok true/\∃ JT,b env=M.ok (.nx JT)/\J JT/\m JT<m env)) (env:af) (h:J env):∃ JT,kc u b env=M.ok (.nx JT)/\J JT/\u JT=M.ok false:=by
 have key:∀ (n:Nat) (env:af),J env->m env<n->∃ JT,ck u b n env=M.ok (.nx JT)/\J JT/\u JT=M.ok false:=by
  intro n
  induction n with
  | zero=>intro env _ hn;omega
  | succ n ih =>
   intro env h hn
   rcases H env h with hu | ⟨hu,JT,hb,hj,hm⟩
   ·exact⟨env,by rw[ck,hu,M.aO];rfl,h,hu⟩
   ·obtain⟨Md,h1,h2,h3⟩:=ih JT hj (by omega)
    exact⟨Md,by rw[ck,hu,M.aO,if_pos rfl,hb,M.aO];exact h1,h2,h3⟩
 obtain⟨JT,h1,h2,h3⟩:=key (m env+1) env h (Nat.lt_succ_self _)
 refine⟨JT,?_,h2,h3⟩
 rw[xu (n:=m env+1) (by rw[h1];exact λz=>nomatch z),h1]
theorem log2_small{i:Int}{k:Nat}(h:i.natAbs<2^k)(hk:k<=9000):i.natAbs.log2<67108864:=by
 by_cases z:i.natAbs=0
 ·rw[z];decide
 ·have:=(Nat.log2_lt z).mpr h
  omega
theorem aR{i j:Int}{k l:Nat}(hi:i.natAbs<2^k)(hj:j.natAbs<2^l)(hk:k<=9000:=by decide)(hl:l<=9000:=by decide):bV (.int i) (.int j)=M.ok (.int (i*j)):=by
 rw[bV,ax ⟨log2_small hi hk,log2_small hj hl⟩]
theorem lb{i j:Int}(h0:j≠0)(h:j.natAbs<2^9000):bj (.int i) (.int j)=M.ok (.int (i.fdiv j)):=by
 show cO _ _=_
 refine ax (decide_eq_true ⟨h0,(Nat.log2_lt (by omega)).mpr h⟩)
theorem xM{i j:Int}(h0:j≠0):bB (.int i) (.int j)=M.ok (.int (i.fmod j)):=by
 show cO _ _=_
 exact ax (decide_eq_true h0)
theorem aB{i j:Int}(h0:0<j)(h:j<2^64):bj (.int i) (.int j)=M.ok (.int (i/j)):=by
 rw[lb (by omega) (Nat.lt_of_lt_of_le (show j.natAbs<2^64 by omega) (Nat.pow_le_pow_right (by decide) (by decide))),Int.fdiv_eq_ediv_of_nonneg _ (by omega)]
theorem aA{i j:Int}(h0:0<j):bB (.int i) (.int j)=M.ok (.int (i%j)):=by
 rw[xM (by omega),Int.fmod_eq_emod_of_nonneg _ (by omega)]
theorem cW{xs:List PV}{p:PV}{j:Nat}{x:PV}(hs:bO p=some xs)(h:xs[j]?=some x):br p (.int (j:Int))=M.ok x:=by
 cases p with
 | tup ys=>cases hs;simp only[br,rB h,eD]
 | lst ys=>cases hs;simp only[br,rB h,eD]
 | jo ys=>cases hs;simp only[br,rB h,eD]
 | _=>cases hs
section
variable{b:String->Bool}{ob oe:Addr->Option Bool}
theorem C_(xs:List Int):uK b ob oe (tI xs)=M.ok (.bl (b "tuple")):=Eq.trans rfl rfl
theorem Ed(xs:List Int):uK b ob oe (lI xs)=M.ok (.bl (b "list")):=Eq.trans rfl rfl
theorem B8(xs:List PV):uK b ob oe (.tup xs)=M.ok (.bl (b "tuple")):=Eq.trans rfl rfl
theorem B_(xs:List PV):uK b ob oe (.lst xs)=M.ok (.bl (b "list")):=Eq.trans rfl rfl
theorem By(i:Int):uK b ob oe (.int i)=M.ok (.bl (b "int")):=Eq.trans rfl rfl
theorem DE(i:Bool):uK b ob oe (.bl i)=M.ok (.bl (b "bool")):=Eq.trans rfl rfl
theorem A4:uK b ob oe .bZ=M.ok (.bl (b "NoneType")):=Eq.trans rfl rfl
theorem Ba(x:Str):uK b ob oe (.str x)=M.ok (.bl (b "str")):=Eq.trans rfl rfl
theorem AU:uK b ob oe .emp=M.ok (.bl (b "dict")):=Eq.trans rfl rfl
end
theorem BM(i j:Int):tZ (.int i) (.int j)=M.ok (.bl (!decide (i=j))):=by
 simp only[tZ,rC,dat,Fl,shaped,PyData.canLay0,PyData.depth,noMix]
 rw[ax ⟨rfl,rfl,trivial⟩]
 unfold same
 rw[M.aO];congr
theorem BD(i j:Int):jS (.int i) (.int j)=M.ok (.bl (decide (i=j))):=by
 simp only[jS,rC,dat,Fl,shaped,PyData.canLay0,PyData.depth,noMix]
 rw[ax ⟨rfl,rfl,trivial⟩]
 unfold same
 rw[M.aO];congr
theorem EA(i j:Bool):tZ (.bl i) (.bl j)=M.ok (.bl (!decide (i=j))):=by
 simp only[tZ,rC,dat,Fl,shaped,PyData.canLay0,PyData.depth,noMix]
 rw[ax ⟨rfl,rfl,trivial⟩]
 unfold same
 rw[M.aO];congr
theorem ED(i j:Bool):jS (.bl i) (.bl j)=M.ok (.bl (decide (i=j))):=by
 simp only[jS,rC,dat,Fl,shaped,PyData.canLay0,PyData.depth,noMix]
 rw[ax ⟨rfl,rfl,trivial⟩]
 unfold same
 rw[M.aO];congr
theorem lS(xs:List Int):jg (xs.map PV.int)=some (xs.map PyData.int):=by
 induction xs with
 | nil=>rfl
 | cons a r ih=>simp[jg,dat,ih]
theorem jj(xs:List Int):PyData.canLayAll0 (xs.map PyData.int)=true:=by
 induction xs with
 | nil=>rfl
 | cons a r ih=>simp[PyData.canLayAll0,PyData.canLay0,ih]
theorem kh(xs:List Int):PyData.depthAll (xs.map PyData.int)=0:=by
 induction xs with
 | nil=>rfl
 | cons a r ih=>simp[PyData.depthAll,PyData.depth,ih]
theorem noMix_ints:∀ (xs ys:List Int),noMixAll (xs.map PyData.int) (ys.map PyData.int)=true
 | [],[]=>by simp[noMixAll]
 | [],_::_=>by simp[noMixAll]
 | _::_,[]=>by simp[noMixAll]
 | a::r,b::s=>by simp[noMixAll,noMix,noMix_ints r s]
theorem same_ints:∀ (xs ys:List Int),sameAll (xs.map PyData.int) (ys.map PyData.int)=decide (xs=ys)
 | [],[]=>by simp[sameAll]
 | [],_::_=>by simp[sameAll]
 | _::_,[]=>by simp[sameAll]
 | a::r,b::s=>by
  simp only[List.map_cons,sameAll,same_ints r s]
  unfold same
  rw[Bool.eq_iff_iff];simp
theorem xN(xs ys:List Int):jS (tI xs) (tI ys)=M.ok (.bl (decide (xs=ys))):=by
 simp only[jS,rC,dat,tI,lS,Option.map_some,Fl]
 rw[ax (by simp[shaped,PyData.canLay0,PyData.depth,jj,kh,noMix,noMix_ints])]
 unfold same
 rw[same_ints];rfl
theorem A9(i j:Int):Aq (.int i) (.int j)=M.ok (.bl (decide (i<j))):=Eq.trans rfl rfl
theorem Bn(i j:Int):AO (.int i) (.int j)=M.ok (.bl (decide (i<=j))):=Eq.trans rfl rfl
theorem B2(i j:Int):Fu (.int i) (.int j)=M.ok (.bl (decide (j<i))):=Eq.trans rfl rfl
theorem AH(i j:Int):ES (.int i) (.int j)=M.ok (.bl (decide (j<=i))):=Eq.trans rfl rfl
theorem yA(i j:Int):cD (.int i) (.int j)=M.ok (.int (i+j)):=Eq.trans rfl rfl
theorem zB(i j:Int):iK (.int i) (.int j)=M.ok (.int (i-j)):=Eq.trans rfl rfl
theorem si{n:Int}(h:0<=n)(h2:n<2^62):uR [.int n]=M.ok ((List.range n.toNat).map λ(i:Nat)=>.int (i:Int)):=by
 show cO (-(2^62)<=n/\n<2^62) _=_
 rw[ax (by omega)]
 simp
theorem jM{β:Type}{set:PV->af->M af}{body:af->M Out}{α:Type}{inj:α->PV}{k:Out->M β}{r:M β}(xs:List α)(J:List α->af->Prop){env:af}(h:J xs env)
  (H:∀ a r env,J (a::r) env->∃ e' JT,set (inj a) env=M.ok e'/\body e'=M.ok (.nx JT)/\J r JT) (hk:∀ JT,J [] JT->k (.nx JT)=r):M.bind (iz set body (xs.map inj) env) k=r:=by
 obtain⟨JT,e,h'⟩:=kq J H xs env h
 rw[e,M.aO];exact hk JT h'
theorem uQ{β:Type}{u:af->M Bool}{b:af->M Out}{k:Out->M β}{r:M β}(J:af->Prop)(m:af->Nat){env:af}(h:J env)
  (H:∀ env,J env->(u env=M.ok false)\/(u env=M.ok true/\∃ JT,b env=M.ok (.nx JT)/\J JT/\m JT<m env)) (hk:∀ JT,J JT->u JT=M.ok false->k (.nx JT)=r):M.bind (kc u b env) k=r:=by
 obtain⟨JT,e,h',h2⟩:=p7 J m H env h
 rw[e,M.aO];exact hk JT h' h2
theorem aL{n:Nat}(h:n<=1000):n<=sizeLine:=Nat.le_of_lt (lz h)
def tupK(ps:List PV):M PV:=cO (ps.length<=sizeLine) (M.ok (.tup ps))
def lstK(ps:List PV):M PV:=cO (ps.length<=sizeLine) (M.ok (.lst ps))
theorem BO(fs:af->M (List PV))(env:af):i9 fs env=(fs env).bind tupK:=rfl
theorem BI(fs:af->M (List PV))(env:af):i8 fs env=(fs env).bind lstK:=rfl
theorem E4:tupK []=M.ok (.tup []):=ax (aL (show 0<=1000 by decide))
theorem D5:lstK []=M.ok (.lst []):=ax (aL (show 0<=1000 by decide))
theorem DM(a:PV):tupK [a]=M.ok (.tup [a]):=ax (aL (show 1<=1000 by decide))
theorem DK(a:PV):lstK [a]=M.ok (.lst [a]):=ax (aL (show 1<=1000 by decide))
theorem Dv(a b:PV):tupK [a,b]=M.ok (.tup [a,b]):=ax (aL (show 2<=1000 by decide))
theorem EI(a b:PV):lstK [a,b]=M.ok (.lst [a,b]):=ax (aL (show 2<=1000 by decide))
theorem Fc(a b c:PV):tupK [a,b,c]=M.ok (.tup [a,b,c]):=ax (aL (show 3<=1000 by decide))
theorem Ey(a b c:PV):lstK [a,b,c]=M.ok (.lst [a,b,c]):=ax (aL (show 3<=1000 by decide))
theorem DQ(a b c d:PV):tupK [a,b,c,d]=M.ok (.tup [a,b,c,d]):=ax (aL (show 4<=1000 by decide))
theorem DU(a b c d:PV):lstK [a,b,c,d]=M.ok (.lst [a,b,c,d]):=ax (aL (show 4<=1000 by decide))
theorem DY(a b c d e:PV):tupK [a,b,c,d,e]=M.ok (.tup [a,b,c,d,e]):=ax (aL (show 5<=1000 by decide))
theorem Er(a b c d e:PV):lstK [a,b,c,d,e]=M.ok (.lst [a,b,c,d,e]):=ax (aL (show 5<=1000 by decide))
theorem E1(a b c d e f:PV):tupK [a,b,c,d,e,f]=M.ok (.tup [a,b,c,d,e,f]):=ax (aL (show 6<=1000 by decide))
theorem C6(a b c d e f:PV):lstK [a,b,c,d,e,f]=M.ok (.lst [a,b,c,d,e,f]):=ax (aL (show 6<=1000 by decide))
end L2
namespace L2
open PySem PySem.Spec PyProof.Rows
def gQ{α:Type}(m:M α)(Q:α->Prop):Prop:=∃ a,m=M.ok a/\Q a
section
variable{α β γ:Type}{Q Q':α->Prop}{m:M α}
theorem gQ.eq{a:α}(h:gQ m λx=>x=a):m=M.ok a:=by obtain⟨b,e,rfl⟩:=h;exact e
def Tn(J:af->Prop)(B:af->Prop)(R:PV->Prop):Out->Prop
 | .nx e=>J e
 | .ct e=>J e
 | .bk e=>B e
 | .rt p=>R p
theorem gQ.vm{set:PV->af->M af}{body:af->M Out}{inj:γ->PV}{B:af->Prop}{R:PV->Prop}(J:List γ->af->Prop)
  (H:∀ a r env,J (a::r) env->gQ (M.bind (set (inj a) env) body) (Tn (J r) B R)):∀ (xs:List γ) (env:af),J xs env->gQ (iz set body (xs.map inj) env) λo=>(∃ e,o=.nx e/\(J [] e\/B e))\/∃ p,o=.rt p/\R p
 | [],env,h=>⟨_,rfl,.inl ⟨_,rfl,.inl h⟩⟩
 | a::r,env,h=>by
  obtain⟨o,e,q⟩:=H a r env h
  rw[List.map_cons,iz,← M.bind_assoc,e,M.aO]
  cases o with
  | nx e'=>exact gQ.vm J H r e' q
  | ct e'=>exact gQ.vm J H r e' q
  | bk e'=>exact⟨_,rfl,.inl ⟨_,rfl,.inr q⟩⟩
  | rt p=>exact⟨_,rfl,.inr ⟨_,rfl,q⟩⟩
theorem gQ.loop{R:β->Prop}{set:PV->af->M af}{body:af->M Out}{inj:γ->PV}{k:Out->M β}{xs:List γ}{env:af}(J:List γ->af->Prop)(h:J xs env)
  (H:∀ a r env,J (a::r) env->gQ (M.bind (set (inj a) env) body) (Tn (J r) (λ_=>False) λ_=>False)) (hk:∀ JT,J [] JT->gQ (k (.nx JT)) R):gQ (M.bind (iz set body (xs.map inj) env) k) R:=by
 obtain⟨o,e,q⟩:=gQ.vm J H xs env h
 rw[e,M.aO]
 rcases q with ⟨e',rfl,q | q⟩ | ⟨p,_,q⟩
 ·exact hk e' q
 ·exact q.elim
 ·exact q.elim
theorem gQ.Af{R:β->Prop}{set:PV->af->M af}{body:af->M Out}{inj:γ->PV}{k:Out->M β}{xs:List γ}{env:af}(J:List γ->af->Prop)(h:J xs env)
  (H:∀ a r env,J (a::r) env->gQ (M.bind (set (inj a) env) body) (Tn (J r) (λe=>gQ (k (.nx e)) R) λp=>gQ (k (.rt p)) R)) (hk:∀ JT,J [] JT->gQ (k (.nx JT)) R):gQ (M.bind (iz set body (xs.map inj) env) k) R:=by
 obtain⟨o,e,q⟩:=gQ.vm J H xs env h
 rw[e,M.aO]
 rcases q with ⟨e',rfl,q | q⟩ | ⟨p,rfl,q⟩
 ·exact hk e' q
 ·exact q
 ·exact q
end
def GJ(i:Nat)(env:af)(xs:List PV)(p:PV):M Out:=if xs.length<sizeLine then M.ok (.nx (env.set i (some (.ow (xs++[p]))))) else none
theorem dQ(i:Nat)(f:af->M PV)(env:af):iw i f env=(ownAt i env).bind λxs=>(f env).bind λp=>GJ i env xs p:=by
 unfold iw ownAt
 rcases env[i]? with _ | _ | (_ | _ | _) <;> rfl
theorem dS{i:Nat}{env:af}{xs:List PV}{p:PV}(h:xs.length<1000):GJ i env xs p=M.ok (.nx (env.set i (some (.ow (xs++[p]))))):=if_pos (lz (Nat.le_of_lt h))
def sD(C:Addr)(m:Str)(sem:List PV->M PV)(p:PV)(x:M (List PV)):M PV:=match p with
 | .obj C' fl=>cO (C'=C/\fl.lookup m=none) (x.bind λps=>sem (.obj C' fl::ps))
 | _=>none
theorem bo(C:Addr)(m:Str)(sem:List PV->M PV)(g:af->M PV)(fs:af->M (List PV))(env:af):gG C m sem g fs env=(g env).bind λp=>sD C m sem p (fs env):=rfl
theorem lL{C:Addr}{m:Str}{sem:List PV->M PV}{fl:List (Str×PV)}{x:M (List PV)}(h:fl.lookup m=none):sD C m sem (.obj C fl) x=x.bind λps=>sem (.obj C fl::ps):=ax ⟨rfl,h⟩
def B6(ok:Addr->Bool)(f:Str)(p:PV):M PV:=match p with
 | .obj C fs=>cO (ok C=true) (eD (fs.lookup f))
 | _=>none
theorem gX(ok:Addr->Bool)(f:Str)(g:af->M PV)(env:af):iJ ok f g env=(g env).bind (B6 ok f):=rfl
theorem tV{ok:Addr->Bool}{f:Str}{C:Addr}{fs:List (Str×PV)}{x:PV}(h:ok C=true)(hl:fs.lookup f=some x):B6 ok f (.obj C fs)=M.ok x:=by
 show cO _ _=_
 rw[ax h,hl];rfl
theorem da(xs:List Int)(x:Int):xs.map PV.int++[.int x]=(xs++[x]).map PV.int:=by simp
end L2
namespace L2
open PySem PySem.Spec PyProof.Rows
theorem vE{α:Type}{f:α->PV}{p:PV}(xs:List α)(h:bO p=some (xs.map f)):ET [p]=M.ok (xs.zipIdx.map λz=>.tup [.int (z.2:Int),f z.1]):=by
 show IG p=_
 unfold IG
 rw[h]
 show M.ok (g9 _)=_
 rw[wY]
theorem zj(xs:List Int):ET [lI xs]=M.ok (xs.zipIdx.map λz=>.tup [.int (z.2:Int),.int z.1]):=vE xs rfl
theorem Bq{α:Type}{f:α->PV}(xs:List α):ET [.lst (xs.map f)]=M.ok (xs.zipIdx.map λz=>.tup [.int (z.2:Int),f z.1]):=vE xs rfl
theorem q_(f:af->M Out)(hs:List Hd)(env:af):xS f hs env=qJ (f env) λx=>iq hs x env:=rfl
theorem vY(o:Out)(k:EX->M Out):qJ (M.ok o) k=M.ok o:=Eq.trans rfl rfl
theorem ou(x:EX)(k:EX->M Out):qJ (some (.error x)) k=k x:=Eq.trans rfl rfl
theorem oQ(t:Addr->Option Bool)(o:Option Nat)(h:af->M Out)(r:List Hd)(x:EX)(env:af):iq ((t,o,h)::r) x env=rQ (t x.1) (nM o h x env) (iq r x env):=Eq.trans rfl rfl
theorem yM(x y:M Out):rQ (some true) x y=x:=Eq.trans rfl rfl
theorem sy(h:af->M Out)(x:EX)(env:af):nM none h x env=Am (h env):=Eq.trans rfl rfl
end L2
namespace L2
open PySem PySem.Spec PyProof.Rows
theorem Ja{α:Type}{us:List α}(h:us.length=1):∃ a,us=[a]:=by
 cases us with
 | nil=>cases h
 | cons a t=>cases t with
  | nil=>exact⟨a,rfl⟩
  | cons b t=>cases h
theorem ln2{α:Type}{us:List α}(h:us.length=2):∃ a b,us=[a,b]:=by
 cases us with
 | nil=>cases h
 | cons a t=>obtain⟨b,rfl⟩:=Ja (Nat.succ.inj h);exact⟨a,b,rfl⟩
theorem IV{α:Type}{us:List α}(h:us.length=3):∃ a b c,us=[a,b,c]:=by
 cases us with
 | nil=>cases h
 | cons a t=>obtain⟨b,c,rfl⟩:=ln2 (Nat.succ.inj h);exact⟨a,b,c,rfl⟩
theorem Jk{α:Type}{us:List α}(h:us.length=4):∃ a b c d,us=[a,b,c,d]:=by
 cases us with
 | nil=>cases h
 | cons a t=>obtain⟨b,c,d,rfl⟩:=IV (Nat.succ.inj h);exact⟨a,b,c,d,rfl⟩
theorem JI{α:Type}{us:List α}(h:us.length=5):∃ a b c d e,us=[a,b,c,d,e]:=by
 cases us with
 | nil=>cases h
 | cons a t=>obtain⟨b,c,d,e,rfl⟩:=Jk (Nat.succ.inj h);exact⟨a,b,c,d,e,rfl⟩
def vH(K:PySem.W.Frag):Bool:=K.all λp=>match p.2.cls with
 | .type t=>t != "list"
 | _=>true
theorem zr{K:PySem.W.Frag}(h:vH K=true){a:Addr}{o:Obj}(e:K.lookup a=some o):o.cls≠.type "list" := by
 induction K with
 | nil=>cases e
 | cons p r ih =>
  obtain⟨b,u⟩:=p
  rw[vH,List.all_cons,Bool.and_eq_true] at h
  rw[List.lookup_cons] at e
  cases q:a==b with
  | true =>
   rw[q] at e;cases e
   intro z
   have h1:=h.1
   simp only[z] at h1
   exact absurd h1 (by decide)
  | false=>rw[q] at e;exact ih h.2 e
theorem p6{H:Hp}:∀ ns:List Int,aH H (ns.map PV.int) (ns.map V.int)
 | []=>.nil
 | i::r=>.cons (.int i) (p6 r)
theorem uq{l:PySem.W.OpenLaw}{n k:Nat}{q:Program}{loose:List Str}{XP:(Str->Option Value)->Heap->Prop}{YP:World->Heap->Prop}{d:DefRec}{K:Params->PySem.W.Frag}{sem:List PV->M PV}{x:Str}
  (hn:l.most=some n) (MG:n<=sizeLine) (hdf:d.params.defaults=[]) (hr:bN k callerA)
  (hY:∀ (w:World) (h:Heap),YP w h->(K w.params).In h)
  (hK:∀ w:World,vH (K w.params)=true)
  (F:∀ (w:World) (mg:Str->Option Value) (fa:Addr) (h:Heap),(K w.params).In h->h.Ns mainGlobals mg->mg d.name=some (.ref fa) ->
   ∃ fd:FuncData,(∀ (s:Shared) (u:Value),BindsTo s fd ⟨[u],[]⟩ [(x,u)]) ∧
    ∀ base:Heap,(K w.params).In base->base.Ns mainGlobals mg->aF l.prog w (K w.params) mg base (bG l.prog w) k fa fd [x] (dh 1 sem))
  (MV:∀ ns:List Int,ns.length<=n->(∀ i∈ns,Builtin.Int.intBits i<=1048576)->sem [.jo (ns.map PV.int)]=M.ok (.bl true)) :
  PySem.W.WalkO q loose XP YP l.row.toRowW d [] (λf vs=>PySem.call f vs):=by
 intro w s₀ s₁ mg mb G Y fa o pm cd doc dV kV ho hd Lh hD hmg hg args vals as wL hlay hrd hwl hlo
 obtain rfl:dV=.none:=PySem.W.Dflts.none hD hdf
 obtain rfl:kV=.none:=PySem.W.Dflts.noKw hD
 obtain⟨a,vs,ns,rfl,rfl,hobj,hints,hlen⟩:=Att.vZ hn wL hwl
 have Ng:∀ i∈ns,Builtin.Int.intBits i<=1048576:=λi hi=>by
  have h1:=PySem.W.layableW_arg hlay _ (List.mem_singleton.mpr rfl)
  have h2:=PySem.W.layableW_item h1 (.int i) (List.mem_map.mpr ⟨i,hi,rfl⟩)
  exact intBits_le_of_layable h2
 have KX:=hY w _ Y
 obtain⟨fd,hb,hF⟩:=F w mg fa _ KX G.T.g hmg
 have hs:=MV ns hlen Ng
 refine PySem.W.enter_call (codeAny_mono (ye KX G.T.g G.T.b G.T.builtins G.T.nolimit hg hobj hints (Nat.le_trans hlen MG) hr hF hb (λH hO hS=>⟨rfl,H,[.jo (ns.map PV.int)],λ_ _ e=>e,?_,?_⟩) λH e s' z=>?_) λr s' hq=>?_)
 ·rcases hS with (hS | ⟨ob,hS⟩) | ⟨ob,JU,m,e1,e2,_⟩
  ·rcases hO a with z | ⟨ob,xs,z⟩
   ·rw[z] at hS;cases hS
   ·rw[z] at hS;cases hS
  ·exact .cons (.jo hS (p6 ns)) .nil
  ·exact absurd e2 (zr (hK w) e1)
 ·rw[hs]
  intro v JV H' g r
  cases r;rfl
 ·obtain⟨ea,T,C,dd,Hc,_,_,_,_,_,_,_,_,z⟩:=z;exact z
 ·obtain⟨rfl,h2,h3,h4⟩:=hq
  exact⟨.inl ⟨.bool true,.bool true,[],rfl,λ_=>rfl,.bool true,Att.wm l _,λ_=>⟨List.Pairwise.nil,λ_ hm=>(nomatch hm)⟩⟩,h2,h3,h4⟩
end L2
namespace L2
open PySem PySem.Spec PyProof.Rows
abbrev vW(x q:Str)(t:Stmt)(s:Value)(c:Addr):FuncData:=PySem.W.fnOf x q (gT t) (eX t) (aq t) .none .none .none s none (.ref c) .none
theorem aQ.of{K:PySem.W.Frag}{x q:Str}{t:Stmt}{dv kV doc pm:Value}{an:Option Addr}{Ka ct:Value}{f:Addr}(h1:K.lookup f=some ⟨.type "function", none,.func (PySem.W.fnOf x q (gT t) (eX t) (aq t) dv kV doc pm an Ka ct),⟨[]⟩⟩)(h2:PySem.W.codeIn K Ka q=true)(h3:PySem.W.keepIn K (.ref f)=true):aQ K x q t dv f (PySem.W.fnOf x q (gT t) (eX t) (aq t) dv kV doc pm an Ka ct):=⟨⟨_,_,_,_,_,_,_,_,_,rfl,h1,h2⟩,h3⟩
section
variable{α:Type}{P:List α->Prop}
theorem Jf(h:∀ a,P [a]):∀ us,us.length=1->P us:=λus hl=>by obtain⟨a,rfl⟩:=Ja hl;exact h a
theorem D8(h:∀ a b,P [a,b]):∀ us,us.length=2->P us:=λus hl=>by obtain⟨a,b,rfl⟩:=ln2 hl;exact h a b
theorem Ji(h:∀ a b c,P [a,b,c]):∀ us,us.length=3->P us:=λus hl=>by obtain⟨a,b,c,rfl⟩:=IV hl;exact h a b c
theorem Jh(h:∀ a b c d,P [a,b,c,d]):∀ us,us.length=4->P us:=λus hl=>by obtain⟨a,b,c,d,rfl⟩:=Jk hl;exact h a b c d
theorem IZ(h:∀ a b c d e,P [a,b,c,d,e]):∀ us,us.length=5->P us:=λus hl=>by obtain⟨a,b,c,d,e,rfl⟩:=JI hl;exact h a b c d e
theorem I_(h:∀ a b c d e f g,P [a,b,c,d,e,f,g]):∀ us,us.length=7->P us:=λus hl=>by
 match us,hl with
 | [a,b,c,d,e,f,g],_=>exact h a b c d e f g
end
theorem av.of{N P:List Str}{sc:Scope}(h1:sc.kind=.function:=by rfl)(h2:sc.isCoroutine=false:=by rfl)(h3:sc.isGenerator=false:=by rfl)(h4:N.Nodup:=by decide +kernel)(h5:N.take P.length=P:=by rfl)(h6:∀ x∈P,sc.names.lookup x=some .local\/sc.names.lookup x=some .cell:=by decide +kernel)(h7:∀ y∈sc.names,y.2≠.free:=by decide +kernel):av N P sc:=⟨h1,h2,h3,h4,h5,h6,h7⟩
theorem aN{X:Cx}{pos:Pos}{i:Nat}{x:Str}(hN:X.N.Nodup)(hi:X.N[i]?=some x:=by rfl)(hx:Loc X.env.scope x:=by first | exact .inl rfl | exact .inr rfl)(hf:X.fn x=true\/X.env.scope.names.lookup x=some .local:=by first | exact .inl rfl | exact .inr rfl):PG X (.Name x pos) (aI i):=AN hN hi hx hf
end L2
namespace L2
open PySem PySem.Spec PyProof.Rows
section
variable{K:PySem.W.Frag}{mg:Str->Option Value}{h:Heap}{x q:Str}{t:Stmt}{n m:Nat}{ps:List Str}{sem:List PV->M PV}{tO:List PV->M (List PV)}
theorem ig(P:Program)(w:World)(base:Heap)(X:K.In h)(G:h.Ns mainGlobals mg)(a c:Addr)(s:Value)(ok:aQ K x q t .none a (vW x q t s c)->aF P w K mg base (bG P w) n a (vW x q t s c) ps (dh m (aT m sem)))
  (h1:K.lookup a=some ⟨.type "function", none,.func (vW x q t s c),⟨[]⟩⟩:=by kernel_rfl) (h2:PySem.W.codeIn K (.ref c) q=true:=by kernel_rfl) (h3:PySem.W.keepIn K (.ref a)=true:=by kernel_rfl) (h4:PySem.W.nsIn K mainGlobals x=some (some (.ref a)):=by kernel_rfl)
  (h5:ps.length=m:=by rfl) (h6:Binds K (vW x q t s c) ps []:=by first | exact Binds.all (Jf λ_=>rfl) | exact Binds.all (D8 λ_ _=>rfl) | exact Binds.all (Ji λ_ _ _=>rfl) | exact Binds.all (Jh λ_ _ _ _=>rfl) | exact Binds.all (IZ λ_ _ _ _ _=>rfl) | exact Binds.all (bn6 λ_ _ _ _ _ _=>rfl) | exact Binds.all (I_ λ_ _ _ _ _ _ _=>rfl)):cF P w K mg base n x m sem :=
 ⟨⟨a,_,ps,PySem.W.mg_of X G h4,h3,h5,h6,ok (.of h1 h2 h3)⟩⟩
theorem wI(P:Program)(w:World)(base:Heap){C:Addr}(cc:ko K C)(a c:Addr)(s:Value)(ok:aQ K x q t .none a (vW x q t s c)->aF P w K mg base (bG P w) n a (vW x q t s c) ps (dh m (aT m sem)))
  (h1:K.lookup a=some ⟨.type "function", none,.func (vW x q t s c),⟨[]⟩⟩:=by kernel_rfl) (h2:PySem.W.codeIn K (.ref c) q=true:=by kernel_rfl) (h3:PySem.W.keepIn K (.ref a)=true:=by kernel_rfl) (h4:PySem.W.findIn K (.ref C) x=some (some (.ref a)):=by kernel_rfl) (h5:PySem.W.isFn K (.ref a)=true:=by kernel_rfl)
  (h6:Binds K (vW x q t s c) ps []:=by first | exact Binds.all (Jf λ_=>rfl) | exact Binds.all (D8 λ_ _=>rfl) | exact Binds.all (Ji λ_ _ _=>rfl) | exact Binds.all (Jh λ_ _ _ _=>rfl) | exact Binds.all (IZ λ_ _ _ _ _=>rfl) | exact Binds.all (bn6 λ_ _ _ _ _ _=>rfl) | exact Binds.all (I_ λ_ _ _ _ _ _ _=>rfl)):mD P w K mg base C n x m sem :=
 ⟨⟨a,_,ps,cc,⟨h4,h5,h3⟩,h6,ok (.of h1 h2 h3)⟩⟩
end
end L2
namespace HD
open PySem PySem.W L2
abbrev pw:Program:=PySem.Challenge.pw_dialvault_k21_papers_checked
noncomputable section
noncomputable def st(s:String)(t:Nat):Value:=.str (Str.ofString s) t
def en(P:Params)(s:String)(t:Nat)(v:Value):DictEntry:=⟨PyData.keyHash P (Str.ofString s),st s t,v⟩
def tu(xs:List Value):Obj:=⟨.type "tuple", none,.seq ⟨xs⟩ 0,⟨[]⟩⟩
def di(n:Nat)(es:List DictEntry):Obj:=⟨.type "dict", none,.dict ⟨es⟩ n,⟨[]⟩⟩
def tp(i:Nat):Stmt:=pw.main.body.getD i (.Pass ⟨0,0,0,0⟩)
def mp(i j:Nat):Stmt:=inClass (tp i) j
def co(a b:String)(t:Nat)(l n:Int)(x1 x2 x3 x4 x5:Nat)(u:Nat):Obj:=⟨.type "code", none,.fields ⟨[st a t,st b (t+1),st "/claim/cut.py" (t+2),.int l 0,.int n 0,.int 0 0,.int 0 0,.int 3 0,.ref x1,.bool true,.int 181 0,.ref x2,.none,.ref x3,.ref x4,.ref x5,.int u 0,.int l 0,st "/claim/cut.py" (u+1)]⟩,⟨[]⟩⟩
def ft(a b:String)(s:Stmt):Obj:=⟨.none,none,.func ⟨Str.ofString a,Str.ofString b,gT s,.stmts (eX s),aq s,0,[],.none,.none,.none,.none,none,.none,.none,0⟩,⟨[]⟩⟩
def fo(a b:String)(s:Stmt)(df pm:Value)(cd:Nat):Obj:=⟨.type "function", none,.func ⟨Str.ofString a,Str.ofString b,gT s,.stmts (eX s),aq s,3,[],df,.none,.none,pm,none,.ref cd,.none,0⟩,⟨[]⟩⟩
def Ek:List Obj->List Obj
 | []=>[]
 | [a]=>[a]
 | a::_::r=>a::Ek r
def bt:Nat->List Obj->BT
 | 0,_=>.nil
 | _+1,[]=>.nil
 | n+1,a::r=>.node a (bt n (Ek r)) (bt n (Ek (r.drop 1)))
def S(L:Params->List Obj)(n k:Nat)(w:World)(os:OsState):SharedT:=⟨bt 14 (L w.params),n,{},⟨[]⟩,⟨0,0,0,0⟩,k,os⟩
def F(L:Params->List Obj)(k:Nat)(w:World)(os:OsState):Shared:=⟨⟨⟨L w.params⟩,{}⟩,⟨[]⟩,⟨0,0,0,0⟩,k,os⟩
def cc(a:String)(t:Nat)(l:Int)(x y u:Nat):Obj:=⟨.type "code", none,.fields ⟨[st a t,st a (t+1),st "/claim/cut.py" (t+2),.int l 0,.int 0 0,.int 0 0,.int 0 0,.int 0 0,.ref x,.bool false,.int 181 0,.ref y,.none,.none,.none,.none,.int u 0,.int l 0,st "/claim/cut.py" (u+1)]⟩,⟨[]⟩⟩
def fr(a b:Nat)(s:String)(t:Nat):Obj:=⟨.type "frame", none,.plain,⟨[some (.ref a),some (.ref 3),some (.ref b),none,some (st s t),none,some (.ref 0)]⟩⟩
def su(a:Nat):Obj:=⟨.type "super", none,.fields ⟨[.ref a,.ref a,.ref a]⟩,⟨[]⟩⟩
def ii(a:Nat):Obj:=⟨.type "builtin_function_or_method", none,.fields ⟨[.builtin "object.__init_subclass__", .ref a]⟩,⟨[]⟩⟩
def GV:List Nat->List Value
 | a::b::c::r=>.int a 0::.int b 0::.ref c::GV r
 | _=>[]
def fi(xs:List Nat):Obj:=⟨.none,none,.fields ⟨GV xs⟩,⟨[]⟩⟩
def cl(n:Str)(bs ms:List Value)(k:Nat)(ss:List Value)(sl:List (Option Value)):Obj:=⟨.type "type", none,.cls ⟨n,bs,ms,k,n,true,[],ss,false,none,false⟩,⟨sl⟩⟩
def pt(L:List Obj)(us:List (Nat×Obj))(ns:List Obj):List Obj:=us.foldl (λl u=>l.set u.1 u.2) L++ns
abbrev b0:=boot_o_0
abbrev b1:=boot_o_1
abbrev b2:=boot_o_2
abbrev b3:=boot_o_3
abbrev b4:=boot_o_4
abbrev b5:=boot_o_5
abbrev b6:=boot_o_6
abbrev b7:=boot_o_7
abbrev b8:=boot_o_8
abbrev b9:=boot_o_9
abbrev JH:=boot_o_10
def m0:Value:=st "__main__" 164
def m1:Value:=st "dialvault.errors" 194
def m2:Value:=st "dialvault.wholes" 386
def m3:Value:=st "dialvault.vault" 428
def m4:Value:=st "dialvault.papers" 600
def m5:Value:=st "law_dialvault_k21_papers_checked" 750
def nl:List String->Nat->List Value
 | [],_=>[]
 | x::r,t=>st x t::nl r (t+1)
def fA(P:Params)(a t:Nat)(x q:String)(s:Stmt)(l n:Int)(vs:List String)(df pm:Value):List Obj:=[b7 P,b8 P,tu (nl vs (t+3)),b7 P,ft x q s,co x q t l n a (a+1) (a+2) (a+3) (a+4) (t+3+vs.length),fo x q s df pm (a+5)]
def fT(P:Params)(a t:Nat)(x:String)(s:Stmt)(l n:Int)(vs:List String)(pm:Value):List Obj:=fA P a t x x s l n vs .none pm
def fB(P:Params)(a t:Nat)(x q:String)(s:Stmt)(l n:Int)(df pm:Value):List Obj:=[b7 P,b8 P,ft x q s,⟨.type "code", none,.fields ⟨[st x t,st q (t+1),st "/claim/cut.py" (t+2),.int l 0,.int n 0,.int 0 0,.int 0 0,.int 3 0,.ref a,.bool true,.int 181 0,.ref (a+1),.none,.none,.none,.ref (a+2),.int (t+3) 0,.int l 0,st "/claim/cut.py" (t+4)]⟩,⟨[]⟩⟩,fo x q s df pm (a+3)]
def dB(P:Params)(n t:Nat)(m:Value)(l:Int)(r:List DictEntry):Obj:=di n (en P "__module__" t m::en P "__firstlineno__" (t+4) (.int l (t+3))::r)
def dA(P:Params)(n t:Nat)(m:Value)(x:String)(l:Int)(r:List DictEntry):Obj:=di n (en P "__module__" t m::en P "__qualname__" (t+2) (st x (t+1))::en P "__firstlineno__" (t+4) (.int l (t+3))::r)
def gw(t a:Nat):Obj:=⟨.type "getset_descriptor", none,.fields ⟨[st "__weakref__" t,.ref a,.builtin "ExceptionGroup.__weakref__", .none]⟩,⟨[]⟩⟩
def gd(t a:Nat):Obj:=⟨.type "getset_descriptor", none,.fields ⟨[st "__dict__" t,.ref a,.builtin "function.__dict__", .builtin "function.__dict__#set"]⟩,⟨[]⟩⟩
def ce(x:String)(b a k:Nat)(ss:List Value)(d t u:Nat):Obj:=cl x [.ref b] [.ref a,.ref b,.type "ValueError", .type "Exception", .type "BaseException", .type "object"] k ss [some (.ref d),none,some (st x t),some (st x u),some (.builtin "ValueError.__new__"),some (.bool true)]
def gl P:=[en P "__doc__" 166 .none,en P "__package__" 167 .none,en P "__loader__" 168 (.builtin "__main__.__loader__#opaque"),en P "__spec__" 169 .none,en P "__annotations__" 170 (.ref 6),en P "__builtins__" 171 (.ref 4),en P "__file__" 173 (st "/claim/cut.py" 172),en P "__cached__" 174 .none,en P "_wall" 193 (.ref 21),en P "VaultError" 220 (.ref 38),en P "NoDial" 252 (.ref 65),en P "NoLever" 284 (.ref 91),en P "NoPrice" 316 (.ref 117),en P "NoSetting" 339 (.ref 136),en P "NoPulls" 362 (.ref 155),en P "TooMany" 385 (.ref 174),en P "is_whole" 394 (.ref 183),en P "is_row" 400 (.ref 188),en P "common" 412 (.ref 195),en P "multiple_of" 421 (.ref 202),en P "rest_sum" 427 (.ref 207),en P "MOST_DIALS" 431 (.int 6 430),en P "LEAST_SIZE" 433 (.int 2 432),en P "MOST_SIZE" 435 (.int 360 434),en P "MOST_LEVERS" 437 (.int 8 436),en P "LEAST_PRICE" 439 (.int 1 438),en P "MOST_PRICE" 441 (.int 1000 440),en P "Vault" 499 (.ref 251),en P "is_within" 508 (.ref 262),en P "need_sizes" 517 (.ref 269),en P "need_levers" 527 (.ref 276),en P "prices_for" 536 (.ref 283),en P "rests" 542 (.ref 288),en P "is_setting" 548 (.ref 293),en P "is_pulls" 556 (.ref 300),en P "need_setting" 564 (.ref 307),en P "need_pulls" 572 (.ref 314),en P "added" 578 (.ref 319),en P "turned" 590 (.ref 326),en P "between" 599 (.ref 333),en P "weigh" 607 (.ref 338),en P "weighs_no_lever" 613 (.ref 343),en P "Paper" 657 (.ref 374),en P "Way" 706 (.ref 416),en P "Bar" 749 (.ref 449),en P "_law_cell" 759 (.ref 458),en P "_law_stream" 770 (.ref 465),en P "_law_digits" 781 (.ref 472),en P "_law_sizes" 787 (.ref 477),en P "_law_great" 794 (.ref 484),en P "_law_lever" 806 (.ref 491),en P "_law_levers" 817 (.ref 498),en P "_law_round" 828 (.ref 505),en P "_law_added" 834 (.ref 510),en P "_law_turned" 847 (.ref 517),en P "_law_weighed" 861 (.ref 524),en P "_law_setting" 867 (.ref 529),en P "_law_pulls" 873 (.ref 534),en P "_law_weights" 885 (.ref 541),en P "_law_spoilt" 893 (.ref 548),en P "_law_is_row" 902 (.ref 555),en P "_law_is_setting" 912 (.ref 562),en P "_law_way_due" 923 (.ref 569),en P "_law_bar_due" 935 (.ref 576),en P "_law_refused" 945 (.ref 583),en P "_law_unweighed" 954 (.ref 590),en P "_law_refuses" 965 (.ref 597),en P "_law_papers" 982 (.ref 604),en P "law" 1000 (.ref 611)]
def LA(P:Params):List Obj:=[b0 P,b1 P,b2 P,b3 P,b4 P,b5 P,b6 P,b7 P,b8 P,b9 P,JH P,b7 P,b8 P,cc "<module>" 182 1 11 12 185,fr 13 3 "__main__" 164]
def o9:Obj:=⟨.type "builtin_function_or_method", none,(.fields ⟨[.builtin "type.__prepare__", .type "type"]⟩),⟨[]⟩⟩
def JG:Obj:=gw 216 38
def Fq:=tu [.ref 38]
def L0 P:=pt (LA P) [(3,di 15 (en P "__name__" 165 m1::(gl P).take 14)),(12,fi [1,0,20,5,0,27,9,0,47,16,0,73,23,0,99,30,0,125])] (fT P 15 187 "_wall" (tp 0) 1 1 ["k"] m0++([tu [.type "ValueError"],o9,dA P 5 203 m1 "VaultError" 5 [en P "word" 214 (.ref 35),en P "__static_attributes__" 215 (.ref 36)],b7 P,fi [7,4,34],cc "VaultError" 198 5 25 26 201,fr 27 24 "dialvault.errors" 194]++(fA P 29 208 "word" "VaultError.word" (mp 2 0) 7 1 ["self"] .none m1++([b7 P,dB P 3 203 m1 5 [en P "word" 214 (.ref 35),en P "__static_attributes__" 215 (.ref 36),en P "__weakref__" 217 (.ref 39),en P "__doc__" 218 .none],cl "VaultError" [.type "ValueError"] [.ref 38,.type "ValueError", .type "Exception", .type "BaseException", .type "object"] 37 [.ref 65,.ref 91,.ref 117,.ref 136] [some (.ref 22),none,some (st "VaultError" 196),some (st "VaultError" 204),some (.builtin "ValueError.__new__"),some (.bool true)],JG,su 38,ii 38,Fq,o9,dA P 6 228 m1 "NoDial" 9 [en P "__init__" 240 (.ref 55),en P "word" 247 (.ref 62),en P "__static_attributes__" 249 (.ref 63)],b7 P,fi [11,4,54,14,4,61],cc "NoDial" 223 9 45 46 226,fr 47 44 "dialvault.errors" 194]++(fA P 49 233 "__init__" "NoDial.__init__" (mp 3 0) 11 2 ["self", "dial"] .none m1++(fA P 56 241 "word" "NoDial.word" (mp 3 1) 14 1 ["self"] .none m1++([tu [st "dial" 248],dB P 2 228 m1 9 [en P "__init__" 240 (.ref 55),en P "word" 247 (.ref 62),en P "__static_attributes__" 249 (.ref 63),en P "__doc__" 250 .none],ce "NoDial" 38 65 64 [] 42 221 229,su 65,ii 65,Fq,o9,dA P 6 260 m1 "NoLever" 16 [en P "__init__" 272 (.ref 81),en P "word" 279 (.ref 88),en P "__static_attributes__" 281 (.ref 89)],b7 P,fi [18,4,80,21,4,87],cc "NoLever" 255 16 71 72 258,fr 73 70 "dialvault.errors" 194]++(fA P 75 265 "__init__" "NoLever.__init__" (mp 4 0) 18 2 ["self", "lever"] .none m1++(fA P 82 273 "word" "NoLever.word" (mp 4 1) 21 1 ["self"] .none m1++([tu [st "lever" 280],dB P 2 260 m1 16 [en P "__init__" 272 (.ref 81),en P "word" 279 (.ref 88),en P "__static_attributes__" 281 (.ref 89),en P "__doc__" 282 .none],ce "NoLever" 38 91 90 [] 68 253 261,su 91,ii 91,Fq,o9,dA P 6 292 m1 "NoPrice" 23 [en P "__init__" 304 (.ref 107),en P "word" 311 (.ref 114),en P "__static_attributes__" 313 (.ref 115)],b7 P,fi [25,4,106,28,4,113],cc "NoPrice" 287 23 97 98 290,fr 99 96 "dialvault.errors" 194]++(fA P 101 297 "__init__" "NoPrice.__init__" (mp 5 0) 25 2 ["self", "lever"] .none m1++(fA P 108 305 "word" "NoPrice.word" (mp 5 1) 28 1 ["self"] .none m1++([tu [st "lever" 312],dB P 2 292 m1 23 [en P "__init__" 304 (.ref 107),en P "word" 311 (.ref 114),en P "__static_attributes__" 313 (.ref 115),en P "__doc__" 314 .none],ce "NoPrice" 38 117 116 [] 94 285 293,su 117,ii 117,Fq,o9,dA P 5 324 m1 "NoSetting" 30 [en P "word" 335 (.ref 133),en P "__static_attributes__" 336 (.ref 134)],b7 P,fi [32,4,132],cc "NoSetting" 319 30 123 124 322,fr 125 122 "dialvault.errors" 194]++(fA P 127 329 "word" "NoSetting.word" (mp 6 0) 32 1 ["self"] .none m1++([b7 P,dB P 2 324 m1 30 [en P "word" 335 (.ref 133),en P "__static_attributes__" 336 (.ref 134),en P "__doc__" 337 .none],ce "NoSetting" 38 136 135 [] 120 317 325,su 136,ii 136])))))))))))))))
def Ha:Obj:=gd 493 251
def Hw:Obj:=gw 495 251
def L1 P:=pt (L0 P) [(3,di 43 (en P "__name__" 165 m4::(gl P).take 42)),(12,fi [1,0,20,5,0,27,9,0,47,16,0,73,23,0,99,30,0,125,34,0,144,38,0,163,43,0,182,45,0,187,49,0,194,60,0,201,65,0,206,74,0,213,95,0,261,97,0,268,105,0,275,111,0,282,120,0,287,122,0,292,127,0,299,129,0,306,132,0,313,135,0,318,138,0,325,145,0,332,150,0,337,156,0,342]),(38,cl "VaultError" [.type "ValueError"] [.ref 38,.type "ValueError", .type "Exception", .type "BaseException", .type "object"] 37 [.ref 65,.ref 91,.ref 117,.ref 136,.ref 155,.ref 174] [some (.ref 22),none,some (st "VaultError" 196),some (st "VaultError" 204),some (.builtin "ValueError.__new__"),some (.bool true)])] ([Fq,o9,dA P 5 347 m1 "NoPulls" 34 [en P "word" 358 (.ref 152),en P "__static_attributes__" 359 (.ref 153)],b7 P,fi [36,4,151],cc "NoPulls" 342 34 142 143 345,fr 144 141 "dialvault.errors" 194]++(fA P 146 352 "word" "NoPulls.word" (mp 7 0) 36 1 ["self"] .none m1++([b7 P,dB P 2 347 m1 34 [en P "word" 358 (.ref 152),en P "__static_attributes__" 359 (.ref 153),en P "__doc__" 360 .none],ce "NoPulls" 38 155 154 [] 139 340 348,su 155,ii 155,Fq,o9,dA P 5 370 m1 "TooMany" 38 [en P "word" 381 (.ref 171),en P "__static_attributes__" 382 (.ref 172)],b7 P,fi [40,4,170],cc "TooMany" 365 38 161 162 368,fr 163 160 "dialvault.errors" 194]++(fA P 165 375 "word" "TooMany.word" (mp 8 0) 40 1 ["self"] .none m1++([b7 P,dB P 2 370 m1 38 [en P "word" 381 (.ref 171),en P "__static_attributes__" 382 (.ref 172),en P "__doc__" 383 .none],ce "TooMany" 38 174 173 [] 158 363 371,su 174,ii 174]++(fT P 177 388 "is_whole" (tp 10) 43 1 ["thing"] m2++(fB P 184 395 "is_row" "is_row" (tp 11) 45 2 .none m2++(fT P 189 401 "common" (tp 12) 49 2 ["one", "other", "row", "behind", "times", "rest"] m2++(fT P 196 413 "multiple_of" (tp 13) 60 1 ["numbers", "multiple", "number"] m2++(fB P 203 422 "rest_sum" "rest_sum" (tp 14) 65 3 .none m2++([b7 P,o9,dA P 9 449 m3 "Vault" 74 [en P "__init__" 459 (.ref 220),en P "sizes" 466 (.ref 227),en P "levers" 473 (.ref 234),en P "prices" 480 (.ref 241),en P "around" 487 (.ref 248),en P "__static_attributes__" 492 (.ref 249)],b7 P,fi [76,4,219,84,4,226,87,4,233,90,4,240,93,4,247],cc "Vault" 444 74 211 212 447,fr 213 210 "dialvault.vault" 428,tu [.none]]++(fB P 216 454 "__init__" "Vault.__init__" (mp 22 0) 76 4 (.ref 215) m3++(fA P 221 460 "sizes" "Vault.sizes" (mp 22 1) 84 1 ["self"] .none m3++(fA P 228 467 "levers" "Vault.levers" (mp 22 2) 87 1 ["self"] .none m3++(fA P 235 474 "prices" "Vault.prices" (mp 22 3) 90 1 ["self"] .none m3++(fA P 242 481 "around" "Vault.around" (mp 22 4) 93 1 ["self"] .none m3++([tu [st "dial_sizes" 488,st "least_round" 489,st "lever_prices" 490,st "lever_settings" 491],dB P 4 449 m3 74 [en P "__init__" 459 (.ref 220),en P "sizes" 466 (.ref 227),en P "levers" 473 (.ref 234),en P "prices" 480 (.ref 241),en P "around" 487 (.ref 248),en P "__static_attributes__" 492 (.ref 249),en P "__dict__" 494 (.ref 252),en P "__weakref__" 496 (.ref 253),en P "__doc__" 497 .none],cl "Vault" [.type "object"] [.ref 251,.type "object"] 250 [] [none,none,some (st "Vault" 442),some (st "Vault" 450),some (.builtin "object.__new__"),some (.bool true)],Ha,Hw,su 251,ii 251]++(fT P 256 500 "is_within" (tp 23) 95 3 ["thing", "least", "most"] m3++(fT P 263 509 "need_sizes" (tp 24) 97 1 ["sizes", "dial", "size"] m3++(fT P 270 518 "need_levers" (tp 25) 105 2 ["levers", "dials", "place", "lever"] m3++(fT P 277 528 "prices_for" (tp 26) 111 2 ["levers", "prices", "place"] m3++(fB P 284 537 "rests" "rests" (tp 27) 120 2 .none m3++(fB P 289 543 "is_setting" "is_setting" (tp 28) 122 2 .none m3++(fT P 294 549 "is_pulls" (tp 29) 127 2 ["vault", "thing"] m3++(fT P 301 557 "need_setting" (tp 30) 129 2 ["vault", "thing"] m3++(fT P 308 565 "need_pulls" (tp 31) 132 2 ["vault", "thing"] m3++(fB P 315 573 "added" "added" (tp 32) 135 4 .none m3++(fT P 320 579 "turned" (tp 33) 138 3 ["vault", "setting", "pulls", "reached", "lever", "times"] m3++(fT P 327 591 "between" (tp 34) 145 3 ["vault", "one", "other"] m3++(fB P 334 602 "weigh" "weigh" (tp 36) 150 3 .none m4++(fB P 339 608 "weighs_no_lever" "weighs_no_lever" (tp 37) 156 2 .none m4)))))))))))))))))))))))))))))))
def IT:Obj:=gd 651 374
def Hh:Obj:=gw 653 374
def GG:=tu [.ref 374]
def L2 P:=pt (L1 P) [(3,di 63 (en P "__name__" 165 m5::(gl P).take 62)),(12,fi [1,0,20,5,0,27,9,0,47,16,0,73,23,0,99,30,0,125,34,0,144,38,0,163,43,0,182,45,0,187,49,0,194,60,0,201,65,0,206,74,0,213,95,0,261,97,0,268,105,0,275,111,0,282,120,0,287,122,0,292,127,0,299,129,0,306,132,0,313,135,0,318,138,0,325,145,0,332,150,0,337,156,0,342,158,0,349,170,0,384,185,0,424,199,0,457,203,0,464,210,0,471,217,0,476,228,0,483,230,0,490,241,0,497,250,0,504,258,0,509,260,0,516,265,0,523,271,0,528,275,0,533,282,0,540,291,0,547,303,0,554,310,0,561])] ([b7 P,o9,dA P 7 621 m4 "Paper" 158 [en P "brings" 632 (.ref 357),en P "shows" 642 (.ref 364),en P "words" 649 (.ref 371),en P "__static_attributes__" 650 (.ref 372)],b7 P,fi [160,4,356,163,4,363,168,4,370],cc "Paper" 616 158 347 348 619,fr 349 346 "dialvault.papers" 600]++(fA P 351 626 "brings" "Paper.brings" (mp 38 0) 160 1 ["self"] .none m4++(fA P 358 633 "shows" "Paper.shows" (mp 38 1) 163 4 ["self", "vault", "one", "other"] .none m4++(fA P 365 643 "words" "Paper.words" (mp 38 2) 168 1 ["self"] .none m4++([b7 P,dB P 4 621 m4 158 [en P "brings" 632 (.ref 357),en P "shows" 642 (.ref 364),en P "words" 649 (.ref 371),en P "__static_attributes__" 650 (.ref 372),en P "__dict__" 652 (.ref 375),en P "__weakref__" 654 (.ref 376),en P "__doc__" 655 .none],cl "Paper" [.type "object"] [.ref 374,.type "object"] 373 [.ref 416,.ref 449] [none,none,some (st "Paper" 614),some (st "Paper" 622),some (.builtin "object.__new__"),some (.bool true)],IT,Hh,su 374,ii 374,GG,o9,dA P 8 665 m4 "Way" 170 [en P "__init__" 677 (.ref 392),en P "brings" 684 (.ref 399),en P "shows" 694 (.ref 406),en P "words" 701 (.ref 413),en P "__static_attributes__" 703 (.ref 414)],b7 P,fi [172,4,391,175,4,398,178,4,405,183,4,412],cc "Way" 660 170 382 383 663,fr 384 381 "dialvault.papers" 600]++(fA P 386 670 "__init__" "Way.__init__" (mp 39 0) 172 2 ["self", "pulls"] .none m4++(fA P 393 678 "brings" "Way.brings" (mp 39 1) 175 1 ["self"] .none m4++(fA P 400 685 "shows" "Way.shows" (mp 39 2) 178 4 ["self", "vault", "one", "other"] .none m4++(fA P 407 695 "words" "Way.words" (mp 39 3) 183 1 ["self"] .none m4++([tu [st "pulls" 702],dB P 2 665 m4 170 [en P "__init__" 677 (.ref 392),en P "brings" 684 (.ref 399),en P "shows" 694 (.ref 406),en P "words" 701 (.ref 413),en P "__static_attributes__" 703 (.ref 414),en P "__doc__" 704 .none],cl "Way" [.ref 374] [.ref 416,.ref 374,.type "object"] 415 [] [some (.ref 379),none,some (st "Way" 658),some (st "Way" 666),some (.builtin "object.__new__"),some (.bool true)],su 416,ii 416,GG,o9,dA P 7 714 m4 "Bar" 185 [en P "__init__" 726 (.ref 432),en P "shows" 737 (.ref 439),en P "words" 744 (.ref 446),en P "__static_attributes__" 746 (.ref 447)],b7 P,fi [187,4,431,190,4,438,196,4,445],cc "Bar" 709 185 422 423 712,fr 424 421 "dialvault.papers" 600]++(fA P 426 719 "__init__" "Bar.__init__" (mp 40 0) 187 2 ["self", "weights"] .none m4++(fA P 433 727 "shows" "Bar.shows" (mp 40 1) 190 4 ["self", "vault", "one", "other", "difference"] .none m4++(fA P 440 738 "words" "Bar.words" (mp 40 2) 196 1 ["self"] .none m4++([tu [st "weights" 745],dB P 2 714 m4 185 [en P "__init__" 726 (.ref 432),en P "shows" 737 (.ref 439),en P "words" 744 (.ref 446),en P "__static_attributes__" 746 (.ref 447),en P "__doc__" 747 .none],cl "Bar" [.ref 374] [.ref 449,.ref 374,.type "object"] 448 [] [some (.ref 419),none,some (st "Bar" 707),some (st "Bar" 715),some (.builtin "object.__new__"),some (.bool true)],su 449,ii 449]++(fT P 452 752 "_law_cell" (tp 42) 199 2 ["_law_script", "_law_k"] m5++(fT P 459 760 "_law_stream" (tp 43) 203 2 ["_law_cell_here", "_law_many", "_law_found", "_law_number", "_law_k"] m5++(fT P 466 771 "_law_digits" (tp 44) 210 2 ["_law_cell_here", "_law_bases", "_law_found", "_law_left", "_law_base"] m5++(fB P 473 782 "_law_sizes" "_law_sizes" (tp 45) 217 1 .none m5++(fT P 478 788 "_law_great" (tp 46) 228 1 ["_law_number"] m5++(fT P 485 795 "_law_lever" (tp 47) 230 2 ["_law_cell_here", "_law_sizes_here", "_law_row", "_law_number", "_law_size", "_law_share"] m5++(fT P 492 807 "_law_levers" (tp 48) 241 2 ["_law_script", "_law_sizes_here", "_law_levers_here", "_law_k", "_law_cell_here"] m5++(fT P 499 818 "_law_round" (tp 49) 250 1 ["_law_sizes_here", "_law_found", "_law_size", "_law_one", "_law_other"] m5++(fB P 506 829 "_law_added" "_law_added" (tp 50) 258 4 .none m5++(fT P 511 835 "_law_turned" (tp 51) 260 4 ["_law_sizes_here", "_law_levers_here", "_law_setting_here", "_law_pulls_here", "_law_found", "_law_row", "_law_times"] m5++(fT P 518 848 "_law_weighed" (tp 52) 265 3 ["_law_sizes_here", "_law_weights_here", "_law_setting_here", "_law_around", "_law_total", "_law_weight", "_law_notch", "_law_size"] m5++(fB P 525 862 "_law_setting" "_law_setting" (tp 53) 271 2 .none m5++(fB P 530 868 "_law_pulls" "_law_pulls" (tp 54) 275 2 .none m5++(fT P 535 874 "_law_weights" (tp 55) 282 2 ["_law_cell_here", "_law_sizes_here", "_law_found", "_law_number", "_law_size", "_law_share"] m5++(fT P 542 886 "_law_spoilt" (tp 56) 291 2 ["_law_row", "_law_cell_here"] m5++(fT P 549 894 "_law_is_row" (tp 57) 303 2 ["_law_thing", "_law_many", "_law_number"] m5++(fT P 556 903 "_law_is_setting" (tp 58) 310 2 ["_law_thing", "_law_sizes_here", "_law_number", "_law_size"] m5)))))))))))))))))))))))))))))))
def L3 P:=pt (L2 P) [(3,di 70 (en P "__name__" 165 m5::gl P)),(12,fi [1,0,20,5,0,27,9,0,47,16,0,73,23,0,99,30,0,125,34,0,144,38,0,163,43,0,182,45,0,187,49,0,194,60,0,201,65,0,206,74,0,213,95,0,261,97,0,268,105,0,275,111,0,282,120,0,287,122,0,292,127,0,299,129,0,306,132,0,313,135,0,318,138,0,325,145,0,332,150,0,337,156,0,342,158,0,349,170,0,384,185,0,424,199,0,457,203,0,464,210,0,471,217,0,476,228,0,483,230,0,490,241,0,497,250,0,504,258,0,509,260,0,516,265,0,523,271,0,528,275,0,533,282,0,540,291,0,547,303,0,554,310,0,561,317,0,568,319,0,575,326,0,582,332,0,589,338,0,596,342,0,603,358,0,610])] (fT P 563 913 "_law_way_due" (tp 59) 317 5 ["_law_sizes_here", "_law_levers_here", "_law_one", "_law_other", "_law_pulls_here"] m5++(fT P 570 924 "_law_bar_due" (tp 60) 319 5 ["_law_sizes_here", "_law_levers_here", "_law_one", "_law_other", "_law_weights_here", "_law_row"] m5++(fT P 577 936 "_law_refused" (tp 61) 326 4 ["_law_vault", "_law_paper", "_law_one", "_law_other"] m5++(fT P 584 946 "_law_unweighed" (tp 62) 332 3 ["_law_vault", "_law_weights_here", "_law_setting_here"] m5++(fT P 591 955 "_law_refuses" (tp 63) 338 4 ["_law_vault", "_law_paper", "_law_good", "_law_bad", "_law_found"] m5++(fT P 598 966 "_law_papers" (tp 64) 342 7 ["_law_vault", "_law_sizes_here", "_law_levers_here", "_law_one", "_law_other", "_law_pulls_here", "_law_weights_here", "_law_way", "_law_bar", "_law_plain", "_law_found"] m5++(fT P 605 983 "law" (tp 65) 358 1 ["_law_script", "_law_sizes_here", "_law_levers_here", "_law_vault", "_law_k", "_law_cell_here", "_law_one", "_law_pulls_here", "_law_other", "_law_weights_here", "_law_found", "_law_bad"] m5)))))))
def LF(P:Params):=L3 P
def bE:List Stmt:=behindTheImports pw
def env:Env:={ scope:=pw.main.scope,locals:=mainNs,globals:=mainNs,cells:=[],code:=.ref 13,frame:=some 14 }
def cE:Code:=.body bE env
abbrev B:List Frame:=[topFrame ⟨0,0,0,0⟩]
abbrev ann:Option Value:=(some (.ref 6))
def Fh:List Stmt:=(bE.drop 0).take 7
def D0:List Stmt:=(bE.drop 7).take 31
def Di:List Stmt:=(bE.drop 38).take 21
def DL:List Stmt:=(bE.drop 59).take 7
end
theorem wL:∀ w:World,(λos=>topGo treeTable pw w 11 ann 12 ⟨boot_heap w.params,⟨[]⟩,boot_drawn,boot_toks,os⟩ (topStub pw))=λos=>some (F LA 187 w os,⟨denote treeTable cE,cE,⟨0,0,0,0⟩,B⟩):=λw=>by
 rw[PySem.W.Fast.te15667345088766844465,PySem.W.Fast.te14364793385576792824,PySem.W.Fast.te11892475500146522536]
 kernel_rfl
theorem Hj:∀ w:World,(λos=>segRun treeTable pw w 11 ann 1 1 (F LA 187 w os) (blockOf bE env cE ⟨0,0,0,0⟩ B))=λos=>some (Flow.next,(S LA 15 187 w os).abs,cE,⟨0,0,0,0⟩):=λw=>by
 rw[PySem.W.Fast.te14374325043358763698,PySem.W.Fast.te14364793385576792824]
 kernel_rfl
theorem Jr:∀ w:World,(λos=>segRunT treeTable pw w 11 ann 1 1326 (S LA 15 187 w os) (piecesOf Fh env cE ⟨0,0,0,0⟩ B))=λos=>some (Flow.next,S L0 139 340 w os,cE,⟨30,0,33,16⟩):=λw=>by
 rw[PySem.W.Fast.te10110043849684766642,PySem.W.Fast.te14364793385576792824]
 kernel_rfl
theorem JN:∀ w:World,(λos=>segRunT treeTable pw w 11 ann 1 1470 (S L0 139 340 w os) (piecesOf D0 env cE ⟨30,0,33,16⟩ B))=λos=>some (Flow.next,S L1 344 614 w os,cE,⟨156,0,157,79⟩):=λw=>by
 rw[PySem.W.Fast.te10110043849684766642,PySem.W.Fast.te14364793385576792824]
 kernel_rfl
theorem CP:∀ w:World,(λos=>segRunT treeTable pw w 11 ann 1 1474 (S L1 344 614 w os) (piecesOf Di env cE ⟨156,0,157,79⟩ B))=λos=>some (Flow.next,S L2 563 913 w os,cE,⟨310,0,316,15⟩):=λw=>by
 rw[PySem.W.Fast.te10110043849684766642,PySem.W.Fast.te14364793385576792824]
 kernel_rfl
theorem JE:∀ w:World,(λos=>segRunT treeTable pw w 11 ann 1 243 (S L2 563 913 w os) (piecesOf DL env cE ⟨310,0,316,15⟩ B))=λos=>some (Flow.next,S L3 612 1001 w os,cE,⟨358,0,381,15⟩):=λw=>by
 rw[PySem.W.Fast.te10110043849684766642,PySem.W.Fast.te14364793385576792824]
 kernel_rfl
theorem DA:∀ w:World,(λos=>topRun treeTable pw w 11 ann 2 (S L3 612 1001 w os).abs ⟨doneF .next,cE,⟨358,0,381,15⟩,B⟩)=λos=>some (F LF 1001 w os):=λw=>by
 rw[PySem.W.Fast.te14082659384304107361,PySem.W.Fast.te14364793385576792824]
 kernel_rfl
theorem JR:bE=(Fh++(D0++(Di++(DL++[])))):=by kernel_rfl
theorem yd(w:World)(os:OsState):topRun treeTable pw w 11 ann (1326+(1470+(1474+(243+2)))) (S LA 15 187 w os).abs (restOf bE env cE ⟨0,0,0,0⟩ B)=some (F LF 1001 w os):=by
 rw[show restOf bE env cE ⟨0,0,0,0⟩ B=restOf (Fh++(D0++(Di++(DL++[])))) env cE ⟨0,0,0,0⟩ B from congrArg (λb=>restOf b env cE ⟨0,0,0,0⟩ B) JR]
 exact piece_app (segRun_of (congrFun (Jr w) os)) (piece_app (segRun_of (congrFun (JN w) os)) (piece_app (segRun_of (congrFun (CP w) os)) (piece_app (segRun_of (congrFun (JE w) os)) (piece_nil (congrFun (DA w) os)))))
theorem HM(w:World)(os:OsState):topRun treeTable pw w 11 ann (12+(1+(1326+(1470+(1474+(243+2)))))) ⟨boot_heap w.params,⟨[]⟩,boot_drawn,boot_toks,os⟩ (topStub pw)=some (F LF 1001 w os) :=
 go_top (congrFun (wL w) os) (piece_block (congrFun (Hj w) os) (yd w os))
end HD
namespace HD
open PySem PySem.W L2
noncomputable section
def vw:Program:=PySem.W.view pw [0,2,3,4,5,6,7,8,10,11,12,13,14,16,17,18,19,20,21,22,23,24,25,26,27,28,29,30,31,32,33,34,36,37,38,39,40,42,43,44,45,46,47,48,49,50,51,52,53,54,55,56,57,58,59,60,61,62,63,64,65]
def loose:List Str:=[]
noncomputable def as:List Addr:=[2,3,15,17,18,20,21,22,29,31,32,34,35,36,37,38,39,42,49,51,52,54,55,56,58,59,61,62,63,64,65,68,75,77,78,80,81,82,84,85,87,88,89,90,91,94,101,103,104,106,107,108,110,111,113,114,115,116,117,120,127,129,130,132,133,134,135,136,139,146,148,149,151,152,153,154,155,158,165,167,168,170,171,172,173,174,177,179,180,182,183,184,187,188,189,191,192,194,195,196,198,199,201,202,203,206,207,215,216,219,220,221,223,224,226,227,228,230,231,233,234,235,237,238,240,241,242,244,245,247,248,249,250,251,252,253,256,258,259,261,262,263,265,266,268,269,270,272,273,275,276,277,279,280,282,283,284,287,288,289,292,293,294,296,297,299,300,301,303,304,306,307,308,310,311,313,314,315,318,319,320,322,323,325,326,327,329,330,332,333,334,337,338,339,342,343,351,353,354,356,357,358,360,361,363,364,365,367,368,370,371,372,373,374,375,376,379,386,388,389,391,392,393,395,396,398,399,400,402,403,405,406,407,409,410,412,413,414,415,416,419,426,428,429,431,432,433,435,436,438,439,440,442,443,445,446,447,448,449,452,454,455,457,458,459,461,462,464,465,466,468,469,471,472,473,476,477,478,480,481,483,484,485,487,488,490,491,492,494,495,497,498,499,501,502,504,505,506,509,510,511,513,514,516,517,518,520,521,523,524,525,528,529,530,533,534,535,537,538,540,541,542,544,545,547,548,549,551,552,554,555,556,558,559,561,562,563,565,566,568,569,570,572,573,575,576,577,579,580,582,583,584,586,587,589,590,591,593,594,596,597,598,600,601,603,604,605,607,608,610,611]
def K(P:Params):Frag:=as.map λa=>(a,(LF P).getD a (su 0))
def hook:Hook:=kHook K as (λ_=>by kernel_rfl)
abbrev rr:RowW:=(PySem.Challenge.rw_dialvault_k21_papers_checked.row).toRowW
def Xt:Shared->Bool:=λs=>xlAt vw [] s&&recOk (RowW.records rr) s
def H1(P:Params):Heap:=⟨⟨LF P⟩,{}⟩
end
theorem F0:∀ w:World,((boot_heap w.params).isNs mainGlobals&&(Array.mk []:Array GenState).size==0,(boot_heap w.params).objs.size,(boot_heap w.params).nsMap mainGlobals "__annotations__")=(true,11,ann):=λw=>by
 rw[PySem.W.Fast.te8920871248978507458]
 kernel_rfl
theorem JF(w:World):staticsOk (importedModules pw.main.body) (boot_heap w.params) (H1 w.params)=true:=by
 first | (rw[PySem.W.Fast.te4187177175401517315,PySem.W.Fast.te5923862056798008813];kernel_rfl) | (rw[PySem.W.Fast.te4187177175401517315];kernel_rfl) | (rw[PySem.W.Fast.te5923862056798008813];kernel_rfl) | (kernel_rfl)
theorem JD(w:World):namesBound pw (H1 w.params)=true:=by
 first | (rw[PySem.W.Fast.te4187177175401517315,PySem.W.Fast.te5923862056798008813];kernel_rfl) | (rw[PySem.W.Fast.te4187177175401517315];kernel_rfl) | (rw[PySem.W.Fast.te5923862056798008813];kernel_rfl) | (kernel_rfl)
theorem JM(w:World)(os:_):gensDone ⟨H1 w.params,⟨[]⟩,⟨0,0,0,0⟩,1001,os⟩=true:=by
 first | (rw[PySem.W.Fast.te4187177175401517315,PySem.W.Fast.te5923862056798008813];kernel_rfl) | (rw[PySem.W.Fast.te4187177175401517315];kernel_rfl) | (rw[PySem.W.Fast.te5923862056798008813];kernel_rfl) | (kernel_rfl)
theorem JA(w:World):laidKept (boot_heap w.params) (H1 w.params)=true:=by
 first | (rw[PySem.W.Fast.te4187177175401517315,PySem.W.Fast.te5923862056798008813];kernel_rfl) | (rw[PySem.W.Fast.te4187177175401517315];kernel_rfl) | (rw[PySem.W.Fast.te5923862056798008813];kernel_rfl) | (kernel_rfl)
theorem JL(w:World)(os:_):openSeen vw loose (importedModules pw.main.body) Xt true ⟨H1 w.params,⟨[]⟩,⟨0,0,0,0⟩,1001,os⟩=openGood vw loose:=by
 first | (rw[PySem.W.Fast.te4187177175401517315,PySem.W.Fast.te5923862056798008813];kernel_rfl) | (rw[PySem.W.Fast.te4187177175401517315];kernel_rfl) | (rw[PySem.W.Fast.te5923862056798008813];kernel_rfl) | (kernel_rfl)
theorem Jz(w:World)(os:_):Hook.obs hook ⟨H1 w.params,⟨[]⟩,⟨0,0,0,0⟩,1001,os⟩=Hook.val hook w:=by
 first | (rw[PySem.W.Fast.te4187177175401517315,PySem.W.Fast.te5923862056798008813];kernel_rfl) | (rw[PySem.W.Fast.te4187177175401517315];kernel_rfl) | (rw[PySem.W.Fast.te5923862056798008813];kernel_rfl) | (kernel_rfl)
theorem EV:∀ w:World,(λos=>((staticsOk (importedModules pw.main.body) (boot_heap w.params) (H1 w.params)&&namesBound pw (H1 w.params)&&gensDone ⟨H1 w.params,⟨[]⟩,⟨0,0,0,0⟩,1001,os⟩&&laidKept (boot_heap w.params) (H1 w.params)),
  openSeen vw loose (importedModules pw.main.body) Xt true ⟨H1 w.params,⟨[]⟩,⟨0,0,0,0⟩,1001,os⟩,Hook.obs hook ⟨H1 w.params,⟨[]⟩,⟨0,0,0,0⟩,1001,os⟩))=λ_=>(true,openGood vw loose,Hook.val hook w):=λw=>funext λos=>by
 rw[JF,JD,JM,JA,JL,Jz];rfl
theorem F8:LeftO pw vw loose Xt (Hook.obs hook) (Hook.val hook) 9144 :=
 LeftO.of_pieces (H₀:=boot_heap) (H₁:=H1) (gs₀:=⟨[]⟩) (gs₁:=⟨[]⟩) (d₀:=boot_drawn) (d₁:=⟨0,0,0,0⟩) (k₀:=boot_toks) (k₁:=1001) (m₀:=11) (ann:=ann) (M:=(12+(1+(1326+(1470+(1474+(243+2)))))))
  (boot_open (by kernel_rfl) (by kernel_rfl) (λs=>by kernel_rfl)) F0 HM (by kernel_rfl) EV
end HD
open PySem PySem.W
theorem HD.said:PySem.Challenge.rw_dialvault_k21_papers_checked.wellSaid=true:=by
 decide +kernel
namespace tY
open PySem L2 PyProof.Rows
def aM:Addr:=449
def gu:Addr:=65
def gk:Addr:=91
def eK:Addr:=117
def jC:Addr:=155
def aU:Addr:=136
def aG:Addr:=374
def il:Addr:=174
def aC:Addr:=251
def aP:Addr:=416
def dM:List Addr:=[aU]
def dN:List Addr:=[gu,gk,eK,jC,il]
def qM:List Addr:=[]
def rJ:List Addr:=[]
def k_:List Addr:=[aM]
def lB:List Addr:=[aG,aC,aP]
def iv:List Addr:=[]
def iy:List Addr:=[]
def dz:List Addr:=[aM,aG,aP]
def dw:List Addr:=[aC]
def rN:List Addr:=[]
def qU:List Addr:=[]
def lA:List Addr:=[aP]
def lj:List Addr:=[aM,aG,aC]
def iF:af->M Out :=
 (ao (retS (pN (o_ (λa=>i6 a "int") ka ka (ae 0)) (B5 (o_ (λa=>i6 a "bool") ka ka (ae 0)))))
 aj)
def dE:List PV->M PV:=aT 1 (ay 1 iF)
def ip:af->M Out :=
 (ao (gm (qL (gf (cf (o_ (λa=>["list", "tuple"].any λt=>i6 a t) ka ka (ae 0)))) (cf (ai tZ (ah gb (aa (ae 0) ar)) (ae 1)))) (ao (retS (λ_=>M.ok (.bl false)))
 aj) aj)
 (ao (retS (ah pT (aa (gO (fI (itemsOf (ae 0)) (dH 0) none (ah dE (aa (ae 0) ar)) 1 [])) ar)))
 aj))
def dU:List PV->M PV:=aT 2 (ay 2 ip)
def kX:af->M Out :=
 (ao (bp 2 (i9 (aa (ae 0) (aa (λ_=>M.ok (.int 1)) (aa (λ_=>M.ok (.int 0)) ar)))))
 (ao (bp 3 (i9 (aa (ae 1) (aa (λ_=>M.ok (.int 0)) (aa (λ_=>M.ok (.int 1)) ar)))))
 (ao (kc (cf (ai tZ (ai br (ae 3) (λ_=>M.ok (.int 0))) (λ_=>M.ok (.int 0)))) (ao (bp 4 (ai bj (ai br (ae 2) (λ_=>M.ok (.int 0))) (ai br (ae 3) (λ_=>M.ok (.int 0)))))
 (ao (bp 5 (i9 (aa (ai iK (ai br (ae 2) (λ_=>M.ok (.int 0))) (ai bV (ae 4) (ai br (ae 3) (λ_=>M.ok (.int 0))))) (aa (ai iK (ai br (ae 2) (λ_=>M.ok (.int 1))) (ai bV (ae 4) (ai br (ae 3) (λ_=>M.ok (.int 1))))) (aa (ai iK (ai br (ae 2) (λ_=>M.ok (.int 2))) (ai bV (ae 4) (ai br (ae 3) (λ_=>M.ok (.int 2))))) ar)))))
 (ao (bp 2 (ae 3))
 (ao (bp 3 (ae 5))
 aj)))))
 (ao (gm (cf (ai Aq (ai br (ae 2) (λ_=>M.ok (.int 0))) (λ_=>M.ok (.int 0)))) (ao (retS (i9 (aa (n6 (ai br (ae 2) (λ_=>M.ok (.int 0)))) (aa (n6 (ai br (ae 2) (λ_=>M.ok (.int 1)))) (aa (n6 (ai br (ae 2) (λ_=>M.ok (.int 2)))) ar)))))
 aj) aj)
 (ao (retS (ae 2))
 aj)))))
def kQ:List PV->M PV:=aT 2 (ay 6 kX)
def eR:af->M Out :=
 (ao (bp 1 (λ_=>M.ok (.int 1)))
 (ao (ib (itemsOf (ae 0)) (dH 2) (ao (bp 1 (ai bV (ai bj (ae 1) (ai br (ah kQ (aa (ae 1) (aa (ae 2) ar))) (λ_=>M.ok (.int 0)))) (ae 2)))
 aj))
 (ao (retS (ae 1))
 aj)))
def eY:List PV->M PV:=aT 1 (ay 3 eR)
def iB:af->M Out :=
 (ao (retS (ai bB (ah w_ (aa (gO (fI (mW zip2 (aa (ae 0) (aa (ae 1) ar))) (bx 0 1) none (ai bV (ae 0) (ae 1)) 2 [])) ar)) (ae 2)))
 aj)
def iE:List PV->M PV:=aT 3 (ay 3 iB)
def ff:af->M Out :=
 (ao (retS (pN (ah dE (aa (ae 0) ar)) (j5 AO AO (ae 1) (ae 0) (ae 2))))
 aj)
def fm:List PV->M PV:=aT 3 (ay 3 ff)
def fP:af->M Out :=
 (ao (gm (cf (ai Fu (ah gb (aa (ae 0) ar)) (λ_=>M.ok (.int 6)))) (ao (jf il (aa (λ_=>M.ok (.str "a vault has at most six dials")) ar))
 aj) aj)
 (ao (gm (cf (ai jS (ah gb (aa (ae 0) ar)) (λ_=>M.ok (.int 0)))) (ao (ja gu "dial" (aa (λ_=>M.ok (.int 0)) ar))
 aj) aj)
 (ao (ib (mW ET (aa (ae 0) ar)) (bx 1 2) (ao (gm (gf (cf (ah fm (aa (ae 2) (aa (λ_=>M.ok (.int 2)) (aa (λ_=>M.ok (.int 360)) ar)))))) (ao (ja gu "dial" (aa (ae 1) ar))
 aj) aj)
 aj))
 aj)))
def f6:List PV->M PV:=aT 1 (ay 3 fP)
def eT:af->M Out :=
 (ao (gm (cf (ai Fu (ah gb (aa (ae 0) ar)) (λ_=>M.ok (.int 8)))) (ao (jf il (aa (λ_=>M.ok (.str "a vault has at most eight levers")) ar))
 aj) aj)
 (ao (ib (mW ET (aa (ae 0) ar)) (bx 2 3) (ao (gm (gf (cf (ah dU (aa (ae 3) (aa (ae 1) ar))))) (ao (ja gk "lever" (aa (ae 2) ar))
 aj) aj)
 aj))
 aj))
def eW:List PV->M PV:=aT 2 (ay 4 eT)
def fY:af->M Out :=
 (ao (gm (cf (ai z9 (ae 1) (λ_=>M.ok .bZ))) (ao (retS (ai bV (i9 (aa (λ_=>M.ok (.int 1)) ar)) (ah gb (aa (ae 0) ar))))
 aj) aj)
 (ao (ib (mW uR (aa (ah (CZ λi j=>if j>i then j else i) (aa (ah gb (aa (ae 0) ar)) (aa (ah gb (aa (ae 1) ar)) ar))) ar)) (dH 2) (ao (gm (qL (cf (ai ES (ae 2) (ah gb (aa (ae 0) ar)))) (cf (ai ES (ae 2) (ah gb (aa (ae 1) ar))))) (ao (ja eK "lever" (aa (ae 2) ar))
 aj) aj)
 (ao (gm (gf (cf (ah fm (aa (ai br (ae 1) (ae 2)) (aa (λ_=>M.ok (.int 1)) (aa (λ_=>M.ok (.int 1000)) ar)))))) (ao (ja eK "lever" (aa (ae 2) ar))
 aj) aj)
 aj)))
 (ao (retS (ah dk (aa (ae 1) ar)))
 aj)))
def fL:List PV->M PV:=aT 2 (ay 3 fY)
def kY:af->M Out :=
 (ao (retS (ah dk (aa (gO (fI (mW zip2 (aa (ae 0) (aa (ae 1) ar))) (bx 0 1) none (ai bB (ae 0) (ae 1)) 2 [])) ar)))
 aj)
def jH:List PV->M PV:=aT 2 (ay 2 kY)
def fu:af->M Out :=
 (ao (gm (cf (ai Aq (ae 1) (ah gb (aa (ae 0) ar)))) (ao (retS (ai br (ae 0) (ae 1)))
 aj) aj)
 (ao (retS (λ_=>M.ok (.int 0)))
 aj))
def cq:List PV->M PV:=aT 2 (ay 2 fu)
def bK:af->M Out :=
 (ao (pd 2 (jh ar))
 (ao (bp 3 (ai cD (ai bB (ae 0) (λ_=>M.ok (.int 2147483629))) (λ_=>M.ok (.int 17))))
 (ao (ib (mW uR (aa (ae 1) ar)) (dH 4) (ao (bp 3 (ai bB (ai cD (ai cD (ai bV (ae 3) (λ_=>M.ok (.int 48271))) (ai bV (λ_=>M.ok (.int 7919)) (ae 4))) (λ_=>M.ok (.int 1))) (λ_=>M.ok (.int 2147483647))))
 (ao (iw 2 (ai bj (ae 3) (λ_=>M.ok (.int 5))))
 aj)))
 (ao (ph [2] (retS (ae 2)))
 aj))))
def bJ:List PV->M PV:=aT 2 (ay 5 bK)
def bW:af->M Out :=
 (ao (pd 2 (jh ar))
 (ao (bp 3 (ae 0))
 (ao (ib (itemsOf (ae 1)) (dH 4) (ao (iw 2 (ai bB (ae 3) (ae 4)))
 (ao (bp 3 (ai bj (ae 3) (ae 4)))
 aj)))
 (ao (ph [2] (retS (ae 2)))
 aj))))
def bX:List PV->M PV:=aT 2 (ay 5 bW)
def f7:af->M Out :=
 (ao (bp 1 (ai cD (λ_=>M.ok (.int 1)) (ai bB (ai bj (ae 0) (λ_=>M.ok (.int 2))) (λ_=>M.ok (.int 6)))))
 (ao (gm (cf (ai jS (ai bB (ae 0) (λ_=>M.ok (.int 2))) (λ_=>M.ok (.int 1)))) (ao (retS (gO (fI (itemsOf (ah bX (aa (ai bj (ae 0) (λ_=>M.ok (.int 12))) (aa (ai bV (i8 (aa (λ_=>M.ok (.int 359)) ar)) (ae 1)) ar)))) (dH 0) none (ai cD (λ_=>M.ok (.int 2)) (ae 0)) 1 [])))
 aj) aj)
 (ao (pd 2 (jh ar))
 (ao (ib (itemsOf (ah bJ (aa (ai bj (ae 0) (λ_=>M.ok (.int 12))) (aa (ae 1) ar)))) (dH 3) (ao (gm (cf (ai jS (ai bB (ai bj (ae 0) (λ_=>M.ok (.int 12))) (λ_=>M.ok (.int 2))) (λ_=>M.ok (.int 0)))) (ao (iw 2 (ai br (λ_=>M.ok (.lst (([2,3,4,6,8,9,12,16,24,27,32,36,64,72,81,128,243,256,360]:List Int).map PV.int))) (ai bB (ae 3) (λ_=>M.ok (.int 19)))))
 aj) (ao (iw 2 (ai bV (λ_=>M.ok (.int 12)) (ai cD (λ_=>M.ok (.int 1)) (ai bB (ae 3) (λ_=>M.ok (.int 30))))))
 aj))
 aj))
 (ao (ph [2] (retS (ae 2)))
 aj)))))
def fZ:List PV->M PV:=aT 1 (ay 4 f7)
def dJ:af->M Out :=
 (ao (retS (ai iK (ai bB (ai bV (ae 0) (λ_=>M.ok (.int 618033988749894848204586834365))) (ai iK (ai bV (λ_=>M.ok (.int 2)) (ai rX (λ_=>M.ok (.int 10)) (λ_=>M.ok (.int 30)))) (λ_=>M.ok (.int 1)))) (ai iK (ai rX (λ_=>M.ok (.int 10)) (λ_=>M.ok (.int 30))) (λ_=>M.ok (.int 1)))))
 aj)
def dR:List PV->M PV:=aT 1 (ay 1 dJ)
def fN:af->M Out :=
 (ao (pd 2 (jh ar))
 (ao (ib (mW zip2 (aa (ah bJ (aa (ae 0) (aa (ah gb (aa (ae 1) ar)) ar))) (aa (ae 1) ar))) (bx 3 4) (ao (gm (cf (ai jS (ai bB (ae 3) (λ_=>M.ok (.int 4))) (λ_=>M.ok (.int 0)))) (ao (iw 2 (ah dR (aa (ai bj (ae 3) (λ_=>M.ok (.int 4))) ar)))
 aj) (ao (gm (cf (ai jS (ai bB (ae 3) (λ_=>M.ok (.int 4))) (λ_=>M.ok (.int 1)))) (ao (iw 2 (λ_=>M.ok (.int 0)))
 aj) (ao (bp 5 (ai br (λ_=>M.ok (.lst (([1,1,2,3,4,6,12]:List Int).map PV.int))) (ai bB (ai bj (ae 3) (λ_=>M.ok (.int 4))) (λ_=>M.ok (.int 7)))))
 (ao (iw 2 (ai bB (ai bV (ai bB (ai bj (ae 3) (λ_=>M.ok (.int 28))) (ae 4)) (ae 5)) (ae 4)))
 aj)))
 aj))
 aj))
 (ao (ph [2] (retS (ae 2)))
 aj)))
def f9:List PV->M PV:=aT 2 (ay 6 fN)
def e8:af->M Out :=
 (ao (pd 2 (jh ar))
 (ao (ib (mW uR (aa (ai bB (ah cq (aa (ae 0) (aa (λ_=>M.ok (.int 1)) ar))) (λ_=>M.ok (.int 9))) ar)) (dH 3) (ao (bp 4 (ah cq (aa (ae 0) (aa (ai cD (λ_=>M.ok (.int 2)) (ae 3)) ar))))
 (ao (gm (cf (ai jS (ai bB (ai bj (ah cq (aa (ae 0) (aa (λ_=>M.ok (.int 1)) ar))) (λ_=>M.ok (.int 9))) (λ_=>M.ok (.int 2))) (λ_=>M.ok (.int 1)))) (ao (iw 2 (ah bX (aa (ae 4) (aa (ae 1) ar))))
 aj) (ao (iw 2 (ah f9 (aa (ai cD (ae 4) (ai bV (λ_=>M.ok (.int 7919)) (ae 3))) (aa (ae 1) ar))))
 aj))
 aj)))
 (ao (ph [2] (retS (ae 2)))
 aj)))
def e6:List PV->M PV:=aT 2 (ay 5 e8)
def gc:af->M Out :=
 (ao (bp 1 (λ_=>M.ok (.int 1)))
 (ao (ib (itemsOf (ae 0)) (dH 2) (ao (zS 3 4 (aa (ae 1) (aa (ae 2) ar)))
 (ao (kc (cf (ai tZ (ae 4) (λ_=>M.ok (.int 0)))) (ao (zS 3 4 (aa (ae 4) (aa (ai bB (ae 3) (ae 4)) ar)))
 aj))
 (ao (bp 1 (ai bV (ai bj (ae 1) (ae 3)) (ae 2)))
 aj))))
 (ao (retS (ae 1))
 aj)))
def gg:List PV->M PV:=aT 1 (ay 5 gc)
def dg:af->M Out :=
 (ao (retS (ah dk (aa (gO (fI (mW u7 (aa (ae 1) (aa (ae 2) (aa (ae 0) ar)))) (mh 0 1 2) none (ai bB (ai cD (ae 0) (ai bV (ae 3) (ae 1))) (ae 2)) 3 [3])) ar)))
 aj)
def cw:List PV->M PV:=aT 4 (ay 4 dg)
def dq:af->M Out :=
 (ao (bp 4 (ah dk (aa (ae 2) ar)))
 (ao (ib (mW zip2 (aa (ae 1) (aa (ae 3) ar))) (bx 5 6) (ao (bp 4 (ah cw (aa (ae 0) (aa (ae 4) (aa (ae 5) (aa (ae 6) ar))))))
 aj))
 (ao (retS (ae 4))
 aj)))
def cA:List PV->M PV:=aT 4 (ay 7 dq)
def cV:af->M Out :=
 (ao (bp 3 (ah gg (aa (ae 0) ar)))
 (ao (bp 4 (λ_=>M.ok (.int 0)))
 (ao (ib (mW u7 (aa (ae 1) (aa (ae 2) (aa (ae 0) ar)))) (mh 5 6 7) (ao (bp 4 (ai cD (ae 4) (ai bV (ai bV (ae 5) (ae 6)) (ai bj (ae 3) (ae 7)))))
 aj))
 (ao (retS (ai bB (ae 4) (ae 3)))
 aj))))
def bM:List PV->M PV:=aT 3 (ay 8 cV)
def dX:af->M Out :=
 (ao (gm (cf (ai jS (ai bB (ae 0) (λ_=>M.ok (.int 2))) (λ_=>M.ok (.int 1)))) (ao (retS (ah dk (aa (ah bX (aa (ai bj (ae 0) (λ_=>M.ok (.int 2))) (aa (ae 1) ar))) ar)))
 aj) aj)
 (ao (retS (ah dk (aa (gO (fI (mW zip2 (aa (ah bJ (aa (ai bj (ae 0) (λ_=>M.ok (.int 2))) (aa (ah gb (aa (ae 1) ar)) ar))) (aa (ae 1) ar))) (bx 0 1) none (ai bB (ae 0) (ae 1)) 2 [])) ar)))
 aj))
def c8:List PV->M PV:=aT 2 (ay 2 dX)
def fX:af->M Out :=
 (ao (gm (cf (ai jS (ai bB (ae 0) (λ_=>M.ok (.int 2))) (λ_=>M.ok (.int 1)))) (ao (retS (ah dk (aa (gO (fI (itemsOf (ah bX (aa (ai bj (ae 0) (λ_=>M.ok (.int 2))) (aa (ai bV (i8 (aa (ai iK (ai bV (λ_=>M.ok (.int 2)) (ai rX (λ_=>M.ok (.int 10)) (λ_=>M.ok (.int 30)))) (λ_=>M.ok (.int 1))) ar)) (ae 1)) ar)))) (dH 0) none (ai iK (ae 0) (ai iK (ai rX (λ_=>M.ok (.int 10)) (λ_=>M.ok (.int 30))) (λ_=>M.ok (.int 1)))) 1 [])) ar)))
 aj) aj)
 (ao (pd 2 (jh ar))
 (ao (ib (itemsOf (ah bJ (aa (ai bj (ae 0) (λ_=>M.ok (.int 2))) (aa (ae 1) ar)))) (dH 3) (ao (iw 2 (ai br (i8 (aa (ai iK (ai bB (ai bj (ae 3) (λ_=>M.ok (.int 2))) (λ_=>M.ok (.int 9))) (λ_=>M.ok (.int 4))) (aa (ah dR (aa (ai bj (ae 3) (λ_=>M.ok (.int 2))) ar)) ar))) (ai bB (ae 3) (λ_=>M.ok (.int 2)))))
 aj))
 (ao (ph [2] (retS (ah dk (aa (ae 2) ar))))
 aj))))
def fW:List PV->M PV:=aT 2 (ay 4 fX)
def ez:af->M Out :=
 (ao (pd 2 (jh ar))
 (ao (ib (mW zip2 (aa (ah bJ (aa (ai bj (ae 0) (λ_=>M.ok (.int 2))) (aa (ah gb (aa (ae 1) ar)) ar))) (aa (ae 1) ar))) (bx 3 4) (ao (gm (cf (ai jS (ai bB (ae 0) (λ_=>M.ok (.int 2))) (λ_=>M.ok (.int 0)))) (ao (iw 2 (ai bB (ae 3) (ae 4)))
 aj) (ao (bp 5 (ai br (λ_=>M.ok (.lst (([1,2,3,4,6]:List Int).map PV.int))) (ai bB (ae 3) (λ_=>M.ok (.int 5)))))
 (ao (iw 2 (ai bB (ai bV (ah p8 (aa (ai jS (ai bB (ae 4) (ae 5)) (λ_=>M.ok (.int 0))) ar)) (ai bj (ae 4) (ae 5))) (ae 4)))
 aj)))
 aj))
 (ao (ph [2] (retS (ah dk (aa (ae 2) ar))))
 aj)))
def d_:List PV->M PV:=aT 2 (ay 6 ez)
def eQ:af->M Out :=
 (ao (gm (cf (ai jS (ai bB (ae 1) (λ_=>M.ok (.int 9))) (λ_=>M.ok (.int 0)))) (ao (retS (gz (ae 0) rL (fF (n6 (λ_=>M.ok (.int 1))))))
 aj) aj)
 (ao (gm (cf (ai jS (ai bB (ae 1) (λ_=>M.ok (.int 9))) (λ_=>M.ok (.int 1)))) (ao (retS (ah tN (aa (ae 0) ar)))
 aj) aj)
 (ao (gm (cf (ai jS (ai bB (ae 1) (λ_=>M.ok (.int 9))) (λ_=>M.ok (.int 2)))) (ao (retS (ai cD (gz (ae 0) rL (fF (n6 (λ_=>M.ok (.int 1))))) (i9 (aa (λ_=>M.ok (.bl true)) ar))))
 aj) aj)
 (ao (gm (cf (ai jS (ai bB (ae 1) (λ_=>M.ok (.int 9))) (λ_=>M.ok (.int 3)))) (ao (retS (ai br (i8 (aa (λ_=>M.ok .bZ) (aa (λ_=>M.ok (.int 7)) (aa (λ_=>M.ok (.str "12")) (aa (λ_=>M.ok .emp) ar))))) (ai bB (ai bj (ae 1) (λ_=>M.ok (.int 9))) (λ_=>M.ok (.int 4)))))
 aj) aj)
 (ao (gm (cf (ai jS (ai bB (ae 1) (λ_=>M.ok (.int 9))) (λ_=>M.ok (.int 4)))) (ao (retS (ai cD (ae 0) (i9 (aa (λ_=>M.ok (.int 0)) ar))))
 aj) aj)
 (ao (retS (ae 0))
 aj))))))
def b_:List PV->M PV:=aT 2 (ay 2 eQ)
def bb:af->M Out :=
 (ao (gm (qL (gf (cf (o_ (λa=>i6 a "tuple") ka ka (ae 0)))) (cf (ai tZ (ah gb (aa (ae 0) ar)) (ae 1)))) (ao (retS (λ_=>M.ok (.bl false)))
 aj) aj)
 (ao (ib (itemsOf (ae 0)) (dH 2) (ao (gm (qL (gf (cf (o_ (λa=>i6 a "int") ka ka (ae 2)))) (cf (o_ (λa=>i6 a "bool") ka ka (ae 2)))) (ao (retS (λ_=>M.ok (.bl false)))
 aj) aj)
 aj))
 (ao (retS (λ_=>M.ok (.bl true)))
 aj)))
def aW:List PV->M PV:=aT 2 (ay 3 bb)
def bS:af->M Out :=
 (ao (gm (gf (cf (ah aW (aa (ae 0) (aa (ah gb (aa (ae 1) ar)) ar))))) (ao (retS (λ_=>M.ok (.bl false)))
 aj) aj)
 (ao (ib (mW zip2 (aa (ae 0) (aa (ae 1) ar))) (bx 2 3) (ao (gm (qL (cf (ai Aq (ae 2) (λ_=>M.ok (.int 0)))) (cf (ai ES (ae 2) (ae 3)))) (ao (retS (λ_=>M.ok (.bl false)))
 aj) aj)
 aj))
 (ao (retS (λ_=>M.ok (.bl true)))
 aj)))
def bU:List PV->M PV:=aT 2 (ay 4 bS)
def c6:af->M Out :=
 (ao (retS (pN (ah aW (aa (ae 4) (aa (ah gb (aa (ae 1) ar)) ar))) (ai jS (ah cA (aa (ae 0) (aa (ae 1) (aa (ae 2) (aa (ae 4) ar))))) (ae 3))))
 aj)
def cP:List PV->M PV:=aT 5 (ay 5 c6)
def cS:af->M Out :=
 (ao (gm (gf (cf (ah bU (aa (ae 4) (aa (ae 0) ar))))) (ao (retS (λ_=>M.ok (.bl false)))
 aj) aj)
 (ao (ib (itemsOf (ae 1)) (dH 5) (ao (gm (cf (ai tZ (ah bM (aa (ae 0) (aa (ae 4) (aa (ae 5) ar)))) (λ_=>M.ok (.int 0)))) (ao (retS (λ_=>M.ok (.bl false)))
 aj) aj)
 aj))
 (ao (retS (ai tZ (ah bM (aa (ae 0) (aa (ae 4) (aa (ah cw (aa (ae 0) (aa (ae 3) (aa (ae 2) (aa (n6 (λ_=>M.ok (.int 1))) ar))))) ar)))) (λ_=>M.ok (.int 0))))
 aj)))
def cU:List PV->M PV:=aT 5 (ay 6 cS)
def iD:af->M Out :=
 (ao (eE (ah f6 (aa (ae 1) ar)))
 (ao (eE (ah eW (aa (ae 2) (aa (ah gb (aa (ae 1) ar)) ar))))
 (ao (lF 0 aC "dial_sizes" (ah dk (aa (ae 1) ar)))
 (ao (lF 0 aC "lever_settings" (ah dk (aa (gO (fI (itemsOf (ae 2)) (dH 0) none (ah jH (aa (ae 0) (aa (ae 1) ar))) 1 [1])) ar)))
 (ao (lF 0 aC "lever_prices" (ah fL (aa (ae 2) (aa (ae 3) ar))))
 (ao (lF 0 aC "least_round" (ah eY (aa (ae 1) ar)))
 aj))))))
def g_:Addr->List PV->M (List (Str×PV)):=nF 4 (tK 4 iD aC)
def cC:af->M Out :=
 (ao (retS (iJ (λc=>c==aC) "dial_sizes" (ae 0)))
 aj)
def bI:List PV->M PV:=aT 1 (ay 1 cC)
def cm:af->M Out :=
 (ao (retS (iJ (λc=>c==aC) "lever_settings" (ae 0)))
 aj)
def bL:List PV->M PV:=aT 1 (ay 1 cm)
def jw:af->M Out :=
 (ao (retS (iJ (λc=>c==aC) "lever_prices" (ae 0)))
 aj)
def oG:List PV->M PV:=aT 1 (ay 1 jw)
def dW:af->M Out :=
 (ao (retS (iJ (λc=>c==aC) "least_round" (ae 0)))
 aj)
def cT:List PV->M PV:=aT 1 (ay 1 dW)
def cX:af->M Out :=
 (ao (retS (λ_=>M.ok (.bl false)))
 aj)
def bc:List PV->M PV:=aT 1 (ay 1 cX)
def eS:af->M Out :=
 (ao (retS (i9 ar))
 aj)
def cB:List PV->M PV:=aT 1 (ay 1 eS)
def j_:af->M Out :=
 (ao (lF 0 aP "pulls" (ae 1))
 aj)
def iS:Addr->List PV->M (List (Str×PV)):=nF 2 (tK 2 j_ aP)
def fK:af->M Out :=
 (ao (retS (λ_=>M.ok (.bl true)))
 aj)
def de:List PV->M PV:=aT 1 (ay 1 fK)
def hG:af->M Out :=
 (ao (retS (i9 (aa (λ_=>M.ok (.str "pulls")) (aa (iJ (λc=>c==aP) "pulls" (ae 0)) ar))))
 aj)
def dG:List PV->M PV:=aT 1 (ay 1 hG)
def km:af->M Out :=
 (ao (lF 0 aM "weights" (ae 1))
 aj)
def iW:Addr->List PV->M (List (Str×PV)):=nF 2 (tK 2 km aM)
def gY:af->M Out :=
 (ao (retS (i9 (aa (λ_=>M.ok (.str "weights")) (aa (iJ (λc=>c==aM) "weights" (ae 0)) ar))))
 aj)
def dF:List PV->M PV:=aT 1 (ay 1 gY)
def bf:af->M Out :=
 (ao (bp 2 (gG aC "sizes" bI (ae 0) ar))
 (ao (gm (qL (gf (cf (o_ (λa=>i6 a "tuple") ka ka (ae 1)))) (gf (cf (ah dU (aa (ae 1) (aa (ah gb (aa (ae 2) ar)) ar)))))) (ao (retS (λ_=>M.ok (.bl false)))
 aj) aj)
 (ao (retS (ah pT (aa (gO (fI (mW zip2 (aa (ae 1) (aa (ae 2) ar))) (bx 0 1) none (j5 AO Aq (λ_=>M.ok (.int 0)) (ae 0) (ae 1)) 2 [])) ar)))
 aj)))
def aE:List PV->M PV:=aT 2 (ay 3 bf)
def bz:af->M Out :=
 (ao (retS (pN (o_ (λa=>i6 a "tuple") ka ka (ae 1)) (ah dU (aa (ae 1) (aa (ah gb (aa (gG aC "levers" bL (ae 0) ar) ar)) ar)))))
 aj)
def bu:List PV->M PV:=aT 2 (ay 2 bz)
def bh:af->M Out :=
 (ao (gm (gf (cf (ah aE (aa (ae 0) (aa (ae 1) ar))))) (ao (jf aU (aa (λ_=>M.ok (.str "this is no setting of the vault")) ar))
 aj) aj)
 aj)
def aJ:List PV->M PV:=aT 2 (ay 2 bh)
def fV:af->M Out :=
 (ao (gm (gf (cf (ah bu (aa (ae 0) (aa (ae 1) ar))))) (ao (jf jC (aa (λ_=>M.ok (.str "these are no pulls of the vault")) ar))
 aj) aj)
 aj)
def fR:List PV->M PV:=aT 2 (ay 2 fV)
def k6:af->M Out :=
 (ao (bp 4 (gO (fI (mW zip2 (aa (ae 1) (aa (ae 2) ar))) (bx 0 1) none (ai cD (ae 0) (ai bV (ae 2) (ae 1))) 2 [3])))
 (ao (retS (ah jH (aa (ae 4) (aa (gG aC "sizes" bI (ae 0) ar) ar))))
 aj))
def kJ:List PV->M PV:=aT 4 (ay 5 k6)
def kx:af->M Out :=
 (ao (eE (ah aJ (aa (ae 0) (aa (ae 1) ar))))
 (ao (eE (ah fR (aa (ae 0) (aa (ae 2) ar))))
 (ao (bp 3 (ae 1))
 (ao (ib (mW zip2 (aa (gG aC "levers" bL (ae 0) ar) (aa (ae 2) ar))) (bx 4 5) (ao (bp 3 (ah kJ (aa (ae 0) (aa (ae 3) (aa (ae 4) (aa (ae 5) ar))))))
 aj))
 (ao (retS (ae 3))
 aj)))))
def jm:List PV->M PV:=aT 3 (ay 6 kx)
def gj:af->M Out :=
 (ao (eE (ah aJ (aa (ae 0) (aa (ae 1) ar))))
 (ao (eE (ah aJ (aa (ae 0) (aa (ae 2) ar))))
 (ao (retS (ah kJ (aa (ae 0) (aa (ae 2) (aa (ae 1) (aa (n6 (λ_=>M.ok (.int 1))) ar))))))
 aj)))
def gq:List PV->M PV:=aT 3 (ay 3 gj)
def fM:af->M Out :=
 (ao (eE (ah aJ (aa (ae 0) (aa (ae 1) ar))))
 (ao (eE (ah aJ (aa (ae 0) (aa (ae 2) ar))))
 (ao (bp 3 (gG aC "around" cT (ae 0) ar))
 (ao (bp 4 (gO (fI (mW zip2 (aa (ae 1) (aa (gG aC "sizes" bI (ae 0) ar) ar))) (bx 0 1) none (ai bV (ae 0) (ai bj (ae 2) (ae 1))) 2 [3])))
 (ao (retS (ah iE (aa (ae 4) (aa (ae 2) (aa (ae 3) ar)))))
 aj)))))
def cK:List PV->M PV:=aT 3 (ay 5 fM)
def cG:af->M Out :=
 (ao (retS (ah pT (aa (gO (fI (itemsOf (gG aC "levers" bL (ae 0) ar)) (dH 0) none (ai jS (ah cK (aa (ae 1) (aa (ae 2) (aa (ae 0) ar)))) (λ_=>M.ok (.int 0))) 1 [0,1])) ar)))
 aj)
def cH:List PV->M PV:=aT 2 (ay 2 cG)
def c_:af->M Out :=
 (ao (xS (eE (ah cK (aa (ae 0) (aa (ae 1) (aa (ae 2) ar))))) [(jb dM dN,none,(ao (retS (λ_=>M.ok (.bl true)))
 aj))])
 (ao (retS (λ_=>M.ok (.bl false)))
 aj))
def cn:List PV->M PV:=aT 3 (ay 3 c_)
def bY:af->M Out :=
 (ao (eE (ah aJ (aa (ae 1) (aa (ae 2) ar))))
 (ao (eE (ah aJ (aa (ae 1) (aa (ae 3) ar))))
 (ao (retS (λ_=>M.ok (.bl false)))
 aj)))
def aS:List PV->M PV:=aT 4 (ay 4 bY)
def cv:af->M Out :=
 (ao (eE (ah aJ (aa (ae 1) (aa (ae 2) ar))))
 (ao (eE (ah aJ (aa (ae 1) (aa (ae 3) ar))))
 (ao (retS (pN (ah bu (aa (ae 1) (aa (iJ (λc=>c==aP) "pulls" (ae 0)) ar))) (ai jS (ah jm (aa (ae 1) (aa (ae 2) (aa (iJ (λc=>c==aP) "pulls" (ae 0)) ar)))) (ae 3))))
 aj)))
def aY:List PV->M PV:=aT 4 (ay 4 cv)
def cp:af->M Out :=
 (ao (bp 4 (ah gq (aa (ae 1) (aa (ae 2) (aa (ae 3) ar)))))
 (ao (gm (qL (gf (cf (ah aE (aa (ae 1) (aa (iJ (λc=>c==aM) "weights" (ae 0)) ar))))) (gf (cf (ah cH (aa (ae 1) (aa (iJ (λc=>c==aM) "weights" (ae 0)) ar)))))) (ao (retS (λ_=>M.ok (.bl false)))
 aj) aj)
 (ao (retS (ai tZ (ah cK (aa (ae 1) (aa (iJ (λc=>c==aM) "weights" (ae 0)) (aa (ae 4) ar)))) (λ_=>M.ok (.int 0))))
 aj)))
def aX:List PV->M PV:=aT 4 (ay 5 cp)
def cY:af->M Out :=
 (ao (xS (eE (c7 [(aG,aS),(aP,aY),(aM,aX)] "shows" (ae 1) (aa (ae 0) (aa (ae 2) (aa (ae 3) ar))))) [(jb dM dN,none,(ao (retS (λ_=>M.ok (.bl true)))
 aj))])
 (ao (retS (λ_=>M.ok (.bl false)))
 aj))
def bw:List PV->M PV:=aT 4 (ay 4 cY)
def dY:af->M Out :=
 (ao (bp 4 (i8 (aa (ah bw (aa (ae 0) (aa (ae 1) (aa (ae 2) (aa (ae 3) ar))))) (aa (ah bw (aa (ae 0) (aa (ae 1) (aa (ae 3) (aa (ae 2) ar))))) ar))))
 (ao (bp 4 (ai cD (ae 4) (i8 (aa (ah cn (aa (ae 0) (aa (ae 2) (aa (ae 3) ar)))) (aa (ah cn (aa (ae 0) (aa (ae 3) (aa (ae 2) ar)))) ar)))))
 (ao (retS (pN (ai jS (ae 4) (ai bV (i8 (aa (λ_=>M.ok (.bl true)) ar)) (λ_=>M.ok (.int 4)))) (B5 (ah bw (aa (ae 0) (aa (ae 1) (aa (ae 2) (aa (ae 2) ar))))))))
 aj)))
def cZ:List PV->M PV:=aT 4 (ay 5 dY)
def eZ:af->M Out :=
 (ao (yg 7 8 9 (aa (ah (gI aP iS []) (aa (ae 5) ar)) (aa (ah (gI aM iW []) (aa (ae 6) ar)) (aa (lY aG) ar))))
 (ao (bp 10 (i8 (aa (c7 [(aG,aS),(aP,aY),(aM,aX)] "shows" (ae 7) (aa (ae 0) (aa (ae 3) (aa (ae 4) ar)))) (aa (c7 [(aG,aS),(aP,aY),(aM,aX)] "shows" (ae 8) (aa (ae 0) (aa (ae 3) (aa (ae 4) ar)))) ar))))
 (ao (gm (qL (gf (cf (o_ (λa=>i6 a "bool") ka ka (ai br (ae 10) (λ_=>M.ok (.int 0)))))) (gf (cf (o_ (λa=>i6 a "bool") ka ka (ai br (ae 10) (λ_=>M.ok (.int 1))))))) (ao (retS (λ_=>M.ok (.bl false)))
 aj) aj)
 (ao (gm (cf (ai v5 (ai br (ae 10) (λ_=>M.ok (.int 0))) (ah cP (aa (ae 1) (aa (ae 2) (aa (ae 3) (aa (ae 4) (aa (ae 5) ar)))))))) (ao (retS (λ_=>M.ok (.bl false)))
 aj) aj)
 (ao (gm (cf (ai v5 (ai br (ae 10) (λ_=>M.ok (.int 1))) (ah cU (aa (ae 1) (aa (ae 2) (aa (ae 3) (aa (ae 4) (aa (ae 6) ar)))))))) (ao (retS (λ_=>M.ok (.bl false)))
 aj) aj)
 (ao (gm (qL (cf (ai v5 (c7 [(aG,cB),(aP,dG),(aM,dF)] "words" (ae 7) ar) (i9 (aa (λ_=>M.ok (.str "pulls")) (aa (ae 5) ar))))) (qL (cf (ai v5 (c7 [(aG,cB),(aP,dG),(aM,dF)] "words" (ae 8) ar) (i9 (aa (λ_=>M.ok (.str "weights")) (aa (ae 6) ar))))) (cf (ai v5 (c7 [(aG,cB),(aP,dG),(aM,dF)] "words" (ae 9) ar) (i9 ar))))) (ao (retS (λ_=>M.ok (.bl false)))
 aj) aj)
 (ao (gm (qL (cf (ai gR (c7 [(aG,bc),(aP,de),(aM,bc)] "brings" (ae 7) ar) (λ_=>M.ok (.bl true)))) (qL (cf (ai gR (c7 [(aG,bc),(aP,de),(aM,bc)] "brings" (ae 8) ar) (λ_=>M.ok (.bl false)))) (cf (ai gR (c7 [(aG,bc),(aP,de),(aM,bc)] "brings" (ae 9) ar) (λ_=>M.ok (.bl false)))))) (ao (retS (λ_=>M.ok (.bl false)))
 aj) aj)
 (ao (gm (qL (gf (cf (o_ (λ_=>false) (jb dz dw) (jb iv iy) (ae 7)))) (qL (gf (cf (o_ (λ_=>false) (jb dz dw) (jb iv iy) (ae 8)))) (qL (cf (o_ (λ_=>false) (jb lA lj) (jb rN qU) (ae 8))) (cf (o_ (λ_=>false) (jb k_ lB) (jb qM rJ) (ae 7)))))) (ao (retS (λ_=>M.ok (.bl false)))
 aj) aj)
 (ao (retS (pN (ai zo (c7 [(aG,aS),(aP,aY),(aM,aX)] "shows" (ae 9) (aa (ae 0) (aa (ae 3) (aa (ae 4) ar)))) (λ_=>M.ok (.bl false))) (pN (ai Cw (iJ (λc=>c==aP) "pulls" (ae 7)) (ae 5)) (ai Cw (iJ (λc=>c==aM) "weights" (ae 8)) (ae 6)))))
 aj)))))))))
def eO:List PV->M PV:=aT 7 (ay 11 eZ)
def zc:af->M Out :=
 (ao (bp 1 (ah fZ (aa (ah cq (aa (ae 0) (aa (λ_=>M.ok (.int 0)) ar))) ar)))
 (ao (bp 2 (ah e6 (aa (ae 0) (aa (ae 1) ar))))
 (ao (bp 3 (ah (gI aC g_ [.bZ]) (aa (ae 1) (aa (ae 2) ar))))
 (ao (ib (mW ET (aa (ai cD (gz (ae 0) (fF (λ_=>M.ok (.int 10))) (fF (λ_=>M.ok (.int 30)))) (i8 (aa (λ_=>M.ok (.int 0)) ar))) ar)) (bx 4 5) (ao (bp 6 (ah c8 (aa (ai cD (ai bj (ae 5) (λ_=>M.ok (.int 7))) (ai bV (λ_=>M.ok (.int 48271)) (ae 4))) (aa (ae 1) ar))))
 (ao (bp 7 (ah fW (aa (ai cD (ai bj (ae 5) (λ_=>M.ok (.int 5))) (ae 4)) (aa (ah gb (aa (ae 2) ar)) ar))))
 (ao (bp 8 (ah cA (aa (ae 1) (aa (ae 2) (aa (ae 6) (aa (ae 7) ar))))))
 (ao (gm (cf (ai jS (ai bB (ae 5) (λ_=>M.ok (.int 4))) (λ_=>M.ok (.int 1)))) (ao (bp 8 (ah c8 (aa (ah cq (aa (ae 0) (aa (ai cD (λ_=>M.ok (.int 40)) (ae 4)) ar))) (aa (ae 1) ar))))
 aj) aj)
 (ao (gm (cf (ai jS (ai bB (ae 5) (λ_=>M.ok (.int 4))) (λ_=>M.ok (.int 2)))) (ao (bp 8 (ah cw (aa (ae 1) (aa (ae 8) (aa (ai cD (ai bV (i8 (aa (λ_=>M.ok (.int 0)) ar)) (ai iK (ah gb (aa (ae 1) ar)) (λ_=>M.ok (.int 1)))) (i8 (aa (λ_=>M.ok (.int 1)) ar))) (aa (λ_=>M.ok (.int 1)) ar))))))
 aj) aj)
 (ao (bp 9 (ah d_ (aa (ai cD (ai bj (ae 5) (λ_=>M.ok (.int 3))) (ae 4)) (aa (ae 1) ar))))
 (ao (bp 10 (ah cK (aa (ae 3) (aa (ae 9) (aa (ae 6) ar)))))
 (ao (gm (qL (gf (cf (o_ (λa=>i6 a "int") ka ka (ae 10)))) (qL (cf (o_ (λa=>i6 a "bool") ka ka (ae 10))) (cf (ai tZ (ae 10) (ah bM (aa (ae 1) (aa (ae 9) (aa (ae 6) ar)))))))) (ao (retS (λ_=>M.ok (.bl false)))
 aj) aj)
 (ao (bp 11 (ai br (i8 (aa (ah tN (aa (ae 6) ar)) (aa (gz (ae 6) rL (fF (n6 (λ_=>M.ok (.int 1))))) (aa (ah dk (aa (ae 1) ar)) (aa (λ_=>M.ok .bZ) (aa (ai cD (ae 6) (i9 (aa (λ_=>M.ok (.int 0)) ar))) ar)))))) (ai bB (ae 5) (λ_=>M.ok (.int 5)))))
 (ao (gm (gf (cf (ah cZ (aa (ae 3) (aa (ai br (i8 (aa (ah (gI aP iS []) (aa (ae 7) ar)) (aa (ah (gI aM iW []) (aa (ae 9) ar)) (aa (lY aG) ar)))) (ai bB (ae 5) (λ_=>M.ok (.int 3)))) (aa (ae 6) (aa (ae 11) ar))))))) (ao (retS (λ_=>M.ok (.bl false)))
 aj) aj)
 (ao (bp 7 (ah b_ (aa (ae 7) (aa (ai bj (ae 5) (λ_=>M.ok (.int 16))) ar))))
 (ao (bp 9 (ai br (i8 (aa (ah b_ (aa (ae 9) (aa (ai cD (ai bj (ae 5) (λ_=>M.ok (.int 16))) (λ_=>M.ok (.int 4))) ar))) (aa (ah dk (aa (ae 1) ar)) ar))) (ah p8 (aa (ai jS (ai bB (ai bj (ae 5) (λ_=>M.ok (.int 16))) (λ_=>M.ok (.int 11))) (λ_=>M.ok (.int 7))) ar))))
 (ao (gm (gf (cf (ah eO (aa (ae 3) (aa (ae 1) (aa (ae 2) (aa (ae 6) (aa (ae 8) (aa (ae 7) (aa (ae 9) ar)))))))))) (ao (retS (λ_=>M.ok (.bl false)))
 aj) aj)
 aj))))))))))))))
 (ao (retS (λ_=>M.ok (.bl true)))
 aj)))))
def pX:List PV->M PV:=aT 1 (ay 12 zc)
end tY
namespace tY
open PySem L2 PyProof.Rows
local macro_rules | `(tactic| walk_at "s")=>`(tactic| exact⟨rfl,rfl,rfl,by decide +kernel,rfl,by decide +kernel,by decide +kernel⟩)
local macro_rules | `(tactic| walk_at "l")=>`(tactic| first | exact .inl rfl | exact .inr rfl)
local macro_rules | `(tactic| walk_at "pp")=>`(tactic| all_goals repeat' (first | ((with_reducible show kf _ _ (tS _ (ao _ _)));refine yk ?_ ?_) | ((with_reducible show kf _ _ (tS _ aj));exact BR) | ((with_reducible show PE _ _ (tE _ (ae _)));exact vr _) | ((with_reducible show PA _ _ (tL _ (aa _ _)));refine vj ?_ ?_ (Cy rfl)) | ((with_reducible show PA _ _ (tL _ ar));exact zE) | ((with_reducible show PE _ _ (tE _ (λ_=>M.ok (.int _))));first | exact zJ | exact k8 (Gr (by rfl) (by assumption)) λ_=>.int _) | ((with_reducible show PE _ _ (tE _ (λ_=>M.ok (.bl _))));exact GB) | ((with_reducible show PE _ _ (tE _ (λ_=>M.ok .bZ)));exact Dk) | ((with_reducible show PE _ _ (tE _ (λ_=>M.ok (.str _))));exact Eo) | ((with_reducible show PE _ _ (tE _ (ai cD _ _)));refine lK Bf Dp ?_ ?_) | ((with_reducible show PE _ _ (tE _ (ai iK _ _)));refine lK EJ C1 ?_ ?_) | ((with_reducible show PE _ _ (tE _ (ai bV _ _)));refine lK Bs Dq ?_ ?_) | ((with_reducible show PE _ _ (tE _ (ai bj _ _)));refine lK zg zP ?_ ?_) | ((with_reducible show PE _ _ (tE _ (ai bB _ _)));refine lK BH B9 ?_ ?_) | ((with_reducible show PE _ _ (tE _ (ai rX _ _)));refine lK Dy BX ?_ ?_) | ((with_reducible show PE _ _ (tE _ (ai br _ _)));refine Ef ?_ ?_ ?_) | ((with_reducible show qH _);exact λ_ _=>rfl) | ((with_reducible show PT _ _ (tT _ (cf (ai jS _ _))));refine fw (x8 (bN.units (by assumption))) CA ?_ ?_ (bF _)) | ((with_reducible show PE _ _ (tE _ (ai jS _ _)));refine fD (x8 (bN.units (by assumption))) CA ?_ ?_ (bF _)) | ((with_reducible show PT _ _ (tT _ (cf (ai tZ _ _))));refine fw (zK (bN.units (by assumption))) Cn ?_ ?_ (bF _)) | ((with_reducible show PE _ _ (tE _ (ai tZ _ _)));refine fD (zK (bN.units (by assumption))) Cn ?_ ?_ (bF _)) | ((with_reducible show PT _ _ (tT _ (cf (ai Aq _ _))));refine fw yB uj ?_ ?_ (bF _)) | ((with_reducible show PE _ _ (tE _ (ai Aq _ _)));refine fD yB uj ?_ ?_ (bF _)) | ((with_reducible show PT _ _ (tT _ (cf (ai AO _ _))));refine fw tM nB ?_ ?_ (bF _)) | ((with_reducible show PE _ _ (tE _ (ai AO _ _)));refine fD tM nB ?_ ?_ (bF _)) | ((with_reducible show PT _ _ (tT _ (cf (ai Fu _ _))));refine fw CN yR ?_ ?_ (bF _)) | ((with_reducible show PE _ _ (tE _ (ai Fu _ _)));refine fD CN yR ?_ ?_ (bF _)) | ((with_reducible show PT _ _ (tT _ (cf (ai ES _ _))));refine fw Cj yc ?_ ?_ (bF _)) | ((with_reducible show PE _ _ (tE _ (ai ES _ _)));refine fD Cj yc ?_ ?_ (bF _)) | ((with_reducible show PT _ _ (tT _ (cf (ai z9 _ _))));refine fw ze zV ?_ ?_ (bF _)) | ((with_reducible show PE _ _ (tE _ (ai z9 _ _)));refine fD ze zV ?_ ?_ (bF _)) | ((with_reducible show PT _ _ (tT _ (cf (ai isNotNP _ _))));refine fw op_notN ov_notN ?_ ?_ (bF _)) | ((with_reducible show PE _ _ (tE _ (ai isNotNP _ _)));refine fD op_notN ov_notN ?_ ?_ (bF _)) | ((with_reducible show PT _ _ (tT _ (gf _)));refine D9 ?_) | ((with_reducible show PT _ _ (tT _ (cf (ah _ _))));refine oI ?_) | ((with_reducible show PT _ _ (tT _ (cf (o_ _ _ _ _))));refine oI ?_) | ((with_reducible show PT _ _ (tT _ (cf (gG _ _ _ _ _))));refine oI ?_) | ((with_reducible show PT _ _ (tT _ (cf (ae _))));refine oI ?_) | ((with_reducible show PS _ _ (tS _ (retS _)));refine Dm ?_) | ((with_reducible show PS _ _ (tS _ (bp _ _)));refine Eh (by assumption) rfl (by walk_at "l") ?_) | ((with_reducible show PS _ _ (tS _ (gm _ _ _)));refine FO ?_ ?_ ?_) | ((with_reducible show PS _ _ (tS _ (iw _ _)));refine xt rfl (by first | exact .inl rfl | exact .inr (.inl rfl)) ?_) | ((with_reducible show PS _ _ (tS _ (pd _ _)));refine BU (by assumption) rfl (by walk_at "l") ?_) | ((with_reducible show PE _ _ (tO _ (jh _)));refine Dr ?_) | ((with_reducible show PS _ _ (tS _ (ph _ _)));refine D_ _ ?_) | ((with_reducible show PS _ _ (tS _ (eE _)));refine Bo ?_) | ((with_reducible show PS _ _ (tS _ (jf _ _)));refine wQ.raise (by assumption) (by assumption) rfl (by rfl) ?_) | ((with_reducible show PS _ _ (tS _ (ja _ _ _)));refine rO.raise (by assumption) (by assumption) (by omega) (by assumption) rfl (by rfl) ?_) | ((with_reducible show PE _ _ (tE _ (i9 _)));refine Ep ?_) | ((with_reducible show PE _ _ (tE _ (i8 _)));refine zC ?_) | ((with_reducible show PE _ _ (tE _ (n6 _)));refine DB ?_) | ((with_reducible show PE _ _ (tE _ (GA _ _ _)));refine pv_ite ?_ ?_ ?_) | ((with_reducible show PE _ _ (tE _ (iJ _ _ _)));refine De ?_ (by assumption) rfl) | ((with_reducible show PE _ _ (tE _ (ah gb _)));refine kU xa Ez (by rfl) (by assumption) PySem.boot_len ?_) | ((with_reducible show PE _ _ (tE _ (ah dk _)));refine lu pU xZ (by rfl) (by assumption) i_ ?_) | ((with_reducible show PE _ _ (tE _ (ah tN _)));refine lu qG B4 (by rfl) (by assumption) vP ?_) | ((with_reducible show PE _ _ (tE _ (ah w_ _)));refine kU (xj rfl) ER (by rfl) (by assumption) E5 ?_) | ((with_reducible show PE _ _ (tE _ (ah pT _)));refine kU (xE rfl) DO (by rfl) (by assumption) EE ?_) | ((with_reducible show PE _ _ (tE _ (ah p8 _)));refine lu wN BN (by rfl) (by assumption) rm ?_) | ((with_reducible show PE _ _ (tE _ (ah (gI _ _ _) _)));refine xV.make (by assumption) (by assumption) (by omega) (by rfl) (by first | assumption | exact qc) ?_) | ((with_reducible show PE _ _ (tE _ (ah _ _)));refine cF.call (by assumption) (by assumption) (by omega) (by rfl) (by first | assumption | exact qc) ?_) | ((with_reducible show PE _ _ (tE _ (gG _ _ _ _ ar)));refine mD.zY (by assumption) (by assumption) (by omega) (by first | assumption | exact qc) ?_) | ((with_reducible show PE _ _ (tE _ (gG _ _ _ _ _)));refine mD.call (by assumption) (by assumption) (by omega) (by first | assumption | exact qc) ?_ ?_) | ((with_reducible show PT _ _ (tT _ (cf (ai zo _ _))));refine fw vK vo ?_ ?_ (bF _)) | ((with_reducible show PE _ _ (tE _ (ai zo _ _)));refine fD vK vo ?_ ?_ (bF _)) | ((with_reducible show PT _ _ (tT _ (cf (ai gR _ _))));refine fw nq nZ ?_ ?_ (bF _)) | ((with_reducible show PE _ _ (tE _ (ai gR _ _)));refine fD nq nZ ?_ ?_ (bF _)) | ((with_reducible show PT _ _ (tT _ (cf (ai Cw _ _))));refine fw (yr (bN.units (by assumption))) Ac ?_ ?_ (bF _)) | ((with_reducible show PE _ _ (tE _ (ai Cw _ _)));refine fD (yr (bN.units (by assumption))) Ac ?_ ?_ (bF _)) | ((with_reducible show PT _ _ (tT _ (cf (ai v5 _ _))));refine fw (zl (bN.units (by assumption))) yG ?_ ?_ (bF _)) | ((with_reducible show PE _ _ (tE _ (ai v5 _ _)));refine fD (zl (bN.units (by assumption))) yG ?_ ?_ (bF _)) | ((with_reducible show PT _ _ (tT _ (cf (c7 _ _ _ _))));refine oI ?_) | ((with_reducible show PE _ _ (tE _ (lY _)));exact BL (by assumption) (by rfl)) | ((with_reducible show PE _ _ (tE _ (c7 _ _ _ ar)));refine uN.zY (by assumption) (by repeat' (first | exact uN.nil | refine uN.cons (by assumption) (by omega) ?_)) (by first | assumption | exact qc) ?_) | ((with_reducible show PE _ _ (tE _ (c7 _ _ _ _)));refine uN.call (by assumption) (by repeat' (first | exact uN.nil | refine uN.cons (by assumption) (by omega) ?_)) (by first | assumption | exact qc) ?_ ?_)))
def top(i:Nat):Stmt:=PySem.Challenge.pw_dialvault_k21_papers_checked.main.body.getD i (.Pass ⟨0,0,0,0⟩)
structure Txt (K:PySem.W.Frag) (mg:Str->Option Value):Prop where
 FR:mg "all" = none
 lg:mg "bool" = none
 gU:mg "enumerate" = none
 vC:mg "int" = none
 aK:mg "isinstance" = none
 Fx:mg "len" = none
 yw:mg "list" = none
 CI:mg "max" = none
 mR:mg "range" = none
 GI:mg "sum" = none
 kI:mg "tuple" = none
 gW:mg "zip" = none
 pf:∃ u,mg "LEAST_PRICE" = some u/\RelV (.int 1) u
 qI:∃ u,mg "LEAST_SIZE" = some u/\RelV (.int 2) u
 qW:∃ u,mg "MOST_DIALS" = some u/\RelV (.int 6) u
 pS:∃ u,mg "MOST_LEVERS" = some u/\RelV (.int 8) u
 rK:∃ u,mg "MOST_PRICE" = some u/\RelV (.int 1000) u
 tw:∃ u,mg "MOST_SIZE" = some u/\RelV (.int 360) u
 Cq:ko K aM
 Bu:ko K aG
 kN:ko K aC
 CS:ko K aP
 AI:IY K mg "Paper" aG
 xm:wQ K mg jC "NoPulls"
 sC:wQ K mg aU "NoSetting"
 xc:wQ K mg il "TooMany"
 fe:Hf K mg "NoSetting" aU dM dN
 iW:EG K mg "Bar" aM qM rJ k_ lB
 rH:EG K mg "Paper" aG iv iy dz dw
 iS:EG K mg "Way" aP rN qU lA lj
 jX:bQ K aM "weights"
 gJ:bQ K aC "dial_sizes"
 fJ:bQ K aC "least_round"
 e_:bQ K aC "lever_prices"
 eB:bQ K aC "lever_settings"
 lZ:bQ K aP "pulls"
 qR:∀ C,(C==aC)=true->ko K C/\bQ K C "dial_sizes"
 pO:∀ C,(C==aC)=true->ko K C/\bQ K C "least_round"
 nh:∀ C,(C==aC)=true->ko K C/\bQ K C "lever_prices"
 ly:∀ C,(C==aC)=true->ko K C/\bQ K C "lever_settings"
 BJ:∀ C,(C==aP)=true->ko K C/\bQ K C "pulls"
 xr:∀ C,(C==aM)=true->ko K C/\bQ K C "weights"
variable{P:Program}{w:World}{K:PySem.W.Frag}{mg:Str->Option Value}{base:Heap}{f:Addr}{fd:FuncData}{dv:Value}
theorem mf:av ["thing"] ["thing"] (aq (top 10)):=.of
theorem r9(F:aQ K "is_whole" "is_whole" (top 10) dv f fd)(T:Txt K mg)  : aF P w K mg base (bG P w) 1 f fd ["thing"] (dh 1 dE) :=
 F.eG mf λ_ _ _ _ _ _ hr O=>by
 unfold iF;have:=mf.nd;have T2:=T;cases T2
 walk_at "pp"
 refine(je ?_ (kn ?_))
 walk_at "pp"
 refine(gM (T := "int") (by rfl) T.aK (c9 (v:=.ty "int") (by rfl) T.vC rm rfl) (by decide) gF gF ?_)
 walk_at "pp"
 refine(Ad ?_)
 walk_at "pp"
 refine(gM (T := "bool") (by rfl) T.aK (c9 (v:=.ty "bool") (by rfl) T.lg kR rfl) (by decide) gF gF ?_)
 walk_at "pp"
theorem qw:av ["thing", "length"] ["thing", "length"] (aq (top 11)):=.of
theorem sk:((["number"]:List Str)++([]:List Str)).Nodup:=by decide +kernel
theorem wo(F:aQ K "is_row" "is_row" (top 11) dv f fd)(T:Txt K mg)(Ks:cF P w K mg base 1 "is_whole" 1 (ay 1 iF)):aF P w K mg base (bG P w) 2 f fd ["thing", "length"] (dh 2 dU) :=
 F.eG qw λ_ _ _ _ _ _ hr O=>by
 unfold ip;have:=qw.nd;have T2:=T;cases T2
 walk_at "pp"
 refine(fj ?_ (fz ?_)).pt
 walk_at "pp"
 refine(Ay (Ts:=["list", "tuple"]) (by rfl) T.aK (yF (e7 (c9 (v:=.ty "list") (by rfl) T.yw vP rfl) (e7 (c9 (v:=.ty "tuple") (by rfl) T.kI i_ rfl) lE))) (fun σ H R h=>⟨by show 2<=sizeLine;decide,h⟩) (by decide) gF ?_)
 walk_at "pp"
 refine(hZ (dr (g:=(aI 0)) (ts:=["number"]) (fs:=[]) (js:=[]) (cl:=[]) rfl rfl rfl rfl rfl rfl .nil .nil (fx ?_) dD (λ_ _ _ _ _=>(aN (i:=0) sk)) (λ_=>cy) gB (λ_ _ _ _ _=>?_)))
 walk_at "pp"
theorem pV:av ["one", "other", "row", "behind", "times", "rest"] ["one", "other"] (aq (top 12)):=.of
theorem wM(F:aQ K "common" "common" (top 12) dv f fd)(T:Txt K mg)  : aF P w K mg base (bG P w) 1 f fd ["one", "other"] (dh 2 kQ) :=
 F.eG pV λ_ _ _ _ _ _ hr O=>by
 unfold kX;have:=pV.nd;have T2:=T;cases T2
 walk_at "pp"
 refine(sX O ?_ ?_)
 walk_at "pp"
theorem gH:av ["numbers", "multiple", "number"] ["numbers"] (aq (top 13)):=.of
theorem nN(F:aQ K "multiple_of" "multiple_of" (top 13) dv f fd)(T:Txt K mg)(LK:cF P w K mg base 1 "common" 2 (ay 6 kX)):aF P w K mg base (bG P w) 2 f fd ["numbers"] (dh 1 eY) :=
 F.eG gH λ_ _ _ _ _ _ hr O=>by
 unfold eR;have:=gH.nd;have T2:=T;cases T2
 walk_at "pp"
 refine(bH (g:=(aI 2)) O rfl (fx ?_) dD (aN (i:=2) gH.nd) cy ?_)
 walk_at "pp"
theorem l9:av ["numbers", "others", "by"] ["numbers", "others", "by"] (aq (top 14)):=.of
theorem j0:((["number", "other"]:List Str)++([]:List Str)).Nodup:=by decide +kernel
theorem ti(F:aQ K "rest_sum" "rest_sum" (top 14) dv f fd)(T:Txt K mg)  : aF P w K mg base (bG P w) 1 f fd ["numbers", "others", "by"] (dh 3 iE) :=
 F.eG l9 λ_ _ _ _ _ _ hr O=>by
 unfold iB;have:=l9.nd;have T2:=T;cases T2
 walk_at "pp"
 refine(hZ (dr (g:=(iM K 2 (aZ (aI 0) (aZ (aI 1) iI)))) (ts:=["number", "other"]) (fs:=[]) (js:=[]) (cl:=[]) rfl rfl rfl rfl rfl rfl .nil .nil (gv (by rfl) T.gW ?_) dZ (λ_ _ _ _ _=>(dm (n:=2) rfl (aD (aN (i:=0) j0) (aD (aN (i:=1) j0) cj)))) (λ_=>cL) eN (λ_ _ _ _ _=>?_)))
 walk_at "pp"
theorem kH:av ["thing", "least", "most"] ["thing", "least", "most"] (aq (top 23)):=.of
theorem qK(F:aQ K "is_within" "is_within" (top 23) dv f fd)(T:Txt K mg)(Ks:cF P w K mg base 1 "is_whole" 1 (ay 1 iF)):aF P w K mg base (bG P w) 2 f fd ["thing", "least", "most"] (dh 3 fm) :=
 F.eG kH λ_ _ _ _ _ _ hr O=>by
 unfold ff;have:=kH.nd;have T2:=T;cases T2
 walk_at "pp"
 refine(je ?_ (kn ?_))
 walk_at "pp"
 refine(sA tM nB tM nB ?_ ?_ ?_)
 walk_at "pp"
theorem eU:av ["sizes", "dial", "size"] ["sizes"] (aq (top 24)):=.of
theorem pv(F:aQ K "need_sizes" "need_sizes" (top 24) dv f fd)(T:Txt K mg)(LO:rO P w K mg base gu "NoDial" "dial")(Kj:cF P w K mg base 2 "is_within" 3 (ay 3 ff)):aF P w K mg base (bG P w) 3 f fd ["sizes"] (dh 1 f6) :=
 F.eG eU λ_ _ _ _ _ _ hr O=>by
 unfold fP;have:=eU.nd;have T2:=T;cases T2
 walk_at "pp"
 refine(bH (g:=(iM K 2 (aZ (aI 1) (aZ (aI 2) iI)))) O rfl (ux (by rfl) T.gU ?_) rE (dm (n:=2) rfl (aD (aN (i:=1) eU.nd) (aD (aN (i:=2) eU.nd) cj))) cL ?_)
 walk_at "pp"
theorem dP:av ["levers", "dials", "place", "lever"] ["levers", "dials"] (aq (top 25)):=.of
theorem oM(F:aQ K "need_levers" "need_levers" (top 25) dv f fd)(T:Txt K mg)(Kn:cF P w K mg base 2 "is_row" 2 (ay 2 ip))(LD:rO P w K mg base gk "NoLever" "lever"):aF P w K mg base (bG P w) 3 f fd ["levers", "dials"] (dh 2 eW) :=
 F.eG dP λ_ _ _ _ _ _ hr O=>by
 unfold eT;have:=dP.nd;have T2:=T;cases T2
 walk_at "pp"
 refine(bH (g:=(iM K 2 (aZ (aI 2) (aZ (aI 3) iI)))) O rfl (ux (by rfl) T.gU ?_) rE (dm (n:=2) rfl (aD (aN (i:=2) dP.nd) (aD (aN (i:=3) dP.nd) cj))) cL ?_)
 walk_at "pp"
theorem ia:av ["levers", "prices", "place"] ["levers", "prices"] (aq (top 26)):=.of
theorem pF(F:aQ K "prices_for" "prices_for" (top 26) dv f fd)(T:Txt K mg)(LG:rO P w K mg base eK "NoPrice" "lever")(Kj:cF P w K mg base 2 "is_within" 3 (ay 3 ff)):aF P w K mg base (bG P w) 3 f fd ["levers", "prices"] (dh 2 fL) :=
 F.eG ia λ_ _ _ _ _ _ hr O=>by
 unfold fY;have:=ia.nd;have T2:=T;cases T2
 walk_at "pp"
 refine(bH (g:=(aI 2)) O rfl (lH (by rfl) T.mR ?_) n5 (aN (i:=2) ia.nd) cy ?_)
 walk_at "pp"
 refine(kU (xw rfl) A0 (by rfl) T.CI C9 ?_)
 walk_at "pp"
 refine(fj ?_ (fz ?_)).pt
 walk_at "pp"
theorem sT:av ["numbers", "sizes"] ["numbers", "sizes"] (aq (top 27)):=.of
theorem m7:((["number", "size"]:List Str)++([]:List Str)).Nodup:=by decide +kernel
theorem Ak(F:aQ K "rests" "rests" (top 27) dv f fd)(T:Txt K mg)  : aF P w K mg base (bG P w) 1 f fd ["numbers", "sizes"] (dh 2 jH) :=
 F.eG sT λ_ _ _ _ _ _ hr O=>by
 unfold kY;have:=sT.nd;have T2:=T;cases T2
 walk_at "pp"
 refine(hZ (dr (g:=(iM K 2 (aZ (aI 0) (aZ (aI 1) iI)))) (ts:=["number", "size"]) (fs:=[]) (js:=[]) (cl:=[]) rfl rfl rfl rfl rfl rfl .nil .nil (gv (by rfl) T.gW ?_) dZ (λ_ _ _ _ _=>(dm (n:=2) rfl (aD (aN (i:=0) m7) (aD (aN (i:=1) m7) cj)))) (λ_=>cL) eN (λ_ _ _ _ _=>?_)))
 walk_at "pp"
theorem kD:av ["_law_script", "_law_k"] ["_law_script", "_law_k"] (aq (top 42)):=.of
theorem qC(F:aQ K "_law_cell" "_law_cell" (top 42) dv f fd)(T:Txt K mg)  : aF P w K mg base (bG P w) 1 f fd ["_law_script", "_law_k"] (dh 2 cq) :=
 F.eG kD λ_ _ _ _ _ _ hr O=>by
 unfold fu;have:=kD.nd;have T2:=T;cases T2
 walk_at "pp"
theorem gy:av ["_law_cell_here", "_law_many", "_law_found", "_law_number", "_law_k"] ["_law_cell_here", "_law_many"] (aq (top 43)):=.of
theorem oB(F:aQ K "_law_stream" "_law_stream" (top 43) dv f fd)(T:Txt K mg)  : aF P w K mg base (bG P w) 1 f fd ["_law_cell_here", "_law_many"] (dh 2 bJ) :=
 F.eG gy λ_ _ _ _ _ _ hr O=>by
 unfold bK;have:=gy.nd;have T2:=T;cases T2
 walk_at "pp"
 refine(bH (g:=(aI 4)) O rfl (lH (by rfl) T.mR ?_) n5 (aN (i:=4) gy.nd) cy ?_)
 walk_at "pp"
theorem gC:av ["_law_cell_here", "_law_bases", "_law_found", "_law_left", "_law_base"] ["_law_cell_here", "_law_bases"] (aq (top 44)):=.of
theorem nJ(F:aQ K "_law_digits" "_law_digits" (top 44) dv f fd)(T:Txt K mg)  : aF P w K mg base (bG P w) 1 f fd ["_law_cell_here", "_law_bases"] (dh 2 bX) :=
 F.eG gC λ_ _ _ _ _ _ hr O=>by
 unfold bW;have:=gC.nd;have T2:=T;cases T2
 walk_at "pp"
 refine(bH (g:=(aI 4)) O rfl (fx ?_) dD (aN (i:=4) gC.nd) cy ?_)
 walk_at "pp"
theorem h9:av ["_law_cell_here", "_law_many", "_law_sizes_here", "_law_number"] ["_law_cell_here"] (aq (top 45)):=.of
theorem mC:((["_law_digit"]:List Str)++([]:List Str)).Nodup:=by decide +kernel
theorem pC(F:aQ K "_law_sizes" "_law_sizes" (top 45) dv f fd)(T:Txt K mg)(JZ:cF P w K mg base 1 "_law_digits" 2 (ay 5 bW))(JX:cF P w K mg base 1 "_law_stream" 2 (ay 5 bK)):aF P w K mg base (bG P w) 2 f fd ["_law_cell_here"] (dh 1 fZ) :=
 F.eG h9 λ_ _ _ _ _ _ hr O=>by
 unfold f7;have:=h9.nd;have T2:=T;cases T2
 walk_at "pp"
 refine(hZ (dr (g:=(aI 0)) (ts:=["_law_digit"]) (fs:=[]) (js:=[]) (cl:=[]) rfl rfl rfl rfl rfl rfl .nil .nil (fx ?_) dD (λ_ _ _ _ _=>(aN (i:=0) mC)) (λ_=>cy) gB (λ_ _ _ _ _=>?_)))
 walk_at "pp"
 refine(bH (g:=(aI 3)) O rfl (fx ?_) dD (aN (i:=3) h9.nd) cy ?_)
 walk_at "pp"
 exact(qz [2,3,4,6,8,9,12,16,24,27,32,36,64,72,81,128,243,256,360])
 walk_at "pp"
theorem jZ:av ["_law_number"] ["_law_number"] (aq (top 46)):=.of
theorem pL(F:aQ K "_law_great" "_law_great" (top 46) dv f fd)(T:Txt K mg)  : aF P w K mg base (bG P w) 1 f fd ["_law_number"] (dh 1 dR) :=
 F.eG jZ λ_ _ _ _ _ _ hr O=>by
 unfold dJ;have:=jZ.nd;have T2:=T;cases T2
 walk_at "pp"
theorem e9:av ["_law_cell_here", "_law_sizes_here", "_law_row", "_law_number", "_law_size", "_law_share"] ["_law_cell_here", "_law_sizes_here"] (aq (top 47)):=.of
theorem pM(F:aQ K "_law_lever" "_law_lever" (top 47) dv f fd)(T:Txt K mg)(JX:cF P w K mg base 1 "_law_stream" 2 (ay 5 bK))(Kb:cF P w K mg base 1 "_law_great" 1 (ay 1 dJ)):aF P w K mg base (bG P w) 2 f fd ["_law_cell_here", "_law_sizes_here"] (dh 2 f9) :=
 F.eG e9 λ_ _ _ _ _ _ hr O=>by
 unfold fN;have:=e9.nd;have T2:=T;cases T2
 walk_at "pp"
 refine(bH (g:=(iM K 2 (aZ (aI 3) (aZ (aI 4) iI)))) O rfl (gv (by rfl) T.gW ?_) dZ (dm (n:=2) rfl (aD (aN (i:=3) e9.nd) (aD (aN (i:=4) e9.nd) cj))) cL ?_)
 walk_at "pp"
 exact(qz [1,1,2,3,4,6,12])
 walk_at "pp"
theorem gx:av ["_law_script", "_law_sizes_here", "_law_levers_here", "_law_k", "_law_cell_here"] ["_law_script", "_law_sizes_here"] (aq (top 48)):=.of
theorem nG(F:aQ K "_law_levers" "_law_levers" (top 48) dv f fd)(T:Txt K mg)(Kh:cF P w K mg base 1 "_law_cell" 2 (ay 2 fu))(JZ:cF P w K mg base 1 "_law_digits" 2 (ay 5 bW))(K7:cF P w K mg base 2 "_law_lever" 2 (ay 6 fN)):aF P w K mg base (bG P w) 3 f fd ["_law_script", "_law_sizes_here"] (dh 2 e6) :=
 F.eG gx λ_ _ _ _ _ _ hr O=>by
 unfold e8;have:=gx.nd;have T2:=T;cases T2
 walk_at "pp"
 refine(bH (g:=(aI 3)) O rfl (lH (by rfl) T.mR ?_) n5 (aN (i:=3) gx.nd) cy ?_)
 walk_at "pp"
theorem du:av ["_law_sizes_here", "_law_found", "_law_size", "_law_one", "_law_other"] ["_law_sizes_here"] (aq (top 49)):=.of
theorem pI(F:aQ K "_law_round" "_law_round" (top 49) dv f fd)(T:Txt K mg)  : aF P w K mg base (bG P w) 1 f fd ["_law_sizes_here"] (dh 1 gg) :=
 F.eG du λ_ _ _ _ _ _ hr O=>by
 unfold gc;have:=du.nd;have T2:=T;cases T2
 walk_at "pp"
 refine(bH (g:=(aI 2)) O rfl (fx ?_) dD (aN (i:=2) du.nd) cy ?_)
 walk_at "pp"
 refine(yD (i:=3) (j:=4) rfl du.nd rfl rfl (by decide) rfl rfl ?_ ?_)
 walk_at "pp"
 exact rfl
 walk_at "pp"
 refine(sX O ?_ ?_)
 walk_at "pp"
 refine(yD (i:=3) (j:=4) rfl du.nd rfl rfl (by decide) rfl rfl ?_ ?_)
 walk_at "pp"
 exact rfl
 walk_at "pp"
theorem j1:av ["_law_sizes_here", "_law_one", "_law_other", "_law_times"] ["_law_sizes_here", "_law_one", "_law_other", "_law_times"] (aq (top 50)):=.of
theorem fy:((["_law_here", "_law_there", "_law_size"]:List Str)++(["_law_times"]:List Str)).Nodup:=by decide +kernel
theorem pG(F:aQ K "_law_added" "_law_added" (top 50) dv f fd)(T:Txt K mg)  : aF P w K mg base (bG P w) 1 f fd ["_law_sizes_here", "_law_one", "_law_other", "_law_times"] (dh 4 cw) :=
 F.eG j1 λ_ _ _ _ _ _ hr O=>by
 unfold dg;have:=j1.nd;have T2:=T;cases T2
 walk_at "pp"
 refine(hZ (dr (g:=(iM K 3 (aZ (aI 0) (aZ (aI 1) (aZ (aI 2) iI))))) (ts:=["_law_here", "_law_there", "_law_size"]) (fs:=["_law_times"]) (js:=[3]) rfl rfl rfl rfl rfl rfl (.cons rfl .nil) (.cons rfl rfl (by walk_at "l") rfl rfl .nil) (vT (by rfl) T.gW ?_) tH (λ_ _ _ _ _=>(dm (n:=3) rfl (aD (aN (i:=0) fy) (aD (aN (i:=1) fy) (aD (aN (i:=2) fy) cj))))) (λ_=>vJ) uE (λ_ _ _ _ _=>?_)))
 walk_at "pp"
theorem ef:av ["_law_sizes_here", "_law_levers_here", "_law_setting_here", "_law_pulls_here", "_law_found", "_law_row", "_law_times"] ["_law_sizes_here", "_law_levers_here", "_law_setting_here", "_law_pulls_here"] (aq (top 51)):=.of
theorem nI(F:aQ K "_law_turned" "_law_turned" (top 51) dv f fd)(T:Txt K mg)(J3:cF P w K mg base 1 "_law_added" 4 (ay 4 dg)):aF P w K mg base (bG P w) 2 f fd ["_law_sizes_here", "_law_levers_here", "_law_setting_here", "_law_pulls_here"] (dh 4 cA) :=
 F.eG ef λ_ _ _ _ _ _ hr O=>by
 unfold dq;have:=ef.nd;have T2:=T;cases T2
 walk_at "pp"
 refine(bH (g:=(iM K 2 (aZ (aI 5) (aZ (aI 6) iI)))) O rfl (gv (by rfl) T.gW ?_) dZ (dm (n:=2) rfl (aD (aN (i:=5) ef.nd) (aD (aN (i:=6) ef.nd) cj))) cL ?_)
 walk_at "pp"
theorem cz:av ["_law_sizes_here", "_law_weights_here", "_law_setting_here", "_law_around", "_law_total", "_law_weight", "_law_notch", "_law_size"] ["_law_sizes_here", "_law_weights_here", "_law_setting_here"] (aq (top 52)):=.of
theorem mJ(F:aQ K "_law_weighed" "_law_weighed" (top 52) dv f fd)(T:Txt K mg)(K9:cF P w K mg base 1 "_law_round" 1 (ay 5 gc)):aF P w K mg base (bG P w) 2 f fd ["_law_sizes_here", "_law_weights_here", "_law_setting_here"] (dh 3 bM) :=
 F.eG cz λ_ _ _ _ _ _ hr O=>by
 unfold cV;have:=cz.nd;have T2:=T;cases T2
 walk_at "pp"
 refine(bH (g:=(iM K 3 (aZ (aI 5) (aZ (aI 6) (aZ (aI 7) iI))))) O rfl (vT (by rfl) T.gW ?_) tH (dm (n:=3) rfl (aD (aN (i:=5) cz.nd) (aD (aN (i:=6) cz.nd) (aD (aN (i:=7) cz.nd) cj)))) vJ ?_)
 walk_at "pp"
theorem iP:av ["_law_cell_here", "_law_sizes_here"] ["_law_cell_here", "_law_sizes_here"] (aq (top 53)):=.of
theorem gZ:((["_law_number", "_law_size"]:List Str)++([]:List Str)).Nodup:=by decide +kernel
theorem mO(F:aQ K "_law_setting" "_law_setting" (top 53) dv f fd)(T:Txt K mg)(JZ:cF P w K mg base 1 "_law_digits" 2 (ay 5 bW))(JX:cF P w K mg base 1 "_law_stream" 2 (ay 5 bK)):aF P w K mg base (bG P w) 2 f fd ["_law_cell_here", "_law_sizes_here"] (dh 2 c8) :=
 F.eG iP λ_ _ _ _ _ _ hr O=>by
 unfold dX;have:=iP.nd;have T2:=T;cases T2
 walk_at "pp"
 refine(hZ (dr (g:=(iM K 2 (aZ (aI 0) (aZ (aI 1) iI)))) (ts:=["_law_number", "_law_size"]) (fs:=[]) (js:=[]) (cl:=[]) rfl rfl rfl rfl rfl rfl .nil .nil (gv (by rfl) T.gW ?_) dZ (λ_ _ _ _ _=>(dm (n:=2) rfl (aD (aN (i:=0) gZ) (aD (aN (i:=1) gZ) cj)))) (λ_=>cL) eN (λ_ _ _ _ _=>?_)))
 walk_at "pp"
theorem ie:av ["_law_cell_here", "_law_many", "_law_found", "_law_number"] ["_law_cell_here", "_law_many"] (aq (top 54)):=.of
theorem mG:((["_law_digit"]:List Str)++([]:List Str)).Nodup:=by decide +kernel
theorem pq(F:aQ K "_law_pulls" "_law_pulls" (top 54) dv f fd)(T:Txt K mg)(JZ:cF P w K mg base 1 "_law_digits" 2 (ay 5 bW))(JX:cF P w K mg base 1 "_law_stream" 2 (ay 5 bK))(Kb:cF P w K mg base 1 "_law_great" 1 (ay 1 dJ)):aF P w K mg base (bG P w) 2 f fd ["_law_cell_here", "_law_many"] (dh 2 fW) :=
 F.eG ie λ_ _ _ _ _ _ hr O=>by
 unfold fX;have:=ie.nd;have T2:=T;cases T2
 walk_at "pp"
 refine(hZ (dr (g:=(aI 0)) (ts:=["_law_digit"]) (fs:=[]) (js:=[]) (cl:=[]) rfl rfl rfl rfl rfl rfl .nil .nil (fx ?_) dD (λ_ _ _ _ _=>(aN (i:=0) mG)) (λ_=>cy) gB (λ_ _ _ _ _=>?_)))
 walk_at "pp"
 refine(bH (g:=(aI 3)) O rfl (fx ?_) dD (aN (i:=3) ie.nd) cy ?_)
 walk_at "pp"
theorem dC:av ["_law_cell_here", "_law_sizes_here", "_law_found", "_law_number", "_law_size", "_law_share"] ["_law_cell_here", "_law_sizes_here"] (aq (top 55)):=.of
theorem mB(F:aQ K "_law_weights" "_law_weights" (top 55) dv f fd)(T:Txt K mg)(JX:cF P w K mg base 1 "_law_stream" 2 (ay 5 bK)):aF P w K mg base (bG P w) 2 f fd ["_law_cell_here", "_law_sizes_here"] (dh 2 d_) :=
 F.eG dC λ_ _ _ _ _ _ hr O=>by
 unfold ez;have:=dC.nd;have T2:=T;cases T2
 walk_at "pp"
 refine(bH (g:=(iM K 2 (aZ (aI 3) (aZ (aI 4) iI)))) O rfl (gv (by rfl) T.gW ?_) dZ (dm (n:=2) rfl (aD (aN (i:=3) dC.nd) (aD (aN (i:=4) dC.nd) cj))) cL ?_)
 walk_at "pp"
 exact(qz [1,2,3,4,6])
 walk_at "pp"
theorem jn:av ["_law_row", "_law_cell_here"] ["_law_row", "_law_cell_here"] (aq (top 56)):=.of
theorem ni(F:aQ K "_law_spoilt" "_law_spoilt" (top 56) dv f fd)(T:Txt K mg)  : aF P w K mg base (bG P w) 1 f fd ["_law_row", "_law_cell_here"] (dh 2 b_) :=
 F.eG jn λ_ _ _ _ _ _ hr O=>by
 unfold eQ;have:=jn.nd;have T2:=T;cases T2
 walk_at "pp"
 refine(jO ?_ rh (kA ?_))
 walk_at "pp"
 refine(jO ?_ rh (kA ?_))
 walk_at "pp"
 exact DR
 walk_at "pp"
theorem gD:av ["_law_thing", "_law_many", "_law_number"] ["_law_thing", "_law_many"] (aq (top 57)):=.of
theorem nX(F:aQ K "_law_is_row" "_law_is_row" (top 57) dv f fd)(T:Txt K mg)  : aF P w K mg base (bG P w) 1 f fd ["_law_thing", "_law_many"] (dh 2 aW) :=
 F.eG gD λ_ _ _ _ _ _ hr O=>by
 unfold bb;have:=gD.nd;have T2:=T;cases T2
 walk_at "pp"
 refine(fj ?_ (fz ?_)).pt
 walk_at "pp"
 refine(gM (T := "tuple") (by rfl) T.aK (c9 (v:=.ty "tuple") (by rfl) T.kI i_ rfl) (by decide) gF gF ?_)
 walk_at "pp"
 refine(bH (g:=(aI 2)) O rfl (fx ?_) dD (aN (i:=2) gD.nd) cy ?_)
 walk_at "pp"
 refine(fj ?_ (fz ?_)).pt
 walk_at "pp"
 refine(gM (T := "int") (by rfl) T.aK (c9 (v:=.ty "int") (by rfl) T.vC rm rfl) (by decide) gF gF ?_)
 walk_at "pp"
 refine(gM (T := "bool") (by rfl) T.aK (c9 (v:=.ty "bool") (by rfl) T.lg kR rfl) (by decide) gF gF ?_)
 walk_at "pp"
theorem cx:av ["_law_thing", "_law_sizes_here", "_law_number", "_law_size"] ["_law_thing", "_law_sizes_here"] (aq (top 58)):=.of
theorem j3(F:aQ K "_law_is_setting" "_law_is_setting" (top 58) dv f fd)(T:Txt K mg)(J9:cF P w K mg base 1 "_law_is_row" 2 (ay 3 bb)):aF P w K mg base (bG P w) 2 f fd ["_law_thing", "_law_sizes_here"] (dh 2 bU) :=
 F.eG cx λ_ _ _ _ _ _ hr O=>by
 unfold bS;have:=cx.nd;have T2:=T;cases T2
 walk_at "pp"
 refine(bH (g:=(iM K 2 (aZ (aI 2) (aZ (aI 3) iI)))) O rfl (gv (by rfl) T.gW ?_) dZ (dm (n:=2) rfl (aD (aN (i:=2) cx.nd) (aD (aN (i:=3) cx.nd) cj))) cL ?_)
 walk_at "pp"
 refine(fj ?_ (fz ?_)).pt
 walk_at "pp"
theorem iV:av ["_law_sizes_here", "_law_levers_here", "_law_one", "_law_other", "_law_pulls_here"] ["_law_sizes_here", "_law_levers_here", "_law_one", "_law_other", "_law_pulls_here"] (aq (top 59)):=.of
theorem mL(F:aQ K "_law_way_due" "_law_way_due" (top 59) dv f fd)(T:Txt K mg)(J9:cF P w K mg base 1 "_law_is_row" 2 (ay 3 bb))(J_:cF P w K mg base 2 "_law_turned" 4 (ay 7 dq)):aF P w K mg base (bG P w) 3 f fd ["_law_sizes_here", "_law_levers_here", "_law_one", "_law_other", "_law_pulls_here"] (dh 5 cP) :=
 F.eG iV λ_ _ _ _ _ _ hr O=>by
 unfold c6;have:=iV.nd;have T2:=T;cases T2
 walk_at "pp"
 refine(je ?_ (kn ?_))
 walk_at "pp"
theorem fG:av ["_law_sizes_here", "_law_levers_here", "_law_one", "_law_other", "_law_weights_here", "_law_row"] ["_law_sizes_here", "_law_levers_here", "_law_one", "_law_other", "_law_weights_here"] (aq (top 60)):=.of
theorem mI(F:aQ K "_law_bar_due" "_law_bar_due" (top 60) dv f fd)(T:Txt K mg)(Ki:cF P w K mg base 2 "_law_is_setting" 2 (ay 4 bS))(J7:cF P w K mg base 2 "_law_weighed" 3 (ay 8 cV))(J3:cF P w K mg base 1 "_law_added" 4 (ay 4 dg)):aF P w K mg base (bG P w) 3 f fd ["_law_sizes_here", "_law_levers_here", "_law_one", "_law_other", "_law_weights_here"] (dh 5 cU) :=
 F.eG fG λ_ _ _ _ _ _ hr O=>by
 unfold cS;have:=fG.nd;have T2:=T;cases T2
 walk_at "pp"
 refine(bH (g:=(aI 5)) O rfl (fx ?_) dD (aN (i:=5) fG.nd) cy ?_)
 walk_at "pp"
theorem jY:av ["self", "sizes", "levers", "prices"] ["self", "sizes", "levers", "prices"] (aq (inClass (top 22) 0)):=.of
theorem mn:((["lever"]:List Str)++(["sizes"]:List Str)).Nodup:=by decide +kernel
theorem pQ(F:aQ K "__init__" "Vault.__init__" (inClass (top 22) 0) dv f fd)(T:Txt K mg)(Lb:cF P w K mg base 3 "need_sizes" 1 (ay 3 fP))(K3:cF P w K mg base 3 "need_levers" 2 (ay 4 eT))(Ln:cF P w K mg base 1 "rests" 2 (ay 2 kY))(Ld:cF P w K mg base 3 "prices_for" 2 (ay 3 fY))(K2:cF P w K mg base 2 "multiple_of" 1 (ay 3 eR)):aF P w K mg base (bG P w) 4 f fd ["self", "sizes", "levers", "prices"] (BK 4 aC g_) :=
 F.ID jY (by decide) λ_ _ _ _ _ _ hr O=>by
 unfold iD;have:=jY.nd;have T2:=T;cases T2
 walk_at "pp"
 refine(lR (i:=0) rfl (by first | exact .inl rfl | exact .inr (.inl rfl)) T.kN T.gJ ?_)
 walk_at "pp"
 refine(lR (i:=0) rfl (by first | exact .inl rfl | exact .inr (.inl rfl)) T.kN T.eB ?_)
 walk_at "pp"
 refine(hZ (dr (g:=(aI 0)) (ts:=["lever"]) (fs:=["sizes"]) (js:=[1]) rfl rfl rfl rfl rfl rfl (.cons rfl .nil) (.cons rfl rfl (by walk_at "l") rfl rfl .nil) (fx ?_) dD (λ_ _ _ _ _=>(aN (i:=0) mn)) (λ_=>cy) gB (λ_ _ _ _ _=>?_)))
 walk_at "pp"
 refine(lR (i:=0) rfl (by first | exact .inl rfl | exact .inr (.inl rfl)) T.kN T.e_ ?_)
 walk_at "pp"
 refine(lR (i:=0) rfl (by first | exact .inl rfl | exact .inr (.inl rfl)) T.kN T.fJ ?_)
 walk_at "pp"
theorem jx:av ["self"] ["self"] (aq (inClass (top 22) 1)):=.of
theorem oH(F:aQ K "sizes" "Vault.sizes" (inClass (top 22) 1) dv f fd)(T:Txt K mg)  : aF P w K mg base (bG P w) 1 f fd ["self"] (dh 1 bI) :=
 F.eG jx λ_ _ _ _ _ _ hr O=>by
 unfold cC;have:=jx.nd;have T2:=T;cases T2
 walk_at "pp"
theorem iY:av ["self"] ["self"] (aq (inClass (top 22) 2)):=.of
theorem mH(F:aQ K "levers" "Vault.levers" (inClass (top 22) 2) dv f fd)(T:Txt K mg)  : aF P w K mg base (bG P w) 1 f fd ["self"] (dh 1 bL) :=
 F.eG iY λ_ _ _ _ _ _ hr O=>by
 unfold cm;have:=iY.nd;have T2:=T;cases T2
 walk_at "pp"
theorem iR:av ["self"] ["self"] (aq (inClass (top 22) 3)):=.of
theorem mw(F:aQ K "prices" "Vault.prices" (inClass (top 22) 3) dv f fd)(T:Txt K mg)  : aF P w K mg base (bG P w) 1 f fd ["self"] (dh 1 oG) :=
 F.eG iR λ_ _ _ _ _ _ hr O=>by
 unfold jw;have:=iR.nd;have T2:=T;cases T2
 walk_at "pp"
theorem iU:av ["self"] ["self"] (aq (inClass (top 22) 4)):=.of
theorem mz(F:aQ K "around" "Vault.around" (inClass (top 22) 4) dv f fd)(T:Txt K mg)  : aF P w K mg base (bG P w) 1 f fd ["self"] (dh 1 cT) :=
 F.eG iU λ_ _ _ _ _ _ hr O=>by
 unfold dW;have:=iU.nd;have T2:=T;cases T2
 walk_at "pp"
theorem iZ:av ["self"] ["self"] (aq (inClass (top 38) 0)):=.of
theorem iX(F:aQ K "brings" "Paper.brings" (inClass (top 38) 0) dv f fd)(T:Txt K mg)  : aF P w K mg base (bG P w) 1 f fd ["self"] (dh 1 bc) :=
 F.eG iZ λ_ _ _ _ _ _ hr O=>by
 unfold cX;have:=iZ.nd;have T2:=T;cases T2
 walk_at "pp"
theorem ji:av ["self"] ["self"] (aq (inClass (top 38) 2)):=.of
theorem ny(F:aQ K "words" "Paper.words" (inClass (top 38) 2) dv f fd)(T:Txt K mg)  : aF P w K mg base (bG P w) 1 f fd ["self"] (dh 1 cB) :=
 F.eG ji λ_ _ _ _ _ _ hr O=>by
 unfold eS;have:=ji.nd;have T2:=T;cases T2
 walk_at "pp"
theorem l_:av ["self", "pulls"] ["self", "pulls"] (aq (inClass (top 39) 0)):=.of
theorem sU(F:aQ K "__init__" "Way.__init__" (inClass (top 39) 0) dv f fd)(T:Txt K mg)  : aF P w K mg base (bG P w) 1 f fd ["self", "pulls"] (BK 2 aP iS) :=
 F.ID l_ (by decide) λ_ _ _ _ _ _ hr O=>by
 unfold j_;have:=l_.nd;have T2:=T;cases T2
 walk_at "pp"
 refine(lR (i:=0) rfl (by first | exact .inl rfl | exact .inr (.inl rfl)) T.CS T.lZ ?_)
 walk_at "pp"
theorem jW:av ["self"] ["self"] (aq (inClass (top 39) 1)):=.of
theorem pE(F:aQ K "brings" "Way.brings" (inClass (top 39) 1) dv f fd)(T:Txt K mg)  : aF P w K mg base (bG P w) 1 f fd ["self"] (dh 1 de) :=
 F.eG jW λ_ _ _ _ _ _ hr O=>by
 unfold fK;have:=jW.nd;have T2:=T;cases T2
 walk_at "pp"
theorem k4:av ["self"] ["self"] (aq (inClass (top 39) 3)):=.of
theorem qA(F:aQ K "words" "Way.words" (inClass (top 39) 3) dv f fd)(T:Txt K mg)  : aF P w K mg base (bG P w) 1 f fd ["self"] (dh 1 dG) :=
 F.eG k4 λ_ _ _ _ _ _ hr O=>by
 unfold hG;have:=k4.nd;have T2:=T;cases T2
 walk_at "pp"
theorem md:av ["self", "weights"] ["self", "weights"] (aq (inClass (top 40) 0)):=.of
theorem sM(F:aQ K "__init__" "Bar.__init__" (inClass (top 40) 0) dv f fd)(T:Txt K mg)  : aF P w K mg base (bG P w) 1 f fd ["self", "weights"] (BK 2 aM iW) :=
 F.ID md (by decide) λ_ _ _ _ _ _ hr O=>by
 unfold km;have:=md.nd;have T2:=T;cases T2
 walk_at "pp"
 refine(lR (i:=0) rfl (by first | exact .inl rfl | exact .inr (.inl rfl)) T.Cq T.jX ?_)
 walk_at "pp"
theorem kr:av ["self"] ["self"] (aq (inClass (top 40) 2)):=.of
theorem ro(F:aQ K "words" "Bar.words" (inClass (top 40) 2) dv f fd)(T:Txt K mg)  : aF P w K mg base (bG P w) 1 f fd ["self"] (dh 1 dF) :=
 F.eG kr λ_ _ _ _ _ _ hr O=>by
 unfold gY;have:=kr.nd;have T2:=T;cases T2
 walk_at "pp"
theorem jT:av ["vault", "thing", "sizes"] ["vault", "thing"] (aq (top 28)):=.of
theorem iN:((["notch", "size"]:List Str)++([]:List Str)).Nodup:=by decide +kernel
theorem pP(F:aQ K "is_setting" "is_setting" (top 28) dv f fd)(T:Txt K mg)(J1:mD P w K mg base aC 1 "sizes" 1 (ay 1 cC))(Kn:cF P w K mg base 2 "is_row" 2 (ay 2 ip)):aF P w K mg base (bG P w) 3 f fd ["vault", "thing"] (dh 2 aE) :=
 F.eG jT λ_ _ _ _ _ _ hr O=>by
 unfold bf;have:=jT.nd;have T2:=T;cases T2
 walk_at "pp"
 refine(fj ?_ (fz ?_)).pt
 walk_at "pp"
 refine(gM (T := "tuple") (by rfl) T.aK (c9 (v:=.ty "tuple") (by rfl) T.kI i_ rfl) (by decide) gF gF ?_)
 walk_at "pp"
 refine(hZ (dr (g:=(iM K 2 (aZ (aI 0) (aZ (aI 1) iI)))) (ts:=["notch", "size"]) (fs:=[]) (js:=[]) (cl:=[]) rfl rfl rfl rfl rfl rfl .nil .nil (gv (by rfl) T.gW ?_) dZ (λ_ _ _ _ _=>(dm (n:=2) rfl (aD (aN (i:=0) iN) (aD (aN (i:=1) iN) cj)))) (λ_=>cL) eN (λ_ _ _ _ _=>?_)))
 walk_at "pp"
 refine(sA tM nB yB uj ?_ ?_ ?_)
 walk_at "pp"
theorem l7:av ["vault", "thing"] ["vault", "thing"] (aq (top 29)):=.of
theorem rS(F:aQ K "is_pulls" "is_pulls" (top 29) dv f fd)(T:Txt K mg)(J0:mD P w K mg base aC 1 "levers" 1 (ay 1 cm))(Kn:cF P w K mg base 2 "is_row" 2 (ay 2 ip)):aF P w K mg base (bG P w) 3 f fd ["vault", "thing"] (dh 2 bu) :=
 F.eG l7 λ_ _ _ _ _ _ hr O=>by
 unfold bz;have:=l7.nd;have T2:=T;cases T2
 walk_at "pp"
 refine(je ?_ (kn ?_))
 walk_at "pp"
 refine(gM (T := "tuple") (by rfl) T.aK (c9 (v:=.ty "tuple") (by rfl) T.kI i_ rfl) (by decide) gF gF ?_)
 walk_at "pp"
theorem iQ:av ["vault", "thing"] ["vault", "thing"] (aq (top 30)):=.of
theorem mE(F:aQ K "need_setting" "need_setting" (top 30) dv f fd)(T:Txt K mg)(Kc:cF P w K mg base 3 "is_setting" 2 (ay 3 bf)):aF P w K mg base (bG P w) 4 f fd ["vault", "thing"] (dh 2 aJ) :=
 F.eG iQ λ_ _ _ _ _ _ hr O=>by
 unfold bh;have:=iQ.nd;have T2:=T;cases T2
 walk_at "pp"
theorem jU:av ["vault", "thing"] ["vault", "thing"] (aq (top 31)):=.of
theorem pH(F:aQ K "need_pulls" "need_pulls" (top 31) dv f fd)(T:Txt K mg)(Kr:cF P w K mg base 3 "is_pulls" 2 (ay 2 bz)):aF P w K mg base (bG P w) 4 f fd ["vault", "thing"] (dh 2 fR) :=
 F.eG jU λ_ _ _ _ _ _ hr O=>by
 unfold fV;have:=jU.nd;have T2:=T;cases T2
 walk_at "pp"
theorem nV:av ["vault", "setting", "other", "times", "numbers"] ["vault", "setting", "other", "times"] (aq (top 32)):=.of
theorem oK:((["notch", "turn"]:List Str)++(["times"]:List Str)).Nodup:=by decide +kernel
theorem zW(F:aQ K "added" "added" (top 32) dv f fd)(T:Txt K mg)(J1:mD P w K mg base aC 1 "sizes" 1 (ay 1 cC))(Ln:cF P w K mg base 1 "rests" 2 (ay 2 kY)):aF P w K mg base (bG P w) 2 f fd ["vault", "setting", "other", "times"] (dh 4 kJ) :=
 F.eG nV λ_ _ _ _ _ _ hr O=>by
 unfold k6;have:=nV.nd;have T2:=T;cases T2
 walk_at "pp"
 refine(vx (i:=4) (g:=(iM K 2 (aZ (aI 0) (aZ (aI 1) iI)))) (ts:=["notch", "turn"]) (fs:=["times"]) (js:=[3]) rfl rfl rfl rfl rfl rfl (.cons rfl .nil) (.cons rfl rfl (by walk_at "l") rfl rfl .nil) (gv (by rfl) T.gW ?_) dZ (λ_ _ _ _ _=>(dm (n:=2) rfl (aD (aN (i:=0) oK) (aD (aN (i:=1) oK) cj)))) (λ_=>cL) eN (λ_ _ _ _ _=>?_) nV.nd rfl (by walk_at "l"))
 walk_at "pp"
theorem jz:av ["vault", "setting", "pulls", "reached", "lever", "times"] ["vault", "setting", "pulls"] (aq (top 33)):=.of
theorem xF(F:aQ K "turned" "turned" (top 33) dv f fd)(T:Txt K mg)(JW:cF P w K mg base 4 "need_setting" 2 (ay 2 bh))(La:cF P w K mg base 4 "need_pulls" 2 (ay 2 fV))(J0:mD P w K mg base aC 1 "levers" 1 (ay 1 cm))(Lm:cF P w K mg base 2 "added" 4 (ay 5 k6)):aF P w K mg base (bG P w) 5 f fd ["vault", "setting", "pulls"] (dh 3 jm) :=
 F.eG jz λ_ _ _ _ _ _ hr O=>by
 unfold kx;have:=jz.nd;have T2:=T;cases T2
 walk_at "pp"
 refine(bH (g:=(iM K 2 (aZ (aI 4) (aZ (aI 5) iI)))) O rfl (gv (by rfl) T.gW ?_) dZ (dm (n:=2) rfl (aD (aN (i:=4) jz.nd) (aD (aN (i:=5) jz.nd) cj))) cL ?_)
 walk_at "pp"
theorem oW:av ["vault", "one", "other"] ["vault", "one", "other"] (aq (top 34)):=.of
theorem uu(F:aQ K "between" "between" (top 34) dv f fd)(T:Txt K mg)(JW:cF P w K mg base 4 "need_setting" 2 (ay 2 bh))(Lm:cF P w K mg base 2 "added" 4 (ay 5 k6)):aF P w K mg base (bG P w) 5 f fd ["vault", "one", "other"] (dh 3 gq) :=
 F.eG oW λ_ _ _ _ _ _ hr O=>by
 unfold gj;have:=oW.nd;have T2:=T;cases T2
 walk_at "pp"
theorem n_:av ["vault", "weights", "setting", "around", "worths"] ["vault", "weights", "setting"] (aq (top 36)):=.of
theorem o6:((["weight", "size"]:List Str)++(["around"]:List Str)).Nodup:=by decide +kernel
theorem Ai(F:aQ K "weigh" "weigh" (top 36) dv f fd)(T:Txt K mg)(JW:cF P w K mg base 4 "need_setting" 2 (ay 2 bh))(KA:mD P w K mg base aC 1 "around" 1 (ay 1 dW))(J1:mD P w K mg base aC 1 "sizes" 1 (ay 1 cC))(Lu:cF P w K mg base 1 "rest_sum" 3 (ay 3 iB)):aF P w K mg base (bG P w) 5 f fd ["vault", "weights", "setting"] (dh 3 cK) :=
 F.eG n_ λ_ _ _ _ _ _ hr O=>by
 unfold fM;have:=n_.nd;have T2:=T;cases T2
 walk_at "pp"
 refine(vx (i:=4) (g:=(iM K 2 (aZ (aI 0) (aZ (aI 1) iI)))) (ts:=["weight", "size"]) (fs:=["around"]) (js:=[3]) rfl rfl rfl rfl rfl rfl (.cons rfl .nil) (.cons rfl rfl (by walk_at "l") rfl rfl .nil) (gv (by rfl) T.gW ?_) dZ (λ_ _ _ _ _=>(dm (n:=2) rfl (aD (aN (i:=0) o6) (aD (aN (i:=1) o6) cj)))) (λ_=>cL) eN (λ_ _ _ _ _=>?_) n_.nd rfl (by walk_at "l"))
 walk_at "pp"
theorem gN:av ["vault", "weights"] ["vault", "weights"] (aq (top 37)):=.of
theorem ju:((["lever"]:List Str)++(["vault", "weights"]:List Str)).Nodup:=by decide +kernel
theorem kb(F:aQ K "weighs_no_lever" "weighs_no_lever" (top 37) dv f fd)(T:Txt K mg)(J0:mD P w K mg base aC 1 "levers" 1 (ay 1 cm))(Kk:cF P w K mg base 5 "weigh" 3 (ay 5 fM)):aF P w K mg base (bG P w) 6 f fd ["vault", "weights"] (dh 2 cH) :=
 F.eG gN λ_ _ _ _ _ _ hr O=>by
 unfold cG;have:=gN.nd;have T2:=T;cases T2
 walk_at "pp"
 refine(hZ (dr (g:=(aI 0)) (ts:=["lever"]) (fs:=["vault", "weights"]) (js:=[0,1]) rfl rfl rfl rfl rfl rfl (.cons rfl (.cons rfl .nil)) (.cons rfl rfl (by walk_at "l") rfl rfl (.cons rfl rfl (by walk_at "l") rfl rfl .nil)) (fx ?_) dD (λ_ _ _ _ _=>(aN (i:=0) ju)) (λ_=>cy) gB (λ_ _ _ _ _=>?_)))
 walk_at "pp"
theorem hV:av ["_law_vault", "_law_weights_here", "_law_setting_here"] ["_law_vault", "_law_weights_here", "_law_setting_here"] (aq (top 62)):=.of
theorem kT(F:aQ K "_law_unweighed" "_law_unweighed" (top 62) dv f fd)(T:Txt K mg)(Kk:cF P w K mg base 5 "weigh" 3 (ay 5 fM)):aF P w K mg base (bG P w) 6 f fd ["_law_vault", "_law_weights_here", "_law_setting_here"] (dh 3 cn) :=
 F.eG hV λ_ _ _ _ _ _ hr O=>by
 unfold c_;have:=hV.nd;have T2:=T;cases T2
 walk_at "pp"
 refine(z6 rfl rfl (λpn E2 O2=>(vI ?_)) (.zh (by rfl) T.fe.mg (by decide) T.fe.ok (λea=>?_) .nil))
 walk_at "pp"
theorem jv:av ["self", "vault", "one", "other"] ["self", "vault", "one", "other"] (aq (inClass (top 38) 1)):=.of
theorem nW(F:aQ K "shows" "Paper.shows" (inClass (top 38) 1) dv f fd)(T:Txt K mg)(JW:cF P w K mg base 4 "need_setting" 2 (ay 2 bh)):aF P w K mg base (bG P w) 5 f fd ["self", "vault", "one", "other"] (dh 4 aS) :=
 F.eG jv λ_ _ _ _ _ _ hr O=>by
 unfold bY;have:=jv.nd;have T2:=T;cases T2
 walk_at "pp"
theorem kE:av ["self", "vault", "one", "other"] ["self", "vault", "one", "other"] (aq (inClass (top 39) 2)):=.of
theorem rf(F:aQ K "shows" "Way.shows" (inClass (top 39) 2) dv f fd)(T:Txt K mg)(JW:cF P w K mg base 4 "need_setting" 2 (ay 2 bh))(Kr:cF P w K mg base 3 "is_pulls" 2 (ay 2 bz))(LM:cF P w K mg base 5 "turned" 3 (ay 6 kx)):aF P w K mg base (bG P w) 6 f fd ["self", "vault", "one", "other"] (dh 4 aY) :=
 F.eG kE λ_ _ _ _ _ _ hr O=>by
 unfold cv;have:=kE.nd;have T2:=T;cases T2
 walk_at "pp"
 refine(je ?_ (kn ?_))
 walk_at "pp"
theorem kz:av ["self", "vault", "one", "other", "difference"] ["self", "vault", "one", "other"] (aq (inClass (top 40) 1)):=.of
theorem rj(F:aQ K "shows" "Bar.shows" (inClass (top 40) 1) dv f fd)(T:Txt K mg)(LB:cF P w K mg base 5 "between" 3 (ay 3 gj))(Kc:cF P w K mg base 3 "is_setting" 2 (ay 3 bf))(Kl:cF P w K mg base 6 "weighs_no_lever" 2 (ay 2 cG))(Kk:cF P w K mg base 5 "weigh" 3 (ay 5 fM)):aF P w K mg base (bG P w) 7 f fd ["self", "vault", "one", "other"] (dh 4 aX) :=
 F.eG kz λ_ _ _ _ _ _ hr O=>by
 unfold cp;have:=kz.nd;have T2:=T;cases T2
 walk_at "pp"
 refine(fj ?_ (fz ?_)).pt
 walk_at "pp"
theorem iT:av ["_law_vault", "_law_paper", "_law_one", "_law_other"] ["_law_vault", "_law_paper", "_law_one", "_law_other"] (aq (top 61)):=.of
theorem mv(F:aQ K "_law_refused" "_law_refused" (top 61) dv f fd)(T:Txt K mg)(J8:mD P w K mg base aG 5 "shows" 4 (ay 4 bY))(Kg:mD P w K mg base aP 6 "shows" 4 (ay 4 cv))(Kf:mD P w K mg base aM 7 "shows" 4 (ay 5 cp)):aF P w K mg base (bG P w) 8 f fd ["_law_vault", "_law_paper", "_law_one", "_law_other"] (dh 4 bw) :=
 F.eG iT λ_ _ _ _ _ _ hr O=>by
 unfold cY;have:=iT.nd;have T2:=T;cases T2
 walk_at "pp"
 refine(z6 rfl rfl (λpn E2 O2=>(vI ?_)) (.zh (by rfl) T.fe.mg (by decide) T.fe.ok (λea=>?_) .nil))
 walk_at "pp"
theorem i4:av ["_law_vault", "_law_paper", "_law_good", "_law_bad", "_law_found"] ["_law_vault", "_law_paper", "_law_good", "_law_bad"] (aq (top 63)):=.of
theorem mM(F:aQ K "_law_refuses" "_law_refuses" (top 63) dv f fd)(T:Txt K mg)(KD:cF P w K mg base 8 "_law_refused" 4 (ay 4 cY))(Km:cF P w K mg base 6 "_law_unweighed" 3 (ay 3 c_)):aF P w K mg base (bG P w) 9 f fd ["_law_vault", "_law_paper", "_law_good", "_law_bad"] (dh 4 cZ) :=
 F.eG i4 λ_ _ _ _ _ _ hr O=>by
 unfold dY;have:=i4.nd;have T2:=T;cases T2
 walk_at "pp"
 refine(je ?_ (kn ?_))
 walk_at "pp"
 refine(Ad ?_)
 walk_at "pp"
theorem gK:av ["_law_vault", "_law_sizes_here", "_law_levers_here", "_law_one", "_law_other", "_law_pulls_here", "_law_weights_here", "_law_way", "_law_bar", "_law_plain", "_law_found"] ["_law_vault", "_law_sizes_here", "_law_levers_here", "_law_one", "_law_other", "_law_pulls_here", "_law_weights_here"] (aq (top 64)):=.of
theorem oC(F:aQ K "_law_papers" "_law_papers" (top 64) dv f fd)(T:Txt K mg)(Ko:xV P w K mg base aM 1 "Bar" 2 [] iW)(Kq:xV P w K mg base aP 1 "Way" 2 [] iS)(J8:mD P w K mg base aG 5 "shows" 4 (ay 4 bY))(Kg:mD P w K mg base aP 6 "shows" 4 (ay 4 cv))(Kf:mD P w K mg base aM 7 "shows" 4 (ay 5 cp))(KN:cF P w K mg base 3 "_law_way_due" 5 (ay 5 c6))(KC:cF P w K mg base 3 "_law_bar_due" 5 (ay 6 cS))(KY:mD P w K mg base aG 1 "words" 1 (ay 1 eS))(Lg:mD P w K mg base aP 1 "words" 1 (ay 1 hG))(Lf:mD P w K mg base aM 1 "words" 1 (ay 1 gY))(Kz:mD P w K mg base aG 1 "brings" 1 (ay 1 cX))(K6:mD P w K mg base aP 1 "brings" 1 (ay 1 fK))(K4:mD P w K mg base aM 1 "brings" 1 (ay 1 cX)):aF P w K mg base (bG P w) 8 f fd ["_law_vault", "_law_sizes_here", "_law_levers_here", "_law_one", "_law_other", "_law_pulls_here", "_law_weights_here"] (dh 7 eO) :=
 F.eG gK λ_ _ _ _ _ _ hr O=>by
 unfold eZ;have:=gK.nd;have T2:=T;cases T2
 walk_at "pp"
 refine(Bl (i:=7) (j:=8) (k:=9) rfl gK.nd rfl rfl rfl (by decide) rfl rfl rfl ?_ ?_)
 walk_at "pp"
 exact rfl
 walk_at "pp"
 refine(fj ?_ (fz ?_)).pt
 walk_at "pp"
 refine(gM (T := "bool") (by rfl) T.aK (c9 (v:=.ty "bool") (by rfl) T.lg kR rfl) (by decide) gF gF ?_)
 walk_at "pp"
 refine(gM (T := "bool") (by rfl) T.aK (c9 (v:=.ty "bool") (by rfl) T.lg kR rfl) (by decide) gF gF ?_)
 walk_at "pp"
 refine(fj ?_ (fj ?_ (fz ?_))).pt
 walk_at "pp"
 refine(fj ?_ (fj ?_ (fz ?_))).pt
 walk_at "pp"
 refine(fj ?_ (fj ?_ (fj ?_ (fz ?_)))).pt
 walk_at "pp"
 refine(T.rH.is (by rfl) T.aK (by rfl) ?_)
 walk_at "pp"
 refine(T.rH.is (by rfl) T.aK (by rfl) ?_)
 walk_at "pp"
 refine(T.iS.is (by rfl) T.aK (by rfl) ?_)
 walk_at "pp"
 refine(T.iW.is (by rfl) T.aK (by rfl) ?_)
 walk_at "pp"
 refine(je ?_ (je ?_ (kn ?_)))
 walk_at "pp"
theorem qZ:av ["_law_script", "_law_sizes_here", "_law_levers_here", "_law_vault", "_law_k", "_law_cell_here", "_law_one", "_law_pulls_here", "_law_other", "_law_weights_here", "_law_found", "_law_bad"] ["_law_script"] (aq (top 65)):=.of
theorem Et(F:aQ K "law" "law" (top 65) dv f fd)(T:Txt K mg)(Kh:cF P w K mg base 1 "_law_cell" 2 (ay 2 fu))(K_:cF P w K mg base 2 "_law_sizes" 1 (ay 4 f7))(KZ:cF P w K mg base 3 "_law_levers" 2 (ay 5 e8))(K5:xV P w K mg base aC 4 "Vault" 4 [.bZ] g_)(KJ:cF P w K mg base 2 "_law_setting" 2 (ay 2 dX))(K8:cF P w K mg base 2 "_law_pulls" 2 (ay 4 fX))(J_:cF P w K mg base 2 "_law_turned" 4 (ay 7 dq))(J3:cF P w K mg base 1 "_law_added" 4 (ay 4 dg))(KP:cF P w K mg base 2 "_law_weights" 2 (ay 6 ez))(Kk:cF P w K mg base 5 "weigh" 3 (ay 5 fM))(J7:cF P w K mg base 2 "_law_weighed" 3 (ay 8 cV))(Ko:xV P w K mg base aM 1 "Bar" 2 [] iW)(Kq:xV P w K mg base aP 1 "Way" 2 [] iS)(KH:cF P w K mg base 9 "_law_refuses" 4 (ay 5 dY))(K1:cF P w K mg base 1 "_law_spoilt" 2 (ay 2 eQ))(K0:cF P w K mg base 8 "_law_papers" 7 (ay 11 eZ)):aF P w K mg base (bG P w) 10 f fd ["_law_script"] (dh 1 pX) :=
 F.eG qZ λ_ _ _ _ _ _ hr O=>by
 unfold zc;have:=qZ.nd;have T2:=T;cases T2
 walk_at "pp"
 refine(bH (g:=(iM K 2 (aZ (aI 4) (aZ (aI 5) iI)))) O rfl (ux (by rfl) T.gU ?_) rE (dm (n:=2) rfl (aD (aN (i:=4) qZ.nd) (aD (aN (i:=5) qZ.nd) cj))) cL ?_)
 walk_at "pp"
 refine(jO ?_ (kA ?_) (kA ?_))
 walk_at "pp"
 refine(fj ?_ (fj ?_ (fz ?_))).pt
 walk_at "pp"
 refine(gM (T := "int") (by rfl) T.aK (c9 (v:=.ty "int") (by rfl) T.vC rm rfl) (by decide) gF gF ?_)
 walk_at "pp"
 refine(gM (T := "bool") (by rfl) T.aK (c9 (v:=.ty "bool") (by rfl) T.lg kR rfl) (by decide) gF gF ?_)
 walk_at "pp"
 refine(jO ?_ rh (kA ?_))
 walk_at "pp"
end tY
namespace tY
open PySem L2 PyProof.Rows
open PySem.W (nsIn findIn codeIn keepIn isFn mroIn specialIn takesIn hasDictIn typeIn plainGet plainOver makesIn mg_of mg_none_of fnOf excIn clsIn)
abbrev κ(w:World):PySem.W.Frag:=HD.K w.params
variable(w:World)
abbrev GK:Value:=HD.st "dialvault.wholes" 386
abbrev sv:Value:=HD.st "dialvault.vault" 428
abbrev mS:Value:=HD.st "law_dialvault_k21_papers_checked" 750
abbrev wV:Value:=HD.st "dialvault.papers" 600
abbrev Il:Value:=HD.st "dialvault.errors" 194
def h_:FuncData:=fnOf "__init__" "Vault.__init__" (gT (inClass (top 22) 0)) (eX (inClass (top 22) 0)) (aq (inClass (top 22) 0)) (.ref 215) .none .none sv none (.ref 219) .none
theorem kC:aQ (κ w) "__init__" "Vault.__init__" (inClass (top 22) 0) (.ref 215) 220 h_:=.of (by kernel_rfl) (by kernel_rfl) (by kernel_rfl)
def jr:FuncData:=vW "__init__" "Way.__init__" (inClass (top 39) 0) wV 391
theorem t_:aQ (κ w) "__init__" "Way.__init__" (inClass (top 39) 0) .none 392 jr:=.of (by kernel_rfl) (by kernel_rfl) (by kernel_rfl)
theorem t7:Binds (κ w) jr ["self", "pulls"] []:=Binds.all (D8 λ_ _=>rfl)
def jq:FuncData:=vW "__init__" "Bar.__init__" (inClass (top 40) 0) wV 431
theorem t9:aQ (κ w) "__init__" "Bar.__init__" (inClass (top 40) 0) .none 432 jq:=.of (by kernel_rfl) (by kernel_rfl) (by kernel_rfl)
theorem uL:Binds (κ w) jq ["self", "weights"] []:=Binds.all (D8 λ_ _=>rfl)
def uD:FuncData:=vW "law" "law" (top 65) mS 610
theorem Gu:aQ (κ w) "law" "law" (top 65) .none 611 uD:=.of (by kernel_rfl) (by kernel_rfl) (by kernel_rfl)
theorem u5:fS (κ w) jC:=⟨(by kernel_rfl),(by kernel_rfl),(by kernel_rfl),(by kernel_rfl),(by kernel_rfl),(by kernel_rfl),(by kernel_rfl),(by kernel_rfl),(by kernel_rfl)⟩
theorem qT:fS (κ w) aU:=⟨(by kernel_rfl),(by kernel_rfl),(by kernel_rfl),(by kernel_rfl),(by kernel_rfl),(by kernel_rfl),(by kernel_rfl),(by kernel_rfl),(by kernel_rfl)⟩
theorem uv:fS (κ w) il:=⟨(by kernel_rfl),(by kernel_rfl),(by kernel_rfl),(by kernel_rfl),(by kernel_rfl),(by kernel_rfl),(by kernel_rfl),(by kernel_rfl),(by kernel_rfl)⟩
theorem qr:fS (κ w) gu:=⟨(by kernel_rfl),(by kernel_rfl),(by kernel_rfl),(by kernel_rfl),(by kernel_rfl),(by kernel_rfl),(by kernel_rfl),(by kernel_rfl),(by kernel_rfl)⟩
def gS:FuncData:=vW "__init__" "NoDial.__init__" (inClass (top 3) 0) Il 54
theorem Ig:(κ w).lookup 55=some ⟨.type "function", none,.func gS,⟨[]⟩⟩:=by kernel_rfl
theorem Hg:codeIn (κ w) (.ref 54) "NoDial.__init__" = true:=by kernel_rfl
theorem uw:Binds (κ w) gS ["self", "dial"] []:=Binds.all (D8 λ_ _=>rfl)
theorem vb:av ["self", "dial"] ["self", "dial"] (aq (inClass (top 3) 0)):=.of
theorem Ij:((clsIn (κ w) 65).any λcd=>f_ cd.mro)=true:=by kernel_rfl
theorem IF:findIn (κ w) (.ref 65) "dial" = some none:=by kernel_rfl
theorem uP{P:Program}{w:World}{mg:Str->Option Value}{base:Heap}:aF P w (κ w) mg base (bG P w) 1 55 gS ["self", "dial"] (wx (κ w) gu "dial") :=
 oS (n0 := "self") (n1 := "dial") (fl := "dial") (Ig w) (Hg w) vb (qr w) (Ij w) (IF w) (by first | exact .inl rfl | exact .inr (.inl rfl)) (by first | exact .inl rfl | exact .inr (.inl rfl)) (by decide) (by decide) (by decide) (by decide) (λ_=>rfl)
theorem nA:fS (κ w) gk:=⟨(by kernel_rfl),(by kernel_rfl),(by kernel_rfl),(by kernel_rfl),(by kernel_rfl),(by kernel_rfl),(by kernel_rfl),(by kernel_rfl),(by kernel_rfl)⟩
def fU:FuncData:=vW "__init__" "NoLever.__init__" (inClass (top 4) 0) Il 80
theorem Hu:(κ w).lookup 81=some ⟨.type "function", none,.func fU,⟨[]⟩⟩:=by kernel_rfl
theorem Ik:codeIn (κ w) (.ref 80) "NoLever.__init__" = true:=by kernel_rfl
theorem se:Binds (κ w) fU ["self", "lever"] []:=Binds.all (D8 λ_ _=>rfl)
theorem sJ:av ["self", "lever"] ["self", "lever"] (aq (inClass (top 4) 0)):=.of
theorem HS:((clsIn (κ w) 91).any λcd=>f_ cd.mro)=true:=by kernel_rfl
theorem Ib:findIn (κ w) (.ref 91) "lever" = some none:=by kernel_rfl
theorem sL{P:Program}{w:World}{mg:Str->Option Value}{base:Heap}:aF P w (κ w) mg base (bG P w) 1 81 fU ["self", "lever"] (wx (κ w) gk "lever") :=
 oS (n0 := "self") (n1 := "lever") (fl := "lever") (Hu w) (Ik w) sJ (nA w) (HS w) (Ib w) (by first | exact .inl rfl | exact .inr (.inl rfl)) (by first | exact .inl rfl | exact .inr (.inl rfl)) (by decide) (by decide) (by decide) (by decide) (λ_=>rfl)
theorem nP:fS (κ w) eK:=⟨(by kernel_rfl),(by kernel_rfl),(by kernel_rfl),(by kernel_rfl),(by kernel_rfl),(by kernel_rfl),(by kernel_rfl),(by kernel_rfl),(by kernel_rfl)⟩
def gi:FuncData:=vW "__init__" "NoPrice.__init__" (inClass (top 5) 0) Il 106
theorem Iq:(κ w).lookup 107=some ⟨.type "function", none,.func gi,⟨[]⟩⟩:=by kernel_rfl
theorem Hn:codeIn (κ w) (.ref 106) "NoPrice.__init__" = true:=by kernel_rfl
theorem rZ:Binds (κ w) gi ["self", "lever"] []:=Binds.all (D8 λ_ _=>rfl)
theorem sH:av ["self", "lever"] ["self", "lever"] (aq (inClass (top 5) 0)):=.of
theorem HL:((clsIn (κ w) 117).any λcd=>f_ cd.mro)=true:=by kernel_rfl
theorem Iv:findIn (κ w) (.ref 117) "lever" = some none:=by kernel_rfl
theorem tJ{P:Program}{w:World}{mg:Str->Option Value}{base:Heap}:aF P w (κ w) mg base (bG P w) 1 107 gi ["self", "lever"] (wx (κ w) eK "lever") :=
 oS (n0 := "self") (n1 := "lever") (fl := "lever") (Iq w) (Hn w) sH (nP w) (HL w) (Iv w) (by first | exact .inl rfl | exact .inr (.inl rfl)) (by first | exact .inl rfl | exact .inr (.inl rfl)) (by decide) (by decide) (by decide) (by decide) (λ_=>rfl)
theorem lC:ko (κ w) aM:=⟨(by kernel_rfl),(by kernel_rfl),(by kernel_rfl),(by kernel_rfl)⟩
theorem jc:ko (κ w) aG:=⟨(by kernel_rfl),(by kernel_rfl),(by kernel_rfl),(by kernel_rfl)⟩
theorem dy:ko (κ w) aC:=⟨(by kernel_rfl),(by kernel_rfl),(by kernel_rfl),(by kernel_rfl)⟩
theorem lG:ko (κ w) aP:=⟨(by kernel_rfl),(by kernel_rfl),(by kernel_rfl),(by kernel_rfl)⟩
theorem Fy:findIn (κ w) (.ref 449) "weights" = some none:=by kernel_rfl
theorem Gi:findIn (κ w) (.ref 251) "dial_sizes" = some none:=by kernel_rfl
theorem Gq:findIn (κ w) (.ref 251) "least_round" = some none:=by kernel_rfl
theorem Gs:findIn (κ w) (.ref 251) "lever_prices" = some none:=by kernel_rfl
theorem GO:findIn (κ w) (.ref 251) "lever_settings" = some none:=by kernel_rfl
theorem FC:findIn (κ w) (.ref 416) "pulls" = some none:=by kernel_rfl
theorem Ih:nsIn (κ w) mainGlobals "LEAST_PRICE" = some (some (.int 1 438)):=by kernel_rfl
theorem Iu:nsIn (κ w) mainGlobals "LEAST_SIZE" = some (some (.int 2 432)):=by kernel_rfl
theorem HR:nsIn (κ w) mainGlobals "MOST_DIALS" = some (some (.int 6 430)):=by kernel_rfl
theorem IJ:nsIn (κ w) mainGlobals "MOST_LEVERS" = some (some (.int 8 436)):=by kernel_rfl
theorem II:nsIn (κ w) mainGlobals "MOST_PRICE" = some (some (.int 1000 440)):=by kernel_rfl
theorem HK:nsIn (κ w) mainGlobals "MOST_SIZE" = some (some (.int 360 434)):=by kernel_rfl
theorem Hy:nsIn (κ w) mainGlobals "NoSetting" = some (some (.ref 136)):=by kernel_rfl
theorem HY:xJ (λC=>PySem.W.exmOne (κ w) (.ref C) (.ref aU)) dM dN=true:=by kernel_rfl
theorem uh:nu (κ w) aM:=⟨lC w,(by kernel_rfl),(by kernel_rfl),(by kernel_rfl),(by kernel_rfl)⟩
theorem oZ:nu (κ w) aG:=⟨jc w,(by kernel_rfl),(by kernel_rfl),(by kernel_rfl),(by kernel_rfl)⟩
theorem oa:nu (κ w) aC:=⟨dy w,(by kernel_rfl),(by kernel_rfl),(by kernel_rfl),(by kernel_rfl)⟩
theorem uk:nu (κ w) aP:=⟨lG w,(by kernel_rfl),(by kernel_rfl),(by kernel_rfl),(by kernel_rfl)⟩
theorem He:nsIn (κ w) mainGlobals "Bar" = some (some (.ref 449)):=by kernel_rfl
theorem IH:(zQ.all λa=>PySem.W.kitOne (κ w) (.type a) (.ref aM)==some false)=true:=by kernel_rfl
theorem IU:xJ (λC=>PySem.W.kitOne (κ w) (.ref C) (.ref aM)) k_ lB=true:=by kernel_rfl
theorem IC:xJ (λC=>PySem.W.kitOne (κ w) (.ref C) (.ref aM)) qM rJ=true:=by kernel_rfl
theorem Im:nsIn (κ w) mainGlobals "Paper" = some (some (.ref 374)):=by kernel_rfl
theorem HV:(zQ.all λa=>PySem.W.kitOne (κ w) (.type a) (.ref aG)==some false)=true:=by kernel_rfl
theorem IA:xJ (λC=>PySem.W.kitOne (κ w) (.ref C) (.ref aG)) dz dw=true:=by kernel_rfl
theorem HW:xJ (λC=>PySem.W.kitOne (κ w) (.ref C) (.ref aG)) iv iy=true:=by kernel_rfl
theorem IB:nsIn (κ w) mainGlobals "Way" = some (some (.ref 416)):=by kernel_rfl
theorem HQ:(zQ.all λa=>PySem.W.kitOne (κ w) (.type a) (.ref aP)==some false)=true:=by kernel_rfl
theorem HZ:xJ (λC=>PySem.W.kitOne (κ w) (.ref C) (.ref aP)) lA lj=true:=by kernel_rfl
theorem Ii:xJ (λC=>PySem.W.kitOne (κ w) (.ref C) (.ref aP)) rN qU=true:=by kernel_rfl
theorem Hl:(κ w).lookup 215=some (HD.tu [.none]):=by kernel_rfl
theorem qN:Binds (κ w) h_ ["self", "sizes", "levers", "prices"] [.none]:=(kC w).binds (Hl w) rfl λ_ _ _ _ _ _ us hl=>by obtain⟨a,b,c,rfl⟩:=IV (show _=3 from (by simpa using hl));exact⟨_,rfl,rfl⟩
theorem txt{w:World}{h:Heap}{mg:Str->Option Value}(X:PySem.W.Frag.In (κ w) h)(G:h.Ns mainGlobals mg):Txt (κ w) mg where
 FR:=mg_none_of X G (by kernel_rfl)
 lg:=mg_none_of X G (by kernel_rfl)
 gU:=mg_none_of X G (by kernel_rfl)
 vC:=mg_none_of X G (by kernel_rfl)
 aK:=mg_none_of X G (by kernel_rfl)
 Fx:=mg_none_of X G (by kernel_rfl)
 yw:=mg_none_of X G (by kernel_rfl)
 CI:=mg_none_of X G (by kernel_rfl)
 mR:=mg_none_of X G (by kernel_rfl)
 GI:=mg_none_of X G (by kernel_rfl)
 kI:=mg_none_of X G (by kernel_rfl)
 gW:=mg_none_of X G (by kernel_rfl)
 pf:=⟨_,mg_of X G (Ih w),⟨_,rfl⟩⟩
 qI:=⟨_,mg_of X G (Iu w),⟨_,rfl⟩⟩
 qW:=⟨_,mg_of X G (HR w),⟨_,rfl⟩⟩
 pS:=⟨_,mg_of X G (IJ w),⟨_,rfl⟩⟩
 rK:=⟨_,mg_of X G (II w),⟨_,rfl⟩⟩
 tw:=⟨_,mg_of X G (HK w),⟨_,rfl⟩⟩
 Cq:=lC w
 Bu:=jc w
 kN:=dy w
 CS:=lG w
 AI:=⟨(by kernel_rfl),(by kernel_rfl),(by kernel_rfl),mg_of X G (by kernel_rfl)⟩
 xm:=⟨(by kernel_rfl),u5 w,(by kernel_rfl),(by kernel_rfl),mg_of X G (by kernel_rfl)⟩
 sC:=⟨(by kernel_rfl),qT w,(by kernel_rfl),(by kernel_rfl),mg_of X G (by kernel_rfl)⟩
 xc:=⟨(by kernel_rfl),uv w,(by kernel_rfl),(by kernel_rfl),mg_of X G (by kernel_rfl)⟩
 fe:=.of (mg_of X G (Hy w)) (HY w)
 iW:=.of (mg_of X G (He w)) (IH w) (IU w) (IC w) (xI (uh w) mj) (xI (oZ w) (xI (oa w) (xI (uk w) mj))) mj mj
 rH:=.of (mg_of X G (Im w)) (HV w) (IA w) (HW w) (xI (uh w) (xI (oZ w) (xI (uk w) mj))) (xI (oa w) mj) mj mj
 iS:=.of (mg_of X G (IB w)) (HQ w) (HZ w) (Ii w) (xI (uk w) mj) (xI (uh w) (xI (oZ w) (xI (oa w) mj))) mj mj
 jX:=(Fy w)
 gJ:=(Gi w)
 fJ:=(Gq w)
 e_:=(Gs w)
 eB:=(GO w)
 lZ:=(FC w)
 qR:=λC h=>by obtain rfl:=eq_of_beq h;exact⟨dy w,(Gi w)⟩
 pO:=λC h=>by obtain rfl:=eq_of_beq h;exact⟨dy w,(Gq w)⟩
 nh:=λC h=>by obtain rfl:=eq_of_beq h;exact⟨dy w,(Gs w)⟩
 ly:=λC h=>by obtain rfl:=eq_of_beq h;exact⟨dy w,(GO w)⟩
 BJ:=λC h=>by obtain rfl:=eq_of_beq h;exact⟨lG w,(FC w)⟩
 xr:=λC h=>by obtain rfl:=eq_of_beq h;exact⟨lC w,(Fy w)⟩
theorem D7{P:Program}{w:World}{h:Heap}{mg:Str->Option Value}(X:PySem.W.Frag.In (κ w) h)(G:h.Ns mainGlobals mg)(base:Heap):aF P w (κ w) mg base (bG P w) 10 611 uD ["_law_script"] (dh 1 pX):=by
 have T:=txt X G
 have LO:rO P w (κ w) mg base gu "NoDial" "dial" := ⟨⟨55,gS,["self", "dial"],(by kernel_rfl),(by kernel_rfl),uP,uw w⟩,qr w,(by kernel_rfl),(by kernel_rfl),mg_of X G (by kernel_rfl)⟩
 have LD:rO P w (κ w) mg base gk "NoLever" "lever" := ⟨⟨81,fU,["self", "lever"],(by kernel_rfl),(by kernel_rfl),sL,se w⟩,nA w,(by kernel_rfl),(by kernel_rfl),mg_of X G (by kernel_rfl)⟩
 have LG:rO P w (κ w) mg base eK "NoPrice" "lever" := ⟨⟨107,gi,["self", "lever"],(by kernel_rfl),(by kernel_rfl),tJ,rZ w⟩,nP w,(by kernel_rfl),(by kernel_rfl),mg_of X G (by kernel_rfl)⟩
 have Ks:=ig P w base X G 183 182 GK λD=>r9 D T
 have Kn:=ig P w base X G 188 187 GK λD=>wo D T Ks
 have LK:=ig P w base X G 195 194 GK λD=>wM D T
 have K2:=ig P w base X G 202 201 GK λD=>nN D T LK
 have Lu:=ig P w base X G 207 206 GK λD=>ti D T
 have Kj:=ig P w base X G 262 261 sv λD=>qK D T Ks
 have Lb:=ig P w base X G 269 268 sv λD=>pv D T LO Kj
 have K3:=ig P w base X G 276 275 sv λD=>oM D T Kn LD
 have Ld:=ig P w base X G 283 282 sv λD=>pF D T LG Kj
 have Ln:=ig P w base X G 288 287 sv λD=>Ak D T
 have Kh:=ig P w base X G 458 457 mS λD=>qC D T
 have JX:=ig P w base X G 465 464 mS λD=>oB D T
 have JZ:=ig P w base X G 472 471 mS λD=>nJ D T
 have K_:=ig P w base X G 477 476 mS λD=>pC D T JZ JX
 have Kb:=ig P w base X G 484 483 mS λD=>pL D T
 have K7:=ig P w base X G 491 490 mS λD=>pM D T JX Kb
 have KZ:=ig P w base X G 498 497 mS λD=>nG D T Kh JZ K7
 have K9:=ig P w base X G 505 504 mS λD=>pI D T
 have J3:=ig P w base X G 510 509 mS λD=>pG D T
 have J_:=ig P w base X G 517 516 mS λD=>nI D T J3
 have J7:=ig P w base X G 524 523 mS λD=>mJ D T K9
 have KJ:=ig P w base X G 529 528 mS λD=>mO D T JZ JX
 have K8:=ig P w base X G 534 533 mS λD=>pq D T JZ JX Kb
 have KP:=ig P w base X G 541 540 mS λD=>mB D T JX
 have K1:=ig P w base X G 548 547 mS λD=>ni D T
 have J9:=ig P w base X G 555 554 mS λD=>nX D T
 have Ki:=ig P w base X G 562 561 mS λD=>j3 D T J9
 have KN:=ig P w base X G 569 568 mS λD=>mL D T J9 J_
 have KC:=ig P w base X G 576 575 mS λD=>mI D T Ki J7 J3
 have K5:xV P w (κ w) mg base aC 4 "Vault" 4 [.bZ] g_:=⟨⟨220,h_,["self", "sizes", "levers", "prices"],[.none],[.bZ],mg_of X G (by kernel_rfl),⟨(by kernel_rfl),(by kernel_rfl),(by kernel_rfl),(by kernel_rfl)⟩,qN w,(.cons rfl .nil),λ_=>(.cons .bZ .nil),pQ (kC w) T Lb K3 Ln Ld K2⟩⟩
 have J1:=wI P w base (dy w) 227 226 sv λD=>oH D T
 have J0:=wI P w base (dy w) 234 233 sv λD=>mH D T
 have My:=wI P w base (dy w) 241 240 sv λD=>mw D T
 have KA:=wI P w base (dy w) 248 247 sv λD=>mz D T
 have Kz:=wI P w base (jc w) 357 356 wV λD=>iX D T
 have K4:=wI P w base (lC w) 357 356 wV λD=>iX D T
 have KY:=wI P w base (jc w) 371 370 wV λD=>ny D T
 have Kq:xV P w (κ w) mg base aP 1 "Way" 2 [] iS:=⟨⟨392,jr,["self", "pulls"],[],[],mg_of X G (by kernel_rfl),⟨(by kernel_rfl),(by kernel_rfl),(by kernel_rfl),(by kernel_rfl)⟩,t7 w,.nil,λ_=>.nil,sU (t_ w) T ⟩⟩
 have K6:=wI P w base (lG w) 399 398 wV λD=>pE D T
 have Lg:=wI P w base (lG w) 413 412 wV λD=>qA D T
 have Ko:xV P w (κ w) mg base aM 1 "Bar" 2 [] iW:=⟨⟨432,jq,["self", "weights"],[],[],mg_of X G (by kernel_rfl),⟨(by kernel_rfl),(by kernel_rfl),(by kernel_rfl),(by kernel_rfl)⟩,uL w,.nil,λ_=>.nil,sM (t9 w) T ⟩⟩
 have Lf:=wI P w base (lC w) 446 445 wV λD=>ro D T
 have Kc:=ig P w base X G 293 292 sv λD=>pP D T J1 Kn
 have Kr:=ig P w base X G 300 299 sv λD=>rS D T J0 Kn
 have JW:=ig P w base X G 307 306 sv λD=>mE D T Kc
 have La:=ig P w base X G 314 313 sv λD=>pH D T Kr
 have Lm:=ig P w base X G 319 318 sv λD=>zW D T J1 Ln
 have LM:=ig P w base X G 326 325 sv λD=>xF D T JW La J0 Lm
 have LB:=ig P w base X G 333 332 sv λD=>uu D T JW Lm
 have Kk:=ig P w base X G 338 337 wV λD=>Ai D T JW KA J1 Lu
 have Kl:=ig P w base X G 343 342 wV λD=>kb D T J0 Kk
 have Km:=ig P w base X G 590 589 mS λD=>kT D T Kk
 have J8:=wI P w base (jc w) 364 363 wV λD=>nW D T JW
 have Kg:=wI P w base (lG w) 406 405 wV λD=>rf D T JW Kr LM
 have Kf:=wI P w base (lC w) 439 438 wV λD=>rj D T LB Kc Kl Kk
 have KD:=ig P w base X G 583 582 mS λD=>mv D T J8 Kg Kf
 have KH:=ig P w base X G 597 596 mS λD=>mM D T KD Km
 have K0:=ig P w base X G 604 603 mS λD=>oC D T Ko Kq J8 Kg Kf KN KC KY Lg Lf Kz K6 K4
 exact Et (Gu w) T Kh K_ KZ K5 KJ K8 J_ J3 KP Kk J7 Ko Kq KH K1 K0
theorem Ht:vH (κ w)=true:=by kernel_rfl
theorem G7:nsIn (κ w) mainGlobals "law" = some (some (.ref 611)):=by kernel_rfl
end tY
open PySem PySem.W
theorem tY.hold(said:PySem.Challenge.rw_dialvault_k21_papers_checked.wellSaid=true)(MV:∀ ns:List Int,ns.length<=63->(∀ i∈ns,Builtin.Int.intBits i<=1048576)->tY.pX [.jo (ns.map L2.PV.int)]=L2.M.ok (.bl true)):PySem.Challenge.rw_dialvault_k21_papers_checked.Holds:=by
 refine holds_law said λsaid=>?_
 refine holds_open (q:=HD.vw) (loose:=HD.loose) (Xt:=HD.Xt) (XP:=XL HD.vw []) (Yf:=Hook.obs HD.hook) (Ya:=Hook.val HD.hook) (YP:=Hook.says HD.hook) HD.F8 (Hook.of HD.hook) (Hook.keeps HD.hook) (λs e=>xl_of s (Bool.and_eq_true_iff.mp e).1) XL.keeps (by rfl) (by rfl) (by rfl) (λs e=>recFacts_of (Bool.and_eq_true_iff.mp e).2) (by rfl) said (by decide +kernel) ⟨rfl,rfl,rfl,rfl,rfl,by decide +kernel⟩ ?hw ?hc
 case hw=>w_witness2
 refine L2.uq (l:=PySem.Challenge.rw_dialvault_k21_papers_checked) (n:=63) (k:=10) (x := "_law_script") (K:=HD.K) (sem:=tY.pX) rfl (by decide) rfl ⟨rfl,by decide,by decide⟩ (λw h Y=>PySem.W.kIn_of Y) (λw=>tY.Ht w) (λw mg fa h X G hmg=>?_) MV
 have e:=hmg.symm.trans (PySem.W.mg_of X G (tY.G7 w))
 cases e
 exact⟨tY.uD,λs v=>.of_eq rfl,λbase X' G'=>tY.D7 X' G' base⟩
namespace Eu
theorem qa(a b:Int)(hb:b≠0):(a-a.fdiv b*b).natAbs<b.natAbs/\0<=(a-a.fdiv b*b)*b/\(0<=a*b->a.natAbs=(a.fdiv b).natAbs*b.natAbs+(a-a.fdiv b*b).natAbs):=by
 have pos:∀ (a b:Int),0<b->(a-a/b*b).natAbs<b.natAbs/\0<=(a-a/b*b)*b/\(0<=a*b->a.natAbs=(a/b).natAbs*b.natAbs+(a-a/b*b).natAbs):=by
  intro a b hb
  have e:a-a/b*b=a%b:=by
   have h:=Int.mul_ediv_add_emod a b
   rw[Int.mul_comm] at h
   omega
  have h0:=Int.emod_nonneg a (by omega:b≠0)
  have h1:=Int.emod_lt_of_pos a hb
  rw[e]
  refine⟨by omega,Int.mul_nonneg h0 (by omega),λhab=>?_⟩
  have ha:0<=a:=by
   rcases Int.lt_or_le a 0 with h | h
   ·have:=Int.mul_neg_of_neg_of_pos h hb
    omega
   ·exact h
  have hq:0<=a/b:=Int.ediv_nonneg ha (by omega)
  have h2:=Int.mul_ediv_add_emod a b
  have h3:((a/b).natAbs*b.natAbs:Nat)=(b*(a/b)).natAbs:=by
   rw[Int.natAbs_mul,Nat.mul_comm]
  rw[h3]
  have h4:0<=b*(a/b):=Int.mul_nonneg (by omega) hq
  omega
 rcases Int.lt_or_le 0 b with h | h
 ·rw[Int.fdiv_eq_ediv_of_nonneg a (by omega)]
  exact pos a b h
 ·have h':0 < -b:=by omega
  have e:a.fdiv b=(-a)/(-b):=by
   rw[← Int.fdiv_eq_ediv_of_nonneg (-a) (by omega:0<=-b),Int.neg_fdiv_neg]
  obtain⟨p1,p2,p3⟩:=pos (-a) (-b) h'
  have e2:-a-(-a)/(-b)*(-b)=-(a-a.fdiv b*b):=by
   rw[← e,Int.mul_neg]
   omega
  rw[e2] at p1 p2 p3
  rw[← e] at p3
  simp only[Int.natAbs_neg,Int.neg_mul_neg] at p1 p2 p3
  exact⟨p1,p2,p3⟩
structure St (a b:Int) (r s t r' s' t':Int):Prop where
 c0:r=s*a+t*b
 c1:r'=s'*a+t'*b
 dv:∀ d:Int,d∣r->d∣r'->d∣a/\d∣b
 bd:s'.natAbs*r.natAbs+s.natAbs*r'.natAbs<=b.natAbs
 sg:s'=0\/0<=r*r'
 b0:s.natAbs<=b.natAbs+1
 b1:s'.natAbs<=b.natAbs+1
 d0:t.natAbs<=a.natAbs+(b.natAbs+1)*a.natAbs+b.natAbs+1
 d1:t'.natAbs<=a.natAbs+(b.natAbs+1)*a.natAbs+b.natAbs+1
 m0:r.natAbs<=a.natAbs+b.natAbs
 m1:r'.natAbs<=b.natAbs
theorem start(a b:Int):St a b a 1 0 b 0 1 where
 c0:=by omega
 c1:=by omega
 dv:=λd h1 h2=>⟨h1,h2⟩
 bd:=by simp
 sg:=.inl rfl
 b0:=by omega
 b1:=by omega
 d0:=by simp
 d1:=by omega
 m0:=by omega
 m1:=by omega
theorem turn{a b r s t r' s' t':Int}(h:St a b r s t r' s' t')(h0:r'≠0) :
  St a b r' s' t' (r-r.fdiv r'*r') (s-r.fdiv r'*s') (t-r.fdiv r'*t')/\(r-r.fdiv r'*r').natAbs<r'.natAbs:=by
 obtain⟨f1,f2,f3⟩:=qa r r' h0
 generalize hq:r.fdiv r'=q at *
 have hb:b≠0:=by
  intro z
  have:=h.m1
  omega
 have hr':1<=r'.natAbs:=by omega
 have M9:r-q*r'=(s-q*s')*a+(t-q*t')*b:=by
  rw[h.c0,h.c1,Int.sub_mul,Int.sub_mul,Int.mul_add,Int.mul_assoc,Int.mul_assoc]
  omega
 have bd':(s-q*s').natAbs*r'.natAbs+s'.natAbs*(r-q*r').natAbs<=b.natAbs:=by
  have GV:(s-q*s').natAbs<=s.natAbs+q.natAbs*s'.natAbs:=by
   rw[← Int.natAbs_mul]
   omega
  have hbd:=h.bd
  rcases h.sg with z | z
  ·subst z
   simp only[Int.mul_zero,Int.sub_zero,Int.natAbs_zero,Nat.zero_mul,Nat.zero_add,Nat.add_zero] at hbd ⊢
   exact hbd
  ·have e:=f3 z
   have k1:(s-q*s').natAbs*r'.natAbs<=(s.natAbs+q.natAbs*s'.natAbs)*r'.natAbs:=Nat.mul_le_mul_right _ GV
   have k2:(s.natAbs+q.natAbs*s'.natAbs)*r'.natAbs+s'.natAbs*(r-q*r').natAbs=s'.natAbs*r.natAbs+s.natAbs*r'.natAbs:=by
    rw[e,Nat.add_mul,Nat.mul_add,Nat.mul_comm q.natAbs s'.natAbs,Nat.mul_assoc]
    omega
   omega
 have b1':(s-q*s').natAbs<=b.natAbs:=by
  have:(s-q*s').natAbs*1<=(s-q*s').natAbs*r'.natAbs:=Nat.mul_le_mul_left _ hr'
  omega
 have mm:(r-q*r').natAbs<=b.natAbs:=by
  have:=h.m1
  omega
 have d1':(t-q*t').natAbs<=a.natAbs+(b.natAbs+1)*a.natAbs+b.natAbs+1:=by
  have e:(t-q*t')*b=(r-q*r')-(s-q*s')*a:=by omega
  have e1:((t-q*t')*b).natAbs<=(r-q*r').natAbs+((s-q*s')*a).natAbs:=by omega
  rw[Int.natAbs_mul,Int.natAbs_mul] at e1
  have k1:(t-q*t').natAbs*1<=(t-q*t').natAbs*b.natAbs:=Nat.mul_le_mul_left _ (by omega)
  have k2:(s-q*s').natAbs*a.natAbs<=(b.natAbs+1)*a.natAbs:=Nat.mul_le_mul_right _ (by omega)
  omega
 refine⟨⟨h.c1,M9,λd e1 e2=>?_,bd',?_,h.b1,by omega,h.d1,d1',?_,mm⟩,f1⟩
 ·refine h.dv d ?_ e1
  have e3:d∣q*r':=Int.dvd_trans e1 (Int.dvd_mul_left _ _)
  have e4:=Int.dvd_add e2 e3
  rwa [Int.sub_add_cancel] at e4
 ·exact .inr (by rw[Int.mul_comm];exact f2)
 ·have:=h.m1
  omega
theorem done{a b r s t s' t':Int}(h:St a b r s t 0 s' t'):r∣a/\r∣b:=h.dv r (Int.dvd_refl r) (Int.dvd_zero r)
end Eu
namespace Lc
def zd(ns:List Nat):Nat:=ns.foldl Nat.lcm 1
theorem vn:∀ (ns:List Nat) (m:Nat),m∣ns.foldl Nat.lcm m/\(∀ n∈ns,n∣ns.foldl Nat.lcm m)/\(∀ k,m∣k->(∀ n∈ns,n∣k)->ns.foldl Nat.lcm m∣k)
 | [],m=>⟨Nat.dvd_refl m,(λ_ h=>nomatch h),λk h _=>h⟩
 | n::ns,m=>by
  obtain⟨h1,h2,h3⟩:=vn ns (Nat.lcm m n)
  refine⟨Nat.dvd_trans (Nat.dvd_lcm_left m n) h1,λx hx=>?_,λk hm hk=>?_⟩
  ·rcases List.mem_cons.mp hx with e | hx
   ·rw[e];exact Nat.dvd_trans (Nat.dvd_lcm_right m n) h1
   ·exact h2 x hx
  ·exact h3 k (Nat.lcm_dvd hm (hk n List.mem_cons_self)) λx hx=>hk x (List.mem_cons_of_mem _ hx)
theorem lcm_dvd{ns:List Nat}{n:Nat}(h:n∈ns):n∣zd ns:=(vn ns 1).2.1 n h
theorem l5:∀ (ns:List Nat) (m:Nat),0<m->(∀ n∈ns,0<n)->0<ns.foldl Nat.lcm m
 | [],m,h,_=>h
 | n::ns,m,h,hp=>l5 ns (Nat.lcm m n) (Nat.lcm_pos h (hp n List.mem_cons_self)) λx hx=>hp x (List.mem_cons_of_mem _ hx)
theorem lcm_pos{ns:List Nat}(h:∀ n∈ns,0<n):0<zd ns:=l5 ns 1 (by decide) h
theorem oo(B:Nat):∀ (ns:List Nat) (m k:Nat),0<m->m<=2^k->(∀ n∈ns,0<n/\n<=2^B)->ns.foldl Nat.lcm m<=2^(k+B*ns.length)
 | [],m,k,_,h,_=>by simpa using h
 | n::ns,m,k,h0,h,hp=>by
  have hn:=hp n List.mem_cons_self
  have h1:Nat.lcm m n<=2^(k+B):=by
   have:Nat.lcm m n<=m*n:=Nat.le_of_dvd (Nat.mul_pos h0 hn.1) (Nat.lcm_dvd (Nat.dvd_mul_right m n) (Nat.dvd_mul_left n m))
   rw[Nat.pow_add]
   exact Nat.le_trans this (Nat.mul_le_mul h hn.2)
  have h2:=oo B ns (Nat.lcm m n) (k+B) (Nat.lcm_pos h0 hn.1) h1 λx hx=>hp x (List.mem_cons_of_mem _ hx)
  have e:k+B*(n::ns).length=k+B+B*ns.length:=by
   rw[List.length_cons,Nat.mul_succ];omega
  rw[e]
  exact h2
theorem yQ(m n:Nat):m/Nat.gcd m n*n=Nat.lcm m n:=by
 unfold Nat.lcm
 rw[Nat.div_mul_right_comm (Nat.gcd_dvd_left m n)]
end Lc
namespace Rg
abbrev jk:=Nat->Int
def Jt(s:jk)(D:Nat->jk)(d:Nat):Int:=if D d d=0 then s d else D d d
section
variable{n:Nat}{s:jk}{D:Nat->jk}
end
section
variable{n:Nat}{s:jk}{D:Nat->jk}
end
section
variable{n:Nat}{s:jk}{D D' L:Nat->jk}{u v g:Nat->Int}
theorem o8(a b:Int):b∣a%b-a:=⟨-(a/b),by have:=Int.emod_def a b;rw[Int.mul_neg];omega⟩
theorem wz(a b:Int):b∣a-a%b:=⟨a/b,by have:=Int.emod_def a b;omega⟩
end
end Rg
namespace Rg
section
variable{n:Nat}{s:jk}{D D':Nat->jk}
variable{f:Nat}{W:Nat->jk}
end
def dn:Nat->(Nat->Int)->Int
 | 0,_=>0
 | m+1,f=>dn m f+f m
theorem sI(a b:Int)(f g h:Nat->Int):∀ m,(∀ l,l<m->h l=a*f l+b*g l)->dn m h=a*dn m f+b*dn m g
 | 0,_=>by simp[dn]
 | m+1,e=>by
  rw[dn,dn,dn,sI a b f g h m λl hl=>e l (by omega),e m (by omega)];grind
theorem oF{f g:Nat->Int}:∀ {m:Nat},(∀ l,l<m->f l=g l)->dn m f=dn m g
 | 0,_=>rfl
 | m+1,e=>by rw[dn,dn,oF λl hl=>e l (by omega),e m (by omega)]
def Led(n:Nat)(s:jk)(m:Nat)(A:Nat->jk)(v P:jk):Prop:=∀ i,i<n->s i∣v i-dn m λl=>P l*A l i
end Rg
namespace Rg
def vf(xs:List Int):jk:=λi=>xs.getD i 0
theorem bg{xs:List Int}{i:Nat}(h:i<xs.length):vf xs i=xs[i]:=by
 unfold vf;rw[List.getD_eq_getElem?_getD,List.getElem?_eq_getElem h];rfl
def Gj(xs:List Int)(a:Int)(ys:List Int)(b:Int):List Int:=(xs.zip ys).map λz=>a*z.1+b*z.2
def vX(xs sizes:List Int):List Int:=(xs.zip sizes).map λz=>z.1%z.2
theorem n8{xs ys:List Int}:(vX xs ys).length=min xs.length ys.length:=by simp[vX]
theorem Aa{xs ys:List Int}{i:Nat}(h1:i<xs.length)(h2:i<ys.length):vf (vX xs ys) i=vf xs i%vf ys i:=by
 rw[bg (by rw[n8];omega),bg h1,bg h2]
 simp[vX]
theorem yW{xs ys:List Int}(hl:xs.length=ys.length)(h:∀ i,i<xs.length->vf xs i=vf ys i):xs=ys:=by
 refine List.ext_getElem hl λi h1 h2=>?_
 have:=h i h1
 rwa [bg h1,bg h2] at this
def Bd(B:Nat)(xs:List Int):Prop:=∀ x∈xs,x.natAbs<2^B
abbrev Row:=List Int×List Int
def row(rows:List Row)(d:Nat):Row:=rows.getD d ([],[])
def DD(rows:List Row):Nat->jk:=λd=>vf (row rows d).1
def Jy(sizes:List Int)(r:Row)(a:Int)(q:Row)(b:Int):Row:=(vX (Gj r.1 a q.1 b) sizes,Gj r.2 a q.2 b)
section
variable{c:Int->Int->Int×Int}{sizes:List Int}{rows:List Row}{left:Row}{n m:Nat}
end
end Rg
namespace Rg
section
variable{c:Int->Int->Int×Int}{sizes:List Int}{rows:List Row}{left:Row}{n m k:Nat}{A:Nat->jk}
end
end Rg
namespace Rg
section
variable{n m k:Nat}{s:jk}{A:Nat->jk}{Ke:List (List Int)}{P:List Int}
end
section
variable{c:Int->Int->Int×Int}{sizes:List Int}{rows:List Row}{left:Row}{n m k:Nat}{A:Nat->jk}
end
end Rg
namespace Rg
def AA(Ls:List (List Int)):Nat->jk:=λl=>vf (Ls.getD l [])
structure Je (n m:Nat) (sizes:List Int) (Ls:List (List Int)):Prop where
 len:Ls.length=m
 at_:∀ l,l<m->(Ls.getD l []).length=n
 sW:∀ l,l<m->∀ i,i<n->0<=AA Ls l i/\AA Ls l i<vf sizes i
section
variable{c:Int->Int->Int×Int}{sizes:List Int}{Ls:List (List Int)}{n m k:Nat}
end
end Rg
namespace Rg
section
variable{n:Nat}{s:jk}{D:Nat->jk}
theorem wK{a b:Int}(h:b∣a)(h1:-b<a)(h2:a<b):a=0:=by
 obtain⟨c,rfl⟩:=h
 rcases Int.lt_trichotomy c 0 with q | q | q
 ·have:b*c<=b*(-1):=Int.mul_le_mul_of_nonneg_left (by omega) (by omega)
  omega
 ·rw[q,Int.mul_zero]
 ·have:b*1<=b*c:=Int.mul_le_mul_of_nonneg_left (by omega) (by omega)
  omega
end
end Rg
namespace Rg
def qm(n:Nat)(s:jk)(Q:Int)(w v:jk):Int:=dn n λi=>w i*v i*(Q/s i)
section
variable{n:Nat}{s:jk}{D:Nat->jk}{Q:Int}{w v u:jk}
theorem Bz(a b:Int){x:jk}(h:∀ i,i<n->x i=a*v i+b*u i):qm n s Q w x=a*qm n s Q w v+b*qm n s Q w u :=
 sI a b _ _ _ n λi hi=>by rw[h i hi];grind
theorem r0{f:Nat->Int}{q:Int}:∀ {m:Nat},(∀ l,l<m->q∣f l)->q∣dn m f
 | 0,_=>Int.dvd_zero _
 | m+1,h=>Int.dvd_add (r0 λl hl=>h l (by omega)) (h m (by omega))
theorem A6(hq:∀ i,i<n->s i∣Q)(h:∀ i,i<n->s i∣v i):Q∣qm n s Q w v:=r0 λi hi=>by
 obtain⟨c,hc⟩:=h i hi
 obtain⟨e,he⟩:=hq i hi
 by_cases z:s i=0
 ·rw[hc,z];simp
 ·rw[hc,he,Int.mul_ediv_cancel_left _ z]
  exact⟨w i*c,by grind⟩
theorem zq(hq:∀ i,i<n->s i∣Q)(h:∀ i,i<n->s i∣v i-u i):Q∣qm n s Q w v-qm n s Q w u:=by
 have:=Bz (s:=s) (Q:=Q) (w:=w) (n:=n) 1 (-1) (v:=v) (u:=u) (x:=λi=>v i-u i) λi _=>by omega
 have h2:=A6 (w:=w) hq h
 rw[this] at h2
 rw[show qm n s Q w v-qm n s Q w u=1*qm n s Q w v+-1*qm n s Q w u by omega]
 exact h2
end
end Rg
namespace Rg
section
variable{n:Nat}{s:jk}{D:Nat->jk}{Q:Int}
variable{W:Nat->jk}
end
end Rg
namespace tY
open PySem L2 PyProof.Rows Rg
local macro_rules | `(tactic| dsimp? [$ts,*])=>`(tactic| simp only[aT,ay,ki,ao,sY,r6,retS,bp,pd,eE,gm,aj,M.aO,M.bind_some,M.bind_none,M.yS,M.bind_assoc,ae,ai,ah,aa,ar,BO,BI,E4,D5,DM,DK,Dv,EI,Fc,Ey,DQ,DU,DY,Er,E1,C6,cf,gf,H0,qL,B5,pN,Js,GA,n6,FE,j5,Bw,itemsOf,mW,BW,A_,w4,Bv,BC,yn,zz,xT,AS,A5,y0,nL,yt,gb,dk,tN,EC,List.length_cons,List.length_nil,List.map_cons,List.map_nil,List.cons_append,List.nil_append,List.replicate,List.getElem?_cons_zero,List.getElem?_cons_succ,List.getElem?_nil,List.set_cons_zero,List.set_cons_succ,List.set_nil,Nat.reduceAdd,Nat.reduceSub,if_true,if_false,Bool.not_true,Bool.not_false,Bool.false_eq_true,ite_true,ite_false,reduceIte,reduceCtorEq,Nat.sub_self,j9,gO,fI,Option.map_some,Option.map_none,o_,C_,Ed,B8,B_,By,DE,A4,Ba,AU,i6,List.any_cons,List.any_nil,String.reduceBEq,Bool.or_false,Bool.or_true,Bool.true_or,Bool.false_or,Bool.and_true,Bool.and_false,Bool.true_and,Bool.false_and,BM,BD,EA,ED,A9,Bn,B2,AH,yA,zB,ib,ph,List.foldl_cons,List.foldl_nil,yL,ax trivial,$(⟨ts.elemsAndSeps⟩),*])
theorem jN(i:Int):dE [.int i]=M.ok (.bl true):=by rfl
theorem Ah(b:Bool):dE [.bl b]=M.ok (.bl false):=by rfl
theorem rA{α:Type}{inj:α->PV}{h:α->Bool}{p:PV}(xs:List α)(n:Int)(hp:p=.tup (xs.map inj)\/p=.lst (xs.map inj))(H:∀ a∈xs,dE [inj a]=M.ok (.bl (h a)))(hz:xs.length<=sizeLine):dU [p,.int n]=M.ok (.bl (decide ((xs.length:Int)=n)&&xs.all h)):=by
 have key:dj (dH 0) none (ah dE (aa (ae 0) ar)) (xs.map inj) [none]=M.ok (xs.map λa=>.bl (h a)):=oA xs λa ha=>by dsimp? [H a ha]
 have key2:pT [.lst (xs.map λa=>.bl (h a))]=M.ok (.bl (xs.all h)):=by
  have:=oV (xs.map h)
  rw[List.map_map] at this
  rw[show (λa=>PV.bl (h a))=PV.bl∘h from rfl,this]
  simp[List.all_map]
 unfold dU ip
 rcases hp with rfl | rfl
 all_goals
  dsimp? [List.length_map]
  by_cases e:(xs.length:Int)=n
  ·simp only[e,decide_true,Bool.not_true,M.aO,Bool.false_eq_true,if_false,sY,Bool.true_and]
   dsimp? [List.length_map,ax hz,key,key2]
  ·simp only[e,decide_false,Bool.not_false,M.aO,if_true,r6,Bool.false_and]
   dsimp? []
theorem uI(xs:List Int)(n:Int)(hz:xs.length<=sizeLine):dU [tI xs,.int n]=M.ok (.bl (decide ((xs.length:Int)=n))):=by
 exact(rA (p:=tI xs) (h:=λ_=>true) xs n (.inl rfl) (λa _=>jN a) hz).trans (by rw[List.all_eq_true.mpr λ_ _=>rfl,Bool.and_true])
theorem Eb(xs:List Int)(n:Int)(hz:xs.length<=sizeLine):dU [lI xs,.int n]=M.ok (.bl (decide ((xs.length:Int)=n))):=by
 exact(rA (p:=lI xs) (h:=λ_=>true) xs n (.inr rfl) (λa _=>jN a) hz).trans (by rw[List.all_eq_true.mpr λ_ _=>rfl,Bool.and_true])
theorem within_int(x a b:Int):fm [.int x,.int a,.int b]=M.ok (.bl (decide (a<=x/\x<=b))):=by
 unfold fm ff
 dsimp? [jN]
 by_cases h:a<=x
 ·simp only[h,decide_true,if_true,true_and];dsimp? []
 ·simp only[h,decide_false,false_and];dsimp? []
theorem pR(xs:List Int)(h1:1<=xs.length)(h6:xs.length<=6)(hx:∀ x∈xs,2<=x/\x<=360):f6 [lI xs]=M.ok .bZ:=by
 unfold f6 fP
 have a1:¬ (6:Int)<xs.length:=by omega
 have a2:¬ (xs.length:Int)=0:=by omega
 dsimp? [a1,a2,decide_false,zj]
 refine jM xs.zipIdx (λzs env=>(∃ b c,env=[some (.sh (lI xs)),b,c])/\∀ z∈zs,2<=z.1/\z.1<=360) ⟨⟨_,_,rfl⟩,λz hz=>hx z.1 (List.fst_mem_of_mem_zipIdx hz)⟩ ?_ ?_
 ·rintro⟨a,i⟩ r env ⟨⟨b,c,rfl⟩,hz⟩
  have ha:=hz (a,i) List.mem_cons_self
  refine⟨_,[some (.sh (lI xs)),some (.sh (.int i)),some (.sh (.int a))],rfl,?_,⟨_,_,rfl⟩,λz LI=>hz z (List.mem_cons_of_mem _ LI)⟩
  dsimp? [within_int,ha,and_self,decide_true]
 ·rintro JT ⟨⟨b,c,rfl⟩,_⟩;rfl
theorem oE(n:Nat)(xs:List (List Int))(h8:xs.length<=8)(hx:∀ x∈xs,x.length=n)(hn:n<=100):eW [.lst (xs.map lI),.int n]=M.ok .bZ:=by
 unfold eW eT
 have a1:¬ (8:Int)<xs.length:=by omega
 dsimp? [a1,decide_false,List.length_map,Bq]
 refine jM xs.zipIdx (λzs env=>(∃ b c,env=[some (.sh (.lst (xs.map lI))),some (.sh (.int n)),b,c])/\∀ z∈zs,z.1.length=n) ⟨⟨_,_,rfl⟩,λz hz=>hx z.1 (List.fst_mem_of_mem_zipIdx hz)⟩ ?_ ?_
 ·rintro⟨a,i⟩ r env ⟨⟨b,c,rfl⟩,hz⟩
  have ha:a.length=n:=hz (a,i) List.mem_cons_self
  refine⟨_,[some (.sh (.lst (xs.map lI))),some (.sh (.int n)),some (.sh (.int i)),some (.sh (lI a))],rfl,?_,⟨_,_,rfl⟩,λz LI=>hz z (List.mem_cons_of_mem _ LI)⟩
  dsimp? [Eb a n (aL (by omega)),ha,decide_true]
 ·rintro JT ⟨⟨b,c,rfl⟩,_⟩;rfl
theorem sj(n:Nat)(p:PV):(List.replicate n [p]).flatten=List.replicate n p:=by
 induction n with
 | zero=>rfl
 | succ n ih=>rw[List.replicate_succ,List.flatten_cons,ih];rfl
theorem mul_one(p:PV)(n:Nat)(h8:n<=1000):bV (.tup [p]) (.int (n:Int))=M.ok (.tup (List.replicate n p)):=by
 have h2:[p].length*(n:Int).toNat<=sizeLine:=by
  rw[Int.toNat_natCast]
  exact aL (by show 1*n<=1000;omega)
 have h3:(n:Int)<2^63:=Int.lt_of_le_of_lt (Int.ofNat_le.mpr h8) (by decide)
 have h4:-(2^63)<=(n:Int):=Int.le_trans (by decide) (Int.natCast_nonneg n)
 rw[bV,ax ⟨rfl,h4,h3,h2⟩,Int.toNat_natCast,sj]
theorem jK(xs:List PV)(h8:xs.length<=8):fL [.lst xs,.bZ]=M.ok (tI (List.replicate xs.length 1)):=by
 unfold fL fY
 dsimp? [z9,vN,mul_one (.int 1) xs.length (by omega)]
 rw[tI,List.map_replicate]
def wD(xs sizes:List Int):List Int:=(xs.zip sizes).map λz=>z.1%z.2
theorem rV(p q:PV)(xs sizes:List Int)(hp:bO p=some (xs.map PV.int))(hq:bO q=some (sizes.map PV.int))(hs:∀ s∈sizes,0<s)(hz:xs.length<=1000):jH [p,q]=M.ok (tI (wD xs sizes)):=by
 have key:dj (bx 0 1) none (ai bB (ae 0) (ae 1)) ((xs.zip sizes).map λz=>.tup [.int z.1,.int z.2]) [none,none]=M.ok ((xs.zip sizes).map λz=>.int (z.1%z.2)):=by
  refine lJ (p:=λz:Int×Int=>PV.int z.1) (q:=λz:Int×Int=>PV.int z.2) (xs.zip sizes) λz hz=>?_
  have:=hs z.2 (List.of_mem_zip (a:=z.1) (b:=z.2) hz).2
  dsimp? [aA this]
 unfold jH kY
 have hl:(xs.zip sizes).length<=sizeLine:=by rw[List.length_zip];exact aL (Nat.le_trans (Nat.min_le_left _ _) hz)
 dsimp? [cQ xs sizes hp hq,List.length_map,ax hl,key]
 rw[tI,wD,List.map_map];rfl
theorem xx(a b c:PV):br (.tup [a,b,c]) (.int 0)=M.ok a:=cW (j:=0) rfl rfl
theorem FI(a b c:PV):br (.tup [a,b,c]) (.int 1)=M.ok b:=cW (j:=1) rfl rfl
theorem FU(a b c:PV):br (.tup [a,b,c]) (.int 2)=M.ok c:=cW (j:=2) rfl rfl
theorem xk(a b:Int)(ha:a.natAbs<2^60)(hb:b.natAbs<2^60):∃ s t,kQ [.int a,.int b]=M.ok (.tup [.int (Int.gcd a b),.int s,.int t])/\s*a+t*b=Int.gcd a b/\s.natAbs<=b.natAbs+1/\t.natAbs<=a.natAbs+(b.natAbs+1)*a.natAbs+b.natAbs+1:=by
 let J:af->Prop:=λenv=>∃ r s t r' s' t' x y,env=[some (.sh (.int a)),some (.sh (.int b)),some (.sh ((PV.tup [PV.int r,PV.int s,PV.int t]))),some (.sh ((PV.tup [PV.int r',PV.int s',PV.int t']))),x,y]/\Eu.St a b r s t r' s' t'
 let m:af->Nat:=λenv=>match env with
  | [_,_,_,some (.sh (.tup [.int r,_,_])),_,_]=>r.natAbs
  | _=>0
 have hk:(b.natAbs+1)*a.natAbs<=2^60*2^60:=Nat.mul_le_mul (by omega) (by omega)
 have hk2:(2:Nat)^60*2^60=2^120:=by decide
 have start:J [some (.sh (.int a)),some (.sh (.int b)),some (.sh ((PV.tup [PV.int a,PV.int 1,PV.int 0]))),some (.sh ((PV.tup [PV.int b,PV.int 0,PV.int 1]))),none,none]:=⟨_,_,_,_,_,_,_,_,rfl,Eu.start a b⟩
 have loop:=p7 (u:=cf (ai tZ (ai br (ae 3) (λ_=>M.ok (.int 0))) (λ_=>M.ok (.int 0)))) (b:=(ao (bp 4 (ai bj (ai br (ae 2) (λ_=>M.ok (.int 0))) (ai br (ae 3) (λ_=>M.ok (.int 0)))))
  (ao (bp 5 (i9 (aa (ai iK (ai br (ae 2) (λ_=>M.ok (.int 0))) (ai bV (ae 4) (ai br (ae 3) (λ_=>M.ok (.int 0))))) (aa (ai iK (ai br (ae 2) (λ_=>M.ok (.int 1))) (ai bV (ae 4) (ai br (ae 3) (λ_=>M.ok (.int 1))))) (aa (ai iK (ai br (ae 2) (λ_=>M.ok (.int 2))) (ai bV (ae 4) (ai br (ae 3) (λ_=>M.ok (.int 2))))) ar)))))
  (ao (bp 2 (ae 3))
  (ao (bp 3 (ae 5))
  aj))))) J m ?_ _ start
 ·obtain⟨JT,e1,⟨r,s,t,r',s',t',x,y,rfl,st⟩,e2⟩:=loop
  have hr':r'=0:=by
   revert e2
   dsimp? [xx]
   intro e2
   have:(!decide (r'=0))=false:=by injection e2 with e2;injection e2
   simpa using this
  subst hr'
  obtain⟨d1,d2⟩:=Eu.done st
  have hg:(r.natAbs:Int)=Int.gcd a b:=by
   have h1:r.natAbs∣Int.gcd a b:=Int.dvd_gcd (Int.natAbs_dvd.mpr d1) (Int.natAbs_dvd.mpr d2)
   have h2:((Int.gcd a b:Nat):Int)∣r:=by
    rw[st.c0]
    exact Int.dvd_add (Int.dvd_trans (Int.gcd_dvd_left ..) (Int.dvd_mul_left _ _)) (Int.dvd_trans (Int.gcd_dvd_right ..) (Int.dvd_mul_left _ _))
   have h3:Int.gcd a b∣r.natAbs:=Int.ofNat_dvd_left.mp h2
   rw[Nat.dvd_antisymm h1 h3]
  unfold kQ kX
  dsimp? []
  rw[e1]
  dsimp? [xx,FI,FU]
  by_cases hneg:r<0
  ·refine⟨-s,-t,?_,?_,by rw[Int.natAbs_neg];exact st.b0,by rw[Int.natAbs_neg];exact st.d0⟩
   ·simp only[hneg,decide_true,if_true];dsimp? []
    rw[show -r=(Int.gcd a b:Int) by omega]
   ·have:=st.c0
    rw[Int.neg_mul,Int.neg_mul];omega
  ·refine⟨s,t,?_,?_,st.b0,st.d0⟩
   ·simp only[hneg,decide_false,Bool.false_eq_true,if_false];dsimp? []
    rw[show r=(Int.gcd a b:Int) by omega]
   ·have:=st.c0;omega
 ·rintro env ⟨r,s,t,r',s',t',x,y,rfl,st⟩
  by_cases h0:r'=0
  ·refine .inl ?_
   dsimp? [xx]
   simp[h0]
  ·refine .inr ⟨?_,?_⟩
   ·dsimp? [xx]
    simp[h0]
   ·obtain⟨MP,lt⟩:=Eu.turn st h0
    have b1:=st.m1;have b0:=st.m0;have c1:=st.b1;have c2:=st.d1;have c3:=MP.m1
    have q1:(r.fdiv r').natAbs<=r.natAbs+1:=by
     obtain⟨f1,f2,f3⟩:=Eu.qa r r' h0
     generalize r.fdiv r'=q at *
     have e:q*r'=r-(r-q*r'):=by omega
     have e2:(q*r').natAbs<=r.natAbs+(r-q*r').natAbs:=by omega
     rw[Int.natAbs_mul] at e2
     have:q.natAbs*1<=q.natAbs*r'.natAbs:=Nat.mul_le_mul_left _ (by omega)
     rcases Nat.lt_or_ge (r.natAbs+1) q.natAbs with h | h
     ·have h5:(r.natAbs+2)*r'.natAbs<=q.natAbs*r'.natAbs:=Nat.mul_le_mul_right _ (by omega)
      have h6:r.natAbs*1<=r.natAbs*r'.natAbs:=Nat.mul_le_mul_left _ (by omega)
      rw[Nat.add_mul] at h5
      omega
     ·exact h
    have q2:(r.fdiv r').natAbs<2^200:=by omega
    refine⟨[some (.sh (.int a)),some (.sh (.int b)),some (.sh ((PV.tup [PV.int r',PV.int s',PV.int t']))),some (.sh ((PV.tup [PV.int (r-r.fdiv r'*r'),PV.int (s-r.fdiv r'*s'),PV.int (t-r.fdiv r'*t')]))),some (.sh (.int (r.fdiv r'))),some (.sh ((PV.tup [PV.int (r-r.fdiv r'*r'),PV.int (s-r.fdiv r'*s'),PV.int (t-r.fdiv r'*t')])))],?_,⟨_,_,_,_,_,_,_,_,rfl,MP⟩,lt⟩
    dsimp? [xx,FI,FU,lb h0 (Nat.lt_of_lt_of_le (show r'.natAbs<2^200 by omega) (Nat.pow_le_pow_right (by decide) (by decide))),aR (k:=200) (l:=200) q2 (show r'.natAbs<2^200 by omega),aR (k:=200) (l:=200) q2 (show s'.natAbs<2^200 by omega),aR (k:=200) (l:=200) q2 (show t'.natAbs<2^200 by omega)]
def R(sizes:List Int):Int:=(Lc.zd (sizes.map Int.toNat):Nat)
structure Sz (sizes:List Int):Prop where
 h1:1<=sizes.length
 h6:sizes.length<=6
 hx:∀ x∈sizes,2<=x/\x<=360
theorem zx{sizes:List Int}(h:Sz sizes):0<R sizes:=by
 refine Int.ofNat_lt.mpr (Lc.lcm_pos λn hn=>?_)
 obtain⟨x,hx,rfl⟩:=List.mem_map.mp hn
 have:=h.hx x hx;omega
theorem Hk{sizes:List Int}(h:Sz sizes):R sizes<2^60:=by
 have h1:=Lc.oo 9 (sizes.map Int.toNat) 1 0 (by decide) (by decide) λn hn=>by
  obtain⟨x,hx,rfl⟩:=List.mem_map.mp hn
  have:=h.hx x hx;omega
 have h2:(2:Nat)^(0+9*(sizes.map Int.toNat).length)<=2^54:=Nat.pow_le_pow_right (by decide) (by rw[List.length_map];have:=h.h6;omega)
 have h3:Lc.zd (sizes.map Int.toNat)<=2^54:=Nat.le_trans h1 h2
 unfold R;omega
theorem Ga{sizes:List Int}(h:Sz sizes){x:Int}(hx:x∈sizes):x∣R sizes:=by
 have h1:=Lc.lcm_dvd (ns:=sizes.map Int.toNat) (List.mem_map.mpr ⟨x,hx,rfl⟩)
 have h2:=Int.ofNat_dvd.mpr h1
 rw[Int.toNat_of_nonneg (by have:=h.hx x hx;omega)] at h2
 exact h2
structure Acc (sizes r:List Int) (acc:Nat):Prop where
 pos:0<acc
 le:acc<=2^(9*(6-r.length))
 len:r.length<=6
 val:(r.map Int.toNat).foldl Nat.lcm acc=Lc.zd (sizes.map Int.toNat)
 sW:∀ x∈r,2<=x/\x<=360
theorem Acc.start{sizes:List Int}(h:Sz sizes):Acc sizes sizes 1:=⟨by decide,Nat.one_le_two_pow,h.h6,rfl,h.hx⟩
theorem Acc.lt{sizes r:List Int}{acc:Nat}(h:Acc sizes r acc):acc<2^60:=by
 have h2:(2:Nat)^(9*(6-r.length))<=2^54:=Nat.pow_le_pow_right (by decide) (by omega)
 have:=h.le;omega
theorem Acc.turn{sizes r:List Int}{x:Int}{acc:Nat}(h:Acc sizes (x::r) acc):Acc sizes r (Nat.lcm acc x.toNat)/\(acc:Int)/(Int.gcd acc x:Nat)*x=(Nat.lcm acc x.toNat:Nat)/\(acc:Int)/(Int.gcd acc x:Nat)<=acc/\0<Int.gcd acc x:=by
 have hx:=h.sW x List.mem_cons_self
 have hp:=h.pos
 obtain⟨n,rfl⟩:=Int.eq_ofNat_of_zero_le (show 0<=x by omega)
 have hg:Int.gcd (acc:Int) (n:Int)=Nat.gcd acc n:=rfl
 refine⟨⟨Nat.lcm_pos hp (by omega),?_,?_,h.val,λy hy=>h.sW y (List.mem_cons_of_mem _ hy)⟩,?_,?_,?_⟩
 ·have h1:Nat.lcm acc n<=acc*n:=Nat.le_of_dvd (Nat.mul_pos hp (by omega)) (Nat.lcm_dvd (Nat.dvd_mul_right ..) (Nat.dvd_mul_left ..))
  have h2:acc*n<=2^(9*(6-(r.length+1)))*2^9:=Nat.mul_le_mul h.le (by omega)
  have hl:r.length+1<=6:=h.len
  rw[← Nat.pow_add,show 9*(6-(r.length+1))+9=9*(6-r.length) by omega] at h2
  exact Nat.le_trans h1 h2
 ·have hl:r.length+1<=6:=h.len
  omega
 ·rw[hg,Int.toNat_natCast,← Lc.yQ];norm_cast
 ·rw[hg]
  exact Int.ofNat_le.mpr (Nat.div_le_self acc (Nat.gcd acc n))
 ·rw[hg];exact Nat.gcd_pos_of_pos_left _ hp
theorem hR(sizes:List Int)(h:Sz sizes):eY [lI sizes]=M.ok (.int (R sizes)):=by
 unfold eY eR
 dsimp? []
 refine jM sizes (λr env=>∃ acc x,env=[some (.sh (lI sizes)),some (.sh (.int (acc:Nat))),x]/\Acc sizes r acc) ⟨1,_,rfl,.start h⟩ ?_ ?_
 ·rintro a r env ⟨acc,x,rfl,A⟩
  obtain⟨A2,e1,e2,e3⟩:=A.turn
  have l1:=A.lt
  have ha:=A.sW a List.mem_cons_self
  obtain⟨s,t,ec,_,_,_⟩:=xk (acc:Int) a (by omega) (by omega)
  have g1:Int.gcd acc a<=acc:=Nat.le_of_dvd A.pos (Int.ofNat_dvd.mp (Int.gcd_dvd_left ..))
  have d0:0<=(acc:Int)/(Int.gcd acc a:Nat):=Int.ediv_nonneg (by omega) (by omega)
  refine⟨_,[some (.sh (lI sizes)),some (.sh (.int (Nat.lcm acc a.toNat:Nat))),some (.sh (.int a))],rfl,?_,_,_,rfl,A2⟩
  dsimp? [ec,xx,aB (i:=(acc:Int)) (show (0:Int)<(Int.gcd acc a:Nat) by omega) (show ((Int.gcd acc a:Nat):Int)<2^64 by omega),aR (k:=64) (l:=64) (show ((acc:Int)/(Int.gcd acc a:Nat)).natAbs<2^64 by omega) (show a.natAbs<2^64 by omega),e1]
 ·rintro JT ⟨acc,x,rfl,A⟩
  dsimp? []
  have:=A.val
  rw[R,← this];rfl
def pJ(sizes:List Int)(levers:List (List Int)):List (Str×PV):=[("dial_sizes", tI sizes),("lever_settings", .tup (levers.map tI)),("lever_prices", tI (List.replicate levers.length 1)),("least_round", .int (R sizes))]
def eP(sizes:List Int)(levers:List (List Int)):PV:=.obj aC (pJ sizes levers)
structure Av (sizes xs:List Int):Prop where
 len:xs.length=sizes.length
 sW:∀ z∈xs.zip sizes,0<=z.1/\z.1<z.2
theorem tq(f:Str)(p:PV):∀ fs:List (Str×PV),(rP f p fs).length<=fs.length+1
 | []=>by simp[rP]
 | (g,q)::r=>by
  have:=tq f p r
  unfold rP
  split
  ·simp
  ·simp;omega
theorem lU{f:Str}{p:PV}{fs:List (Str×PV)}{n:Nat}(h:fs.length<=n):(rP f p fs).length<=n+1:=Nat.le_trans (tq f p fs) (by omega)
theorem jL(a C:Addr)(f:Str)(p:PV)(fs:List (Str×PV))(r:af)(h:fs.length<1000):zu 0 C f p (some (.bd a C fs)::r)=M.ok (.nx (some (.bd a C (rP f p fs))::r)):=by
 show cO _ _=_
 rw[ax ⟨rfl,h⟩];rfl
theorem Bp(sizes:List Int)(levers:List (List Int))(h:Sz sizes)(h8:levers.length<=8)(hl:∀ l∈levers,l.length=sizes.length):gI aC g_ [.bZ] [lI sizes,.lst (levers.map lI)]=M.ok (eP sizes (levers.map λl=>wD l sizes)):=by
 have key:∀ a,g_ a ([lI sizes,.lst (levers.map lI)]++[.bZ])=M.ok (pJ sizes (levers.map λl=>wD l sizes)):=by
  intro a
  have e1:dj (dH 0) none (ah jH (aa (ae 0) (aa (ae 1) ar))) (levers.map lI) [none,some (.sh (lI sizes))]=M.ok (levers.map λl=>tI (wD l sizes)):=by
   refine oA levers λl hm=>?_
   have hs:=hl l hm
   have:=rV (lI l) (lI sizes) l sizes rfl rfl (λs hs=>by have:=h.hx s hs;omega) (by rw[hs];have:=h.h6;omega)
   dsimp? [this]
  unfold g_ iD
  simp only[nF]
  rw[ax (show ([lI sizes,PV.lst (levers.map lI)]++[PV.bZ]).length+1=4 from rfl)]
  simp only[tK,uo]
  dsimp? [pR sizes h.h1 h.h6 h.hx,oE sizes.length levers h8 hl (by have:=h.h6;omega),lF,List.length_map,ax (aL (show levers.length<=1000 by omega)),e1,jK _ (show (levers.map lI).length<=8 by rw[List.length_map];exact h8),hR sizes h]
  rw[jL _ _ _ _ _ _ (by simp)]
  dsimp? [lF,List.length_map,ax (aL (show levers.length<=1000 by omega)),e1,jK _ (show (levers.map lI).length<=8 by rw[List.length_map];exact h8),hR sizes h]
  rw[jL _ _ _ _ _ _ (Nat.lt_of_le_of_lt (lU (Nat.zero_le 0)) (by decide))]
  dsimp? [lF,List.length_map,ax (aL (show levers.length<=1000 by omega)),e1,jK _ (show (levers.map lI).length<=8 by rw[List.length_map];exact h8),hR sizes h]
  rw[jL _ _ _ _ _ _ (Nat.lt_of_le_of_lt (lU (lU (Nat.zero_le 0))) (by decide))]
  dsimp? [lF,List.length_map,ax (aL (show levers.length<=1000 by omega)),e1,jK _ (show (levers.map lI).length<=8 by rw[List.length_map];exact h8),hR sizes h]
  rw[jL _ _ _ _ _ _ (Nat.lt_of_le_of_lt (lU (lU (lU (Nat.zero_le 0)))) (by decide))]
  dsimp? []
  show cO _ _=_
  rw[ax ⟨rfl,rfl⟩]
  rw[pJ,List.map_map,List.length_map]
  rfl
 unfold gI
 rw[uF key];rfl
theorem z0(sizes:List Int)(levers:List (List Int)):(pJ sizes levers).lookup (Str.ofString "dial_sizes")=some (tI sizes):=rfl
theorem wu(sizes:List Int)(levers:List (List Int)):(pJ sizes levers).lookup (Str.ofString "lever_settings")=some (.tup (levers.map tI)):=rfl
theorem yy(sizes:List Int)(levers:List (List Int)):(pJ sizes levers).lookup (Str.ofString "least_round")=some (.int (R sizes)):=rfl
theorem Gz(sizes:List Int)(levers:List (List Int)):(pJ sizes levers).lookup (Str.ofString "sizes")=none:=rfl
theorem tP(sizes:List Int)(levers:List (List Int)):bI [eP sizes levers]=M.ok (tI sizes):=by
 unfold bI cC
 dsimp? [iJ,eP,beq_self_eq_true,z0]
theorem wF(sizes:List Int)(levers:List (List Int)):bL [eP sizes levers]=M.ok (.tup (levers.map tI)):=by
 unfold bL cm
 dsimp? [iJ,eP,beq_self_eq_true,wu]
theorem AB{g:af->M PV}{env:af}{sizes:List Int}{levers:List (List Int)}(h:g env=M.ok (eP sizes levers)):gG aC "sizes" bI g ar env=M.ok (tI sizes):=by
 have:=tP sizes levers
 rw[gG,h,M.aO]
 show cO _ (M.bind (ar env) _)=_
 rw[ax ⟨rfl,Gz sizes levers⟩]
 exact this
def pD(sizes xs:List Int):Bool:=decide ((xs.length:Int)=sizes.length)&&(xs.zip sizes).all λz=>decide (0<=z.1/\z.1<z.2)
theorem qQ{sizes xs:List Int}:pD sizes xs=true ↔ Av sizes xs:=by
 unfold pD
 constructor
 ·intro h
  simp only[Bool.and_eq_true,decide_eq_true_eq,List.all_eq_true] at h
  exact⟨by omega,h.2⟩
 ·intro h
  simp only[Bool.and_eq_true,decide_eq_true_eq,List.all_eq_true]
  exact⟨by rw[h.len],h.sW⟩
theorem zF(x s:Int):∀ env:af,env=[some (.sh (.int x)),some (.sh (.int s))]->j5 AO Aq (λ_=>M.ok (.int 0)) (ae 0) (ae 1) env=M.ok (.bl (decide (0<=x/\x<s))):=by
 rintro env rfl
 dsimp? []
 by_cases h:0<=x
 ·simp only[h,decide_true,if_true,true_and]
  try dsimp? []
 ·simp only[h,decide_false,false_and]
  try dsimp? []
theorem EL{α:Type}(h:α->Bool)(xs:List α):pT [.lst (xs.map λa=>.bl (h a))]=M.ok (.bl (xs.all h)):=by
 have:=oV (xs.map h)
 rw[List.map_map] at this
 rw[show (λa=>PV.bl (h a))=PV.bl∘h from rfl,this]
 simp[List.all_map]
section
variable{sizes:List Int}{levers:List (List Int)}
theorem j8(h:Sz sizes)(xs:List Int)(hz:xs.length<=1000):aE [eP sizes levers,tI xs]=M.ok (.bl (pD sizes xs)):=by
 have key:dj (bx 0 1) none (j5 AO Aq (λ_=>M.ok (.int 0)) (ae 0) (ae 1)) ((xs.zip sizes).map λz=>.tup [.int z.1,.int z.2]) [none,none]=M.ok ((xs.zip sizes).map λz=>.bl (decide (0<=z.1/\z.1<z.2))) :=
  lJ (p:=λz:Int×Int=>PV.int z.1) (q:=λz:Int×Int=>PV.int z.2) (xs.zip sizes) λz hz=>zF z.1 z.2 _ rfl
 have hl:(xs.zip sizes).length<=sizeLine:=by rw[List.length_zip];exact aL (Nat.le_trans (Nat.min_le_left _ _) hz)
 unfold aE bf
 dsimp? [AB (sizes:=sizes) (levers:=levers) (g:=ae 0) (env:=[some (.sh (eP sizes levers)),some (.sh (tI xs)),none]) rfl,uI xs sizes.length (aL hz)]
 unfold pD
 by_cases e:(xs.length:Int)=sizes.length
 ·simp only[e,decide_true,Bool.not_true,Bool.false_eq_true,if_false,Bool.true_and]
  dsimp? [cQ (p:=tI xs) (q:=tI sizes) xs sizes rfl rfl,List.length_map,ax hl,key,EL]
 ·simp only[e,decide_false,Bool.not_false,if_true,Bool.false_and]
  dsimp? []
theorem dc(h:Sz sizes){xs:List Int}(hs:Av sizes xs):aJ [eP sizes levers,tI xs]=M.ok .bZ:=by
 unfold aJ bh
 dsimp? [j8 (levers:=levers) h xs (by rw[hs.len];have:=h.h6;omega),qQ.mpr hs]
end
theorem jJ{xs ys:List Int}{z:Int×Int}(h:z∈xs.zip ys):z.1∈xs/\z.2∈ys:=List.of_mem_zip (a:=z.1) (b:=z.2) h
theorem mU{sizes xs:List Int}(h:Sz sizes)(hs:Av sizes xs){x:Int}(hx:x∈xs):0<=x/\x<360:=by
 obtain⟨i,hi,rfl⟩:=List.mem_iff_getElem.mp hx
 have hj:i<sizes.length:=by rw[← hs.len];exact hi
 have:=hs.sW (xs[i],sizes[i]) (by
  rw[List.mem_iff_getElem]
  exact⟨i,by rw[List.length_zip];omega,by rw[List.getElem_zip]⟩)
 have h2:=h.hx sizes[i] (List.getElem_mem hj)
 exact⟨this.1,by have:=this.2;simp only at this;omega⟩
theorem qB(xs sizes:List Int):wD xs sizes=vX xs sizes:=rfl
theorem drop_cons{α:Type}{xs:List α}{d:Nat}{a:α}{r:List α}(h:xs.drop d=a::r):d<xs.length/\xs[d]?=some a/\xs.drop (d+1)=r:=by
 have hd:d<xs.length:=by
  rcases Nat.lt_or_ge d xs.length with q | q
  ·exact q
  ·rw[List.drop_eq_nil_of_le q] at h;cases h
 rw[List.drop_eq_getElem_cons hd] at h
 injection h with h1 h2
 exact⟨hd,by rw[List.getElem?_eq_getElem hd,h1],h2⟩
theorem eJ(env:af):jh ar env=M.ok []:=by
 simp only[jh,ar,M.aO]
 exact if_pos (Nat.zero_le _)
theorem BA{i:Nat}{f:af->M PV}{env:af}{xs:List PV}{p:PV}(h:env[i]?=some (some (.ow xs)))(hf:f env=M.ok p)(hz:xs.length<1000):iw i f env=M.ok (.nx (env.set i (some (.ow (xs++[p]))))):=by
 unfold iw
 rw[h]
 show M.bind (f env) _=_
 rw[hf,M.aO,if_pos (lz (Nat.le_of_lt hz))]
section
variable{n m k:Nat}{sizes:List Int}{A:Nat->jk}{rows:List Row}{left:Row}
def Cs(sizes:List Int)(rows:List Row)(r:Row)(f:Nat):Nat->Row
 | 0=>r
 | c+1 =>
  let l:=Cs sizes rows r f c
  Jy sizes l 1 (row rows (f+c)) (-(vf l.1 (f+c)/Jt (vf sizes) (DD rows) (f+c)))
end
section
variable{sizes:List Int}{Ls:List (List Int)}
end
section
variable{sizes:List Int}{Ls:List (List Int)}
end
section
variable{n m:Nat}{sizes:List Int}{A:Nat->jk}{rows:List Row}
end
section
variable{sizes:List Int}{Ls:List (List Int)}{R:List Row}{Ke:List (List Int)}
end
section
variable{sizes:List Int}{Ls:List (List Int)}{R:List Row}{Ke:List (List Int)}
end
theorem xB{i j:Int}(h0:0<j)(h:j<2^200):bj (.int i) (.int j)=M.ok (.int (i/j)):=by
 rw[lb (by omega) (Nat.lt_of_lt_of_le (show j.natAbs<2^200 by omega) (Nat.pow_le_pow_right (by decide) (by decide))),Int.fdiv_eq_ediv_of_nonneg _ (by omega)]
theorem mV(ns:List Int)(k:Nat):∃ c,cq [.jo (ns.map PV.int),.int (k:Int)]=M.ok (.int c):=by
 unfold cq fu
 by_cases h:k<ns.length
 ·refine⟨ns[k],?_⟩
  have h':(k:Int)<((ns.length:Nat):Int):=by omega
  have e:=cW (p:=.jo (ns.map PV.int)) (xs:=ns.map PV.int) (j:=k) (x:=.int ns[k]) rfl (by rw[List.getElem?_map,List.getElem?_eq_getElem h];rfl)
  dsimp? [List.length_map,h',decide_true,e]
 ·refine⟨0,?_⟩
  have h':¬ (k:Int)<((ns.length:Nat):Int):=by omega
  dsimp? [List.length_map,h',decide_false]
theorem jF(c:Int)(p:PV)(bases:List Int)(hp:bO p=some (bases.map PV.int))(hb:∀ b∈bases,0<b/\b<2^200)(hl:bases.length<=100):∃ xs:List Int,bX [.int c,p]=M.ok (lI xs)/\xs.length=bases.length/\∀ z∈xs.zip bases,0<=z.1/\z.1<z.2:=by
 suffices h:∃ JT:af,iz (dH 4) (ao (iw 2 (ai bB (ae 3) (ae 4))) (ao (bp 3 (ai bj (ae 3) (ae 4))) aj)) (bases.map PV.int) [some (.sh (.int c)),some (.sh p),some (.ow []),some (.sh (.int c)),none]=M.ok (.nx JT)/\∃ (d xs:List Int) (left:Int) (y:Option SV),JT=[some (.sh (.int c)),some (.sh p),some (.ow (xs.map PV.int)),some (.sh (.int left)),y]/\bases=d++[]/\xs.length=d.length/\∀ z∈xs.zip d,0<=z.1/\z.1<z.2 by
  obtain⟨JT,e,d,xs,left,y,rfl,hd,hx,hz⟩:=h
  rw[List.append_nil] at hd
  subst hd
  refine⟨xs,?_,hx,hz⟩
  unfold bX bW
  dsimp? [eJ,hp,e]
  rfl
 refine kq (λr env=>∃ (d xs:List Int) (left:Int) (y:Option SV),env=[some (.sh (.int c)),some (.sh p),some (.ow (xs.map PV.int)),some (.sh (.int left)),y]/\bases=d++r/\xs.length=d.length/\∀ z∈xs.zip d,0<=z.1/\z.1<z.2) ?_ bases _ ⟨[],[],c,none,rfl,rfl,rfl,λ_ h=>nomatch h⟩
 rintro b r env ⟨d,xs,left,y,rfl,hd,hx,hz⟩
 have M3:=hb b (by rw[hd];simp)
 have dl:d.length<=100:=by
  have:=congrArg List.length hd
  rw[List.length_append] at this;omega
 refine⟨_,[some (.sh (.int c)),some (.sh p),some (.ow ((xs++[left%b]).map PV.int)),some (.sh (.int (left/b))),some (.sh (.int b))],rfl,?_,d++[b],xs++[left%b],left/b,_,rfl,by rw[hd];simp,by simp[hx],λz LI=>?_⟩
 ·dsimp? []
  rw[BA (i:=2) rfl (p:=.int (left%b)) (by dsimp? [aA (i:=left) M3.1]) (by simp;omega)]
  dsimp? [xB (i:=left) M3.1 M3.2,List.map_append]
 ·rw[List.zip_append hx] at LI
  rcases List.mem_append.mp LI with q | q
  ·exact hz z q
  ·rw[List.zip_cons_cons,List.zip_nil_left] at q
   rw[List.mem_singleton.mp q]
   exact⟨Int.emod_nonneg _ (by omega),Int.emod_lt_of_pos _ M3.1⟩
def kB(sizes xs ys:List Int)(t:Int):List Int:=(xs.zip (ys.zip sizes)).map λz=>(z.1+t*z.2.1)%z.2.2
theorem jd{sizes xs ys:List Int}{t:Int}(h1:xs.length=sizes.length)(h2:ys.length=sizes.length):(kB sizes xs ys t).length=sizes.length:=by
 simp[kB];omega
theorem nU{sizes xs ys:List Int}{t:Int}{i:Nat}(h1:xs.length=sizes.length)(h2:ys.length=sizes.length)(hi:i<sizes.length):vf (kB sizes xs ys t) i=(vf xs i+t*vf ys i)%vf sizes i:=by
 rw[bg (by rw[jd h1 h2];exact hi),bg (by omega),bg (by omega),bg hi]
 simp[kB]
theorem mZ{sizes xs ys:List Int}{t:Int}{q:PV}(hs:∀ s∈sizes,0<s)(hl:sizes.length<=6)(h1:xs.length=sizes.length)(hq:bO q=some (ys.map PV.int))(hy:Bd 200 ys)(ht:t.natAbs<2^200):cw [lI sizes,tI xs,q,.int t]=M.ok (tI (kB sizes xs ys t)):=by
 have k1:dj (mh 0 1 2) none (ai bB (ai cD (ae 0) (ai bV (ae 3) (ae 1))) (ae 2)) ((xs.zip (ys.zip sizes)).map λz=>.tup [.int z.1,.int z.2.1,.int z.2.2]) [none,none,none,some (.sh (.int t))]=M.ok ((xs.zip (ys.zip sizes)).map λz=>.int ((z.1+t*z.2.1)%z.2.2)):=by
  refine Dx (p:=λz:Int×Int×Int=>PV.int z.1) (q:=λz:Int×Int×Int=>PV.int z.2.1) (s:=λz:Int×Int×Int=>PV.int z.2.2) (xs.zip (ys.zip sizes)) λz hz=>?_
  obtain⟨m1,m2⟩:=List.of_mem_zip (a:=z.1) (b:=z.2) hz
  obtain⟨m3,m4⟩:=List.of_mem_zip (a:=z.2.1) (b:=z.2.2) m2
  dsimp? [aR (k:=200) (l:=200) ht (hy _ m3),aA (i:=z.1+t*z.2.1) (hs _ m4)]
 have z1:(xs.zip (ys.zip sizes)).length<=sizeLine:=by rw[List.length_zip];exact aL (Nat.le_trans (Nat.min_le_left _ _) (by omega))
 unfold cw dg
 dsimp? [s_ (p:=tI xs) (q:=q) (r:=lI sizes) xs ys sizes rfl hq rfl,List.length_map,ax z1,k1]
 rw[tI,kB,List.map_map];rfl
theorem wJ{sizes xs P:List Int}{JY:List (List Int)}{q:PV}(hs:∀ s∈sizes,0<s)(hl:sizes.length<=6)(h1:xs.length=sizes.length)(hq:bO q=some (xs.map PV.int))(hk:∀ i,i<sizes.length->0<=vf xs i/\vf xs i<vf sizes i)
  (hr:∀ l∈JY,l.length=sizes.length/\Bd 200 l) (hP:Bd 200 P) (hm:P.length=JY.length) {p2:PV} (CP:bO p2=some (P.map PV.int)):∃ F:List Int,cA [lI sizes,.lst (JY.map lI),q,p2]=M.ok (tI F)/\F.length=sizes.length/\(∀ i,i<sizes.length->0<=vf F i/\vf F i<vf sizes i)/\∀ i,i<sizes.length->vf sizes i∣vf F i-(vf xs i+dn JY.length λl=>vf P l*vf (JY.getD l []) i):=by
 have sp:∀ i,i<sizes.length->0<vf sizes i:=λi hi=>by rw[bg hi];exact hs _ (List.getElem_mem hi)
 suffices h:∃ JT:af,iz (bx 5 6) (ao (bp 4 (ah cw (aa (ae 0) (aa (ae 4) (aa (ae 5) (aa (ae 6) ar)))))) aj) ((JY.zip P).map λz=>.tup [lI z.1,.int z.2]) [some (.sh (lI sizes)),some (.sh (.lst (JY.map lI))),some (.sh q),some (.sh p2),some (.sh (tI xs)),none,none]=M.ok (.nx JT)/\∃ (c:Nat) (F:List Int) (y z:Option SV),JT=[some (.sh (lI sizes)),some (.sh (.lst (JY.map lI))),some (.sh q),some (.sh p2),some (.sh (tI F)),y,z]/\c<=JY.length/\(JY.zip P).drop c=[]/\F.length=sizes.length/\(∀ i,i<sizes.length->0<=vf F i/\vf F i<vf sizes i)/\∀ i,i<sizes.length->vf sizes i∣vf F i-(vf xs i+dn c λl=>vf P l*vf (JY.getD l []) i) by
  obtain⟨JT,e,c,F,y,z,rfl,hc,hd,fl,fk,fd⟩:=h
  have:c=JY.length:=by
   have:=congrArg List.length hd
   rw[List.length_drop,List.length_zip] at this
   simp at this
   omega
  subst this
  refine⟨F,?_,fl,fk,fd⟩
  have e0:zip2 [.lst (JY.map lI),p2]=M.ok ((JY.zip P).map λz=>.tup [lI z.1,.int z.2]):=cQ (p:=.lst (JY.map lI)) (q:=p2) JY P rfl CP
  unfold cA dq
  dsimp? [hq,e0]
  rw[show (PV.tup (xs.map PV.int))=tI xs from rfl,e]
  dsimp? []
 refine kq (λzs env=>∃ (c:Nat) (F:List Int) (y z:Option SV),env=[some (.sh (lI sizes)),some (.sh (.lst (JY.map lI))),some (.sh q),some (.sh p2),some (.sh (tI F)),y,z]/\c<=JY.length/\(JY.zip P).drop c=zs/\F.length=sizes.length/\(∀ i,i<sizes.length->0<=vf F i/\vf F i<vf sizes i)/\∀ i,i<sizes.length->vf sizes i∣vf F i-(vf xs i+dn c λl=>vf P l*vf (JY.getD l []) i)) ?_ (JY.zip P) _ ⟨0,xs,none,none,rfl,Nat.zero_le _,rfl,h1,hk,λi hi=>by rw[dn];exact⟨0,by omega⟩⟩
 rintro⟨l,t⟩ r env ⟨c,F,y,z,rfl,hc,hd,fl,fk,fd⟩
 obtain⟨c1,c2,c3⟩:=drop_cons hd
 rw[List.length_zip] at c1
 have hcr:c<JY.length:=by omega
 have hcp:c<P.length:=by omega
 have el:l=JY[c]/\t=P[c]:=by
  rw[List.getElem?_eq_getElem (by rw[List.length_zip];omega),List.getElem_zip] at c2
  have:=Option.some.inj c2
  injection this with a b
  exact⟨a.symm,b.symm⟩
 have lr:=hr l (by rw[el.1];exact List.getElem_mem _)
 have tb:t.natAbs<2^200:=by rw[el.2];exact hP _ (List.getElem_mem _)
 refine⟨_,[some (.sh (lI sizes)),some (.sh (.lst (JY.map lI))),some (.sh q),some (.sh p2),some (.sh (tI (kB sizes F l t))),some (.sh (lI l)),some (.sh (.int t))],rfl,?_,c+1,kB sizes F l t,_,_,rfl,by omega,c3,jd fl lr.1,λi hi=>?_,λi hi=>?_⟩
 ·dsimp? [mZ (q:=lI l) hs hl fl rfl lr.2 tb]
 ·rw[nU fl lr.1 hi]
  have:=sp i hi
  exact⟨Int.emod_nonneg _ (by omega),Int.emod_lt_of_pos _ this⟩
 ·rw[nU fl lr.1 hi,dn]
  obtain⟨a,ha⟩:=fd i hi
  obtain⟨b,hb⟩:=o8 (vf F i+t*vf l i) (vf sizes i)
  have e1:vf P c=t:=by rw[bg hcp,el.2]
  have e2:JY.getD c []=l:=by rw[List.getD_eq_getElem?_getD,List.getElem?_eq_getElem hcr,el.1];rfl
  rw[e1,e2]
  exact⟨a+b,by rw[Int.mul_add];omega⟩
theorem ik(c:Int)(m:Nat)(hm:m<=100):gQ (bJ [.int c,.int (m:Int)]) λp=>∃ xs:List Int,p=lI xs/\xs.length=m/\∀ x∈xs,0<=x/\x<2^31:=by
 unfold bJ bK
 dsimp? [eJ,aA (j:=2147483629) (i:=c) (by decide),si (n:=(m:Int)) (by omega) (by omega)]
 refine gQ.loop (xs:=List.range (m:Int).toNat) (inj:=λ(i:Nat)=>.int (i:Int)) (λzs env=>∃ (xs:List Int) (u:Int) (y:Option SV),env=[some (.sh (.int c)),some (.sh (.int (m:Int))),some (.ow (xs.map PV.int)),some (.sh (.int u)),y]/\xs.length+zs.length=m/\(∀ z∈zs,z<m)/\0<=u/\u<2^31/\∀ x∈xs,0<=x/\x<2^31) ⟨[],c%2147483629+17,none,rfl,by simp,λz hz=>by simpa using hz,by omega,by omega,λx hx=>nomatch hx⟩ ?_ ?_
 ·rintro a r env ⟨xs,u,y,rfl,hl,hz,u0,u1,hx⟩
  have ha:=hz a List.mem_cons_self
  dsimp? [dH,aR (i:=u) (j:=48271) (k:=31) (l:=31) (by omega) (by decide),aR (i:=7919) (j:=(a:Int)) (k:=31) (l:=31) (by decide) (by omega),aA (i:=u*48271+7919*(a:Int)+1) (j:=2147483647) (by decide),aB (i:=(u*48271+7919*(a:Int)+1)%2147483647) (j:=5) (by decide) (by decide),dQ,ownAt,dS (xs:=xs.map PV.int) (by simp at hl ⊢;omega),da]
  exact⟨_,rfl,_,_,_,rfl,by simp at hl ⊢;omega,λz h=>hz z (List.mem_cons_of_mem _ h),by omega,by omega,λx MW=>by
    rcases List.mem_append.mp MW with h | h
    ·exact hx x h
    ·rw[List.mem_singleton] at h;omega⟩
 ·rintro env ⟨xs,u,y,rfl,hl,_,_,_,hx⟩
  exact⟨_,rfl,xs,rfl,by simpa using hl,hx⟩
theorem ku(p:PV)(n:Nat)(h8:n<=1000):bV (.lst [p]) (.int (n:Int))=M.ok (.lst (List.replicate n p)):=by
 have h2:[p].length*(n:Int).toNat<=sizeLine:=by
  rw[Int.toNat_natCast]
  exact aL (by show 1*n<=1000;omega)
 have h3:(n:Int)<2^63:=Int.lt_of_le_of_lt (Int.ofNat_le.mpr h8) (by decide)
 have h4:-(2^63)<=(n:Int):=Int.le_trans (by decide) (Int.natCast_nonneg n)
 rw[bV,ax ⟨h4,h3,h2⟩,Int.toNat_natCast,sj]
theorem vU{n:Nat}{a b:Int}(h:b∈List.replicate n a):b=a:=List.eq_of_mem_replicate h
theorem yJ:rX (.int 10) (.int 30)=M.ok (.int (10^30)):=by
 show cO (decide ((0:Int)<=30/\(30:Int)<=1000000/\(10:Int).natAbs<2^64)=true) _=_
 exact ax (by decide)
theorem sS(i:Int)(h0:0<=i)(h:i<2^60):gQ (dR [.int i]) λp=>∃ x:Int,p=.int x/\x.natAbs<2^199:=by
 unfold dR dJ
 dsimp? [aR (i:=i) (j:=618033988749894848204586834365) (k:=60) (l:=200) (by omega) (by decide),yJ,aR (i:=2) (j:=10^30) (k:=60) (l:=200) (by decide) (by decide),aA (i:=i*618033988749894848204586834365) (j:=2*10^30-1) (by decide)]
 exact⟨_,rfl,_,rfl,by omega⟩
theorem pick(l:List Int)(c:Int)(n:Nat)(hn:l.length=n)(h0:0<n):∃ x,x∈l/\br (.lst (l.map PV.int)) (.int (c%(n:Int)))=M.ok (.int x):=by
 have h1:0<=c%(n:Int):=Int.emod_nonneg _ (by omega)
 have h2:c%(n:Int)<n:=Int.emod_lt_of_pos _ (by omega)
 obtain⟨j,hj⟩:=Int.eq_ofNat_of_zero_le h1
 have hj':j<l.length:=by omega
 refine⟨l[j],List.getElem_mem _,?_⟩
 rw[hj]
 exact cW (p:=.lst (l.map PV.int)) (j:=j) rfl (by rw[List.getElem?_map,List.getElem?_eq_getElem hj'];rfl)
theorem two{c:Int}:c%2=0\/c%2=1:=by omega
theorem wH(c:Int):gQ (fZ [.int c]) λp=>∃ xs:List Int,p=lI xs/\Sz xs:=by
 obtain⟨m,em,m1,m6⟩:∃ m:Nat,1+c/2%6=(m:Int)/\1<=m/\m<=6:=⟨(1+c/2%6).toNat,by omega,by omega,by omega⟩
 unfold fZ f7
 dsimp? [aB (i:=c) (j:=2) (by decide) (by decide),aA (i:=c/2) (j:=6) (by decide),em,aA (i:=c) (j:=2) (by decide),aB (i:=c) (j:=12) (by decide) (by decide)]
 rcases two (c:=c) with h | h
 ·simp only[h,show ¬ (0:Int)=1 by decide,decide_false]
  obtain⟨_,es,xs,rfl,xl,xb⟩:=ik (c/12) m (by omega)
  dsimp? [eJ,es,aB (i:=c) (j:=12) (by decide) (by decide)]
  refine gQ.loop (xs:=xs) (inj:=PV.int) (λzs env=>∃ (ss:List Int) (y:Option SV),env=[some (.sh (.int c)),some (.sh (.int (m:Int))),some (.ow (ss.map PV.int)),y]/\ss.length+zs.length=m/\(∀ s∈ss,2<=s/\s<=360)) ⟨[],none,rfl,by simpa using xl,λ_ h=>nomatch h⟩ ?_ ?_
  ·rintro a r env ⟨ss,y,rfl,hl,hs⟩
   have L6:(ss.map PV.int).length<1000:=by simp at hl ⊢;omega
   have fin:∀ v:Int,2<=v/\v<=360->(ss++[v]).length+r.length=m/\∀ s∈ss++[v],2<=s/\s<=360:=λv hv=>⟨by simp at hl ⊢;omega,λs h'=>by
    rcases List.mem_append.mp h' with q | q
    ·exact hs s q
    ·rw[List.mem_singleton.mp q];exact hv⟩
   dsimp? [dH,aB (i:=c) (j:=12) (by decide) (by decide),aA (i:=c/12) (j:=2) (by decide)]
   rcases two (c:=c/12) with h2 | h2
   ·obtain⟨v,hv,ev⟩:=pick [2,3,4,6,8,9,12,16,24,27,32,36,64,72,81,128,243,256,360] a 19 rfl (by decide)
    simp only[h2,decide_true]
    dsimp? [aA (i:=a) (j:=19) (by decide),dQ,ownAt]
    rw[show ((19:Nat):Int)=19 from rfl] at ev
    simp only[List.map_cons,List.map_nil] at ev
    rw[ev]
    dsimp? [dS L6,da]
    obtain⟨f1,f2⟩:=fin v (by simp at hv;omega)
    exact⟨_,rfl,_,_,rfl,f1,f2⟩
   ·simp only[h2,show ¬ (1:Int)=0 by decide,decide_false]
    dsimp? [aA (i:=a) (j:=30) (by decide),aR (i:=12) (j:=1+a%30) (k:=31) (l:=31) (by decide) (by omega),dQ,ownAt,dS L6,da]
    obtain⟨f1,f2⟩:=fin (12*(1+a%30)) (by omega)
    exact⟨_,rfl,_,_,rfl,f1,f2⟩
  ·rintro env ⟨ss,y,rfl,hl,hs⟩
   refine⟨_,rfl,ss,rfl,?_,?_,hs⟩
   ·simp at hl;omega
   ·simp at hl;omega
 ·simp only[h,decide_true]
  obtain⟨xs,ex,xl,xb⟩:=jF (c/12) (.lst (List.replicate m (.int 359))) (List.replicate m 359) (by rw[List.map_replicate];rfl) (λb hb=>by rw[vU hb];decide) (by simp;omega)
  rw[List.length_replicate] at xl
  dsimp? [aB (i:=c) (j:=12) (by decide) (by decide),ku (.int 359) m (by omega),ex,List.length_map,ax (aL (show xs.length<=1000 by omega)),oA (f:=ai cD (λ_=>M.ok (.int 2)) (ae 0)) (inj:=PV.int) (h:=λx=>.int (2+x)) (rest:=[]) (x0:=none) xs λa _=>by dsimp? []]
  refine⟨_,rfl,xs.map (2+·),by rw[lI,List.map_map];rfl,by simp;omega,by simp;omega,λx hx=>?_⟩
  obtain⟨y,hy,rfl⟩:=List.mem_map.mp hx
  obtain⟨i,hi,rfl⟩:=List.mem_iff_getElem.mp hy
  have:=xb (xs[i],359) (List.mem_iff_getElem.mpr ⟨i,by simp;omega,by simp⟩)
  simp at this;omega
theorem wc{sizes:List Int}(S:Sz sizes)(c:Int):gQ (f9 [.int c,lI sizes]) λp=>∃ xs:List Int,p=lI xs/\xs.length=sizes.length/\Bd 200 xs:=by
 have l6:=S.h6
 obtain⟨_,es,xs,rfl,xl,xb⟩:=ik c sizes.length (by omega)
 unfold f9 fN
 dsimp? [eJ,es,cQ (p:=lI xs) (q:=lI sizes) xs sizes rfl rfl]
 refine gQ.loop (xs:=xs.zip sizes) (inj:=λz=>.tup [.int z.1,.int z.2]) (λzs env=>∃ (ss:List Int) (y1 y2 y3:Option SV),env=[some (.sh (.int c)),some (.sh (lI sizes)),some (.ow (ss.map PV.int)),y1,y2,y3]/\ss.length+zs.length=sizes.length/\Bd 200 ss/\∀ z∈zs,z.1∈xs/\z.2∈sizes) ⟨[],none,none,none,rfl,by simp;omega,(λ_ h=>nomatch h),λz hz=>jJ hz⟩ ?_ ?_
 ·rintro⟨a,s⟩ r env ⟨ss,y1,y2,y3,rfl,hl,hs,hm⟩
  obtain⟨ma,ms⟩:=hm (a,s) List.mem_cons_self
  have ha:=xb a ma
  have hz:=S.hx s ms
  have hm':∀ z∈r,z.1∈xs/\z.2∈sizes:=λz hz=>hm z (List.mem_cons_of_mem _ hz)
  have L6:(ss.map PV.int).length<1000:=by simp at hl ⊢;omega
  have fin:∀ v:Int,v.natAbs<2^200->(ss++[v]).length+r.length=sizes.length/\Bd 200 (ss++[v]):=λv hv=>⟨by simp at hl ⊢;omega,λs h'=>by
   rcases List.mem_append.mp h' with q | q
   ·exact hs s q
   ·rw[List.mem_singleton.mp q];exact hv⟩
  dsimp? [bx,aA (i:=a) (j:=4) (by decide)]
  by_cases h0:a%4=0
  ·obtain⟨_,eg,v,rfl,hv⟩:=sS (a/4) (by omega) (by omega)
   simp only[h0,decide_true]
   dsimp? [aB (i:=a) (j:=4) (by decide) (by decide),eg,dQ,ownAt,dS L6,da]
   obtain⟨f1,f2⟩:=fin v (by omega)
   exact⟨_,rfl,_,_,_,_,rfl,f1,f2,hm'⟩
  ·simp only[h0,decide_false]
   dsimp? [aA (i:=a) (j:=4) (by decide)]
   by_cases h1:a%4=1
   ·simp only[h1,decide_true]
    dsimp? [dQ,ownAt,dS L6,da]
    obtain⟨f1,f2⟩:=fin 0 (by decide)
    exact⟨_,rfl,_,_,_,_,rfl,f1,f2,hm'⟩
   ·simp only[h1,decide_false]
    obtain⟨v,hv,ev⟩:=pick [1,1,2,3,4,6,12] (a/4) 7 rfl (by decide)
    rw[show ((7:Nat):Int)=7 from rfl] at ev
    simp only[List.map_cons,List.map_nil] at ev
    have M7:1<=v/\v<=12:=by simp at hv;omega
    dsimp? [aB (i:=a) (j:=4) (by decide) (by decide),aA (i:=a/4) (j:=7) (by decide)]
    rw[ev]
    have b1:0<=a/28%s:=Int.emod_nonneg _ (by omega)
    have b2:a/28%s<s:=Int.emod_lt_of_pos _ (by omega)
    have b3:0<=a/28%s*v%s:=Int.emod_nonneg _ (by omega)
    have b4:a/28%s*v%s<s:=Int.emod_lt_of_pos _ (by omega)
    dsimp? [aB (i:=a) (j:=28) (by decide) (by decide),aA (i:=a/28) (j:=s) (by omega),aR (i:=a/28%s) (j:=v) (k:=31) (l:=31) (by omega) (by omega),aA (i:=a/28%s*v) (j:=s) (by omega),dQ,ownAt,dS L6,da]
    obtain⟨f1,f2⟩:=fin (a/28%s*v%s) (by omega)
    exact⟨_,rfl,_,_,_,_,rfl,f1,f2,hm'⟩
 ·rintro env ⟨ss,y1,y2,y3,rfl,hl,hs,_⟩
  exact⟨_,rfl,ss,rfl,by simpa using hl,hs⟩
theorem u9(ns:List Int){sizes:List Int}(S:Sz sizes):gQ (e6 [.jo (ns.map PV.int),lI sizes]) λp=>∃ JY:List (List Int),p=.lst (JY.map lI)/\JY.length<=8/\∀ l∈JY,l.length=sizes.length/\Bd 200 l:=by
 have l6:=S.h6
 obtain⟨c,ec⟩:=mV ns 1
 rw[show ((1:Nat):Int)=1 from rfl] at ec
 have h1:0<=c%9:=by omega
 have h2:c%9<9:=by omega
 unfold e6 e8
 dsimp? [eJ,ec,aA (i:=c) (j:=9) (by decide),si h1 (by omega)]
 refine gQ.loop (xs:=List.range (c%9).toNat) (inj:=λ(i:Nat)=>.int (i:Int)) (λzs env=>∃ (JY:List (List Int)) (y1 y2:Option SV),env=[some (.sh (.jo (ns.map PV.int))),some (.sh (lI sizes)),some (.ow (JY.map lI)),y1,y2]/\JY.length+zs.length=(c%9).toNat/\(∀ z∈zs,z<9)/\∀ l∈JY,l.length=sizes.length/\Bd 200 l) ⟨[],none,none,rfl,by simp,(λz hz=>by rw[List.mem_range] at hz;omega),λ_ h=>nomatch h⟩ ?_ ?_
 ·rintro k r env ⟨JY,y1,y2,rfl,hl,hz,hr⟩
  have hk:=hz k List.mem_cons_self
  have LI:∀ z∈r,z<9:=λz h=>hz z (List.mem_cons_of_mem _ h)
  obtain⟨d,ed⟩:=mV ns (2+k)
  rw[show ((2+k:Nat):Int)=2+(k:Int) by omega] at ed
  have L6:(JY.map lI).length<1000:=by simp at hl ⊢;omega
  have fin:∀ v:List Int,v.length=sizes.length->Bd 200 v->(JY++[v]).length+r.length=(c%9).toNat/\∀ l∈JY++[v],l.length=sizes.length/\Bd 200 l:=λv h1 h2=>⟨by simp at hl ⊢;omega,λs h'=>by
   rcases List.mem_append.mp h' with q | q
   ·exact hr s q
   ·rw[List.mem_singleton.mp q];exact⟨h1,h2⟩⟩
  dsimp? [dH,ed,ec,aB (i:=c) (j:=9) (by decide) (by decide),aA (i:=c/9) (j:=2) (by decide)]
  rcases two (c:=c/9) with h2 | h2
  ·simp only[h2,show ¬ (0:Int)=1 by decide,decide_false]
   obtain⟨_,el,v,rfl,hv1,hv2⟩:=wc S (d+7919*(k:Int))
   dsimp? [aR (i:=7919) (j:=(k:Int)) (k:=31) (l:=31) (by decide) (by omega),el,dQ,ownAt,dS L6]
   obtain⟨f1,f2⟩:=fin v hv1 hv2
   exact⟨_,rfl,JY++[v],_,_,by rw[List.map_append];rfl,f1,LI,f2⟩
  ·simp only[h2,decide_true]
   obtain⟨v,ev,hv1,hv2⟩:=jF d (lI sizes) sizes rfl (λb hb=>by have:=S.hx b hb;omega) (by omega)
   dsimp? [ev,dQ,ownAt,dS L6]
   obtain⟨f1,f2⟩:=fin v hv1 λx hx=>by
    obtain⟨i,hi,rfl⟩:=List.mem_iff_getElem.mp hx
    have h3:i<sizes.length:=by omega
    have:=hv2 (v[i],sizes[i]) (List.mem_iff_getElem.mpr ⟨i,by simp;omega,by simp⟩)
    have h4:=S.hx _ (List.getElem_mem h3)
    simp at this
    omega
   exact⟨_,rfl,JY++[v],_,_,by rw[List.map_append];rfl,f1,LI,f2⟩
 ·rintro env ⟨JY,y1,y2,rfl,hl,_,hr⟩
  exact⟨_,rfl,JY,rfl,by simp at hl;omega,hr⟩
theorem wC(c:Int)(m:Nat)(hm:m<=8):gQ (fW [.int c,.int (m:Int)]) λp=>∃ xs:List Int,p=tI xs/\xs.length=m/\Bd 199 xs:=by
 unfold fW fX
 dsimp? [aA (i:=c) (j:=2) (by decide),aB (i:=c) (j:=2) (by decide) (by decide)]
 rcases two (c:=c) with h | h
 ·simp only[h,show ¬ (0:Int)=1 by decide,decide_false]
  obtain⟨_,es,xs,rfl,xl,xb⟩:=ik (c/2) m (by omega)
  dsimp? [eJ,es,aB (i:=c) (j:=2) (by decide) (by decide)]
  refine gQ.loop (xs:=xs) (inj:=PV.int) (λzs env=>∃ (ss:List Int) (y:Option SV),env=[some (.sh (.int c)),some (.sh (.int (m:Int))),some (.ow (ss.map PV.int)),y]/\ss.length+zs.length=m/\Bd 199 ss/\∀ z∈zs,z∈xs) ⟨[],none,rfl,by simpa using xl,(λ_ h=>nomatch h),λ_ h=>h⟩ ?_ ?_
  ·rintro a r env ⟨ss,y,rfl,hl,hs,hz⟩
   have ha:=xb a (hz a List.mem_cons_self)
   have L6:(ss.map PV.int).length<1000:=by simp at hl ⊢;omega
   obtain⟨_,eg,g,rfl,hg⟩:=sS (a/2) (by omega) (by omega)
   obtain⟨v,hv,ev⟩:=pick [a/2%9-4,g] a 2 rfl (by decide)
   rw[show ((2:Nat):Int)=2 from rfl] at ev
   simp only[List.map_cons,List.map_nil] at ev
   dsimp? [dH,aB (i:=a) (j:=2) (by decide) (by decide),aA (i:=a/2) (j:=9) (by decide),eg,aA (i:=a) (j:=2) (by decide),dQ,ownAt,ev,dS L6,da]
   refine⟨_,rfl,_,_,rfl,by simp at hl ⊢;omega,λs h'=>?_,λz h=>hz z (List.mem_cons_of_mem _ h)⟩
   rcases List.mem_append.mp h' with q | q
   ·exact hs s q
   ·rw[List.mem_singleton.mp q]
    simp at hv
    rcases hv with rfl | rfl
    ·omega
    ·exact hg
  ·rintro env ⟨ss,y,rfl,hl,hs,_⟩
   exact⟨_,rfl,ss,rfl,by simpa using hl,hs⟩
 ·simp only[h,decide_true]
  obtain⟨xs,ex,xl,xb⟩:=jF (c/2) (.lst (List.replicate m (.int (2*10^30-1)))) (List.replicate m (2*10^30-1)) (by rw[List.map_replicate];rfl) (λb hb=>by rw[vU hb];decide) (by simp;omega)
  rw[List.length_replicate] at xl
  dsimp? [aB (i:=c) (j:=2) (by decide) (by decide),yJ,aR (i:=2) (j:=10^30) (k:=60) (l:=200) (by decide) (by decide),ku (.int (2*10^30-1)) m (by omega),ex,List.length_map,ax (aL (show xs.length<=1000 by omega)),oA (f:=ai iK (ae 0) (ai iK (ai rX (λ_=>M.ok (.int 10)) (λ_=>M.ok (.int 30))) (λ_=>M.ok (.int 1)))) (inj:=PV.int) (h:=λx=>.int (x-(10^30-1))) (rest:=[]) (x0:=none) xs λa _=>by dsimp? [yJ]]
  refine⟨_,rfl,xs.map (·-(10^30-1)),by rw[tI,List.map_map];rfl,by simp;omega,λx hx=>?_⟩
  obtain⟨y,hy,rfl⟩:=List.mem_map.mp hx
  obtain⟨i,hi,rfl⟩:=List.mem_iff_getElem.mp hy
  have:=xb (xs[i],2*10^30-1) (List.mem_iff_getElem.mpr ⟨i,by simp;omega,by simp⟩)
  simp at this
  show (xs[i]-(10^30-1)).natAbs<2^199
  omega
theorem getD_at{α β:Type}(f:α->β){xs:List α}{a:α}{b:β}{l:Nat}(h:l<xs.length):(xs.map f).getD l b=f (xs.getD l a):=by
 rw[List.getD_eq_getElem?_getD,List.getD_eq_getElem?_getD,List.getElem?_map,List.getElem?_eq_getElem h];rfl
theorem getD_mem{α:Type}{xs:List α}{a:α}{l:Nat}(h:l<xs.length):xs.getD l a∈xs:=by
 rw[List.getD_eq_getElem?_getD,List.getElem?_eq_getElem h];exact List.getElem_mem h
theorem x_{sizes:List Int}{JY:List (List Int)}(S:Sz sizes)(hr:∀ l∈JY,l.length=sizes.length/\Bd 200 l):Je sizes.length JY.length sizes (JY.map λl=>wD l sizes)/\∀ l,l<JY.length->∀ i,i<sizes.length->AA (JY.map λl=>wD l sizes) l i=vf (JY.getD l []) i%vf sizes i:=by
 have e:∀ l,l<JY.length->∀ i,i<sizes.length->AA (JY.map λl=>wD l sizes) l i=vf (JY.getD l []) i%vf sizes i:=λl hl i hi=>by
  unfold AA
  rw[getD_at (a:=[]) _ hl,qB,Aa (by rw[(hr _ (getD_mem hl)).1];exact hi) hi]
 refine⟨⟨by simp,λl hl=>?_,λl hl i hi=>?_⟩,e⟩
 ·rw[getD_at (a:=[]) _ hl,qB,n8,(hr _ (getD_mem hl)).1];omega
 ·rw[e l hl i hi]
  have:=S.hx _ (List.getElem_mem hi)
  rw[← bg hi] at this
  exact⟨Int.emod_nonneg _ (by omega),Int.emod_lt_of_pos _ (by omega)⟩
theorem vO{sizes:List Int}(S:Sz sizes):∀ i,i<sizes.length->0<vf sizes i/\vf sizes i<=360:=λi hi=>by
 have:=S.hx _ (List.getElem_mem hi)
 rw[← bg hi] at this
 omega
theorem ui{sizes xs:List Int}(h:xs.length=sizes.length)(h0:∀ i,i<sizes.length->0<=vf xs i/\vf xs i<vf sizes i):Av sizes xs:=⟨h,λz hz=>by
 obtain⟨i,hi,rfl⟩:=List.mem_iff_getElem.mp hz
 rw[List.length_zip] at hi
 have:=h0 i (by omega)
 rw[bg (by omega),bg (by omega)] at this
 simpa using this⟩
theorem A1{m:Nat}{P B C:Nat->Int}{s:Int}(h:∀ l,l<m->s∣B l-C l):s∣(dn m λl=>P l*B l)-dn m λl=>P l*C l:=by
 induction m with
 | zero=>exact⟨0,by simp[dn]⟩
 | succ m ih =>
  obtain⟨a,ha⟩:=ih λl hl=>h l (by omega)
  obtain⟨b,hb⟩:=h m (by omega)
  exact⟨a+P m*b,by rw[dn,dn];grind⟩
def mY(ns:List Int)(a b:Nat):List Int:=(ns.drop (HT.cM ns.length 0 (some (a:Int)))).take (HT.cM ns.length ns.length (some (b:Int))-HT.cM ns.length 0 (some (a:Int)))
theorem B0(ns:List Int)(a b:Nat):Fm (.jo (ns.map PV.int)) (some (a:Int)) (some (b:Int))=M.ok (.lst ((mY ns a b).map PV.int)):=by
 show M.ok (PV.lst (mr (ns.map PV.int) _ _))=_
 rw[mr,mY,List.map_take,List.map_drop,List.length_map]
theorem qu(ns:List Int)(a b:Nat):(mY ns a b).length<=b-a:=by
 unfold mY
 rw[List.length_take,List.length_drop,HT.vM,HT.vM]
 omega
theorem wq(xs:List Int)(h:xs.length<=100):cD (.lst (xs.map PV.int)) (.lst [.int 0])=M.ok (lI (xs++[0])):=by
 rw[cD,ax (aL (by simp;omega)),lI,List.map_append];rfl
theorem uf{xs:List Int}{z:Int×Nat}(h:z∈xs.zipIdx):z.2<xs.length:=by
 obtain⟨i,hi,rfl⟩:=List.mem_iff_getElem.mp h
 simp at hi ⊢;exact hi
section
variable{sizes:List Int}{Ls:List (List Int)}{R:List Row}{Ke:List (List Int)}{A:Nat->jk}{k:Nat}
theorem Cv:sD aC "sizes" bI (eP sizes Ls) (M.ok [])=M.ok (tI sizes):=(lL (fl:=pJ sizes Ls) rfl).trans (tP sizes Ls)
def lst(sizes:List Int)(Ls:List (List Int))(R:List Row)(xs:List Int):List Int:=(Cs sizes R (xs,List.replicate Ls.length 0) 0 sizes.length).1
theorem vA(xs:List PV):aE [eP sizes Ls,.lst xs]=M.ok (.bl false):=by
 unfold aE bf
 dsimp? [bo,Cv]
theorem vG:aE [eP sizes Ls,.bZ]=M.ok (.bl false):=by
 unfold aE bf
 dsimp? [bo,Cv]
theorem uc(S:Sz sizes){xs:List Int}(hz:xs.length<=1000)(h:pD sizes xs=false):aE [eP sizes Ls,tI xs]=M.ok (.bl false):=by
 rw[j8 S xs hz,h]
theorem fq{p:PV}(h:aE [eP sizes Ls,p]=M.ok (.bl false)):aJ [eP sizes Ls,p]=some (.error (aU,none)):=by
 unfold aJ bh
 dsimp? [h,jf,ax (aL (show 1<=1000 by decide))]
end
section
variable{sizes:List Int}{JY Ls:List (List Int)}{R:List Row}{k:Nat}
theorem oO(S:Sz sizes):∀ s∈sizes,0<s:=λs hs=>by have:=S.hx s hs;omega
theorem Az{F F':List Int}(h:F.length=sizes.length)(h':F'.length=sizes.length)(k:∀ i,i<sizes.length->0<=vf F i/\vf F i<vf sizes i)(k':∀ i,i<sizes.length->0<=vf F' i/\vf F' i<vf sizes i)(d:∀ i,i<sizes.length->vf sizes i∣vf F i-vf F' i):F=F' :=
 yW (h.trans h'.symm) λi hi=>by
  have:=k i (by omega);have:=k' i (by omega)
  have:=wK (d i (by omega)) (by omega) (by omega)
  omega
theorem nr(S:Sz sizes){F:List Int}(h:F.length=sizes.length)(k:∀ i,i<sizes.length->0<=vf F i/\vf F i<vf sizes i):Bd 200 F:=λx hx=>by
 obtain⟨i,hi,rfl⟩:=List.mem_iff_getElem.mp hx
 have h2:=k i (by omega)
 rw[bg hi] at h2
 have:=vO S i (by omega)
 omega
theorem uG(S:Sz sizes){xs ys:List Int}{t:Int}(h1:xs.length=sizes.length)(h2:ys.length=sizes.length):(kB sizes xs ys t).length=sizes.length/\(∀ i,i<sizes.length->0<=vf (kB sizes xs ys t) i/\vf (kB sizes xs ys t) i<vf sizes i)/\∀ i,i<sizes.length->vf sizes i∣vf (kB sizes xs ys t) i-(vf xs i+t*vf ys i) :=
 ⟨jd h1 h2,λi hi=>by
  rw[nU h1 h2 hi]
  have:=vO S i hi
  exact⟨Int.emod_nonneg _ (by omega),Int.emod_lt_of_pos _ (by omega)⟩,λi hi=>by rw[nU h1 h2 hi];exact o8 _ _⟩
structure xK (ns:List Int) (sizes:List Int) (JY Ls:List (List Int)) (R:List Row) (Ke:List (List Int)):Prop where
 S:Sz sizes
 hr:∀ l∈JY,l.length=sizes.length/\Bd 200 l
 eL:Ls=JY.map λl=>wD l sizes
 hm:JY.length=Ls.length
 m8:Ls.length<=8
 eA:∀ l,l<JY.length->∀ i,i<sizes.length->AA Ls l i=vf (JY.getD l []) i%vf sizes i
 LL:Je sizes.length Ls.length sizes Ls
 H_:gI aC g_ [.bZ] [lI sizes,.lst (JY.map lI)]=M.ok (eP sizes Ls)
theorem xK.get(ns:List Int){sizes:List Int}(S:Sz sizes){JY:List (List Int)}(r8:JY.length<=8)(hr:∀ l∈JY,l.length=sizes.length/\Bd 200 l):∃ Ls,xK ns sizes JY Ls [] []:=by
 obtain⟨LL,eA⟩:=x_ S hr
 have H_:=Bp sizes JY S r8 λl h=>(hr l h).1
 have hm:JY.length=(JY.map λl=>wD l sizes).length:=by simp
 generalize hLs:(JY.map λl=>wD l sizes)=Ls at *
 rw[hm] at LL r8
 exact⟨Ls,S,hr,hLs.symm,hm,r8,eA,LL,H_⟩
end
theorem lX{sizes:List Int}(S:Sz sizes)(c:Int):gQ (c8 [.int c,lI sizes]) λp=>∃ xs:List Int,p=tI xs/\xs.length=sizes.length/\∀ i,i<sizes.length->0<=vf xs i/\vf xs i<vf sizes i:=by
 have l6:=S.h6
 unfold c8 dX
 dsimp? [aA (i:=c) (j:=2) (by decide)]
 rcases two (c:=c) with h | h
 ·simp only[h,show ¬ (0:Int)=1 by decide,decide_false]
  obtain⟨_,es,xs,rfl,xl,xb⟩:=ik (c/2) sizes.length (by omega)
  have key:dj (bx 0 1) none (ai bB (ae 0) (ae 1)) ((xs.zip sizes).map λz=>.tup [.int z.1,.int z.2]) [none,none]=M.ok ((xs.zip sizes).map λz=>.int (z.1%z.2)):=by
   refine lJ (p:=λz:Int×Int=>PV.int z.1) (q:=λz:Int×Int=>PV.int z.2) (xs.zip sizes) λz hz=>?_
   dsimp? [aA (i:=z.1) (oO S _ (jJ hz).2)]
  have hz:(xs.zip sizes).length<=sizeLine:=by rw[List.length_zip];exact aL (Nat.le_trans (Nat.min_le_left _ _) (by omega))
  dsimp? [aB (i:=c) (j:=2) (by decide) (by decide),es,cQ (p:=lI xs) (q:=lI sizes) xs sizes rfl rfl,List.length_map,ax hz,key]
  refine⟨_,rfl,(xs.zip sizes).map λz=>z.1%z.2,by rw[tI,List.map_map];rfl,by simp;omega,λi hi=>?_⟩
  have:=vO S i hi
  rw[bg (by simp;omega)]
  simp only[List.getElem_map,List.getElem_zip]
  rw[bg hi] at this ⊢
  exact⟨Int.emod_nonneg _ (by omega),Int.emod_lt_of_pos _ (by omega)⟩
 ·simp only[h,decide_true]
  obtain⟨xs,ex,xl,xb⟩:=jF (c/2) (lI sizes) sizes rfl (λb hb=>by have:=S.hx b hb;omega) (by omega)
  dsimp? [aB (i:=c) (j:=2) (by decide) (by decide),ex]
  refine⟨_,rfl,xs,rfl,xl,λi hi=>?_⟩
  have:=xb (xs[i]'(by omega),sizes[i]) (List.mem_iff_getElem.mpr ⟨i,by simp;omega,by simp⟩)
  rw[bg (by omega),bg hi]
  exact this
theorem xn(sizes:List Int)(levers:List (List Int)):cT [eP sizes levers]=M.ok (.int (R sizes)):=by
 unfold cT dW
 dsimp? [iJ,eP,beq_self_eq_true,yy]
theorem Ju{sizes:List Int}{Ls:List (List Int)}:sD aC "around" cT (eP sizes Ls) (M.ok [])=M.ok (.int (R sizes)):=(lL (fl:=pJ sizes Ls) rfl).trans (xn sizes Ls)
def zX(sizes ws xs:List Int):Int:=((((ws.zip sizes).map λz=>z.1*(R sizes/z.2)).zip xs).map λz=>z.1*z.2).sum%R sizes
theorem og{sizes:List Int}(h:Sz sizes){s:Int}(hs:s∈sizes):0<=R sizes/s/\R sizes/s<2^60:=by
 have h1:=zx h;have h2:=Hk h;have h3:=h.hx s hs
 refine⟨Int.ediv_nonneg (by omega) (by omega),Int.lt_of_le_of_lt (Int.ediv_le_self s (by omega)) h2⟩
theorem Ab{sizes:List Int}(h:Sz sizes){w s:Int}(hw:0<=w/\w<360)(hs:s∈sizes):(w*(R sizes/s)).natAbs<2^80:=by
 have h1:=og h hs
 rw[Int.natAbs_mul]
 have:w.natAbs*(R sizes/s).natAbs<=2^9*2^60:=Nat.mul_le_mul (by omega) (by omega)
 exact Nat.lt_of_le_of_lt this (by decide)
theorem oU{sizes:List Int}{levers:List (List Int)}(h:Sz sizes){ws xs:List Int}(hw:Av sizes ws)(hs:Av sizes xs):cK [eP sizes levers,tI ws,tI xs]=M.ok (.int (zX sizes ws xs)):=by
 have l6:=h.h6
 have k1:dj (bx 0 1) none (ai bV (ae 0) (ai bj (ae 2) (ae 1))) ((ws.zip sizes).map λz=>.tup [.int z.1,.int z.2]) [none,none,some (.sh (.int (R sizes)))]=M.ok ((ws.zip sizes).map λz=>.int (z.1*(R sizes/z.2))):=by
  refine lJ (p:=λz:Int×Int=>PV.int z.1) (q:=λz:Int×Int=>PV.int z.2) (ws.zip sizes) λz hz=>?_
  obtain⟨m1,m2⟩:=jJ hz
  have a1:=h.hx z.2 m2;have a2:=mU h hw m1;have a3:=og h m2
  dsimp? [aB (i:=R sizes) (show 0<z.2 by omega) (show z.2<2^64 by omega),aR (k:=64) (l:=64) (show z.1.natAbs<2^64 by omega) (show (R sizes/z.2).natAbs<2^64 by omega)]
 have z1:(ws.zip sizes).length<=sizeLine:=by rw[List.length_zip];exact aL (Nat.le_trans (Nat.min_le_right _ _) (by omega))
 let us:=(ws.zip sizes).map λz=>z.1*(R sizes/z.2)
 have k2:dj (bx 0 1) none (ai bV (ae 0) (ae 1)) ((us.zip xs).map λz=>.tup [.int z.1,.int z.2]) [none,none]=M.ok ((us.zip xs).map λz=>.int (z.1*z.2)):=by
  refine lJ (p:=λz:Int×Int=>PV.int z.1) (q:=λz:Int×Int=>PV.int z.2) (us.zip xs) λz hz=>?_
  obtain⟨m1,m2⟩:=jJ hz
  obtain⟨y,hy,e⟩:=List.mem_map.mp m1
  obtain⟨n1,n2⟩:=jJ hy
  have a1:=Ab h (mU h hw n1) n2
  rw[e] at a1
  have a2:=mU h hs m2
  dsimp? [aR (k:=80) (l:=64) a1 (show z.2.natAbs<2^64 by omega)]
 have z2:(us.zip xs).length<=sizeLine:=by rw[List.length_zip];exact aL (Nat.le_trans (Nat.min_le_right _ _) (by rw[hs.len];omega))
 have k3:iE [.lst ((ws.zip sizes).map λz=>.int (z.1*(R sizes/z.2))),tI xs,.int (R sizes)]=M.ok (.int (zX sizes ws xs)):=by
  have e0:bO (.lst ((ws.zip sizes).map λz=>PV.int (z.1*(R sizes/z.2))))=some (us.map PV.int):=by
   rw[nL,List.map_map];rfl
  have e1:w_ [.lst ((us.zip xs).map λz=>PV.int (z.1*z.2))]=M.ok (.int ((us.zip xs).map λz=>z.1*z.2).sum):=by
   have:=yO ((us.zip xs).map λz=>z.1*z.2)
   rw[List.map_map] at this
   exact this
  unfold iE iB
  dsimp? [cQ (q:=tI xs) us xs e0 rfl,List.length_map,ax z2,k2,e1,aA (zx h)]
  rfl
 unfold cK fM
 dsimp? [dc (levers:=levers) h hw,dc (levers:=levers) h hs,bo,Ju,Cv,cQ (p:=tI ws) (q:=tI sizes) ws sizes rfl rfl,List.length_map,ax z1,k1,k3]
theorem tU(xs:List Int):∀ m,m<=xs.length->(xs.take m).sum=dn m (vf xs)
 | 0,_=>by simp[dn]
 | m+1,h=>by
  rw[dn,← tU xs m (by omega),List.take_succ_eq_append_getElem (by omega),List.sum_append,bg (by omega)];simp
theorem sP(xs:List Int):xs.sum=dn xs.length (vf xs):=by
 rw[← tU xs _ (Nat.le_refl _),List.take_length]
theorem qY{sizes ws xs:List Int}(h1:ws.length=sizes.length)(h2:xs.length=sizes.length):zX sizes ws xs=qm sizes.length (vf sizes) (R sizes) (vf ws) (vf xs)%R sizes:=by
 unfold zX qm
 rw[sP]
 have hl:((((ws.zip sizes).map λz=>z.1*(R sizes/z.2)).zip xs).map λz=>z.1*z.2).length=sizes.length:=by simp;omega
 rw[hl]
 congr 1
 refine oF λi hi=>?_
 rw[bg (by rw[hl];exact hi),bg (by omega),bg (by omega),bg (by omega)]
 simp only[List.getElem_map,List.getElem_zip]
 rw[Int.mul_assoc,Int.mul_comm (R sizes/_),← Int.mul_assoc]
section
variable{ns:List Int}{sizes:List Int}{JY Ls:List (List Int)}{T:List Row}{Ke:List (List Int)}
theorem IM(S:Sz sizes):∀ i,i<sizes.length->vf sizes i∣R sizes:=λi hi=>by rw[bg hi];exact Ga S (List.getElem_mem hi)
end
theorem vQ(i j:Nat)(env:af)(p q:PV):Fz i j env [p,q]=M.ok (.nx ((env.set i (some (.sh p))).set j (some (.sh q)))):=rfl
theorem yX(sizes:List Int)(h:Sz sizes):gg [lI sizes]=M.ok (.int (R sizes)):=by
 unfold gg gc
 dsimp? []
 refine jM sizes (λr env=>∃ acc x y z,env=[some (.sh (lI sizes)),some (.sh (.int (acc:Nat))),x,y,z]/\Acc sizes r acc) ⟨1,_,_,_,rfl,.start h⟩ ?_ ?_
 ·rintro a r env ⟨acc,x,y,z,rfl,A⟩
  obtain⟨A2,e1,e2,e3⟩:=A.turn
  have l1:=A.lt
  have ha:=A.sW a List.mem_cons_self
  have g1:Int.gcd acc a<=acc:=Nat.le_of_dvd A.pos (Int.ofNat_dvd.mp (Int.gcd_dvd_left ..))
  have d0:0<=(acc:Int)/(Int.gcd acc a:Nat):=Int.ediv_nonneg (by omega) (by omega)
  refine⟨_,[some (.sh (lI sizes)),some (.sh (.int (Nat.lcm acc a.toNat:Nat))),some (.sh (.int a)),some (.sh (.int (Int.gcd acc a:Nat))),some (.sh (.int 0))],rfl,?_,_,_,_,_,rfl,A2⟩
  dsimp? [zS,vQ]
  refine uQ (λenv=>∃ p q:Nat,env=[some (.sh (lI sizes)),some (.sh (.int (acc:Nat))),some (.sh (.int a)),some (.sh (.int p)),some (.sh (.int q))]/\Nat.gcd p q=Int.gcd acc a) (λenv=>match env with
   | [_,_,_,_,some (.sh (.int q))]=>q.toNat
   | _=>0) ⟨acc,a.toNat,by rw[Int.toNat_of_nonneg (by omega)],?_⟩ ?_ ?_
  ·obtain⟨n,rfl⟩:=Int.eq_ofNat_of_zero_le (show 0<=a by omega)
   rfl
  ·rintro env ⟨p,q,rfl,hg⟩
   by_cases h0:(q:Int)=0
   ·exact .inl (by dsimp? [h0,decide_true])
   ·have h0':(0:Int)<q:=by omega
    refine .inr ⟨by dsimp? [h0,decide_false],[some (.sh (lI sizes)),some (.sh (.int (acc:Nat))),some (.sh (.int a)),some (.sh (.int q)),some (.sh (.int ((p%q:Nat):Int)))],?_,⟨q,p%q,rfl,?_⟩,?_⟩
    ·dsimp? [zS,vQ,aA (i:=(p:Int)) h0']
     rfl
    ·rw[← hg,Nat.gcd_comm p q,Nat.gcd_rec q p,Nat.gcd_comm]
    ·show ((p%q:Nat):Int).toNat<(q:Int).toNat
     have:=Nat.mod_lt p (show 0<q by omega)
     omega
  ·rintro JT ⟨p,q,rfl,hg⟩ hu
   have hq:q=0:=by
    revert hu
    dsimp? []
    intro hu
    have:(!decide ((q:Int)=0))=false:=by injection hu with hu;injection hu
    simp at this
    exact this
   subst hq
   rw[Nat.gcd_zero_right] at hg
   subst hg
   dsimp? [aB (i:=(acc:Int)) (show (0:Int)<(Int.gcd acc a:Nat) by omega) (show ((Int.gcd acc a:Nat):Int)<2^64 by omega),aR (k:=64) (l:=64) (show ((acc:Int)/(Int.gcd acc a:Nat)).natAbs<2^64 by omega) (show a.natAbs<2^64 by omega),e1]
   rfl
 ·rintro JT ⟨acc,x,y,z,rfl,A⟩
  dsimp? []
  have:=A.val
  rw[R,← this];rfl
theorem jl{sizes W ys:List Int}{q:PV}(S:Sz sizes)(Wl:W.length=sizes.length)(W0:∀ x∈W,0<=x/\x<360)(yl:ys.length=sizes.length)(yb:Bd 200 ys)(hq:bO q=some (ys.map PV.int)):bM [lI sizes,tI W,q]=M.ok (.int (qm sizes.length (vf sizes) (R sizes) (vf W) (vf ys)%R sizes)):=by
 have l6:=S.h6
 let tm:Int×Int×Int->Int:=λz=>z.1*z.2.1*(R sizes/z.2.2)
 have et:((W.zip (ys.zip sizes)).map tm).sum=qm sizes.length (vf sizes) (R sizes) (vf W) (vf ys):=by
  have hl:((W.zip (ys.zip sizes)).map tm).length=sizes.length:=by simp;omega
  rw[sP,hl]
  refine oF λi hi=>?_
  rw[bg (by rw[hl];exact hi),bg (by omega),bg (by omega),bg (by omega)]
  simp[tm]
 rw[← et]
 refine gQ.eq ?_
 unfold bM cV
 dsimp? [yX sizes S,s_ (p:=tI W) (q:=q) (r:=lI sizes) W ys sizes rfl hq rfl]
 refine gQ.loop (xs:=W.zip (ys.zip sizes)) (inj:=λz=>.tup [.int z.1,.int z.2.1,.int z.2.2]) (λzs env=>∃ (t:Int) (y5 y6 y7:Option SV),env=[some (.sh (lI sizes)),some (.sh (tI W)),some (.sh q),some (.sh (.int (R sizes))),some (.sh (.int t)),y5,y6,y7]/\t+(zs.map tm).sum=((W.zip (ys.zip sizes)).map tm).sum/\∀ z∈zs,z∈W.zip (ys.zip sizes)) ⟨0,_,_,_,rfl,by omega,λz h=>h⟩ ?_ ?_
 ·rintro z r env ⟨t,y5,y6,y7,rfl,ht,hz⟩
  obtain⟨m1,m2⟩:=List.of_mem_zip (a:=z.1) (b:=z.2) (hz z List.mem_cons_self)
  obtain⟨m3,m4⟩:=List.of_mem_zip (a:=z.2.1) (b:=z.2.2) m2
  have a1:=W0 _ m1;have a2:=yb _ m3;have a3:=og S m4;have a4:=S.hx _ m4
  have a5:(z.1*z.2.1).natAbs<2^210:=by
   rw[Int.natAbs_mul]
   have:z.1.natAbs*z.2.1.natAbs<=2^9*2^200:=Nat.mul_le_mul (by omega) (by omega)
   exact Nat.lt_of_le_of_lt this (by decide)
  dsimp? [mh,aB (i:=R sizes) (j:=z.2.2) (by omega) (by omega),aR (k:=64) (l:=200) (show z.1.natAbs<2^64 by omega) a2,aR (k:=210) (l:=64) a5 (show (R sizes/z.2.2).natAbs<2^64 by omega)]
  refine⟨_,rfl,t+tm z,_,_,_,rfl,?_,λz h=>hz z (List.mem_cons_of_mem _ h)⟩
  rw[← ht,List.map_cons,List.sum_cons];omega
 ·rintro env ⟨t,y5,y6,y7,rfl,ht,_⟩
  dsimp? [aA (i:=t) (j:=R sizes) (zx S)]
  simp at ht
  subst ht
  exact⟨_,rfl,rfl⟩
section
variable{ns:List Int}{sizes:List Int}{JY Ls:List (List Int)}{T:List Row}{Ke:List (List Int)}
theorem Ar:sD aC "levers" bL (eP sizes Ls) (M.ok [])=M.ok (.tup (Ls.map tI)):=(lL (fl:=pJ sizes Ls) rfl).trans (wF sizes Ls)
def ad(sizes xs ys:List Int)(t:Int):List Int:=wD ((xs.zip ys).map λz=>z.1+t*z.2) sizes
theorem rW{xs ys:List Int}{t:Int}(S:Sz sizes)(h1:xs.length=sizes.length)(h2:ys.length=sizes.length):(ad sizes xs ys t).length=sizes.length/\∀ i,i<sizes.length->vf (ad sizes xs ys t) i=(vf xs i+t*vf ys i)%vf sizes i:=by
 have hl:((xs.zip ys).map λz=>z.1+t*z.2).length=sizes.length:=by simp;omega
 refine⟨by rw[ad,qB,n8,hl];simp,λi hi=>?_⟩
 rw[ad,qB,Aa (by rw[hl];exact hi) hi,bg (by rw[hl];exact hi),bg (xs:=xs) (by omega),bg (xs:=ys) (by omega)]
 simp
theorem p_{xs ys:List Int}{t:Int}(S:Sz sizes)(h1:xs.length=sizes.length)(hy:Bd 200 ys)(ht:t.natAbs<2^200):kJ [eP sizes Ls,tI xs,tI ys,.int t]=M.ok (tI (ad sizes xs ys t)):=by
 have l6:=S.h6
 have k1:dj (bx 0 1) none (ai cD (ae 0) (ai bV (ae 2) (ae 1))) ((xs.zip ys).map λz=>.tup [.int z.1,.int z.2]) [none,none,some (.sh (.int t))]=M.ok ((xs.zip ys).map λz=>.int (z.1+t*z.2)):=by
  refine lJ (p:=λz:Int×Int=>PV.int z.1) (q:=λz:Int×Int=>PV.int z.2) (xs.zip ys) λz hz=>?_
  dsimp? [aR (k:=200) (l:=200) ht (hy _ (jJ hz).2)]
 have z1:(xs.zip ys).length<=sizeLine:=by rw[List.length_zip];exact aL (Nat.le_trans (Nat.min_le_left _ _) (by omega))
 have e0:bO (.lst ((xs.zip ys).map λz=>PV.int (z.1+t*z.2)))=some (((xs.zip ys).map λz=>z.1+t*z.2).map PV.int):=by
  rw[nL,List.map_map];rfl
 have r:=rV (.lst ((xs.zip ys).map λz=>PV.int (z.1+t*z.2))) (tI sizes) _ sizes e0 rfl (oO S) (by rw[List.length_map,List.length_zip];omega)
 unfold kJ k6
 dsimp? [cQ (p:=tI xs) (q:=tI ys) xs ys rfl rfl,List.length_map,ax z1,k1,bo,Cv,r]
 rfl
def Sl(sizes:List Int)(Ls:List (List Int))(u:List Int):Prop:=∀ l,l<Ls.length->R sizes∣qm sizes.length (vf sizes) (R sizes) (vf u) (AA Ls l)
theorem wW(Q:xK ns sizes JY Ls T Ke){u:List Int}(hl:u.length=sizes.length)(h0:∀ i,i<sizes.length->0<=vf u i/\vf u i<vf sizes i):∃ b:Bool,cH [eP sizes Ls,tI u]=M.ok (.bl b)/\(b=true ↔ Sl sizes Ls u):=by
 have m8:=Q.m8
 have key:dj (dH 0) none (ai jS (ah cK (aa (ae 1) (aa (ae 2) (aa (ae 0) ar)))) (λ_=>M.ok (.int 0))) (Ls.map tI) [none,some (.sh (eP sizes Ls)),some (.sh (tI u))]=M.ok (Ls.map λl=>.bl (decide (zX sizes u l=0))):=by
  refine oA (inj:=tI) Ls λl hm=>?_
  obtain⟨k,hk,ek⟩:=List.mem_iff_getElem.mp hm
  have eg:Ls.getD k []=l:=by rw[List.getD_eq_getElem?_getD,List.getElem?_eq_getElem hk,Option.getD_some,ek]
  have a1:=Q.LL.at_ k hk
  have a2:=Q.LL.sW k hk
  unfold AA at a2
  rw[eg] at a1 a2
  dsimp? [oU (levers:=Ls) Q.S (ui hl h0) (ui a1 a2)]
 have e1:pT [.lst (Ls.map λl=>PV.bl (decide (zX sizes u l=0)))]=M.ok (.bl ((Ls.map λl=>decide (zX sizes u l=0)).all id)):=by
  have:=oV (Ls.map λl=>decide (zX sizes u l=0))
  rw[List.map_map] at this
  exact this
 refine⟨(Ls.map λl=>decide (zX sizes u l=0)).all id,?_,?_⟩
 ·unfold cH cG
  dsimp? [bo,Ar,List.length_map,ax (aL (show Ls.length<=1000 by omega)),key,e1]
 ·rw[List.all_eq_true]
  have at_:∀ k (hk:k<Ls.length),zX sizes u Ls[k]=qm sizes.length (vf sizes) (R sizes) (vf u) (AA Ls k)%R sizes:=λk hk=>by
   have eg:Ls.getD k []=Ls[k]:=by rw[List.getD_eq_getElem?_getD,List.getElem?_eq_getElem hk,Option.getD_some]
   have a1:=Q.LL.at_ k hk
   rw[eg] at a1
   rw[qY hl a1]
   unfold AA
   rw[eg]
  constructor
  ·intro h k hk
   have:=h (decide (zX sizes u Ls[k]=0)) (List.mem_map.mpr ⟨_,List.getElem_mem hk,rfl⟩)
   rw[at_ k hk] at this
   exact Int.dvd_of_emod_eq_zero (by simpa using this)
  ·intro h b hb
   obtain⟨l,hm,rfl⟩:=List.mem_map.mp hb
   obtain⟨k,hk,rfl⟩:=List.mem_iff_getElem.mp hm
   rw[at_ k hk]
   simpa using Int.emod_eq_zero_of_dvd (h k hk)
end
section
variable{ns:List Int}{sizes:List Int}{JY Ls:List (List Int)}{T:List Row}{Ke:List (List Int)}
def Kp(sizes xs:List Int):Prop:=xs.length=sizes.length/\∀ i,i<sizes.length->0<=vf xs i/\vf xs i<vf sizes i
theorem Kp.t4{xs:List Int}(h:Kp sizes xs):Av sizes xs:=ui h.1 h.2
theorem Kp.bd(S:Sz sizes){xs:List Int}(h:Kp sizes xs):Bd 200 xs:=nr S h.1 h.2
theorem CC(S:Sz sizes){xs ys:List Int}{t:Int}(h1:xs.length=sizes.length)(h2:ys.length=sizes.length):Kp sizes (ad sizes xs ys t)/\∀ i,i<sizes.length->vf sizes i∣vf (ad sizes xs ys t) i-(vf xs i+t*vf ys i):=by
 obtain⟨a,b⟩:=rW (t:=t) S h1 h2
 refine⟨⟨a,λi hi=>?_⟩,λi hi=>?_⟩
 ·have:=vO S i hi
  rw[b i hi]
  exact⟨Int.emod_nonneg _ (by omega),Int.emod_lt_of_pos _ this.1⟩
 ·rw[b i hi]
  have:=Int.emod_def (vf xs i+t*vf ys i) (vf sizes i)
  exact⟨-((vf xs i+t*vf ys i)/vf sizes i),by rw[this];grind⟩
theorem j4(S:Sz sizes){one other:List Int}(h1:Kp sizes one)(h2:Kp sizes other):gq [eP sizes Ls,tI one,tI other]=M.ok (tI (ad sizes other one (-1))):=by
 unfold gq gj
 dsimp? [dc (levers:=Ls) S h1.t4,dc (levers:=Ls) S h2.t4,p_ (Ls:=Ls) S h2.1 (h1.bd S) (show (-1:Int).natAbs<2^200 by decide)]
theorem ug{P:List Int}(hP:P.length=Ls.length)(m8:Ls.length<=8):bu [eP sizes Ls,tI P]=M.ok (.bl true):=by
 unfold bu bz
 dsimp? [bo,Ar,List.length_map,uI P Ls.length (aL (by omega)),hP,decide_true]
theorem tF(Q:xK ns sizes JY Ls T Ke){xs P:List Int}(hx:Kp sizes xs)(hP:P.length=Ls.length)(hb:Bd 200 P):gQ (jm [eP sizes Ls,tI xs,tI P]) λp=>∃ F:List Int,p=tI F/\Kp sizes F/\Led sizes.length (vf sizes) Ls.length (AA Ls) (λi=>vf F i-vf xs i) (vf P):=by
 have S:=Q.S
 have m8:=Q.m8
 have np:fR [eP sizes Ls,tI P]=M.ok .bZ:=by
  unfold fR fV
  dsimp? [ug hP m8]
 unfold jm kx
 dsimp? [dc (levers:=Ls) S hx.t4,np,bo,Ar,cQ (p:=.tup (Ls.map tI)) (q:=tI P) (f:=tI) (g:=PV.int) Ls P rfl rfl]
 refine gQ.loop (xs:=Ls.zip P) (inj:=λz=>.tup [tI z.1,.int z.2]) (λzs env=>∃ (c:Nat) (F:List Int) (y4 y5:Option SV),env=[some (.sh (eP sizes Ls)),some (.sh (tI xs)),some (.sh (tI P)),some (.sh (tI F)),y4,y5]/\zs=(Ls.zip P).drop c/\c<=Ls.length/\Kp sizes F/\∀ i,i<sizes.length->vf sizes i∣(vf F i-vf xs i)-dn c λl=>vf P l*AA Ls l i) ⟨0,xs,_,_,rfl,rfl,by omega,hx,λi hi=>⟨0,by simp[dn]⟩⟩ ?_ ?_
 ·rintro z r env ⟨c,F,y4,y5,rfl,hz,hc,hF,Fd⟩
  obtain⟨c1,c2,c3⟩:=drop_cons hz.symm
  have M9:c<Ls.length:=by rw[List.length_zip] at c1;omega
  rw[List.getElem?_eq_getElem c1] at c2
  have c2:=Option.some.inj c2
  rw[List.getElem_zip] at c2
  have eA:Ls.getD c []=z.1:=by rw[List.getD_eq_getElem?_getD,List.getElem?_eq_getElem M9,Option.getD_some,← c2]
  have et:vf P c=z.2:=by rw[bg (by omega),← c2]
  have a1:=Q.LL.at_ c M9
  have a2:=Q.LL.sW c M9
  have eV:AA Ls c=vf z.1:=by unfold AA;rw[eA]
  rw[eV] at a2
  rw[eA] at a1
  have zb:z.2.natAbs<2^200:=hb z.2 (by rw[← c2];exact List.getElem_mem _)
  obtain⟨k1,k2⟩:=CC (t:=z.2) S hF.1 a1
  dsimp? [bx,p_ (Ls:=Ls) (xs:=F) (ys:=z.1) (t:=z.2) S hF.1 (nr S a1 a2) zb]
  refine⟨_,rfl,c+1,_,_,_,rfl,c3.symm,by omega,k1,λi hi=>?_⟩
  obtain⟨x,hx⟩:=Fd i hi
  obtain⟨y,hy⟩:=k2 i hi
  exact⟨x+y,by rw[dn,et,eV,Int.mul_add,← hx,← hy];omega⟩
 ·rintro env ⟨c,F,y4,y5,rfl,hz,hc,hF,Fd⟩
  have ec:c=Ls.length:=by
   have:=congrArg List.length hz
   rw[List.length_drop,List.length_zip] at this
   simp at this;omega
  subst ec
  dsimp? []
  exact⟨_,rfl,F,rfl,hF,Fd⟩
end
open PySem.SeqAt (shaped)
inductive Th:PV->Option (List Int)->Prop
 | row {xs:List Int} (h:xs.length<=100) (b:Bd 200 xs):Th (tI xs) (some xs)
 | lst {xs:List Int} (h:xs.length<=100):Th (lI xs) none
 | As {xs:List Int} (h:xs.length<=100):Th (.tup (xs.map PV.int++[.bl true])) none
 | bZ:Th .bZ none
 | num:Th (.int 7) none
 | txt:Th (.str "12") none
 | emp:Th .emp none
theorem G_:PyData.strOk (Str.ofString "pulls")=true:=by unfold PyData.strOk;rw[← Array.all_toList];rfl
theorem IW:PyData.strOk (Str.ofString "weights")=true:=by unfold PyData.strOk;rw[← Array.all_toList];rfl
theorem GD:PyData.strOk (Str.ofString "12")=true:=by unfold PyData.strOk;rw[← Array.all_toList];rfl
theorem rT:∀ xs:List Int,jg (xs.map PV.int++[.bl true])=some (xs.map PyData.int++[.bool true])
 | []=>rfl
 | x::r=>by
  show (dat (.int x)).bind _=_
  show (jg (r.map PV.int++[.bl true])).map _=_
  rw[rT r];rfl
theorem o3:∀ xs:List Int,PyData.canLayAll0 (xs.map PyData.int++[.bool true])=true
 | []=>rfl
 | x::r=>by
  show (PyData.canLay0 (.int x)&&PyData.canLayAll0 (r.map PyData.int++[.bool true]))=true
  rw[o3 r];rfl
theorem pY:∀ xs:List Int,PyData.depthAll (xs.map PyData.int++[.bool true])=0
 | []=>rfl
 | x::r=>by
  show max (PyData.depth (.int x)) (PyData.depthAll (r.map PyData.int++[.bool true]))=0
  rw[pY r];rfl
theorem Th.dat{p:PV}{v:Option (List Int)}(h:Th p v):p=.emp\/∃ d,L2.dat p=some d/\d.canLay0=true/\d.depth<=5:=by
 cases h with
 | row h b=>exact .inr ⟨.tuple (_),by show (jg _).map _=_;rw[lS];rfl,jj _,by show PyData.depthAll _+1<=5;rw[kh];decide⟩
 | lst h=>exact .inr ⟨.list (_),by show (jg _).map _=_;rw[lS];rfl,jj _,by show PyData.depthAll _+1<=5;rw[kh];decide⟩
 | As h=>exact .inr ⟨.tuple (_),by show (jg _).map _=_;rw[rT];rfl,o3 _,by show PyData.depthAll _+1<=5;rw[pY];decide⟩
 | bZ=>exact .inr ⟨_,rfl,rfl,by decide⟩
 | num=>exact .inr ⟨_,rfl,rfl,by decide⟩
 | txt=>exact .inr ⟨_,rfl,GD,by decide⟩
 | emp=>exact .inl rfl
theorem qt{o:Bool->PV}{p:PV}{d:PyData}(h:dat p=some d)(s:shaped d=true):wd o p p=M.ok (o true):=by
 unfold wd
 rw[h]
 show C2 o d d=_
 unfold C2
 rw[ax ⟨s,s⟩,SeqAt.eqv_refl d (SeqAt.canLay_of_shaped s)]
theorem vL{p:PV}{d:PyData}(h:dat p=some d):ql p=false:=by
 cases p <;> first | rfl | (cases h)
theorem Th.eq{p:PV}{v:Option (List Int)}(h:Th p v):Cw p p=M.ok (.bl true):=by
 rcases h.dat with rfl | ⟨d,e,c,z⟩
 ·rfl
 ·unfold Cw
  rw[if_neg (by rw[vL e];simp)]
  exact qt e (by unfold shaped;rw[c,decide_eq_true (by omega)];rfl)
theorem Th.word{p:PV}{v:Option (List Int)}(h:Th p v){x:Str}(hx:PyData.strOk x=true):v5 (.tup [.str x,p]) (.tup [.str x,p])=M.ok (.bl false):=by
 rcases h.dat with rfl | ⟨d,e,c,z⟩
 ·show M.ok (PV.bl (!(x==x)))=_
  rw[beq_self_eq_true];rfl
 have w0:z_ (.tup [.str x,p])=none:=by
  show (if ql p=true then some x else none)=none
  rw[vL e];rfl
 unfold v5
 rw[w0]
 refine qt (o:=λb=>.bl (!b)) (d:=.tuple [.str x,d]) ?_ ?_
 ·show (jg [.str x,p]).map _=_
  show (((L2.dat p).bind λd=>some [d]).map _).map _=_
  rw[e];rfl
 ·have e1:PyData.canLay0 (.tuple [.str x,d])=true:=by simp[PyData.canLay0,PyData.canLayAll0,c,hx]
  have e2:PyData.depth (.tuple [.str x,d])<=64:=by simp[PyData.depth,PyData.depthAll];omega
  unfold shaped
  rw[e1,decide_eq_true e2];rfl
section
variable{ns:List Int}{sizes:List Int}{JY Ls:List (List Int)}{T:List Row}{Ke:List (List Int)}{p q:PV}{v u:Option (List Int)}
def sB(sizes:List Int):Option (List Int)->Bool
 | some xs=>pD sizes xs
 | none=>false
def pB(m:Nat):Option (List Int)->Bool
 | some xs=>decide ((xs.length:Int)=m)
 | none=>false
def it:Option Int->PV
 | some i=>.int i
 | none=>.bl true
theorem zA(xs:List Int):xs.map PV.int++[.bl true]=(xs.map some++[none]).map it:=by simp[it,Function.comp_def]
theorem ve{xs:List Int}(h:xs.length<=100)(n:Int):dU [.tup (xs.map PV.int++[.bl true]),.int n]=M.ok (.bl false):=by
 have r:=rA (p:=.tup (xs.map PV.int++[.bl true])) (inj:=it) (h:=Option.isSome) (xs.map some++[none]) n (.inl (by rw[zA])) (λa _=>by cases a;exact Ah true;exact jN _) (by simp;exact aL (by omega))
 rw[r]
 simp
theorem Th.set(h:Th p v)(S:Sz sizes):aE [eP sizes Ls,p]=M.ok (.bl (sB sizes v)):=by
 cases h with
 | row h b=>exact j8 S _ (by omega)
 | lst h=>exact vA _
 | As h =>
  unfold aE bf
  dsimp? [bo,Cv,ve h]
  rfl
 | bZ=>exact vG
 | num =>
  unfold aE bf
  dsimp? [bo,Cv]
  rfl
 | txt =>
  unfold aE bf
  dsimp? [bo,Cv]
  rfl
 | emp =>
  unfold aE bf
  dsimp? [bo,Cv]
  rfl
theorem Th.JJ(h:Th p v):bu [eP sizes Ls,p]=M.ok (.bl (pB Ls.length v)):=by
 cases h with
 | @row xs h b =>
  unfold bu bz
  dsimp? [bo,Ar,List.length_map,uI xs Ls.length (aL (by omega))]
  rfl
 | @As xs h =>
  unfold bu bz
  dsimp? [bo,Ar,List.length_map,ve h]
  rfl
 | lst h =>
  unfold bu bz
  dsimp? [bo,Ar]
  rfl
 | bZ =>
  unfold bu bz
  dsimp? [bo,Ar]
  rfl
 | num =>
  unfold bu bz
  dsimp? [bo,Ar]
  rfl
 | txt =>
  unfold bu bz
  dsimp? [bo,Ar]
  rfl
 | emp =>
  unfold bu bz
  dsimp? [bo,Ar]
  rfl
theorem sd(xs:List (Option Int))(n:Int):aW [.tup (xs.map it),.int n]=M.ok (.bl (decide ((xs.length:Int)=n)&&xs.all Option.isSome)):=by
 refine gQ.eq ?_
 unfold aW bb
 by_cases e:(xs.length:Int)=n
 ·dsimp? [List.length_map,e,decide_true,Bool.true_and]
  refine gQ.Af (xs:=xs) (inj:=it) (λzs env=>∃ y,env=[some (.sh (.tup (xs.map it))),some (.sh (.int n)),y]/\xs.all Option.isSome=zs.all Option.isSome) ⟨_,rfl,rfl⟩ ?_ ?_
  ·rintro z r env ⟨y,rfl,hz⟩
   cases z with
   | some i =>
    dsimp? [dH,it]
    exact⟨_,rfl,_,rfl,hz⟩
   | none =>
    dsimp? [dH,it]
    exact⟨_,rfl,_,rfl,by rw[hz];rfl⟩
  ·rintro env ⟨y,rfl,hz⟩
   dsimp? []
   exact⟨_,rfl,by rw[hz];rfl⟩
 ·dsimp? [List.length_map,e,decide_false,Bool.false_and]
  exact⟨_,rfl,rfl⟩
theorem Bx(xs:List Int):tI xs=.tup ((xs.map some).map it):=by rw[tI,List.map_map];rfl
theorem Th.GN(h:Th p v)(n:Nat):aW [p,.int (n:Int)]=M.ok (.bl (pB n v)):=by
 cases h with
 | @row xs h b =>
  rw[Bx,sd]
  rw[show (xs.map some).all Option.isSome=true by simp,Bool.and_true]
  simp[pB]
 | @As xs h =>
  rw[zA,sd]
  simp[pB]
 | lst h=>unfold aW bb;dsimp? [];rfl
 | bZ=>unfold aW bb;dsimp? [];rfl
 | num=>unfold aW bb;dsimp? [];rfl
 | txt=>unfold aW bb;dsimp? [];rfl
 | emp=>unfold aW bb;dsimp? [];rfl
theorem Th.Ea(h:Th p v):bU [p,lI sizes]=M.ok (.bl (sB sizes v)):=by
 have r:=h.GN sizes.length
 cases hb:pB sizes.length v with
 | false =>
  rw[hb] at r
  have e:sB sizes v=false:=by
   cases v with
   | none=>rfl
   | some xs=>show (_&&_)=false;rw[show decide ((xs.length:Int)=sizes.length)=false from hb];rfl
  unfold bU bS
  dsimp? [r,e]
 | true =>
  rw[hb] at r
  cases h with
  | @row xs h b =>
   refine gQ.eq ?_
   have e:sB sizes (some xs)=(xs.zip sizes).all λz=>decide (0<=z.1/\z.1<z.2):=by
    show (_&&_)=_
    rw[show decide ((xs.length:Int)=sizes.length)=true from hb,Bool.true_and]
   rw[e]
   unfold bU bS
   dsimp? [r,cQ (p:=tI xs) (q:=lI sizes) xs sizes rfl rfl]
   refine gQ.Af (xs:=xs.zip sizes) (inj:=λz=>.tup [.int z.1,.int z.2]) (λzs env=>∃ y y',env=[some (.sh (tI xs)),some (.sh (lI sizes)),y,y']/\((xs.zip sizes).all λz=>decide (0<=z.1/\z.1<z.2))=zs.all λz=>decide (0<=z.1/\z.1<z.2)) ⟨_,_,rfl,rfl⟩ ?_ ?_
   ·rintro⟨a,c⟩ r env ⟨y,y',rfl,hz⟩
    by_cases e1:a<0
    ·dsimp? [bx,e1,decide_true]
     exact⟨_,rfl,_,rfl,by rw[hz,List.all_cons,decide_eq_false (by simp only;omega)];rfl⟩
    ·by_cases e2:c<=a
     ·dsimp? [bx,e1,e2,decide_true,decide_false]
      exact⟨_,rfl,_,rfl,by rw[hz,List.all_cons,decide_eq_false (by simp only;omega)];rfl⟩
     ·dsimp? [bx,e1,e2,decide_false]
      exact⟨_,rfl,_,_,rfl,by rw[hz,List.all_cons,decide_eq_true (by simp only;omega)];rfl⟩
   ·rintro env ⟨y,y',rfl,hz⟩
    dsimp? []
    exact⟨_,rfl,by rw[hz];rfl⟩
  | _=>cases hb
end
def mP(p:PV):PV:=.obj aP [("pulls", p)]
def oN(p:PV):PV:=.obj aM [("weights", p)]
def nQ:PV:=.obj aG []
theorem qO(p:PV):gI aP iS [] [p]=M.ok (mP p):=by
 have key:∀ a,iS a ([p]++[])=M.ok [(Str.ofString "pulls", p)]:=by
  intro a
  unfold iS j_
  simp only[nF]
  rw[ax (show ([p]++([]:List PV)).length+1=2 from rfl)]
  simp only[tK,uo]
  dsimp? [lF]
  rw[jL _ _ _ _ _ _ (by simp)]
  dsimp? []
  show cO _ _=_
  rw[ax ⟨rfl,rfl⟩]
  rfl
 unfold gI
 rw[uF key];rfl
theorem qP(p:PV):gI aM iW [] [p]=M.ok (oN p):=by
 have key:∀ a,iW a ([p]++[])=M.ok [(Str.ofString "weights", p)]:=by
  intro a
  unfold iW km
  simp only[nF]
  rw[ax (show ([p]++([]:List PV)).length+1=2 from rfl)]
  simp only[tK,uo]
  dsimp? [lF]
  rw[jL _ _ _ _ _ _ (by simp)]
  dsimp? []
  show cO _ _=_
  rw[ax ⟨rfl,rfl⟩]
  rfl
 unfold gI
 rw[uF key];rfl
theorem lP(L:List (Addr×(List PV->M PV)))(m:Str)(g:af->M PV)(fs:af->M (List PV))(env:af):c7 L m g fs env=(g env).bind λp=>gL L m p (fs env):=rfl
theorem la{L:List (Addr×(List PV->M PV))}{C:Addr}{fl:List (Str×PV)}{s1:List PV->M PV}{m:Str}{x:M (List PV)}(e:L.lookup C=some s1)(h:fl.lookup m=none):gL L m (.obj C fl) x=x.bind λps=>s1 (.obj C fl::ps):=by
 show cO _ _=_
 rw[ax ⟨by rw[e];rfl,h⟩]
 unfold Ho
 rw[e]
section
variable{ns:List Int}{sizes:List Int}{JY Ls:List (List Int)}{T:List Row}{Ke:List (List Int)}{p q:PV}{v u:Option (List Int)}{s1 s2 s3:List PV->M PV}{x:M (List PV)}{m:Str}
theorem G0:gL [(aG,s1),(aP,s2),(aM,s3)] m nQ x=x.bind λps=>s1 (nQ::ps):=la rfl rfl
theorem Fn(h:(m==Str.ofString "pulls")=false):gL [(aG,s1),(aP,s2),(aM,s3)] m (mP p) x=x.bind λps=>s2 (mP p::ps):=la rfl (by simp[List.lookup,h])
theorem Fo(h:(m==Str.ofString "weights")=false):gL [(aG,s1),(aP,s2),(aM,s3)] m (oN p) x=x.bind λps=>s3 (oN p::ps):=la rfl (by simp[List.lookup,h])
theorem GS:B6 (λc=>c==aP) "pulls" (mP p)=M.ok p:=tV (beq_self_eq_true _) rfl
theorem Gx:B6 (λc=>c==aM) "weights" (oN p)=M.ok p:=tV (beq_self_eq_true _) rfl
theorem Av.kp{xs:List Int}(h:Av sizes xs):Kp sizes xs:=⟨h.len,λi hi=>by
 have:=h.sW (xs[i]'(by rw[h.len];exact hi),sizes[i]) (List.mem_iff_getElem.mpr ⟨i,by rw[List.length_zip,h.len];omega,by rw[List.getElem_zip]⟩)
 rw[bg (by rw[h.len];exact hi),bg hi]
 exact this⟩
theorem oR(Q:xK ns sizes JY Ls T Ke){one P:List Int}(h1:Kp sizes one)(hP:P.length=Ls.length)(hb:Bd 200 P):∃ F,Kp sizes F/\jm [eP sizes Ls,tI one,tI P]=M.ok (tI F)/\cA [lI sizes,.lst (JY.map lI),tI one,tI P]=M.ok (tI F):=by
 have S:=Q.S
 have hm:=Q.hm
 obtain⟨_,e,F,rfl,hF,ld⟩:=tF Q h1 hP hb
 obtain⟨F',e',f1,f2,fd⟩:=wJ (q:=tI one) (p2:=tI P) (oO S) S.h6 h1.1 rfl h1.2 Q.hr hb (by omega) rfl
 refine⟨F,hF,e,?_⟩
 rw[e',Az f1 hF.1 f2 hF.2 λi hi=>?_]
 obtain⟨a,ha⟩:=ld i hi
 obtain⟨x,hx⟩:=fd i hi
 obtain⟨y,hy⟩:=A1 (m:=Ls.length) (P:=vf P) (B:=λl=>vf (JY.getD l []) i) (C:=λl=>AA Ls l i) (s:=vf sizes i) λl hl=>by
  rw[Q.eA l (by omega) i hi];exact wz _ _
 rw[hm] at hx
 exact⟨x+y-a,by rw[Int.mul_sub,Int.mul_add,← hx,← hy,← ha];simp only;omega⟩
theorem CG(Q:xK ns sizes JY Ls T Ke){one other:List Int}(h1:Kp sizes one)(h2:Kp sizes other)(h:Th p v):∃ b,aY [mP p,eP sizes Ls,tI one,tI other]=M.ok (.bl b)/\cP [lI sizes,.lst (JY.map lI),tI one,tI other,p]=M.ok (.bl b):=by
 have pr:=h.JJ (sizes:=sizes) (Ls:=Ls)
 have lr:=h.GN JY.length
 rw[Q.hm] at lr
 cases hb:pB Ls.length v with
 | false =>
  rw[hb] at pr lr
  refine⟨false,?_,?_⟩
  ·unfold aY cv
   dsimp? [dc (levers:=Ls) Q.S h1.t4,dc (levers:=Ls) Q.S h2.t4,gX,GS,pr]
  ·unfold cP c6
   dsimp? [List.length_map,Q.hm,lr]
 | true =>
  rw[hb] at pr lr
  cases h with
  | @row xs hx bd =>
   have hl:xs.length=Ls.length:=by have:=of_decide_eq_true hb;omega
   obtain⟨F,hF,e1,e2⟩:=oR Q h1 hl bd
   refine⟨decide (F=other),?_,?_⟩
   ·unfold aY cv
    dsimp? [dc (levers:=Ls) Q.S h1.t4,dc (levers:=Ls) Q.S h2.t4,gX,GS,pr,e1,xN]
   ·unfold cP c6
    dsimp? [List.length_map,Q.hm,lr,e2,xN]
  | _=>cases hb
end
section
variable{ns:List Int}{sizes:List Int}{JY Ls:List (List Int)}{T:List Row}{Ke:List (List Int)}{p q:PV}{v u:Option (List Int)}
theorem Kp.sm(S:Sz sizes){W:List Int}(h:Kp sizes W):∀ x∈W,0<=x/\x<360:=λx hx=>mU S h.t4 hx
theorem B1{one other:List Int}(h1:one.length=sizes.length)(h2:other.length=sizes.length)(S:Sz sizes):kB sizes other one (-1)=ad sizes other one (-1):=by
 obtain⟨a1,a2⟩:=rW (t:=-1) S h2 h1
 refine yW (by rw[jd h2 h1,a1]) λi hi=>?_
 rw[jd h2 h1] at hi
 rw[nU h2 h1 hi,a2 i hi]
theorem CK(Q:xK ns sizes JY Ls T Ke){one other:List Int}(h1:Kp sizes one)(h2:Kp sizes other)(h:Th p v):∃ b,aX [oN p,eP sizes Ls,tI one,tI other]=M.ok (.bl b)/\cU [lI sizes,.lst (JY.map lI),tI one,tI other,p]=M.ok (.bl b):=by
 have S:=Q.S
 have pr:=h.set (Ls:=Ls) S
 have lr:=h.Ea (sizes:=sizes)
 cases hb:sB sizes v with
 | false =>
  rw[hb] at pr lr
  refine⟨false,?_,?_⟩
  ·unfold aX cp
   dsimp? [j4 (Ls:=Ls) S h1 h2,gX,Gx,pr]
  ·unfold cU cS
   dsimp? [lr]
 | true =>
  rw[hb] at pr lr
  cases h with
  | @row W hx bd =>
   have kW:Kp sizes W:=Av.kp (qQ.mp hb)
   obtain⟨b1,e1,i1⟩:=wW Q kW.1 kW.2
   obtain⟨ak,_⟩:=CC (t:=-1) S h2.1 h1.1
   have we:=oU (levers:=Ls) S kW.t4 ak.t4
   rw[qY kW.1 ak.1] at we
   have ea:=mZ (sizes:=sizes) (xs:=other) (ys:=one) (t:=-1) (q:=tI one) (oO S) S.h6 h2.1 rfl (h1.bd S) (by decide)
   rw[B1 h1.1 h2.1 S] at ea
   have lw:=jl (q:=tI (ad sizes other one (-1))) S kW.1 (kW.sm S) ak.1 (ak.bd S) rfl
   let f:List Int->Bool:=λl=>decide (qm sizes.length (vf sizes) (R sizes) (vf W) (vf l)%R sizes=0)
   have eb:JY.all f=b1:=by
    rw[Bool.eq_iff_iff,i1,List.all_eq_true]
    have key:∀ l,l<Ls.length->(R sizes∣qm sizes.length (vf sizes) (R sizes) (vf W) (AA Ls l) ↔ f (JY.getD l [])=true):=λl hl=>by
     have c:=zq (n:=sizes.length) (s:=vf sizes) (Q:=R sizes) (w:=vf W) (v:=AA Ls l) (u:=vf (JY.getD l [])) (IM S) λi hi=>by
      rw[Q.eA l (by rw[Q.hm];exact hl) i hi];exact o8 _ _
     show _ ↔ decide _=true
     rw[decide_eq_true_iff]
     constructor
     ·intro d
      have:=Int.dvd_sub d c
      rw[show ∀ a b:Int,a-(a-b)=b by intros;omega] at this
      exact Int.emod_eq_zero_of_dvd this
     ·intro d
      have:=Int.dvd_add c (Int.dvd_of_emod_eq_zero d)
      rw[Int.sub_add_cancel] at this
      exact this
    constructor
    ·intro a l hl
     refine(key l hl).mpr (a _ (getD_mem (by rw[Q.hm];exact hl)))
    ·intro a r hr
     obtain⟨l,hl,rfl⟩:=List.mem_iff_getElem.mp hr
     have:=(key l (by rw[← Q.hm];exact hl)).mp (a l (by rw[← Q.hm];exact hl))
     rw[List.getD_eq_getElem?_getD,List.getElem?_eq_getElem hl,Option.getD_some] at this
     exact this
   refine⟨b1&&!decide (qm sizes.length (vf sizes) (R sizes) (vf W) (vf (ad sizes other one (-1)))%R sizes=0),?_,?_⟩
   ·unfold aX cp
    cases b1 with
    | true=>dsimp? [j4 (Ls:=Ls) S h1 h2,gX,Gx,pr,e1,we,Bool.true_and]
    | false=>dsimp? [j4 (Ls:=Ls) S h1 h2,gX,Gx,pr,e1,Bool.false_and]
   ·refine gQ.eq ?_
    unfold cU cS
    dsimp? [lr]
    refine gQ.Af (xs:=JY) (inj:=lI) (λzs env=>∃ y,env=[some (.sh (lI sizes)),some (.sh (.lst (JY.map lI))),some (.sh (tI one)),some (.sh (tI other)),some (.sh (tI W)),y]/\JY.all f=zs.all f/\∀ z∈zs,z∈JY) ⟨_,rfl,rfl,λz h=>h⟩ ?_ ?_
    ·rintro z r env ⟨y,rfl,hz,hm⟩
     obtain⟨z1,z2⟩:=Q.hr z (hm z List.mem_cons_self)
     have l0:=jl (q:=lI z) S kW.1 (kW.sm S) z1 z2 rfl
     by_cases e0:qm sizes.length (vf sizes) (R sizes) (vf W) (vf z)%R sizes=0
     ·dsimp? [dH,l0,e0,decide_true]
      exact⟨_,rfl,_,rfl,by rw[hz,List.all_cons,show f z=true from decide_eq_true e0,Bool.true_and],λz h=>hm z (List.mem_cons_of_mem _ h)⟩
     ·dsimp? [dH,l0,e0,decide_false]
      refine⟨_,rfl,_,rfl,?_⟩
      rw[← eb,hz,List.all_cons,show f z=false from decide_eq_false e0];rfl
    ·rintro env ⟨y,rfl,hz,_⟩
     dsimp? [ea,lw]
     refine⟨_,rfl,?_⟩
     rw[← eb,hz];rfl
  | _=>cases hb
theorem Ck(S:Sz sizes){one other:List Int}(h1:Kp sizes one)(h2:Kp sizes other):aS [nQ,eP sizes Ls,tI one,tI other]=M.ok (.bl false):=by
 unfold aS bY
 dsimp? [dc (levers:=Ls) S h1.t4,dc (levers:=Ls) S h2.t4]
theorem FH:jb dM dN aU=some true:=by decide
abbrev LS:List (Addr×(List PV->M PV)):=[(aG,aS),(aP,aY),(aM,aX)]
inductive Au:PV->Prop
 | way {P:List Int} (h:P.length<=100) (b:Bd 200 P):Au (mP (tI P))
 | bar {W:List Int} (h:W.length<=100) (b:Bd 200 W):Au (oN (tI W))
 | pap:Au nQ
theorem Au.Ia(h:Au p)(b:aE [eP sizes Ls,q]=M.ok (.bl false)){r:PV}:gL LS "shows" p (M.ok [eP sizes Ls,q,r])=some (.error (aU,none)):=by
 cases h with
 | way h=>rw[Fn rfl];show aY _=_;unfold aY cv;dsimp? [fq b]
 | bar h=>rw[Fo rfl];show aX _=_;unfold aX cp gq gj;dsimp? [fq b]
 | pap=>rw[G0];show aS _=_;unfold aS bY;dsimp? [fq b]
theorem Au.HF(h:Au p)(S:Sz sizes){one:List Int}(h1:Kp sizes one)(b:aE [eP sizes Ls,q]=M.ok (.bl false)):gL LS "shows" p (M.ok [eP sizes Ls,tI one,q])=some (.error (aU,none)):=by
 have n1:=dc (levers:=Ls) S h1.t4
 cases h with
 | way h=>rw[Fn rfl];show aY _=_;unfold aY cv;dsimp? [n1,fq b]
 | bar h=>rw[Fo rfl];show aX _=_;unfold aX cp gq gj;dsimp? [n1,fq b]
 | pap=>rw[G0];show aS _=_;unfold aS bY;dsimp? [n1,fq b]
theorem Au.good(h:Au p)(Q:xK ns sizes JY Ls T Ke){one:List Int}(h1:Kp sizes one):∃ b,gL LS "shows" p (M.ok [eP sizes Ls,tI one,tI one])=M.ok (.bl b):=by
 cases h with
 | way h b=>obtain⟨b,e,_⟩:=CG Q h1 h1 (.row h b);exact⟨b,(Fn rfl).trans e⟩
 | bar h b=>obtain⟨b,e,_⟩:=CK Q h1 h1 (.row h b);exact⟨b,(Fo rfl).trans e⟩
 | pap=>exact⟨false,G0.trans (Ck Q.S h1 h1)⟩
theorem qb{x y:PV}(h:gL LS "shows" p (M.ok [eP sizes Ls,x,y])=some (.error (aU,none))):bw [eP sizes Ls,p,x,y]=M.ok (.bl true):=by
 unfold bw cY
 dsimp? [q_,lP,h,ou,oQ,FH,yM,sy]
theorem v_{x y:PV}{b:Bool}(h:gL LS "shows" p (M.ok [eP sizes Ls,x,y])=M.ok (.bl b)):bw [eP sizes Ls,p,x,y]=M.ok (.bl false):=by
 unfold bw cY
 dsimp? [q_,lP,h,vY]
theorem CL{x y:PV}(h:cK [eP sizes Ls,x,y]=some (.error (aU,none))):cn [eP sizes Ls,x,y]=M.ok (.bl true):=by
 unfold cn c_
 dsimp? [q_,h,ou,oQ,FH,yM,sy]
theorem vc(h:Au p)(Q:xK ns sizes JY Ls T Ke){one:List Int}(h1:Kp sizes one)(b:aE [eP sizes Ls,q]=M.ok (.bl false)):cZ [eP sizes Ls,p,tI one,q]=M.ok (.bl true):=by
 obtain⟨g,eg⟩:=h.good Q h1
 have n1:=dc (levers:=Ls) Q.S h1.t4
 have w1:cK [eP sizes Ls,tI one,q]=some (.error (aU,none)):=by unfold cK fM;dsimp? [n1,fq b]
 have w2:cK [eP sizes Ls,q,tI one]=some (.error (aU,none)):=by unfold cK fM;dsimp? [fq b]
 have a4:cD (.lst [.bl true,.bl true]) (.lst [.bl true,.bl true])=M.ok (.lst [.bl true,.bl true,.bl true,.bl true]):=ax (aL (by decide))
 have m4:bV (.lst [.bl true]) (.int 4)=M.ok (.lst [.bl true,.bl true,.bl true,.bl true]):=ku (.bl true) 4 (by decide)
 have e4:jS (.lst [.bl true,.bl true,.bl true,.bl true]) (.lst [.bl true,.bl true,.bl true,.bl true])=M.ok (.bl true):=by rfl
 unfold cZ dY
 dsimp? [qb (h.HF Q.S h1 b),qb (h.Ia (r:=tI one) b),CL w1,CL w2,a4,m4,e4,v_ eg]
end
section
variable{ns:List Int}{sizes:List Int}{JY Ls:List (List Int)}{T:List Row}{Ke:List (List Int)}{p q:PV}{v u:Option (List Int)}
theorem sN(S:Sz sizes)(c:Int):gQ (d_ [.int c,lI sizes]) λp=>∃ W:List Int,p=tI W/\Kp sizes W:=by
 have l6:=S.h6
 obtain⟨_,es,xs,rfl,xl,xb⟩:=ik (c/2) sizes.length (by omega)
 unfold d_ ez
 dsimp? [eJ,aB (i:=c) (j:=2) (by decide) (by decide),es,cQ (p:=lI xs) (q:=lI sizes) xs sizes rfl rfl]
 refine gQ.loop (xs:=xs.zip sizes) (inj:=λz=>.tup [.int z.1,.int z.2]) (λzs env=>∃ (ss:List Int) (y1 y2 y3:Option SV),env=[some (.sh (.int c)),some (.sh (lI sizes)),some (.ow (ss.map PV.int)),y1,y2,y3]/\zs=(xs.zip sizes).drop ss.length/\ss.length<=sizes.length/\∀ i,i<ss.length->0<=vf ss i/\vf ss i<vf sizes i) ⟨[],none,none,none,rfl,rfl,by simp,λi hi=>by simp at hi⟩ ?_ ?_
 ·rintro⟨a,s⟩ r env ⟨ss,y1,y2,y3,rfl,hd,hl,hs⟩
  obtain⟨c1,c2,c3⟩:=drop_cons hd.symm
  rw[List.getElem?_eq_getElem c1,List.getElem_zip] at c2
  have c2:=Option.some.inj c2
  rw[List.length_zip] at c1
  have LI:ss.length<sizes.length:=by omega
  have e2:sizes[ss.length]=s:=(Prod.mk.inj c2).2
  have ma:a∈xs:=by rw[← (Prod.mk.inj c2).1];exact List.getElem_mem _
  have ms:s∈sizes:=by rw[← e2];exact List.getElem_mem _
  have ha:=xb a ma
  have hz:=S.hx s ms
  have L6:(ss.map PV.int).length<1000:=by simp;omega
  have fin:∀ w:Int,0<=w->w<s->r=(xs.zip sizes).drop (ss++[w]).length/\(ss++[w]).length<=sizes.length/\∀ i,i<(ss++[w]).length->0<=vf (ss++[w]) i/\vf (ss++[w]) i<vf sizes i:=λw w0 w1=>by
   refine⟨by rw[List.length_append];exact c3.symm,by simp;omega,λi hi=>?_⟩
   have M5:i<=ss.length:=by simp at hi;omega
   rw[bg hi]
   rcases Nat.lt_or_eq_of_le M5 with q | q
   ·rw[List.getElem_append_left q,← bg q];exact hs i q
   ·subst q
    rw[List.getElem_append_right (Nat.le_refl _),bg LI,e2]
    simp;omega
  dsimp? [bx,aA (i:=c) (j:=2) (by decide)]
  by_cases h0:c%2=0
  ·simp only[h0,decide_true]
   dsimp? [aA (i:=a) (j:=s) (by omega),dQ,ownAt,dS L6,da]
   obtain⟨f1,f2,f3⟩:=fin (a%s) (Int.emod_nonneg _ (by omega)) (Int.emod_lt_of_pos _ (by omega))
   exact⟨_,rfl,_,_,_,_,rfl,f1,f2,f3⟩
  ·simp only[h0,decide_false]
   obtain⟨w,hw,ew⟩:=pick [1,2,3,4,6] a 5 rfl (by decide)
   rw[show ((5:Nat):Int)=5 from rfl] at ew
   simp only[List.map_cons,List.map_nil] at ew
   have hw':1<=w/\w<=6:=by simp at hw;omega
   have b1:0<=s/w:=Int.ediv_nonneg (by omega) (by omega)
   have b2:s/w<=s:=Int.ediv_le_self _ (by omega)
   obtain⟨k,ek,hk⟩:∃ k:Int,p8 [.bl (decide (s%w=0))]=M.ok (.int k)/\(k=0\/k=1):=by
    by_cases z:s%w=0
    ·exact⟨1,by rw[decide_eq_true z];rfl,.inr rfl⟩
    ·exact⟨0,by rw[decide_eq_false z];rfl,.inl rfl⟩
   have k31:k.natAbs<2^31:=by rcases hk with rfl | rfl <;> decide
   have s31:(s/w).natAbs<2^31:=by omega
   dsimp? [aA (i:=a) (j:=5) (by decide)]
   rw[ew]
   dsimp? [aA (i:=s) (j:=w) (by omega),aB (i:=s) (j:=w) (by omega) (by omega),ek,aR (i:=k) (j:=s/w) (k:=31) (l:=31) k31 s31,aA (i:=k*(s/w)) (j:=s) (by omega),dQ,ownAt,dS L6,da]
   obtain⟨f1,f2,f3⟩:=fin (k*(s/w)%s) (Int.emod_nonneg _ (by omega)) (Int.emod_lt_of_pos _ (by omega))
   exact⟨_,rfl,_,_,_,_,rfl,f1,f2,f3⟩
 ·rintro env ⟨ss,y1,y2,y3,rfl,hd,hl,hs⟩
  have:=congrArg List.length hd
  rw[List.length_drop,List.length_zip] at this
  simp at this
  have e:ss.length=sizes.length:=by omega
  exact⟨_,rfl,ss,rfl,e,λi hi=>hs i (by omega)⟩
theorem o4(xs:List Int):Fm (tI xs) none (some (-1))=M.ok (tI (xs.take (xs.length-1))):=by
 have e1:HT.cM (xs.map PV.int).length (xs.map PV.int).length (some (-1))=xs.length-1:=by
  rw[List.length_map]
  unfold HT.cM
  simp
  omega
 have e0:HT.cM (xs.map PV.int).length 0 none=0:=rfl
 show M.ok (PV.tup (mr (xs.map PV.int) none (some (-1))))=_
 rw[mr,e1,e0,List.drop_zero,Nat.sub_zero,tI,List.map_take]
theorem AE{xs:List Int}(h:Bd 200 xs)(n:Nat):Bd 200 (xs.take n):=λx hx=>h x (List.mem_of_mem_take hx)
theorem Be{xs:List Int}(h:Bd 200 xs):Bd 200 (xs++[0]):=λx hx=>by
 rcases List.mem_append.mp hx with q | q
 ·exact h x q
 ·rw[List.mem_singleton.mp q];decide
theorem Jd{xs:List Int}(h:xs.length<=90):cD (tI xs) (.tup [.int 0])=M.ok (tI (xs++[0])):=by
 rw[tI,cD,ax (aL (by simp;omega)),tI,List.map_append];rfl
theorem qv{xs:List Int}(h:xs.length<=90)(b:Bd 200 xs)(c:Int):∃ p v,b_ [tI xs,.int c]=M.ok p/\Th p v:=by
 have m9:=aA (i:=c) (j:=9) (by decide)
 unfold b_ eQ
 by_cases h0:c%9=0
 ·exact⟨tI (xs.take (xs.length-1)),_,by dsimp? [m9,h0,decide_true,gz,rL,fF,ud,o4 xs],.row (by simp;omega) (AE b _)⟩
 by_cases h1:c%9=1
 ·exact⟨lI xs,_,by dsimp? [m9,h1,decide_true,decide_false,show ¬ (1:Int)=0 by decide];rfl,.lst (by omega)⟩
 by_cases h2:c%9=2
 ·have ea:cD (tI (xs.take (xs.length-1))) (.tup [.bl true])=M.ok (.tup ((xs.take (xs.length-1)).map PV.int++[.bl true])):=by
   rw[tI,cD,ax (aL (by simp;omega))]
  exact⟨_,_,by dsimp? [m9,h2,decide_true,decide_false,show ¬ (2:Int)=0 by decide,show ¬ (2:Int)=1 by decide,gz,rL,fF,ud,o4 xs,ea],.As (xs:=xs.take (xs.length-1)) (by simp;omega)⟩
 by_cases h3:c%9=3
 ·have m4:=aA (i:=c/9) (j:=4) (by decide)
  have d9:=aB (i:=c) (j:=9) (by decide) (by decide)
  obtain⟨j,hj⟩:=Int.eq_ofNat_of_zero_le (show 0<=c/9%4 by omega)
  have hj':j<4:=by omega
  have ix:br (.lst [.bZ,.int 7,.str "12", .emp]) (.int (j:Int))=M.ok ([PV.bZ,.int 7,.str "12", .emp][j]'hj'):=cW (p:=.lst [.bZ,.int 7,.str "12", .emp]) rfl (List.getElem?_eq_getElem _)
  refine⟨[PV.bZ,.int 7,.str "12", .emp][j]'hj',none,by dsimp? [m9,h3,decide_true,decide_false,show ¬ (3:Int)=0 by decide,show ¬ (3:Int)=1 by decide,show ¬ (3:Int)=2 by decide,d9,m4,hj,ix],?_⟩
  have:j=0\/j=1\/j=2\/j=3:=by omega
  rcases this with rfl | rfl | rfl | rfl
  ·exact .bZ
  ·exact .num
  ·exact .txt
  ·exact .emp
 by_cases h4:c%9=4
 ·exact⟨_,_,by dsimp? [m9,h4,decide_true,decide_false,show ¬ (4:Int)=0 by decide,show ¬ (4:Int)=1 by decide,show ¬ (4:Int)=2 by decide,show ¬ (4:Int)=3 by decide,Jd h],.row (xs:=xs++[0]) (by simp;omega) (Be b)⟩
 ·exact⟨_,_,by dsimp? [m9,h0,h1,h2,h3,h4,decide_false],.row (by omega) b⟩
end
theorem EY(i j:Bool):v5 (.bl i) (.bl j)=M.ok (.bl (!decide (i=j))):=by cases i <;> cases j <;> rfl
theorem DG:v5 (.tup []) (.tup [])=M.ok (.bl false):=by rfl
theorem Bb(i j k:Nat)(env:af)(p q r:PV):EH i j k env [p,q,r]=M.ok (.nx (((env.set i (some (.sh p))).set j (some (.sh q))).set k (some (.sh r)))):=rfl
section
variable{ns:List Int}{sizes:List Int}{JY Ls:List (List Int)}{T:List Row}{Ke:List (List Int)}{p q:PV}{v u:Option (List Int)}
theorem Hv:uK (λ_=>false) (jb lA lj) (jb rN qU) (oN p)=M.ok (.bl false):=by
 show eD ((jb lA lj aM).map .bl)=_
 rw[show jb lA lj aM=some false by decide];rfl
theorem HJ:uK (λ_=>false) (jb k_ lB) (jb qM rJ) (mP p)=M.ok (.bl false):=by
 show eD ((jb k_ lB aP).map .bl)=_
 rw[show jb k_ lB aP=some false by decide];rfl
theorem G6:uK (λ_=>false) (jb dz dw) (jb iv iy) (mP p)=M.ok (.bl true):=by
 show eD ((jb dz dw aP).map .bl)=_
 rw[show jb dz dw aP=some true by decide];rfl
theorem Gk:uK (λ_=>false) (jb dz dw) (jb iv iy) (oN p)=M.ok (.bl true):=by
 show eD ((jb dz dw aM).map .bl)=_
 rw[show jb dz dw aM=some true by decide];rfl
theorem JB:de [mP p]=M.ok (.bl true):=by
 unfold de fK
 dsimp? []
theorem Jx(p:PV):bc [p]=M.ok (.bl false):=by
 unfold bc cX
 dsimp? []
theorem JO:dG [mP p]=M.ok (.tup [.str "pulls", p]):=by
 unfold dG hG
 dsimp? [gX,GS]
theorem bwd:dF [oN p]=M.ok (.tup [.str "weights", p]):=by
 unfold dF gY
 dsimp? [gX,Gx]
theorem JP:cB [nQ]=M.ok (.tup []):=by
 unfold cB eS
 dsimp? []
theorem lT(Q:xK ns sizes JY Ls T Ke){one other:List Int}(h1:Kp sizes one)(h2:Kp sizes other)(hp:Th p v)(hq:Th q u):eO [eP sizes Ls,lI sizes,.lst (JY.map lI),tI one,tI other,p,q]=M.ok (.bl true):=by
 obtain⟨b1,w1,d1⟩:=CG Q h1 h2 hp
 obtain⟨b2,w2,d2⟩:=CK Q h1 h2 hq
 have ps:=Ck (Ls:=Ls) Q.S h1 h2
 have i0:br (.lst [.bl b1,.bl b2]) (.int 0)=M.ok (.bl b1):=cW (p:=.lst [.bl b1,.bl b2]) (j:=0) rfl rfl
 have i1:br (.lst [.bl b1,.bl b2]) (.int 1)=M.ok (.bl b2):=cW (p:=.lst [.bl b1,.bl b2]) (j:=1) rfl rfl
 unfold eO eZ
 dsimp? [yg,qO,qP,lY,show PV.obj aG []=nQ from rfl,Bb,lP,Fn (m := "shows") rfl,Fo (m := "shows") rfl,G0,w1,w2,i0,i1,d1,d2,EY,decide_true,Fn (m := "words") rfl,Fo (m := "words") rfl,JO,bwd,JP,hp.word G_,hq.word IW,DG,Fn (m := "brings") rfl,Fo (m := "brings") rfl,JB,Jx,show gR (.bl true) (.bl true)=M.ok (.bl false) from rfl,show gR (.bl false) (.bl false)=M.ok (.bl false) from rfl,Hv,HJ,G6,Gk,ps,show zo (.bl false) (.bl false)=M.ok (.bl true) from rfl,gX,GS,Gx,hp.eq,hq.eq]
end
theorem rY{sizes xs:List Int}(h:xs.length≠sizes.length):pD sizes xs=false:=by
 unfold pD
 rw[decide_eq_false (by omega),Bool.false_and]
theorem w5{sizes:List Int}(h:1<=sizes.length):pD sizes sizes=false:=by
 cases e:pD sizes sizes with
 | false=>rfl
 | true =>
  have q:=qQ.mp e
  cases sizes with
  | nil=>simp at h
  | cons a r=>have:=q.sW (a,a) (by simp);omega
theorem Cu{l:List PV}{c:Int}{n:Nat}(h:l.length=n)(h0:0<n):∃ (i:Nat) (hi:i<l.length),br (.lst l) (.int (c%(n:Int)))=M.ok l[i]:=by
 obtain⟨j,hj⟩:=Int.eq_ofNat_of_zero_le (Int.emod_nonneg c (show (n:Int)≠0 by omega))
 have:=Int.emod_lt_of_pos c (show (0:Int)<n by omega)
 exact⟨j,by omega,by rw[hj];exact cW (p:=.lst l) (j:=j) rfl (List.getElem?_eq_getElem _)⟩
section
variable{ns:List Int}{sizes:List Int}{JY Ls:List (List Int)}{T:List Row}{Ke:List (List Int)}
theorem BP(Q:xK ns sizes JY Ls T Ke){one P W:List Int}(h1:Kp sizes one)(hP:P.length=Ls.length)(bP:Bd 200 P)(hW:Kp sizes W)(a:Int) :
  (∃ f,cK [eP sizes Ls,tI W,tI one]=M.ok (.int f)/\bM [lI sizes,tI W,tI one]=M.ok (.int f)) ∧
  (∃ pb,br (.lst [lI one,tI (one.take (one.length-1)),tI sizes,.bZ,tI (one++[0])]) (.int (a%5))=M.ok pb/\∃ pp,br (.lst [mP (tI P),oN (tI W),nQ]) (.int (a%3))=M.ok pp/\cZ [eP sizes Ls,pp,tI one,pb]=M.ok (.bl true)) ∧
  ∃ p v q i q' u,b_ [tI P,.int (a/16)]=M.ok p/\Th p v/\b_ [tI W,.int (a/16+4)]=M.ok q/\p8 [.bl (decide (a/16%11=7))]=M.ok (.int i)/\br (.lst [q,tI sizes]) (.int i)=M.ok q'/\Th q' u:=by
 have S:=Q.S
 have l6:=S.h6
 have l1:=S.h1
 have m8:=Q.m8
 have o1:=h1.1
 have w1:=hW.1
 refine⟨⟨_,oU (levers:=Ls) S hW.t4 h1.t4,?_⟩,?_,?_⟩
 ·rw[qY hW.1 h1.1]
  exact jl (q:=tI one) S hW.1 (hW.sm S) h1.1 (h1.bd S) rfl
 ·obtain⟨i,hi,ei⟩:=Cu (l:=[lI one,tI (one.take (one.length-1)),tI sizes,.bZ,tI (one++[0])]) (c:=a) (n:=5) rfl (by decide)
  obtain⟨j,hj,ej⟩:=Cu (l:=[mP (tI P),oN (tI W),nQ]) (c:=a) (n:=3) rfl (by decide)
  refine⟨_,ei,_,ej,vc ?_ Q h1 ?_⟩
  ·have:j=0\/j=1\/j=2:=by simp at hj;omega
   rcases this with rfl | rfl | rfl
   ·exact .way (by omega) bP
   ·exact .bar (by omega) (hW.bd S)
   ·exact .pap
  ·have:i=0\/i=1\/i=2\/i=3\/i=4:=by simp at hi;omega
   rcases this with rfl | rfl | rfl | rfl | rfl
   ·exact vA _
   ·exact uc S (by simp;omega) (rY (by simp;omega))
   ·exact uc S (by omega) (w5 l1)
   ·exact vG
   ·exact uc S (by simp;omega) (rY (by simp;omega))
 ·obtain⟨p,v,ep,hp⟩:=qv (xs:=P) (by omega) bP (a/16)
  obtain⟨q,u,eq,hq⟩:=qv (xs:=W) (by omega) (hW.bd S) (a/16+4)
  by_cases z:a/16%11=7
  ·refine⟨p,v,q,1,tI sizes,some sizes,ep,hp,eq,by rw[decide_eq_true z];rfl,cW (p:=.lst [q,tI sizes]) (j:=1) rfl rfl,.row (by omega) λx hx=>?_⟩
   have:=S.hx x hx
   omega
  ·exact⟨p,v,q,0,q,u,ep,hp,eq,by rw[decide_eq_false z];rfl,cW (p:=.lst [q,tI sizes]) (j:=0) rfl rfl,hq⟩
end
theorem EM(ns:List Int):pX [.jo (ns.map PV.int)]=M.ok (.bl true):=by
 obtain⟨c0,ec⟩:=mV ns 0
 rw[show ((0:Nat):Int)=0 from rfl] at ec
 obtain⟨_,es,sizes,rfl,S⟩:=wH c0
 obtain⟨_,el,JY,rfl,r8,hr⟩:=u9 ns S
 obtain⟨Ls,Q⟩:=xK.get ns S r8 hr
 have l6:=S.h6
 have l1:=S.h1
 have hm:=Q.hm
 refine gQ.eq ?_
 unfold pX zc
 dsimp? [ec,es,el,Q.H_,gz,fF,ud,show Fm (.jo (ns.map PV.int)) (some 10) (some 30)=M.ok (.lst ((mY ns 10 30).map PV.int)) from B0 ns 10 30,wq (mY ns 10 30) (by have:=qu ns 10 30;omega),zj]
 refine gQ.loop (xs:=(mY ns 10 30++[0]).zipIdx) (inj:=λz=>.tup [.int (z.2:Int),.int z.1]) (λzs env=>∃ (y4 y5 y6 y7 y8 y9 y10 y11:Option SV),env=[some (.sh (.jo (ns.map PV.int))),some (.sh (lI sizes)),some (.sh (.lst (JY.map lI))),some (.sh (eP sizes Ls)),y4,y5,y6,y7,y8,y9,y10,y11]/\∀ z∈zs,z.2<100) ⟨_,_,_,_,_,_,_,_,rfl,λz hz=>by have:=uf hz;have:=qu ns 10 30;simp at *;omega⟩ ?_ ?_
 ·rintro⟨a,k⟩ r env ⟨y4,y5,y6,y7,y8,y9,y10,y11,rfl,hz⟩
  have hk:=hz (a,k) List.mem_cons_self
  have LI:∀ z∈r,z.2<100:=λz h=>hz z (List.mem_cons_of_mem _ h)
  simp only at hk
  obtain⟨_,ex,one,rfl,xl,x0⟩:=lX S (a/7+48271*(k:Int))
  have h1:Kp sizes one:=⟨xl,x0⟩
  obtain⟨_,ep,P,rfl,Pl,Pb⟩:=wC (a/5+(k:Int)) JY.length r8
  have bP:Bd 200 P:=λx hx=>Nat.lt_trans (Pb x hx) (by decide)
  obtain⟨F,hF,_,eF⟩:=oR Q h1 (by omega) bP
  obtain⟨c,ecc⟩:=mV ns (40+k)
  rw[show ((40+k:Nat):Int)=40+(k:Int) by omega] at ecc
  obtain⟨_,eo,o1,rfl,o1l,o10⟩:=lX S c
  obtain⟨_,ew,W,rfl,hW⟩:=sN S (a/3+(k:Int))
  obtain⟨⟨f,f1,f2⟩,⟨pb,eb,pp,epp,er⟩,p,v,q,i,q',u,s1,t1,s2,ei,eq,t2⟩:=BP Q h1 (by omega) bP hW a
  let us:=List.replicate (sizes.length-1) (0:Int)++[1]
  have ul:us.length=sizes.length:=by simp[us];omega
  have ub:Bd 200 us:=λx hx=>by
   rcases List.mem_append.mp hx with z | z
   ·rw[List.eq_of_mem_replicate z];decide
   ·rw[List.mem_singleton.mp z];decide
  have e0:bV (.lst [.int 0]) (.int ((sizes.length:Int)-1))=M.ok (.lst (List.replicate (sizes.length-1) (.int 0))):=by
   rw[show (sizes.length:Int)-1=((sizes.length-1:Nat):Int) by omega]
   exact ku _ _ (by omega)
  have e1:cD (.lst (List.replicate (sizes.length-1) (.int 0))) (.lst [.int 1])=M.ok (lI us):=by
   rw[cD,ax (aL (by simp;omega)),lI,List.map_append,List.map_replicate];rfl
  have ea:=mZ (sizes:=sizes) (xs:=F) (ys:=us) (t:=1) (q:=lI us) (oO S) l6 hF.1 rfl ub (by decide)
  obtain⟨k1,k2,_⟩:=uG S (t:=1) hF.1 ul
  have ca:Fm (tI one) none (some (-1))=_:=o4 one
  have a0:=Jd (xs:=one) (by omega)
  have m4:=aA (i:=a) (j:=4) (by decide)
  by_cases z1:a%4=1
  ·have pk:=lT Q h1 (other:=o1) ⟨o1l,o10⟩ t1 t2
   dsimp? [bx,aB (i:=a) (j:=7) (by decide) (by decide),aR (i:=48271) (j:=(k:Int)) (k:=31) (l:=31) (by decide) (by omega),ex,aB (i:=a) (j:=5) (by decide) (by decide),List.length_map,ep,eF,m4,z1,decide_true,decide_false,show ¬ (1:Int)=2 by decide,ecc,eo,aB (i:=a) (j:=3) (by decide) (by decide),ew,f1,f2,gz,rL,fF,ud,ca,show PV.lst (one.map PV.int)=lI one from rfl,show PV.tup (sizes.map PV.int)=tI sizes from rfl,a0,aA (i:=a) (j:=5) (by decide),eb,qO,qP,lY,show PV.obj aG []=nQ from rfl,aA (i:=a) (j:=3) (by decide),epp,er,aB (i:=a) (j:=16) (by decide) (by decide),s1,s2,aA (i:=a/16) (j:=11) (by decide),ei,eq,pk]
   exact⟨_,rfl,_,_,_,_,_,_,_,_,rfl,LI⟩
  ·by_cases z2:a%4=2
   ·have pk:=lT Q h1 (other:=kB sizes F us 1) ⟨k1,k2⟩ t1 t2
    dsimp? [bx,aB (i:=a) (j:=7) (by decide) (by decide),aR (i:=48271) (j:=(k:Int)) (k:=31) (l:=31) (by decide) (by omega),ex,aB (i:=a) (j:=5) (by decide) (by decide),List.length_map,ep,eF,m4,z2,decide_true,decide_false,show ¬ (2:Int)=1 by decide,e0,e1,ea,aB (i:=a) (j:=3) (by decide) (by decide),ew,f1,f2,gz,rL,fF,ud,ca,show PV.lst (one.map PV.int)=lI one from rfl,show PV.tup (sizes.map PV.int)=tI sizes from rfl,a0,aA (i:=a) (j:=5) (by decide),eb,qO,qP,lY,show PV.obj aG []=nQ from rfl,aA (i:=a) (j:=3) (by decide),epp,er,aB (i:=a) (j:=16) (by decide) (by decide),s1,s2,aA (i:=a/16) (j:=11) (by decide),ei,eq,pk]
    exact⟨_,rfl,_,_,_,_,_,_,_,_,rfl,LI⟩
   ·have pk:=lT Q h1 (other:=F) hF t1 t2
    dsimp? [bx,aB (i:=a) (j:=7) (by decide) (by decide),aR (i:=48271) (j:=(k:Int)) (k:=31) (l:=31) (by decide) (by omega),ex,aB (i:=a) (j:=5) (by decide) (by decide),List.length_map,ep,eF,m4,z1,z2,decide_true,decide_false,aB (i:=a) (j:=3) (by decide) (by decide),ew,f1,f2,gz,rL,fF,ud,ca,show PV.lst (one.map PV.int)=lI one from rfl,show PV.tup (sizes.map PV.int)=tI sizes from rfl,a0,aA (i:=a) (j:=5) (by decide),eb,qO,qP,lY,show PV.obj aG []=nQ from rfl,aA (i:=a) (j:=3) (by decide),epp,er,aB (i:=a) (j:=16) (by decide) (by decide),s1,s2,aA (i:=a/16) (j:=11) (by decide),ei,eq,pk]
    exact⟨_,rfl,_,_,_,_,_,_,_,_,rfl,LI⟩
 ·rintro env ⟨y4,y5,y6,y7,y8,y9,y10,y11,rfl,_⟩
  dsimp? []
  exact⟨_,rfl,rfl⟩
end tY
theorem PySem.Challenge.cw_dialvault_k21_papers_checked_holds : PySem.Challenge.rw_dialvault_k21_papers_checked.Holds :=
  tY.hold HD.said λns _ _ => tY.EM ns
end