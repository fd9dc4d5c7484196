import PyProof.Rows.All
import Wide.All
import OpenK.AllK
import Wide.FinOn
import Lean
import PyProof.EqAt
import PyProof.EqKinds
import PyProof.TupleCall
import PySem.Challenge.RW_dialvault_k56_whole_great_gears
set_option Elab.async false
set_option linter.all false
set_option maxRecDepth 100000
set_option maxHeartbeats 0
noncomputable section
theorem aR(h:True:=by rfl):True:=h
theorem aD(h:True:=by decide):True:=h
theorem aI(h:True:=by intro _;rfl):True:=h
theorem aK(h:True:=by kernel_rfl):True:=h
theorem aF(h:True:=by first | exact .inl rfl | exact .inr rfl | assumption):True:=h
theorem aU(h:True:=by with_unfolding_all rfl):True:=h
theorem aN(h:True:=by decide +kernel):True:=h
theorem aG(h:True:=by first | exact .inl rfl | exact .inr rfl):True:=h
namespace L2
open PySem PySem.Spec PyProof.Rows
abbrev Key:=Sum Int Str
def FY:Key->Value->Bool
 | .inl k,v=>Value.isInt k v
 | .inr x,v=>Value.isStrOf x v
def Lg(w:World):Key->Int
 | .inl k=>hashInt k
 | .inr x=>hashStr w x
theorem cN:∀ {k:Key} {v:Value},FY k v=true->(∃ i t,k=Sum.inl i/\v=Value.int i t)\/(∃ x t,k=Sum.inr x/\v=Value.str x t)
 | .inl i,v,h=>by
  obtain⟨t,e⟩:=Value.isInt_shape (k:=i) (v:=v) h
  exact .inl ⟨i,t,rfl,e⟩
 | .inr x,v,h=>by
  obtain⟨t,e⟩:=Value.isStrOf_shape (x:=x) (v:=v) h
  exact .inr ⟨x,t,rfl,e⟩
theorem HY(a b:Int):decide ((Sum.inl a:Key)=Sum.inl b)=(a==b):=by
 by_cases e:a=b
 ·subst e;simp
 ·have h:¬ (Sum.inl a:Key)=Sum.inl b:=λq=>e (Sum.inl.inj q)
  rw[decide_eq_false h]
  exact(beq_eq_false_iff_ne.mpr e).symm
theorem Ik(a b:Str):decide ((Sum.inr a:Key)=Sum.inr b)=decide (a=b):=by
 by_cases e:a=b
 ·subst e;simp
 ·have h:¬ (Sum.inr a:Key)=Sum.inr b:=λq=>e (Sum.inr.inj q)
  rw[decide_eq_false h,decide_eq_false e]
theorem IB(a:Int)(b:Str):decide ((Sum.inl a:Key)=Sum.inr b)=false:=decide_eq_false (λq=>nomatch q)
theorem GL(a:Str)(b:Int):decide ((Sum.inr a:Key)=Sum.inl b)=false:=decide_eq_false (λq=>nomatch q)
def yp(prog:Program)(w:World):PySem.KeyKind prog w Key where
 is:=FY
 hash:=Lg w
 inj:=λv a b ha hb=>by
  rcases cN ha with ⟨i,t,rfl,rfl⟩ | ⟨x,t,rfl,rfl⟩
  ·rcases cN hb with ⟨j,u,rfl,e⟩ | ⟨y,u,rfl,e⟩
   ·injection e with e1 _;rw[e1]
   ·exact nomatch e
  ·rcases cN hb with ⟨j,u,rfl,e⟩ | ⟨y,u,rfl,e⟩
   ·exact nomatch e
   ·injection e with e1 _;rw[e1]
 byValue:=λk v h=>by
  rcases cN h with ⟨i,t,rfl,rfl⟩ | ⟨x,t,rfl,rfl⟩ <;> rfl
 pyHash:=λhv h=>by
  rcases cN hv with ⟨i,t,rfl,rfl⟩ | ⟨x,t,rfl,rfl⟩
  ·exact wpAny_pyHash_int h
  ·exact wpAny_pyHash_str h
 eqBool:=λhu hv h=>by
  rcases cN hu with ⟨i,t,rfl,rfl⟩ | ⟨x,t,rfl,rfl⟩
  ·rcases cN hv with ⟨j,u,rfl,rfl⟩ | ⟨y,u,rfl,rfl⟩
   ·rw[HY] at h;exact wpAny_eqBool_int h
   ·rw[IB] at h;exact SeqAt.EqAt.int_str i t y u _ _ _ _ h
  ·rcases cN hv with ⟨j,u,rfl,rfl⟩ | ⟨y,u,rfl,rfl⟩
   ·rw[GL] at h;exact SeqAt.EqAt.str_int x t j u _ _ _ _ h
   ·rw[Ik] at h;exact wpAny_eqBool_str h
 «strs»:=λk x t v h=>by
  rcases cN h with ⟨i,u,rfl,e⟩ | ⟨y,u,rfl,e⟩
  ·exact nomatch e
  ·injection e with e1 _
   subst e1
   cases v <;> rfl
inductive V where
 | cy | bl (b:Bool) | int (i:Int) | str (x:Str) | byt (b:Array UInt8) | FI (b:UInt64) | ref (a:Addr) | ty (n:String)
 deriving DecidableEq
def RelV:V->Value->Prop
 | .cy,u=>u=Value.none
 | .bl b,u=>u=Value.bool b
 | .int i,u=>∃ t,u=Value.int i t
 | .str x,u=>∃ t,u=Value.str x t
 | .byt b,u=>∃ t,u=Value.bytes b t
 | .FI b,u=>∃ t,u=Value.float b t
 | .ref a,u=>u=Value.ref a
 | .ty n,u=>u=Value.type n
abbrev Vals:List V->List Value->Prop:=Paired RelV
theorem Vals.length{xs:List V}{us:List Value}(r:Vals xs us):xs.length=us.length:=Paired.length r
theorem Vals.get:∀ {xs:List V} {us:List Value} {i:Nat} {x:V},Vals xs us->xs[i]?=some x->∃ u,us[i]?=some u/\RelV x u
 | _,_,_,_,.nil,e=>by simp at e
 | _,_,0,_,.cons r _,e=>by simp at e;subst e;exact⟨_,rfl,r⟩
 | _,_,i+1,x,.cons _ t,e=>by
  obtain⟨u,h1,h2⟩:=Vals.get (i:=i) (x:=x) t (by simpa using e)
  exact⟨u,by simpa using h1,h2⟩
theorem Vals.set{x:V}{u:Value}(r:RelV x u):∀ {xs:List V} {us:List Value} (i:Nat),Vals xs us->Vals (xs.set i x) (us.set i u)
 | _,_,_,.nil=>.nil
 | _,_,0,.cons _ t=>.cons r t
 | _,_,i+1,.cons q t=>.cons q (Vals.set r i t)
theorem Vals.append:∀ {xs ys:List V} {us ws:List Value},Vals xs us->Vals ys ws->Vals (xs++ys) (us++ws)
 | _,_,_,_,.nil,s=>s
 | _,_,_,_,.cons r t,s=>.cons r (Vals.append t s)
theorem Vals.take:∀ {xs:List V} {us:List Value} (n:Nat),Vals xs us->Vals (xs.take n) (us.take n)
 | _,_,0,_=>.nil
 | _,_,_+1,.nil=>.nil
 | _,_,n+1,.cons r t=>.cons r (Vals.take n t)
theorem Vals.drop:∀ {xs:List V} {us:List Value} (n:Nat),Vals xs us->Vals (xs.drop n) (us.drop n)
 | _,_,0,r=>r
 | _,_,_+1,.nil=>.nil
 | _,_,n+1,.cons _ t=>Vals.drop n t
def mX:Option V->Option Value->Prop
 | some v,some u=>RelV v u
 | none,none=>True
 | _,_=>False
def KV{κ:Type}:List (κ×V)->List (κ×Value)->Prop:=Paired λ(p:κ×V) (q:κ×Value)=>p.1=q.1/\RelV p.2 q.2
def kV:Key->V
 | .inl i=>.int i
 | .inr x=>.str x
inductive HO where
 | lst (xs:List V)
 | tup (xs:List V)
 | dK (Ob:List (Key×V)) | dT (Ob:List (List Key×V))
 | set (S:Int->Bool) (n:Nat)
 | ins (C dx:Addr) (fs:List (Str×V))
 | own (x:Addr)
 | xd (fs:List (Str×V))
 | met (f x:Addr)
 | kd (lo hi:Int)
 | qU (o:Obj) (u:HO)
 | F_ (ps:Array Value)
 | ext (φ:Heap->Prop)
abbrev Hp:=Addr->Option HO
def upd(H:Hp)(a:Addr)(o:HO):Hp:=λb=>if b=a then some o else H b
variable{a:Addr}{H:Hp}
theorem az{o:HO}:upd H a o a=some o:=by unfold upd;rw[if_pos rfl]
variable{b:Addr}
theorem ar{o:HO}(h:b≠a):upd H a o b=H b:=by unfold upd;rw[if_neg h]
theorem yD{o u:HO}:upd (upd H a o) a u=upd H a u:=by
 funext b;unfold upd;split <;> rfl
theorem cx{o:HO}(h:H a=some o)(h':H b=none):a≠b:=by
 intro e;subst e;rw[h] at h';cases h'
section
variable(P:Program)(w:World)
def cM(H:Hp)(h:Heap)(a:Addr):HO->Prop
 | .lst xs=>xs.length<=sizeLine/\∃ (Nl:List Value) (n:Nat),Vals xs Nl/\h.get? a=some { cls:=.type "list", data:=.seq Nl.toArray n }
 | .tup xs=>xs.length<=sizeLine/\∃ Nl:List Value,Vals xs Nl/\IsTup h a Nl.toArray
 | .dK Ob=>Ob.length<=sizeLine/\(a==sysModules)=false/\∃ vs,KV Ob vs/\h.DictOf (yp P w) a vs
 | .dT Ob=>Ob.length<=sizeLine/\(a==sysModules)=false/\∃ xs:List (List Key×Addr×Value),
   Paired (λ(p:List Key×V) (q:List Key×Addr×Value)=>p.1=q.1/\H q.2.1=some (.tup (p.1.map kV))/\RelV p.2 q.2.2) Ob xs ∧
   ∃ o es ep,h.get? a=some o/\o.ExactDict/\o.data=.dict es ep/\es.toList=xs.map (entryOfKey (tupleKind (yp P w)))/\(xs.map (·.1)).Nodup
 | .set S n=>h.SetOf (intKind P w) a S n
 | .ins C dx fs=>H dx=some (.own a)/\fs.length<=1000/\dx≠a/\h.get? a=some (PySem.W.instObj C dx) ∧
   ∃ mA,h.Ns1 dx mA/\(∀ f,mX (fs.lookup f) (mA f))/\PySem.Within mA (fs.map (·.1))
 | .own _=>∃ o,h.get? a=some o
 | .xd fs=>∃ mA,h.Ns1 a mA/\∀ f,mX (fs.lookup f) (mA f)
 | .kd lo hi=>∃ t u v,h.get? a=some { cls:=.type "range", data:=.fields #[.int lo t,.int hi u,.int 1 v] }
 | .qU o u=>h.get? a=some o/\cM H h a u
 | .F_ ps=>h.get? a=some { cls:=.none,data:=.fields ps }
 | .met f x=>h.get? a=some (PySem.W.methodObj (.ref f) (.ref x))
 | .ext φ=>φ h/\(∃ o,h.get? a=some o)/\∀ h1 h2:Heap,φ h1->(∀ o,h1.get? a=some o->h2.get? a=some o)->φ h2
def nQ(H:Hp)(h:Heap):Prop:=∀ a o,H a=some o->cM P w H h a o
end
variable{h h':Heap}{H':Hp}{w:World}{P:Program}
section
variable{o:HO}
theorem cM.lt(x:cM P w H h a o):a<h.objs.size:=by
 cases o with
 | lst xs=>obtain⟨_,_,_,_,e⟩:=x;exact Heap.lt_size e
 | tup xs=>obtain⟨_,_,_,p⟩:=x;exact p.lt
 | dK Ob=>obtain⟨_,_,_,_,o,_,_,e,_⟩:=x;exact Heap.lt_size e
 | dT Ob=>obtain⟨_,_,_,_,o,_,_,e,_⟩:=x;exact Heap.lt_size e
 | set S n=>obtain⟨o,_,_,_,e,_⟩:=x;exact Heap.lt_size e
 | ins C dx fs=>obtain⟨_,_,_,e,_⟩:=x;exact Heap.lt_size e
 | own y=>obtain⟨_,e⟩:=x;exact Heap.lt_size e
 | xd fs=>obtain⟨_,⟨_,_,_,e,_⟩,_⟩:=x;exact Heap.lt_size e
 | kd lo hi=>obtain⟨_,_,_,e⟩:=x;exact Heap.lt_size e
 | qU ob u=>obtain⟨e,_⟩:=x;exact Heap.lt_size e
 | F_ ps=>exact Heap.lt_size (show h.get? a=some _ from x)
 | met f y=>exact Heap.lt_size (show h.get? a=some _ from x)
 | ext φ=>obtain⟨_,⟨_,e⟩,_⟩:=x;exact Heap.lt_size e
theorem Paired.Ju{α β:Type}{F G:α->β->Prop}:∀ {l₁:List α} {l₂:List β},Paired F l₁ l₂->(∀ a b,F a b->G a b)->Paired G l₁ l₂
 | _,_,.nil,_=>.nil
 | _,_,.cons r t,f=>.cons (f _ _ r) (Paired.Ju t f)
theorem cM.oz(x:cM P w H h a o)(k:∀ b u,(b=a\/H b=some (.own a))->h.get? b=some u->h'.get? b=some u)
  (ho:∀ b,H b=some (.own a)->H' b=some (.own a)) (ht:∀ b xs,H b=some (.tup xs)->H' b=some (.tup xs)):cM P w H' h' a o:=by
 induction o with
 | lst xs=>obtain⟨z,Nl,n,r,e⟩:=x;exact⟨z,Nl,n,r,k _ _ (.inl rfl) e⟩
 | tup xs=>obtain⟨z,Nl,r,ob,e,c⟩:=x;exact⟨z,Nl,r,ob,k _ _ (.inl rfl) e,c⟩
 | dK Ob=>obtain⟨z,y,vs,r,ob,es,ep,e,c⟩:=x;exact⟨z,y,vs,r,ob,es,ep,k _ _ (.inl rfl) e,c⟩
 | dT Ob =>
  obtain⟨z,y,xs,r,ob,es,ep,e,c⟩:=x
  exact⟨z,y,xs,Paired.Ju r λp q z=>⟨z.1,ht _ _ z.2.1,z.2.2⟩,ob,es,ep,k _ _ (.inl rfl) e,c⟩
 | set S n=>obtain⟨ob,es,ep,t,e,c⟩:=x;exact⟨ob,es,ep,t,k _ _ (.inl rfl) e,c⟩
 | ins C dx fs =>
  obtain⟨d,z,ne,e,mA,⟨od,es,ep,e2,c⟩,r⟩:=x
  exact⟨ho _ d,z,ne,k _ _ (.inl rfl) e,mA,⟨od,es,ep,k _ _ (.inr d) e2,c⟩,r⟩
 | own y=>obtain⟨ob,e⟩:=x;exact⟨ob,k _ _ (.inl rfl) e⟩
 | xd fs=>obtain⟨mA,⟨od,es,ep,e,c⟩,r⟩:=x;exact⟨mA,⟨od,es,ep,k _ _ (.inl rfl) e,c⟩,r⟩
 | kd lo hi=>obtain⟨t,u,v,e⟩:=x;exact⟨t,u,v,k _ _ (.inl rfl) e⟩
 | qU ob u ih=>obtain⟨e,q⟩:=x;exact⟨k _ _ (.inl rfl) e,ih q⟩
 | F_ ps =>
  have e:h.get? a=some { cls:=.none,data:=.fields ps }:=x
  show h'.get? a=some { cls:=.none,data:=.fields ps }
  exact k a _ (.inl rfl) e
 | met f y =>
  have e:h.get? a=some (PySem.W.methodObj (.ref f) (.ref y)):=x
  show h'.get? a=some (PySem.W.methodObj (.ref f) (.ref y))
  exact k a _ (.inl rfl) e
 | ext φ=>obtain⟨p,⟨o,e⟩,st⟩:=x;exact⟨st _ _ p λo q=>k _ _ (.inl rfl) q,⟨o,k _ _ (.inl rfl) e⟩,st⟩
theorem nQ.lt(x:nQ P w H h)(e:H a=some o):a<h.objs.size:=(x a o e).lt
theorem nQ.fresh(x:nQ P w H h)(e:h.objs.size<=a):H a=none:=by
 cases q:H a with
 | none=>rfl
 | some u=>exact absurd (Nat.lt_of_lt_of_le (x.lt q) e) (Nat.lt_irrefl _)
theorem nQ.kept(x:nQ P w H h)(k:∀ b u,h.get? b=some u->h'.get? b=some u):nQ P w H h':=λa o e =>
 (x a o e).oz (λb u _ q=>k b u q) (λ_ q=>q) λ_ _ q=>q
theorem nQ.laid(x:nQ P w H h)(k:∀ b u,h.get? b=some u->h'.get? b=some u)(hp:h.objs.size<=a)(new:cM P w (upd H a o) h' a o):nQ P w (upd H a o) h':=λb u e=>by
 have hn:=x.fresh hp
 by_cases hb:b=a
 ·subst hb;rw[az] at e;cases e;exact new
 ·rw[ar hb] at e
  exact(x b u e).oz (λc v _ q=>k c v q) (λc q=>by rw[ar (cx q hn)];exact q) λc xs q=>by rw[ar (cx q hn)];exact q
end
def Rd(H:Hp)(a:Addr)(u:HO):Prop:=H a=some u\/∃ o,H a=some (.qU o u)
theorem Rd.ok{u:HO}(r:Rd H a u)(x:nQ P w H h):cM P w H h a u:=by
 rcases r with r | ⟨o,r⟩
 ·exact x a u r
 ·obtain⟨_,q⟩:=x a _ r
  exact q
def K4:Option HO->Prop
 | some (.lst _)=>True
 | some (.dK _)=>True
 | some (.dT _)=>True
 | some (.set _ _)=>True
 | some (.ins _ _ _)=>True
 | some (.ext _)=>True
 | _=>False
section
variable{x e:Addr}{o':HO}
theorem nQ.write(ok:nQ P w H h)(mu:K4 (H x))(he:e=x\/H e=some (.own x))(k:∀ b u,b≠e->h.get? b=some u->h'.get? b=some u)(QN:∃ u,h'.get? e=some u)
  (new:cM P w (upd H x o') h' x o'):nQ P w (upd H x o') h':=λb u q=>by
 have Rr:∀ c y,H c=some (.own y)->c≠x:=λc y r z=>by subst z;rw[r] at mu;exact mu
 have ntup:∀ c xs,H c=some (.tup xs)->c≠x:=λc xs r z=>by subst z;rw[r] at mu;exact mu
 by_cases hb:b=x
 ·subst hb;rw[az] at q;cases q;exact new
 ·rw[ar hb] at q
  by_cases Pt:b=e
  ·have q':H b=some (.own x):=by
    rcases he with z | z
    ·exact absurd (Pt.trans z) hb
    ·rw[Pt];exact z
   rw[q] at q';cases q'
   obtain⟨v,hv⟩:=QN
   exact⟨v,by rw[Pt];exact hv⟩
  ·refine(ok b u q).oz (λc v hc r=>k c v ?_ r) (λc r=>by rw[ar (Rr c b r)];exact r) λc xs r=>by rw[ar (ntup c xs r)];exact r
   rcases hc with rfl | hc
   ·exact Pt
   ·rintro rfl
    rcases he with z | z
    ·exact Rr c b hc z
    ·rw[hc] at z;cases z;exact hb rfl
end
structure Un (fs ex:List Addr) (H H':Hp) (h h':Heap):Prop where
 keep:∀ b o,h.get? b=some o->H b=none->b ∉ fs->b ∉ ex->h'.get? b=some o
 slot:∀ b o,h.get? b=some o->H b=none->b∈fs->b ∉ ex->∃ sl,h'.get? b=some { o with slots:=sl }
 free:∀ b o,h.get? b=some o->H b=none->b ∉ ex->H' b=none
 there:∀ b o,h.get? b=some o->b ∉ ex->∃ o',h'.get? b=some o'
 tV:∀ b xs,H b=some (.tup xs)->H' b=some (.tup xs)
 mR:∀ b o u,H b=some (.qU o u)->H' b=some (.qU o u)
 sU:∀ b ps,H b=some (.F_ ps)->∃ more,H' b=some (.F_ (ps++more))
section
variable{fs Qq ex ex':List Addr}{H1 H2:Hp}{h1 h2:Heap}{x e:Addr}{o:HO}
theorem Un.any(u:Un fs ex H H1 h h1){ob:Obj}(q:h.get? b=some ob)(n:H b=none)(hx:b ∉ ex):∃ sl,h1.get? b=some { ob with slots:=sl }:=by
 by_cases hb:b∈fs
 ·exact u.slot b ob q n hb hx
 ·exact⟨ob.slots,u.keep b ob q n hb hx⟩
theorem Un.kept(k:∀ b u,h.get? b=some u->h'.get? b=some u):Un fs ex H H h h' :=
 ⟨λb ob q _ _ _=>k b ob q,λb ob q _ _ _=>⟨ob.slots,k b ob q⟩,λ_ _ _ n _=>n,λb ob q _=>⟨ob,k b ob q⟩,λ_ _ q=>q,λ_ _ _ q=>q,λ_ ps q=>⟨#[],by rw[q];simp⟩⟩
theorem Un.refl:Un fs ex H H h h:=Un.kept λ_ _ q=>q
theorem Un.laid(k:∀ b u,h.get? b=some u->h'.get? b=some u)(hp:h.objs.size<=a)(hn:H a=none):Un fs ex H (upd H a o) h h' where
 keep:=λb u q _ _ _=>k b u q
 slot:=λb u q _ _ _=>⟨u.slots,k b u q⟩
 free:=λb u q n _=>by rw[ar (Nat.ne_of_lt (Nat.lt_of_lt_of_le (Heap.lt_size q) hp))];exact n
 there:=λb u q _=>⟨u,k b u q⟩
 tV:=λb xs q=>by rw[ar (cx q hn)];exact q
 mR:=λb u xs q=>by rw[ar (cx q hn)];exact q
 sU:=λb ps q=>⟨#[],by rw[ar (cx q hn),q];simp⟩
theorem Un.write(mu:K4 (H x))(he:e=x\/H e=some (.own x))(k:∀ b u,b≠e->h.get? b=some u->h'.get? b=some u)(QN:∃ u,h'.get? e=some u):Un fs ex H (upd H x o) h h':=by
 have hx:∀ b,H b=none->b≠x:=λb n z=>by subst z;rw[n] at mu;exact mu
 have hb:∀ b,H b=none->b≠e:=λb n z=>by
  subst z
  rcases he with r | r
  ·exact hx b n r
  ·rw[n] at r;cases r
 have hm:∀ b u,H b=some u->¬ K4 (some u)->b≠x:=λb u q nm z=>by subst z;rw[q] at mu;exact nm mu
 refine⟨λb u q n _ _=>k b u (hb b n) q,λb u q n _ _=>⟨u.slots,k b u (hb b n) q⟩,λb u q n _=>by rw[ar (hx b n)];exact n,λb u q _=>?_,
  λb xs q=>by rw[ar (hm b _ q λz=>z)];exact q,λb u xs q=>by rw[ar (hm b _ q λz=>z)];exact q,λb ps q=>⟨#[],by rw[ar (hm b _ q λz=>z),q];simp⟩⟩
 by_cases Pt:b=e
 ·subst Pt;exact QN
 ·exact⟨u,k b u Pt q⟩
end
def KR(h:Heap)(H:Hp):List Addr:=(List.range h.objs.size).filter λa=>(H a).isSome
def sP(h:Heap)(H:Hp):Heap:=PySem.W.hideAll h (KR h H)
theorem zy(h:Heap)(H:Hp):(sP h H).objs.size=h.objs.size:=PySem.W.hideAll_size _ _
variable{o:Obj}
theorem Bo(e:h.get? b=some o)(n:H b=none):(sP h H).get? b=some o :=
 PySem.W.hideAll_get _ e λhm=>by
  have q:(H b).isSome=true:=(List.mem_filter.mp hm).2
  rw[n] at q;simp at q
theorem Ep(e:(sP h H).get? b=some o):h.get? b=some o/\H b=none:=by
 have e':h.get? b=some o:=PySem.W.of_hideAll (KR h H) e
 refine⟨e',?_⟩
 cases q:H b with
 | none=>rfl
 | some x =>
  have hm:b∈KR h H:=List.mem_filter.mpr ⟨List.mem_range.mpr (Heap.lt_size e'),by simp[q]⟩
  have z:(sP h H).get? b=none:=PySem.W.hideAll_none (KR h H) hm
  rw[z] at e;cases e
def Eb(g h:Heap)(L:Addr):List (Addr×Obj):=(List.range h.objs.size).filterMap λa=>if a=L\/(g.get? a).isSome=true then none else (h.get? a).map λo=>(a,o)
def rest(g h:Heap)(L d:Addr):List (Addr×Obj):=(Eb g h L).filter λp=>decide (p.1≠d)
structure Mod (K:PySem.W.Frag) (mg:Str->Option Value) (base:Heap):Prop where
 FK:K.In base
 glob:base.Ns mainGlobals mg
 blt:∃ mb,base.Ns builtinsNs mb/\∀ x:Str,x ≠ "__name__" -> mb x=bootBuiltins x
 nolimit:base.NoLimit
structure Cx where
 prog:Program
 w:World
 K:PySem.W.Frag
 mg:Str->Option Value
 base:Heap
 A:Around
 N:List Str
 s₀:Shared
 H₀:Hp
 env:Env
 outer:List Env
 stack:List Env
 ex:List Addr
 fn:Str->Bool
 calm:Bool
 pn:List (Addr×Obj)
 xe:Value->Shared->Prop
def wD(l:List Env):List Addr:=l.filterMap (·.frame)
abbrev Cx.fs(X:Cx):List Addr:=wD X.outer
def DA(sc:Scope)(x:Str):Prop:=sc.names.lookup x=some .local\/sc.names.lookup x=some .cell\/sc.names.lookup x=some .free
def Loc(sc:Scope)(x:Str):Prop:=sc.names.lookup x=some .local\/sc.names.lookup x=some .cell
def Look(env:Env)(h:Heap)(m:Str->Option Value)(x:Str)(u:Value):Prop :=
 (env.kindOf x=some .local/\m x=some u)\/((env.kindOf x=some .cell\/env.kindOf x=some .free)/\∃ c,env.cells.lookup x=some c/\h.IsCell c (some u))
structure Cx.Ok (X:Cx):Prop where
 mod:Mod X.K X.mg X.base
 kind:X.env.scope.kind=.function
 glob:X.env.globals=mainGlobals
 blt:X.env.builtins=builtinsNs
 above:X.s₀.heap.objs.size<=X.env.locals
 inj:∀ x y c,X.env.cells.lookup x=some c->X.env.cells.lookup y=some c->x=y
 has:∀ x,(X.env.kindOf x=some .cell\/X.env.kindOf x=some .free)->∃ c,X.env.cells.lookup x=some c
 JE:∀ x c,X.fn x=true->X.env.cells.lookup x=some c->X.s₀.heap.objs.size<=c
 hd:X.calm=true->X.A.handled=none
 frames:X.A.frames=some X.stack
 KZ:X.stack=X.outer\/(X.stack=X.env::X.outer/\X.env.frame=some X.env.locals)
 Me:∀ b∈X.ex,b≠X.env.locals/\∀ x c,X.env.cells.lookup x=some c->c≠b
 bs:∀ b o,X.base.get? b=some o->X.s₀.heap.get? b=some o/\X.H₀ b=none
 FU:X.base.objs.size<=X.s₀.heap.objs.size
 zP:∀ b o,X.base.get? b=some o->b ∉ X.ex
 Cy:∀ b∈X.ex,b ∉ X.fs
 oF:X.s₀.heap.FunFrames X.base X.outer
 HJ:∀ b∈X.fs,X.H₀ b=none
structure Inv (X:Cx) (Ni:List (Addr×Obj)) (σ:List (Option V)) (H:Hp) (s:Shared):Prop where
 ok:X.Ok
 os:s.os=X.s₀.os
 bare:AllBare s.gens
 base:Un X.fs X.ex X.H₀ H X.s₀.heap s.heap
 loc:∃ m,s.heap.Ns X.env.locals m/\∀ (i:Nat) (x:Str) (v:V),X.N[i]?=some x->σ[i]?=some (some v)->DA X.env.scope x->∃ u,RelV v u/\Look X.env s.heap m x u
 cell:∀ x c,X.env.cells.lookup x=some c->∃ v,s.heap.IsCell c v
 free:H X.env.locals=none
 lE:∀ x c,X.env.cells.lookup x=some c->H c=none
 pin:∀ p∈X.pn++Ni,s.heap.get? p.1=some p.2/\H p.1=none/\p.1≠X.env.locals/\p.1 ∉ X.fs/\∀ v,p.2.data≠.cell v
 bT:nQ X.prog X.w H s.heap
 len:σ.length=X.N.length
variable{s:Shared}{Ni:List (Addr×Obj)}{X:Cx}
variable{ch:List Addr}{d':Drawn}{t':Nat}{g':Array GenState}
variable{it:Addr}
variable{x:Str}{i:Nat}{N:List Str}
variable{u:Value}{v:V}{E:Value->Shared->Prop}{A:Around}
section
variable{σ:List (Option V)}
theorem Cx.Ok.Mz(ok:X.Ok)(e:X.base.get? b=some o):b ∉ X.fs:=λhb=>by
 have:=(ok.oF.mem hb).1
 rw[e] at this;cases this
theorem Inv.bs(I:Inv X Ni σ H s):∀ b o,X.base.get? b=some o->s.heap.get? b=some o/\H b=none:=λb o e =>
 ⟨I.base.keep b o (I.ok.bs b o e).1 (I.ok.bs b o e).2 (I.ok.Mz e) (I.ok.zP b o e),I.base.free b o (I.ok.bs b o e).1 (I.ok.bs b o e).2 (I.ok.zP b o e)⟩
theorem Inv.bk(I:Inv X Ni σ H s):∀ b o,X.base.get? b=some o->s.heap.get? b=some o:=λb o e=>(I.bs b o e).1
theorem Inv.mod(I:Inv X Ni σ H s):Mod X.K X.mg X.base:=I.ok.mod
theorem Inv.kD(I:Inv X Ni σ H s):X.K.In s.heap:=I.ok.mod.FK.keeps I.bk
theorem Inv.lt(I:Inv X Ni σ H s):X.env.locals<s.heap.objs.size:=let ⟨_,hn,_⟩:=I.loc;hn.lt
theorem Inv.sz(I:Inv X Ni σ H s):X.s₀.heap.objs.size<=s.heap.objs.size:=Nat.le_trans I.ok.above (Nat.le_of_lt I.lt)
theorem Inv.L6(I:Inv X Ni σ H s)(h:s.heap.objs.size<=a):a ∉ X.fs:=λhb=>by
 obtain⟨_,o,ho,_⟩:=I.ok.oF.mem hb
 exact absurd (Nat.lt_of_lt_of_le (Heap.lt_size ho) (Nat.le_trans I.sz h)) (Nat.lt_irrefl _)
theorem Inv.Gs(I:Inv X Ni σ H s):∀ x c,X.env.cells.lookup x=some c->c≠X.env.locals:=λx c e z=>by
 obtain⟨v,o,ho,hd⟩:=I.cell x c e
 obtain⟨m,⟨o',es,ep,O9,Q4,_⟩,_⟩:=I.loc
 rw[z,O9] at ho;cases ho;rw[Q4] at hd;cases hd
theorem Inv.oF(I:Inv X Ni σ H s):s.heap.FunFrames X.base X.outer:=by
 have all:∀ (l:List Env),(∀ b∈wD l,b∈X.fs)->X.s₀.heap.FunFrames X.base l->s.heap.FunFrames X.base l:=by
  intro l
  induction l with
  | nil=>intro _ _;trivial
  | cons env r ih =>
   intro hs hl
   obtain⟨hk,⟨L,o,hf,hn,ho,hd⟩,hr⟩:=hl
   have hL:L∈X.fs:=hs L (by unfold wD;rw[List.filterMap_cons,hf];exact List.mem_cons_self)
   obtain⟨sl,e⟩:=I.base.slot L o ho (I.ok.HJ L hL) hL λz=>I.ok.Cy L z hL
   exact⟨hk,⟨L,_,hf,hn,e,hd⟩,ih (λb hb=>hs b (by unfold wD;rw[List.filterMap_cons,hf];exact List.mem_cons_of_mem _ hb)) hr⟩
 exact all X.outer (λ_ hb=>hb) I.ok.oF
theorem Inv.stack(I:Inv X Ni σ H s):s.heap.FunFrames X.base X.stack:=by
 rcases I.ok.KZ with e | ⟨e,hf⟩
 ·rw[e];exact I.oF
 ·rw[e]
  obtain⟨m,hn,_⟩:=I.loc
  refine .cons (by rw[I.ok.kind];decide) hf hn ?_ I.oF
  exact Heap.get?_none_of_le (Nat.le_trans I.ok.FU I.ok.above)
theorem Inv.uk(I:Inv X Ni σ H s):∀ b∈wD X.stack,b∈X.env.locals::X.fs:=λb hb=>by
 rcases I.ok.KZ with e | ⟨e,hf⟩
 ·rw[e] at hb;exact List.mem_cons_of_mem _ hb
 ·rw[e] at hb
  unfold wD at hb
  rw[List.filterMap_cons,hf] at hb
  exact hb
theorem Inv.sX(I:Inv X Ni σ H s):∀ b∈wD X.stack,H b=none:=λb hb=>by
 rcases List.mem_cons.mp (I.uk b hb) with e | hb
 ·rw[e];exact I.free
 ·obtain⟨_,o,ho,_⟩:=I.ok.oF.mem hb
  exact I.base.free b o ho (I.ok.HJ b hb) λz=>I.ok.Cy b z hb
theorem Inv.step(I:Inv X Ni σ H s)
  (O5:∀ b∈ch,(b∈X.ex\/X.s₀.heap.objs.size<=b)/\b≠X.env.locals/\(∀ x c,X.env.cells.lookup x=some c->c≠b)/\∀ p∈X.pn++Ni,p.1≠b)
  (keep:∀ b o,b≠X.env.locals->b ∉ X.fs->b ∉ ch->s.heap.get? b=some o->H b=none->h'.get? b=some o)
  (slot:∀ b o,b≠X.env.locals->b∈X.fs->b ∉ ch->s.heap.get? b=some o->H b=none->∃ sl,h'.get? b=some { o with slots:=sl }) (free:∀ b o,b ∉ ch->s.heap.get? b=some o->H b=none->H' b=none)
  (there:∀ b o,b ∉ ch->s.heap.get? b=some o->∃ o',h'.get? b=some o')
  (tV:∀ b xs,H b=some (.tup xs)->H' b=some (.tup xs)) (mR:∀ b o u,H b=some (.qU o u)->H' b=some (.qU o u)) (sU:∀ b ps,H b=some (.F_ ps)->∃ more,H' b=some (.F_ (ps++more)))
  (ns:∀ m,s.heap.Ns X.env.locals m->h'.Ns X.env.locals m) (bT:nQ X.prog X.w H' h') (hg:AllBare g') :
  Inv X Ni σ H' { s with heap:=h',gens:=g',drawn:=d',toks:=t' }:=by
 have neL:∀ b o,X.s₀.heap.get? b=some o->b≠X.env.locals:=λb o e=>Nat.ne_of_lt (Nat.lt_of_lt_of_le (Heap.lt_size e) I.ok.above)
 have neC:∀ b o,X.s₀.heap.get? b=some o->b ∉ X.ex->b ∉ ch:=λb o e hx hb=>by
  rcases(O5 b hb).1 with z | z
  ·exact hx z
  ·exact absurd (Nat.lt_of_lt_of_le (Heap.lt_size e) z) (Nat.lt_irrefl _)
 have cellK:∀ x c,X.env.cells.lookup x=some c->∀ v,s.heap.IsCell c v->h'.IsCell c v:=λx c e v ⟨o,ho,hd⟩=>by
  have Rq:c ∉ ch:=λz=>(O5 c z).2.2.1 x c e rfl
  by_cases hc:c∈X.fs
  ·obtain⟨sl,q⟩:=slot c o (I.Gs x c e) hc Rq ho (I.lE x c e)
   exact⟨_,q,hd⟩
  ·exact⟨o,keep c o (I.Gs x c e) hc Rq ho (I.lE x c e),hd⟩
 refine⟨I.ok,I.os,hg,⟨λb o e n hb hx=>?_,λb o e n hb hx=>?_,λb o e n hx=>?_,λb o e hx=>?_,λb xs e=>tV b xs (I.base.tV b xs e),λb o xs e=>mR b o xs (I.base.mR b o xs e),λb ps e=>?_⟩,?_,λx c e=>?_,?_,λx c e=>?_,λp hp=>?_,bT,I.len⟩
 ·exact keep b o (neL b o e) hb (neC b o e hx) (I.base.keep b o e n hb hx) (I.base.free b o e n hx)
 ·obtain⟨sl,e1⟩:=I.base.slot b o e n hb hx
  obtain⟨sl',e2⟩:=slot b _ (neL b o e) hb (neC b o e hx) e1 (I.base.free b o e n hx)
  exact⟨sl',e2⟩
 ·obtain⟨o',e1⟩:=I.base.there b o e hx
  exact free b o' (neC b o e hx) e1 (I.base.free b o e n hx)
 ·obtain⟨o',e1⟩:=I.base.there b o e hx
  exact there b o' (neC b o e hx) e1
 ·obtain⟨m1,e1⟩:=I.base.sU b ps e
  obtain⟨m2,e2⟩:=sU b _ e1
  exact⟨m1++m2,by rw[e2,Array.append_assoc]⟩
 ·obtain⟨m,hn,hl⟩:=I.loc
  refine⟨m,ns m hn,λi x v e1 e2 e3=>?_⟩
  obtain⟨u,r,l⟩:=hl i x v e1 e2 e3
  refine⟨u,r,?_⟩
  rcases l with l | ⟨k,c,e,z⟩
  ·exact .inl l
  ·exact .inr ⟨k,c,e,cellK x c e _ z⟩
 ·obtain⟨v,z⟩:=I.cell x c e
  exact⟨v,cellK x c e v z⟩
 ·obtain⟨m,⟨o,_,_,ho,_⟩,_⟩:=I.loc
  exact free _ o (λz=>(O5 _ z).2.1 rfl) ho I.free
 ·obtain⟨v,o,ho,hd⟩:=I.cell x c e
  exact free c o (λz=>(O5 c z).2.2.1 x c e rfl) ho (I.lE x c e)
 ·obtain⟨e,n,ne,nf,d⟩:=I.pin p hp
  have Rq:p.1 ∉ ch:=λz=>(O5 p.1 z).2.2.2 p hp rfl
  exact⟨keep p.1 p.2 ne nf Rq e n,free p.1 p.2 Rq e n,ne,nf,d⟩
theorem Inv.un(I:Inv X Ni σ H s)(u:Un X.fs [] H H' s.heap h')(bT:nQ X.prog X.w H' h'):Inv X Ni σ H' { s with heap:=h',toks:=t' }:=by
 obtain⟨m,⟨o,es,ep,ho,r⟩,_⟩:=id I.loc
 obtain⟨sl,hL⟩:=u.any ho I.free (by simp)
 exact I.step (g':=s.gens) (d':=s.drawn) (ch:=[]) (λ_ z=>nomatch z) (λb o _ hb _ e n=>u.keep b o e n hb (by simp)) (λb o _ hb _ e n=>u.slot b o e n hb (by simp)) (λb o _ e n=>u.free b o e n (by simp)) (λb o _ e=>u.there b o e (by simp)) u.tV u.mR u.sU (λm' hm=>by
  obtain⟨o',es',ep',O9,r'⟩:=hm
  rw[ho] at O9;cases O9
  exact⟨_,es',ep',hL,r'⟩) bT I.bare
theorem Inv.call(I:Inv X Ni σ H s)(u:Un (wD X.stack) ch H H' s.heap h')(bT:nQ X.prog X.w H' h')(hg:AllBare g')
  (O5:∀ b∈ch,(b∈X.ex\/X.s₀.heap.objs.size<=b)/\b≠X.env.locals/\(∀ x c,X.env.cells.lookup x=some c->c≠b)/\∀ p∈X.pn++Ni,p.1≠b) :
  Inv X Ni σ H' { s with heap:=h',gens:=g',drawn:=d',toks:=t' }:=by
 obtain⟨m,⟨o,es,ep,ho,r⟩,_⟩:=id I.loc
 obtain⟨sl,hL⟩:=u.any ho I.free λz=>(O5 _ z).2.1 rfl
 exact I.step (ch:=ch) O5 (λb o hL hb hc e n=>u.keep b o e n (λz=>(List.mem_cons.mp (I.uk b z)).elim hL hb) hc) (λb o _ _ hc e n=>u.any e n hc) (λb o hc e n=>u.free b o e n hc) (λb o hc e=>u.there b o e hc) u.tV u.mR u.sU (λm' hm=>by
  obtain⟨o',es',ep',O9,r'⟩:=hm
  rw[ho] at O9;cases O9
  exact⟨_,es',ep',hL,r'⟩) bT hg
theorem Inv.turned(I:Inv X Ni σ H s)(k:∀ b o,b≠it->s.heap.get? b=some o->h'.get? b=some o)(hn:H it=none)(hL:it≠X.env.locals)
  (h1:it∈X.ex\/X.s₀.heap.objs.size<=it) (h2:∀ x c,X.env.cells.lookup x=some c->c≠it) (h3:∀ p∈X.pn++Ni,p.1≠it):Inv X Ni σ H { s with heap:=h',toks:=t' }:=by
 have nit:∀ b u,H b=some u->b≠it:=λb u e z=>by rw[z,hn] at e;cases e
 refine I.step (g':=s.gens) (d':=s.drawn) (ch:=[it]) (λb hb=>?_) (λb o _ _ hc e _=>k b o (λz=>hc (by simp[z])) e) (λb o _ _ hc e _=>⟨o.slots,k b o (λz=>hc (by simp[z])) e⟩) (λ_ _ _ _ n=>n)
  (λb o hc e=>⟨o,k b o (λz=>hc (by simp[z])) e⟩) (λ_ _ e=>e) (λ_ _ _ e=>e) (λb ps e=>⟨#[],by rw[e];simp⟩) (λm hm=>?_) (λb u e=>?_) I.bare
 ·have e:b=it:=by simpa using hb
  subst e
  exact⟨h1,hL,h2,h3⟩
 ·obtain⟨o,es,ep,ho,r⟩:=hm
  exact⟨o,es,ep,k _ o (Ne.symm hL) ho,r⟩
 ·refine(I.bT b u e).oz (λc v hc q=>k c v ?_ q) (λ_ q=>q) λ_ _ q=>q
  rcases hc with z | z
  ·rw[z];exact nit b u e
  ·exact nit c _ z
theorem Inv.tok(I:Inv X Ni σ H s)(t:Nat):Inv X Ni σ H { s with toks:=t }:=I.un (h':=s.heap) (t':=t) Un.refl I.bT
theorem Inv.kept{t':Nat}(I:Inv X Ni σ H s)(k:∀ b u,s.heap.get? b=some u->h'.get? b=some u):Inv X Ni σ H { s with heap:=h',toks:=t' }:=I.un (Un.kept k) (I.bT.kept k)
theorem Inv.laid{a:Addr}{o:HO}{t':Nat}(I:Inv X Ni σ H s)(k:∀ b u,s.heap.get? b=some u->h'.get? b=some u)(hp:s.heap.objs.size<=a)(new:cM X.prog X.w (upd H a o) h' a o) :
  Inv X Ni σ (upd H a o) { s with heap:=h',toks:=t' }:=I.un (Un.laid k hp (I.bT.fresh hp)) (I.bT.laid k hp new)
theorem Inv.write{x e:Addr}{o:HO}{t':Nat}(I:Inv X Ni σ H s)(mu:K4 (H x))(he:e=x\/H e=some (.own x))(k:∀ b u,b≠e->s.heap.get? b=some u->h'.get? b=some u)(QN:∃ u,h'.get? e=some u)
  (new:cM X.prog X.w (upd H x o) h' x o):Inv X Ni σ (upd H x o) { s with heap:=h',toks:=t' }:=I.un (Un.write mu he k QN) (I.bT.write mu he k QN new)
theorem Inv.yv{P6:List (Addr×Obj)}(I:Inv X Ni σ H s)(h:∀ p∈P6,s.heap.get? p.1=some p.2/\H p.1=none/\p.1≠X.env.locals/\p.1 ∉ X.fs/\∀ v,p.2.data≠.cell v):Inv X P6 σ H s :=
 ⟨I.ok,I.os,I.bare,I.base,I.loc,I.cell,I.free,I.lE,λp hp=>(List.mem_append.mp hp).elim (λz=>I.pin p (List.mem_append_left _ z)) (h p),I.bT,I.len⟩
theorem vc(hN:N.Nodup){j:Nat}(a:N[i]?=some x)(b:N[j]?=some x):i=j:=by
 obtain⟨h1,e1⟩:=List.getElem?_eq_some_iff.mp a
 obtain⟨h2,e2⟩:=List.getElem?_eq_some_iff.mp b
 exact(List.getElem_inj hN).mp (e1.trans e2.symm)
theorem sL{M:Model}{Q:Unit->Shared->Prop}(I:Inv X Ni σ H s)(hN:X.N.Nodup)(hi:X.N[i]?=some x)(hx:Loc X.env.scope x)(r:RelV v u)
  (h:∀ s',Inv X Ni (σ.set i (some v)) H s'->(∃ a,Heap.SameBut a s.heap s'.heap/\(a=X.env.locals\/X.env.cells.lookup x=some a))->Q () s') (hf:autoParam (X.fn x=true\/X.env.scope.names.lookup x=some .local) aF._auto_1):wpAny M A (storeName X.env x u) Q E s:=by
 obtain⟨m,hn,hl⟩:=id I.loc
 have hcls:(X.env.scope.kind==.class||(X.env.scope.kind==.module&&X.env.locals != X.env.globals))=false:=by rw[I.ok.kind];rfl
 have hiσ:i<σ.length:=by rw[I.len];exact(List.getElem?_eq_some_iff.mp hi).1
 have Gs:=I.Gs
 have tracked:∀ {a:Addr} {h':Heap},(∃ o,s.heap.get? a=some o/\H a=none)->Heap.SameBut a s.heap h'->nQ X.prog X.w H h':=λ{a h'} ha hs b ob e=>by
  obtain⟨_,_,Pl⟩:=ha
  refine(I.bT b ob e).oz (λc w' hc q=>(hs.2 c ?_).trans q) (λ_ q=>q) λ_ _ q=>q
  rintro rfl
  rcases hc with rfl | hc
  ·rw[Pl] at e;cases e
  ·rw[Pl] at hc;cases hc
 rcases hx with hk | hk
 ·refine wpAny_storeName_local hk hn (λh' hn' hs=>?_) hcls
  obtain⟨oL,_,_,hoL,_⟩:=id hn
  refine h _ ⟨I.ok,I.os,I.bare,⟨λb o e n hb hx=>?_,λb o e n hb hx=>?_,I.base.free,λb o e hx=>?_,I.base.tV,I.base.mR,I.base.sU⟩,⟨_,hn',λj y v' e1 e2 e3=>?_⟩,λy c e=>?_,I.free,I.lE,λp hp=>?_,tracked ⟨oL,hoL,I.free⟩ hs,by simpa using I.len⟩ ⟨_,hs,.inl rfl⟩
  ·exact(hs.2 b (Nat.ne_of_lt (Nat.lt_of_lt_of_le (Heap.lt_size e) I.ok.above))).trans (I.base.keep b o e n hb hx)
  ·obtain⟨sl,e1⟩:=I.base.slot b o e n hb hx
   exact⟨sl,(hs.2 b (Nat.ne_of_lt (Nat.lt_of_lt_of_le (Heap.lt_size e) I.ok.above))).trans e1⟩
  ·obtain⟨o',e1⟩:=I.base.there b o e hx
   exact⟨o',(hs.2 b (Nat.ne_of_lt (Nat.lt_of_lt_of_le (Heap.lt_size e) I.ok.above))).trans e1⟩
  ·by_cases hj:j=i
   ·subst hj
    rw[hi] at e1;cases e1
    rw[List.getElem?_set_self hiσ] at e2
    cases e2
    exact⟨u,r,.inl ⟨hk,by simp⟩⟩
   ·rw[List.getElem?_set_ne (Ne.symm hj)] at e2
    obtain⟨u',r',q⟩:=hl j y v' e1 e2 e3
    refine⟨u',r',?_⟩
    rcases q with ⟨k,e⟩ | ⟨k,c,e,z⟩
    ·refine .inl ⟨k,?_⟩
     have:y≠x:=λe=>hj (vc hN e1 (e▸hi))
     simp[this,e]
    ·exact .inr ⟨k,c,e,z.sameBut hs (Gs y c e)⟩
  ·obtain⟨w',z⟩:=I.cell y c e
   exact⟨w',z.sameBut hs (Gs y c e)⟩
  ·obtain⟨e,n,ne,nf,d⟩:=I.pin p hp
   exact⟨(hs.2 p.1 ne).trans e,n,ne,nf,d⟩
 ·have hfn:X.fn x=true:=by
   rcases hf with z | z
   ·exact z
   ·rw[z] at hk;cases hk
  obtain⟨c,hc⟩:=I.ok.has x (.inl hk)
  obtain⟨w',z⟩:=I.cell x c hc
  refine wpAny_storeName_cell I.ok.kind hk hc z (λh' Qd hs=>?_)
  obtain⟨oc,hoc,hocd⟩:=id z
  refine h { s with heap:=h' } ⟨I.ok,I.os,I.bare,⟨λb o e n hb hx=>?_,λb o e n hb hx=>?_,I.base.free,λb o e hx=>?_,I.base.tV,I.base.mR,I.base.sU⟩,⟨m,hn.sameBut hs (Ne.symm (Gs x c hc)),λj y v' e1 e2 e3=>?_⟩,λy c' e=>?_,I.free,I.lE,λp hp=>?_,tracked ⟨oc,hoc,I.lE x c hc⟩ hs,by simpa using I.len⟩ ⟨c,hs,.inr hc⟩
  ·exact(hs.2 b (Nat.ne_of_lt (Nat.lt_of_lt_of_le (Heap.lt_size e) (I.ok.JE x c hfn hc)))).trans (I.base.keep b o e n hb hx)
  ·obtain⟨sl,e1⟩:=I.base.slot b o e n hb hx
   exact⟨sl,(hs.2 b (Nat.ne_of_lt (Nat.lt_of_lt_of_le (Heap.lt_size e) (I.ok.JE x c hfn hc)))).trans e1⟩
  ·obtain⟨o',e1⟩:=I.base.there b o e hx
   exact⟨o',(hs.2 b (Nat.ne_of_lt (Nat.lt_of_lt_of_le (Heap.lt_size e) (I.ok.JE x c hfn hc)))).trans e1⟩
  ·by_cases hj:j=i
   ·subst hj
    rw[hi] at e1;cases e1
    rw[List.getElem?_set_self hiσ] at e2
    cases e2
    exact⟨u,r,.inr ⟨.inl hk,c,hc,Qd⟩⟩
   ·rw[List.getElem?_set_ne (Ne.symm hj)] at e2
    obtain⟨u',r',q⟩:=hl j y v' e1 e2 e3
    refine⟨u',r',?_⟩
    rcases q with q | ⟨k,c',e,z'⟩
    ·exact .inl q
    ·refine .inr ⟨k,c',e,z'.sameBut hs ?_⟩
     rintro rfl
     exact hj (vc hN e1 (I.ok.inj _ _ _ e hc▸hi))
  ·by_cases hcc:c'=c
   ·subst hcc;exact⟨_,Qd⟩
   ·obtain⟨w2,z2⟩:=I.cell y c' e
    exact⟨w2,z2.sameBut hs hcc⟩
  ·obtain⟨e,n,ne,nf,d⟩:=I.pin p hp
   refine⟨(hs.2 p.1 ?_).trans e,n,ne,nf,d⟩
   intro q
   rw[q,hoc] at e
   have q':oc=p.2:=Option.some.inj e
   exact d w' (by rw[← q'];exact hocd)
theorem mI{M:Model}{Q:Unit->Shared->Prop}(I:Inv X Ni σ H s)(hN:X.N.Nodup)(hi:X.N[i]?=some x)(hx:Loc X.env.scope x)(r:RelV v u)
  (h:∀ s',Inv X Ni (σ.set i (some v)) H s'->Q () s') (hf:autoParam (X.fn x=true\/X.env.scope.names.lookup x=some .local) aF._auto_1):wpAny M A (storeName X.env x u) Q E s :=
 sL I hN hi hx r (λs' I' _=>h s' I') hf
theorem Inv.Bt{s':Shared}(I:Inv X Ni σ H s)(ho:s'.os=s.os)(u:Un (wD X.stack) ch H H' s.heap s'.heap)(bT:nQ X.prog X.w H' s'.heap)(hg:AllBare s'.gens)
  (O5:∀ b∈ch,(b∈X.ex\/X.s₀.heap.objs.size<=b)/\b≠X.env.locals/\(∀ x c,X.env.cells.lookup x=some c->c≠b)/\∀ p∈X.pn++Ni,p.1≠b):Inv X Ni σ H' s':=by
 obtain⟨h',g',d',t',o'⟩:=s'
 have e:o'=s.os:=ho
 subst e
 exact I.call (g':=g') (t':=t') (d':=d') u bT hg O5
end
abbrev XK:=Value->Option Addr->Hp->Prop
abbrev St:=List (Option V)
abbrev VK:=V->Hp->Prop
abbrev TE:=St->Hp->VK->Prop
abbrev TT:=St->Hp->(Bool->Hp->Prop)->Prop
abbrev TA:=St->Hp->(List V->Hp->Prop)->Prop
structure Ends where
 nx:St->Hp->Prop
 rt:VK
 bk:St->Hp->Prop:=λ_ _=>False
 ct:St->Hp->Prop:=λ_ _=>False
abbrev TS:=Ends->St->Hp->Prop
def EP(X:Cx)(Ni:List (Addr×Obj))(σ:St)(Q:VK)(u:Value)(s':Shared):Prop:=∃ v H',Inv X Ni σ H' s'/\RelV v u/\Q v H'
def TP(X:Cx)(Ni:List (Addr×Obj))(σ:St)(Q:Bool->Hp->Prop)(b:Bool)(s':Shared):Prop:=∃ H',Inv X Ni σ H' s'/\Q b H'
def AP(X:Cx)(Ni:List (Addr×Obj))(σ:St)(Q:List V->Hp->Prop)(us:List Value)(s':Shared):Prop:=∃ vs H',Inv X Ni σ H' s'/\Vals vs us/\Q vs H'
def SP(X:Cx)(Ni:List (Addr×Obj))(D:Ends)(f:Flow)(s':Shared):Prop :=
 match f with
 | .next=>∃ σ' H',Inv X Ni σ' H' s'/\D.nx σ' H'
 | .brk=>∃ σ' H',Inv X Ni σ' H' s'/\D.bk σ' H'
 | .cont=>∃ σ' H',Inv X Ni σ' H' s'/\D.ct σ' H'
 | .ret u=>∃ v σ' H',Inv X Ni σ' H' s'/\RelV v u/\D.rt v H'
def PE(X:Cx)(e:Expr)(t:TE):Prop :=
 ∀ (Ni:List (Addr×Obj)) (s:Shared) (σ:St) (H:Hp) (Q:VK),Inv X Ni σ H s->t σ H Q->wpAny (model X.prog X.w) X.A (eval e X.env) (EP X Ni σ Q) X.xe s
def PT(X:Cx)(e:Expr)(t:TT):Prop :=
 ∀ (Ni:List (Addr×Obj)) (s:Shared) (σ:St) (H:Hp) (Q:Bool->Hp->Prop),Inv X Ni σ H s->t σ H Q->wpAny (model X.prog X.w) X.A (isTrue e X.env (eval e X.env)) (TP X Ni σ Q) X.xe s
def PW(X:Cx)(e:Expr)(t:TT):Prop :=
 ∀ (whole:Sem Value) (Ni:List (Addr×Obj)) (s:Shared) (σ:St) (H:Hp) (Q:Bool->Hp->Prop),Inv X Ni σ H s->t σ H Q->wpAny (model X.prog X.w) X.A (isTrue e X.env whole) (TP X Ni σ Q) X.xe s
variable{e:Expr}
theorem PW.pt{t:TT}(h:PW X e t):PT X e t:=h _
def PA(X:Cx)(es:List Expr)(t:TA):Prop :=
 ∀ (pos:Pos) (Ni:List (Addr×Obj)) (s:Shared) (σ:St) (H:Hp) (Q:List V->Hp->Prop),Inv X Ni σ H s->t σ H Q->wpAny (model X.prog X.w) X.A (spliced (backTo pos (starEach es X.env))) (AP X Ni σ Q) X.xe s
def PS(X:Cx)(st:Stmt)(t:TS):Prop :=
 ∀ (Ni:List (Addr×Obj)) (s:Shared) (σ:St) (H:Hp) (D:Ends),Inv X Ni σ H s->t D σ H->wpAny (model X.prog X.w) X.A (exec st X.env) (SP X Ni D) X.xe s
def lY(X:Cx)(st:List Stmt)(t:TS):Prop :=
 ∀ (Ni:List (Addr×Obj)) (s:Shared) (σ:St) (H:Hp) (D:Ends),Inv X Ni σ H s->t D σ H->wpAny (model X.prog X.w) X.A (execs st X.env) (SP X Ni D) X.xe s
theorem dh{α:Type}{t:Sem α}{Q Q':α->Shared->Prop}{M:Model}(h:wpAny M A t Q E s)(hQ:∀ a s,Q a s->Q' a s):wpAny M A t Q' E s:=wpAny_mono h hQ λ_ _ x=>x
variable{Q:Value->Shared->Prop}{σ:St}
variable{ta:TE}
variable{c:Expr}
section
def DP(i:Nat):TE:=fun σ H Q=>∃ v,σ[i]?=some (some v)/\Q v H
def tC(v:V):TE:=λ_ H Q=>Q v H
theorem jS{pos:Pos}(hN:X.N[i]?=some x)(hv:DA X.env.scope x)(hd:autoParam ((x==("__debug__" : Str))=false) aD._auto_1)(OB:autoParam ((x==("__classdict__" : Str))=false) aD._auto_1):PE X (.Name x pos) (DP i):=by
 intro Ni s σ H Q I h
 obtain⟨v,e,h⟩:=h
 obtain⟨m,hn,hl⟩:=I.loc
 obtain⟨u,r,l⟩:=hl i x v hN e hv
 have fin:EP X Ni σ Q u s:=⟨v,H,I,r,h⟩
 rcases l with ⟨hk,hm⟩ | ⟨hk,c,hc,Pk⟩
 ·exact wpAny_Name (wpAny_loadName_local I.ok.kind hk hn hm fin) hd
 ·rcases hk with hk | hk
  ·exact wpAny_Name (wpAny_loadName_cell I.ok.kind hk hc Pk fin) hd
  ·exact wpAny_Name (wpAny_loadName_free I.ok.kind hk hc Pk fin OB) hd
theorem Cq{i j pos}:PE X (.Constant (.int i) j pos) (tC (.int i)):=λ_ _ _ H _ I h=>wpAny_Constant_int ⟨.int i,H,I.tok _,⟨_,rfl⟩,h⟩
theorem Kl{b j pos}:PE X (.Constant (.bool b) j pos) (tC (.bl b)):=λ_ _ _ H _ I h=>Constant_bool ⟨.bl b,H,I,rfl,h⟩
theorem HW{j pos}:PE X (.Constant .none j pos) (tC .cy):=λ_ _ _ H _ I h=>Constant_none ⟨.cy,H,I,rfl,h⟩
theorem Hi{x j pos}:PE X (.Constant (.str x) j pos) (tC (.str x)):=λ_ _ _ H _ I h=>Calls.Constant_str ⟨.str x,H,I.tok _,⟨_,rfl⟩,h⟩
def Gl(X:Cx)(x:Str):Prop:=X.env.kindOf x=some .globalImplicit
theorem l9{pos:Pos}(I:Inv X Ni σ H s)(hg:Gl X x)(hm:X.mg x=some u)(h:Q u s)
  (hd:autoParam ((x==("__debug__" : Str))=false) aD._auto_1):wpAny (model X.prog X.w) X.A (eval (.Name x pos) X.env) Q E s :=
 Calls.Name_function_global I.ok.kind hg (Calls.loadGlobal_global (by rw[I.ok.glob];exact I.mod.glob.keeps I.bk) hm h) hd
theorem jY{pos:Pos}(I:Inv X Ni σ H s)(hg:Gl X x)(hm:X.mg x=none)(hv:bootBuiltins x=some u)(h:Q u s)
  (hn:autoParam (x ≠ "__name__") aD._auto_1) (hd:autoParam ((x==("__debug__" : Str))=false) aD._auto_1):wpAny (model X.prog X.w) X.A (eval (.Name x pos) X.env) Q E s:=by
 obtain⟨mb,h1,h2⟩:=I.mod.blt
 exact Calls.Name_function_global I.ok.kind hg (Calls.loadGlobal_builtin (by rw[I.ok.glob];exact I.mod.glob.keeps I.bk) hm (by rw[I.ok.blt];exact h1.keeps I.bk) ((h2 x hn).trans hv) h) hd
theorem Fm{pos:Pos}(hg:Gl X x)(hm:X.mg x=some u)(r:RelV v u)(hd:autoParam ((x==("__debug__" : Str))=false) aD._auto_1):PE X (.Name x pos) (tC v) :=
 λ_ _ _ H _ I h=>l9 I hg hm ⟨v,H,I,r,h⟩ hd
theorem mF{pos:Pos}(hg:Gl X x)(hm:X.mg x=none)(hv:bootBuiltins x=some u)(r:RelV v u)(hn:autoParam (x ≠ "__name__") aD._auto_1)(hd:autoParam ((x==("__debug__" : Str))=false) aD._auto_1):PE X (.Name x pos) (tC v) :=
 λ_ _ _ H _ I h=>jY I hg hm hv ⟨v,H,I,r,h⟩ hn hd
variable{a b:Expr}{tb:TE}{pos:Pos}
def tB(t:TE):TT:=fun σ H Q=>t σ H λx H1=>∃ c,x=.bl c/\Q c H1
theorem Hk{t:TE}(h:PE X e t)(he:autoParam (∀ whole,isTrue e X.env whole=(do let v ← whole;standAt e.pos;holding [v] (truthy v))) aI._auto_1):PT X e (tB t):=by
 intro Ni s σ H Q I hw
 refine isTrue_plain (dh (h Ni s σ H _ I hw) λv s1 ⟨x,H1,I1,r1,q1⟩=>?_) (he _)
 obtain⟨d,rfl,q⟩:=q1
 cases r1
 exact wpAny_truthy_bool ⟨H1,I1,q⟩
variable{tA tB':TT}{rest:List Expr}
def MT(t u:TT):TT:=fun σ H Q=>t σ H λc H1=>if c=true then Q true H1 else u σ H1 Q
def LG(t:TT):TT:=fun σ H Q=>t σ H λc H1=>Q (!c) H1
theorem pw_or1(ha:PT X a tA):PW X (.BoolOp .Or [a] pos) tA:=by
 intro wh Ni s σ H Q I h
 refine isTrue_or (dh (ha Ni s σ H Q I h) λc s1 e=>?_)
 cases c with
 | false=>exact isTrue_or_nil e
 | true=>exact e
theorem pw_or(ha:PT X a tA)(hb:PW X (.BoolOp .Or (b::rest) pos) tB'):PW X (.BoolOp .Or (a::b::rest) pos) (MT tA tB'):=by
 intro wh Ni s σ H Q I h
 refine isTrue_or (dh (ha Ni s σ H _ I h) λc s1 ⟨H1,I1,q1⟩=>?_)
 cases c with
 | true=>exact⟨H1,I1,q1⟩
 | false=>exact hb wh Ni s1 σ H1 Q I1 q1
theorem I0(ha:PT X a tA):PT X (.UnaryOp .Not a pos) (LG tA):=by
 intro Ni s σ H Q I h
 exact isTrue_not (ha Ni s σ H (λc H1=>Q (!c) H1) I h)
def Kn(ta tb:TE):TE:=fun σ H Q=>ta σ H λx H1=>∃ c,x=.bl c/\if c=true then tb σ H1 Q else Q (.bl false) H1
def Kw(ta:TE):TE:=fun σ H Q=>ta σ H λx H1=>∃ c,x=.bl c/\Q (.bl (!c)) H1
theorem By{op}{t:TE}(h:PE X a t):PE X (.BoolOp op [a] pos) t:=λNi s σ H Q I hw=>BoolOp_one (h Ni s σ H Q I hw)
theorem Hg(ha:PE X a ta)(hb:PE X (.BoolOp .And (b::rest) pos) tb):PE X (.BoolOp .And (a::b::rest) pos) (Kn ta tb):=by
 intro Ni s σ H Q I h
 refine BoolOp_and (dh (ha Ni s σ H _ I h) λv s1 ⟨x,H1,I1,r1,q1⟩=>?_)
 obtain⟨c,rfl,q1⟩:=q1
 cases r1
 refine wpAny_truthy_bool ?_
 cases c with
 | true=>exact hb Ni s1 σ H1 Q I1 q1
 | false=>exact⟨.bl false,H1,I1,rfl,q1⟩
theorem IU(ha:PE X a ta):PE X (.UnaryOp .Not a pos) (Kw ta):=by
 intro Ni s σ H Q I h
 refine UnaryOp_ (dh (ha Ni s σ H _ I h) λv s1 ⟨x,H1,I1,r1,q1⟩=>?_)
 obtain⟨c,rfl,q1⟩:=q1
 cases r1
 exact not_of (wpAny_truthy_bool ⟨.bl (!c),H1,I1,rfl,q1⟩)
def MU(t:TT)(ta tb:TE):TE:=fun σ H Q=>t σ H λc H1=>if c=true then ta σ H1 Q else tb σ H1 Q
theorem B6(hc:PT X c tA)(ha:PE X a ta)(hb:PE X b tb):PE X (.IfExp c a b pos) (MU tA ta tb):=by
 intro Ni s σ H Q I h
 refine wpAny_IfExp (dh (hc Ni s σ H _ I h) λd s1 ⟨H1,I1,q1⟩=>?_)
 cases d with
 | true=>exact ha Ni s1 σ H1 Q I1 q1
 | false=>exact hb Ni s1 σ H1 Q I1 q1
end
def hV(K:PySem.W.Frag)(H:Hp)(a:Addr)(xs:List V):Prop :=
 Rd H a (.lst xs) ∨
  ∃ (o:Obj) (Nl:Array Value) (n:Nat),K.lookup a=some o/\o.cls=.type "list" /\ o.dict=none/\o.data=.seq Nl n/\Nl.size<=sizeLine/\Vals xs Nl.toList
def iy(K:PySem.W.Frag)(H:Hp)(a:Addr)(xs:List V):Prop :=
 Rd H a (.tup xs) ∨
  ∃ (o:Obj) (Nl:Array Value) (n:Nat),K.lookup a=some o/\o.cls=.type "tuple" /\ o.data=.seq Nl n/\Nl.size<=sizeLine/\Vals xs Nl.toList
def K_:Value->Option V
 | .none=>some .cy
 | .bool b=>some (.bl b)
 | .int i _=>some (.int i)
 | .str x _=>some (.str x)
 | .bytes b _=>some (.byt b)
 | .float b _=>some (.FI b)
 | .ref a=>some (.ref a)
 | .type n=>some (.ty n)
 | _=>none
theorem RelV.abs{x:V}(r:RelV x u):K_ u=some x:=by
 cases x with
 | cy=>cases r;rfl
 | bl _=>cases r;rfl
 | int _=>obtain⟨t,rfl⟩:=r;rfl
 | str _=>obtain⟨t,rfl⟩:=r;rfl
 | byt _=>obtain⟨t,rfl⟩:=r;rfl
 | FI _=>obtain⟨t,rfl⟩:=r;rfl
 | ref _=>cases r;rfl
 | ty _=>cases r;rfl
theorem RelV.inj{x y:V}{u:Value}(r:RelV x u)(q:RelV y u):x=y:=Option.some.inj (r.abs.symm.trans q.abs)
theorem Vals.inj:∀ {xs ys:List V} {us:List Value},Vals xs us->Vals ys us->xs=ys
 | _,_,_,.nil,.nil=>rfl
 | _,_,_,.cons r t,.cons r' t'=>by rw[r.inj r',Vals.inj t t']
section
variable{xs ys:List V}
theorem hV.of{K:PySem.W.Frag}(h:H a=some (.lst xs)):hV K H a xs:=.inl (.inl h)
theorem iy.of{K:PySem.W.Frag}(h:H a=some (.tup xs)):iy K H a xs:=.inl (.inl h)
theorem Inv.list(I:Inv X Ni σ H s)(h:hV X.K H a xs):∃ Nl:List Value,Vals xs Nl/\PlainL s.heap a Nl.toArray/\xs.length<=sizeLine:=by
 rcases h with h | ⟨o,Nl,n,hk,hc,hd,hs,hz,r⟩
 ·obtain⟨z,Nl,n,r,e⟩:=h.ok I.bT
  exact⟨Nl,r,⟨_,n,e,rfl,rfl,rfl⟩,z⟩
 ·refine⟨Nl.toList,r,⟨o,n,I.kD a o hk,hc,hd,by simpa using hs⟩,?_⟩
  have e:=r.length
  simp only[Array.length_toList] at e
  omega
theorem Inv.tuple(I:Inv X Ni σ H s)(h:iy X.K H a xs):∃ Nl:List Value,Vals xs Nl/\IsTup s.heap a Nl.toArray/\xs.length<=sizeLine:=by
 rcases h with h | ⟨o,Nl,n,hk,hc,hs,hz,r⟩
 ·obtain⟨z,Nl,r,p⟩:=h.ok I.bT
  exact⟨Nl,r,p,z⟩
 ·refine⟨Nl.toList,r,⟨o,I.kD a o hk,hc,n,by simpa using hs⟩,?_⟩
  have e:=r.length
  simp only[Array.length_toList] at e
  omega
theorem Inv.pA(I:Inv X Ni σ H s)(h:hV X.K H a xs)(h':hV X.K H a ys):xs=ys:=by
 obtain⟨Nl,r,⟨o,n,e,_,_,d⟩,_⟩:=I.list h
 obtain⟨its',r',⟨o',n',e',_,_,d'⟩,_⟩:=I.list h'
 rw[e] at e';cases e'
 rw[d] at d'
 injection d' with d1 _
 have:Nl=its':=by simpa using congrArg Array.toList d1
 subst this
 exact r.inj r'
theorem Inv.nv(I:Inv X Ni σ H s)(h:iy X.K H a xs)(h':iy X.K H a ys):xs=ys:=by
 obtain⟨Nl,r,⟨o,e,_,n,d⟩,_⟩:=I.tuple h
 obtain⟨its',r',⟨o',e',_,n',d'⟩,_⟩:=I.tuple h'
 rw[e] at e';cases e'
 rw[d] at d'
 injection d' with d1 _
 have:Nl=its':=by simpa using congrArg Array.toList d1
 subst this
 exact r.inj r'
end
abbrev Cx.qS(X:Cx)(E:Value->Shared->Prop):Cx:={ X with xe:=E }
theorem Cx.Ok.qS{X:Cx}(ok:X.Ok)(E:Value->Shared->Prop):(X.qS E).Ok :=
 ⟨ok.mod,ok.kind,ok.glob,ok.blt,ok.above,ok.inj,ok.has,ok.JE,ok.hd,ok.frames,ok.KZ,ok.Me,ok.bs,ok.FU,ok.zP,ok.Cy,ok.oF,ok.HJ⟩
theorem Cx.Ok.i9(ok:(X.qS E).Ok):X.Ok :=
 ⟨ok.mod,ok.kind,ok.glob,ok.blt,ok.above,ok.inj,ok.has,ok.JE,ok.hd,ok.frames,ok.KZ,ok.Me,ok.bs,ok.FU,ok.zP,ok.Cy,ok.oF,ok.HJ⟩
theorem Inv.qS(I:Inv X Ni σ H s)(E:Value->Shared->Prop):Inv (X.qS E) Ni σ H s:=⟨I.ok.qS E,I.os,I.bare,I.base,I.loc,I.cell,I.free,I.lE,I.pin,I.bT,I.len⟩
theorem Inv.i9(I:Inv (X.qS E) Ni σ H s):Inv X Ni σ H s:=⟨I.ok.i9,I.os,I.bare,I.base,I.loc,I.cell,I.free,I.lE,I.pin,I.bT,I.len⟩
theorem SP.i9{D:Ends}{f:Flow}{s':Shared}(h:SP (X.qS E) Ni D f s'):SP X Ni D f s':=by
 cases f with
 | next=>obtain⟨σ',H',I,q⟩:=h;exact⟨σ',H',I.i9,q⟩
 | brk=>obtain⟨σ',H',I,q⟩:=h;exact⟨σ',H',I.i9,q⟩
 | cont=>obtain⟨σ',H',I,q⟩:=h;exact⟨σ',H',I.i9,q⟩
 | ret u=>obtain⟨v,σ',H',I,r,q⟩:=h;exact⟨v,σ',H',I.i9,r,q⟩
variable{te:TE}
variable{tc:TT}
section
variable{st:Stmt}{rest:List Stmt}{t u:TS}{pos:Pos}
def yS:TS:=λD σ H=>D.nx σ H
def E9(t u:TS):TS:=λD σ H=>t { D with nx:=u D } σ H
theorem oV:lY X [] yS:=λ_ _ σ H _ I h=>wpAny_execs_nil ⟨σ,H,I,h⟩
theorem jn(h1:PS X st t)(h2:lY X rest u):lY X (st::rest) (E9 t u):=by
 intro Ni s σ H D I h
 refine wpAny_execs_cons (dh (h1 Ni s σ H { D with nx:=u D } I h) λf s1 q=>?_)
 cases f with
 | next =>
  obtain⟨σ',H',I',q⟩:=q
  exact h2 Ni s1 σ' H' D I' q
 | ret v=>exact q
 | brk=>exact q
 | cont=>exact q
theorem DI(h1:PS X st t):lY X [st] t:=by
 intro Ni s σ H D I h
 refine wpAny_execs_cons (dh (h1 Ni s σ H D I h) λf s1 q=>?_)
 cases f with
 | next=>exact wpAny_execs_nil q
 | ret v=>exact q
 | brk=>exact q
 | cont=>exact q
theorem Inv.quiet(I:Inv X Ni σ H s):interactive X.env=false:=by simp[interactive,I.ok.kind]
def FR(te:TE):TS:=λD σ H=>te σ H λ_ H1=>D.nx σ H1
theorem tX(he:PE X e te)(hs:autoParam (swapsWith e none pos.line X.env=pure false) aR._auto_1):PS X (.Expr e pos) (FR te):=by
 intro Ni s σ H D I h
 exact wpAny_Expr_any (dh (he Ni s σ H _ I h) λv s1 ⟨x,H1,I1,r1,q1⟩=>⟨σ,H1,I1,q1⟩) I.quiet hs
def Md(te:TE):TS:=λD σ H=>te σ H D.rt
theorem HX(he:PE X e te):PS X (.Return (some e) pos) (Md te):=by
 intro Ni s σ H D I h
 exact wpAny_Return_some (dh (he Ni s σ H _ I h) λv s1 ⟨x,H1,I1,r1,q1⟩=>⟨x,σ,H1,I1,r1,q1⟩)
def J1(c:TT)(t u:TS):TS:=λD σ H=>c σ H λb H1=>if b=true then t D σ H1 else u D σ H1
theorem F5{a b:List Stmt}(hc:PT X c tc)(ha:lY X a t)(hb:lY X b u):PS X (.If c a b pos) (J1 tc t u):=by
 intro Ni s σ H D I h
 refine wpAny_If (dh (hc Ni s σ H _ I h) λd s1 ⟨H1,I1,q1⟩=>?_)
 cases d with
 | true=>exact ha Ni s1 σ H1 D I1 q1
 | false=>exact hb Ni s1 σ H1 D I1 q1
end
abbrev TG:=V->St->Hp->(St->Hp->Prop)->Prop
abbrev IE:=List V->St->Hp->(St->Hp->Prop)->Prop
def PG(X:Cx)(target:Expr)(t:TG):Prop :=
 ∀ (Ni:List (Addr×Obj)) (s:Shared) (σ:St) (H:Hp) (v:V) (u:Value) (Q:St->Hp->Prop),Inv X Ni σ H s->RelV v u->t v σ H Q ->
  wpAny (model X.prog X.w) X.A (assign target X.env u) (λ_ s'=>∃ σ' H',Inv X Ni σ' H' s'/\Q σ' H') X.xe s
def K8(X:Cx)(ts:List Expr)(t:IE):Prop :=
 ∀ (Ni:List (Addr×Obj)) (s:Shared) (σ:St) (H:Hp) (vs:List V) (us:List Value) (Q:St->Hp->Prop),Inv X Ni σ H s->Vals vs us->t vs σ H Q ->
  wpAny (model X.prog X.w) X.A (assignInOrder ((assignEach ts X.env).map (·.2)) us) (λ_ s'=>∃ σ' H',Inv X Ni σ' H' s'/\Q σ' H') X.xe s
abbrev GY:=V->V->V->Hp->(Hp->Prop)->Prop
def JM(X:Cx)(t:GY):Prop :=
 ∀ (Ni:List (Addr×Obj)) (s:Shared) (σ:St) (H:Hp) (o i v:V) (ov iv u:Value) (Q:Hp->Prop),Inv X Ni σ H s->RelV o ov->RelV i iv->RelV v u->t o i v H Q ->
  wpAny (model X.prog X.w) X.A (setItem ov iv u) (λ_ s'=>∃ H',Inv X Ni σ H' s'/\Q H') X.xe s
variable{es:List Expr}
variable{n k:Nat}
variable{tg:Expr}
section
variable{pos:Pos}
def aH(i:Nat):TG:=λv σ H Q=>Q (σ.set i (some v)) H
theorem Fz(hN:X.N.Nodup)(hi:X.N[i]?=some x)(hx:Loc X.env.scope x)(hf:autoParam (X.fn x=true\/X.env.scope.names.lookup x=some .local) aF._auto_1):PG X (.Name x pos) (aH i):=by
 intro Ni s σ H v u Q I r h
 exact wpAny_assign_Name (mI I hN hi hx r (λs' I'=>⟨_,H,I',h⟩) hf)
def gk:IE:=λvs σ H Q=>vs=[]/\Q σ H
def bj(t:TG)(u:IE):IE:=λvs σ H Q=>∃ v r,vs=v::r/\t v σ H fun σ' H'=>u r σ' H' Q
theorem bN:K8 X [] gk:=by
 intro Ni s σ H vs us Q I r h
 obtain⟨e,h⟩:=h
 subst e
 cases r
 exact assignInOrder_nil ⟨σ,H,I,h⟩
theorem aE{t:TG}{u:IE}(h1:PG X e t)(h2:K8 X es u)
  (hs:autoParam ((assignEach (e::es) X.env).map (·.2)=assign e X.env::(assignEach es X.env).map (·.2)) aR._auto_1):K8 X (e::es) (bj t u):=by
 intro Ni s σ H vs us Q I r h
 obtain⟨v,vr,e1,h⟩:=h
 subst e1
 cases r with
 | cons r rr =>
  rw[hs]
  refine assignInOrder_cons (dh (h1 Ni s σ H _ _ _ I r h) λ_ s1 ⟨σ1,H1,I1,q1⟩=>?_)
  exact h2 Ni s1 σ1 H1 _ _ Q I1 rr q1
def gi(K:PySem.W.Frag)(n:Nat)(t:IE):TG:=λv σ H Q=>∃ a xs,v=.ref a/\iy K H a xs/\xs.length=n/\t xs σ H Q
theorem cD{t:IE}(hc:X.calm=true)(h:K8 X es t)
  (hn:autoParam ((assignEach es X.env).length=n) aR._auto_1) (NL:autoParam ((assignEach es X.env).findIdx? (·.1)=none) aR._auto_1):PG X (.Tuple es k pos) (gi X.K n t):=by
 intro Ni s σ H v u Q I r hw
 obtain⟨a,xs,e1,hq,hl,hw⟩:=hw
 subst e1
 cases r
 obtain⟨Nl,rv,ht,hz⟩:=I.tuple hq
 refine assign_Tuple_tuple (I.ok.hd hc) ht (by simp[hn,← hl,rv.length]) NL λh' hx=>?_
 have I1:Inv X Ni σ H { s with heap:=h' }:=I.kept (t':=s.toks) λb o e=>hx b o (Nat.ne_of_lt (Heap.lt_size e)) e
 exact h Ni _ σ H xs _ Q I1 (by simpa using rv) hw
def MB(to ti:TE)(t:GY):TG:=λv σ H Q=>to σ H λo H1=>ti σ H1 λi H2=>t o i v H2 λH3=>Q σ H3
theorem HU{o i:Expr}{to ti:TE}{t:GY}(ho:PE X o to)(hi:PE X i ti)(hs:JM X t)
  (ha:autoParam (∀ v,assign (.Subscript o i pos) X.env v=(do
   let ov ← holding [v] (eval o X.env)
   let iv ← holding [v,ov] (eval i X.env)
   standAt pos
   holding [v,ov,iv] (setItem ov iv v)
   release [v,ov,iv] [])) aI._auto_1):PG X (.Subscript o i pos) (MB to ti t):=by
 intro Ni s σ H v u Q I r h
 rw[ha]
 refine wpAny_bind (wpAny_holding (dh (ho Ni s σ H _ I h) λov s1 ⟨x,H1,I1,r1,q1⟩=>?_))
 refine wpAny_bind (wpAny_holding (dh (hi Ni s1 σ H1 _ I1 q1) λiv s2 ⟨y,H2,I2,r2,q2⟩=>?_))
 refine wpAny_bind (wpAny_standAt (wpAny_bind (wpAny_holding (dh (hs Ni s2 σ H2 x y v ov iv u _ I2 r1 r2 r q2) λ_ s3 ⟨H3,I3,q3⟩=>?_))))
 exact wpAny_release ⟨σ,H3,I3,q3⟩
def Bp(te:TE)(g:TG):TS:=λD σ H=>te σ H λx H1=>g x σ H1 D.nx
theorem HF{g:TG}(he:PE X e te)(hg:PG X tg g)(hs:autoParam (swapsWithSole [tg] e pos.line X.env=pure false) aR._auto_1)(hw:autoParam (swappedStores [tg] e X.env=pure none) aR._auto_1)
  (h1:autoParam ((assignEach [tg] X.env).map (·.2)=[assign tg X.env]) aR._auto_1):PS X (.Assign [tg] e pos) (Bp te g):=by
 intro Ni s σ H D I h
 refine wpAny_Assign_stores (dh (he Ni s σ H _ I h) λv s1 ⟨x,H1,I1,r1,q1⟩=>?_) hs hw
 rw[h1]
 exact dh (hg Ni s1 σ H1 x v _ I1 r1 q1) λ_ s2 q=>q
theorem t6{pos':Pos}(hN:X.N.Nodup)(hi:X.N[i]?=some x)(hx:Loc X.env.scope x)(he:PE X e te)(hs:autoParam (swapsWith e (some (.Name x pos')) pos.line X.env=pure false) aR._auto_1)(hf:autoParam (X.fn x=true\/X.env.scope.names.lookup x=some .local) aF._auto_1) :
  PS X (.Assign [.Name x pos'] e pos) (Bp te (aH i)):=by
 intro Ni s σ H D I h
 refine wpAny_Assign_Name (dh (he Ni s σ H _ I h) λv s1 ⟨y,H1,I1,r1,q1⟩=>?_) hs
 exact mI I1 hN hi hx r1 (λs2 I2=>⟨_,H1,I2,q1⟩) hf
def Ll(i j:Nat)(ta:TA):TS:=λD σ H=>ta σ H λvs H1=>∃ v w,vs=[v,w]/\D.nx ((σ.set i (some v)).set j (some w)) H1
theorem Hd{j:Nat}{y:Str}{a b:Expr}{ta:TA}{px py pt:Pos}{kt k2 QH}(hc:X.calm=true)(hN:X.N.Nodup)(hi:X.N[i]?=some x)(hj:X.N[j]?=some y)(hij:i≠j)
  (hx:X.env.scope.names.lookup x=some .local) (hy:X.env.scope.names.lookup y=some .local) (ha:PA X [a,b] ta)
  (hw:swappedStores [.Tuple [.Name x px,.Name y py] kt pt] (.Tuple [a,b] k2 QH) X.env=pure (some [x,y]))
  (hs:autoParam (swapsWithSole [.Tuple [.Name x px,.Name y py] kt pt] (.Tuple [a,b] k2 QH) pos.line X.env=pure false) aR._auto_1) :
  PS X (.Assign [.Tuple [.Name x px,.Name y py] kt pt] (.Tuple [a,b] k2 QH) pos) (Ll i j ta):=by
 intro Ni s σ H D I h
 rw[exec_Assign_arm]
 refine wpAny_bind (wpAny_standAt ?_)
 rw[hs]
 refine wpAny_bind (wpAny_pure ?_)
 rw[if_neg (by decide)]
 refine wpAny_bind (Tuple_ (dh (ha _ Ni s σ H _ I h) λus s1 ⟨vs,H1,I1,r1,q1⟩=>?_))
 obtain⟨v,w,e1,q1⟩:=q1
 subst e1
 obtain⟨u1,u2,rfl,rv,OX⟩:∃ u1 u2,us=[u1,u2]/\RelV v u1/\RelV w u2:=by
  cases r1 with
  | cons p q =>
   cases q with
   | cons p' q' =>
    cases q'
    exact⟨_,_,rfl,p,p'⟩
 refine wpAny_newObj_type ?_ (by show 2<=sizeLine;decide)
 have I2:Inv X Ni σ H1 { s1 with heap:=s1.heap.push { cls:=.type "tuple", data:=.seq [u1,u2].toArray } }:=I1.kept (t':=s1.toks) λb o e=>Heap.get?_push_of_some _ e
 rw[hw]
 refine wpAny_bind (wpAny_pure ?_)
 show wpAny (model X.prog X.w) X.A (do rule "assign.swapped-stores";let items ← unpackItems (.ref s1.heap.objs.size) 2 none;assignInOrder [λv=>bindName X.env y v,λv=>bindName X.env x v] items.reverse;pure Flow.next) _ _ _
 refine wpAny_bind (wpAny_rule (wpAny_bind (unpackItems_tuple (items:=#[u1,u2]) (I.ok.hd hc) (IsTup.new s1.heap _) λh' Rk=>?_)))
 have I3:=I2.kept (h':=h') (t':=s1.toks) λb o e=>Rk b o (Nat.ne_of_lt (Heap.lt_size e)) e
 show wpAny _ _ (assignInOrder [λv=>bindName X.env y v,λv=>bindName X.env x v] [u2,u1] >>= λ_=>pure Flow.next) _ _ _
 refine wpAny_bind (assignInOrder_cons (wpAny_bindName (mI I3 hN hj (.inl hy) OX (λs2 I4=>?_) (.inr hy))))
 refine assignInOrder_cons (wpAny_bindName (mI I4 hN hi (.inl hx) rv (λs3 I5=>assignInOrder_nil (wpAny_pure ?_)) (.inr hx)))
 rw[List.set_comm _ _ (Ne.symm hij)] at I5
 exact⟨_,H1,I5,q1⟩
end
variable{tb:TS}{body:List Stmt}
section
variable{pos:Pos}
def IH(c:TT)(tb:TS):TS:=λD σ H=>∃ W:Nat->St->Hp->Prop,(∃ m,W m σ H)/\∀ m σ H,W m σ H ->
 c σ H λb H1=>if b=true then ∃ N:St->Hp->Prop,(∀ σ' H',N σ' H'->∃ m',m'<m/\W m' σ' H')/\tb { D with nx:=N,ct:=N,bk:=D.nx } σ H1 else D.nx σ H1
theorem AB(hp:PassesOwn (model X.prog X.w) X.A X.env X.xe)(hc:PT X c tc)(hb:lY X body tb):PS X (.While c body [] pos) (IH tc tb):=by
 intro Ni s σ H D I h
 obtain⟨W,⟨m0,w0⟩,turn⟩:=h
 refine wpAny_While (codeAny_whileLoop (λn s'=>∃ σ' H',Inv X Ni σ' H' s'/\W n σ' H') ?_ m0 ⟨σ,H,I,w0⟩)
 rintro n s1 ⟨σ1,H1,I1,w1⟩
 refine wpAny_passesOwn hp (dh (hc Ni s1 σ1 H1 _ I1 (turn n σ1 H1 w1)) λb s2 ⟨H2,I2,q2⟩=>?_)
 cases b with
 | true =>
  obtain⟨N,hN,q2⟩:=q2
  rw[if_pos rfl]
  refine wpAny_passesOwn hp (dh (hb Ni s2 σ1 H2 _ I2 q2) λf s3 q3=>?_)
  cases f with
  | next =>
   obtain⟨σ3,H3,I3,n3⟩:=q3
   obtain⟨m',hm,w3⟩:=hN σ3 H3 n3
   exact⟨m',hm,σ3,H3,I3,w3⟩
  | cont =>
   obtain⟨σ3,H3,I3,n3⟩:=q3
   obtain⟨m',hm,w3⟩:=hN σ3 H3 n3
   exact⟨m',hm,σ3,H3,I3,w3⟩
  | brk=>exact q3
  | ret v=>exact q3
 | false =>
  rw[if_neg Bool.false_ne_true]
  exact wpAny_execs_nil ⟨σ1,H2,I2,q2⟩
end
structure It where
 go:Nat->Hp->Prop
 uK:Nat->Hp->V->Hp->Prop
 stop:Nat->Hp->Prop
def mz(X:Cx)(Ni:List (Addr×Obj))(H:Hp)(b:Addr):Prop :=
 H b=none/\b≠X.env.locals/\b ∉ X.fs/\(b∈X.ex\/X.s₀.heap.objs.size<=b)/\(∀ x c,X.env.cells.lookup x=some c->c≠b)/\∀ p∈X.pn++Ni,p.1≠b
theorem Inv.sZ(I:Inv X Ni σ H s)(hb:s.heap.objs.size<=b)(hn:H' b=none):mz X Ni H' b:=by
 refine⟨hn,Nat.ne_of_gt (Nat.lt_of_lt_of_le I.lt hb),I.L6 hb,.inr (Nat.le_trans I.sz hb),λx c e z=>?_,λp hp z=>?_⟩
 ·obtain⟨v,q⟩:=I.cell x c e
  exact absurd (Nat.lt_of_lt_of_le q.lt (by rw[z];exact hb)) (Nat.lt_irrefl _)
 ·exact absurd (Nat.lt_of_lt_of_le (Heap.lt_size (I.pin p hp).1) (by rw[z];exact hb)) (Nat.lt_irrefl _)
structure Turn (P:Program) (w:World) (K:PySem.W.Frag) (tg:Expr) (J:It) (fp:List Addr) (it:Addr) (tn:Nat->Heap->Prop):Prop where
 mem:it∈fp
 obj:∀ i h,tn i h->∀ b∈fp,∃ o,h.get? b=some o/\∀ v,o.data≠.cell v
 keep:∀ i h h',tn i h->(∀ b∈fp,∀ o,h.get? b=some o->h'.get? b=some o)->tn i h'
 item:∀ (X:Cx),X.prog=P->X.w=w->X.K=K->X.calm=true->∀ (i:Nat) (Ni:List (Addr×Obj)) (s:Shared) (σ:St) (H:Hp) (E:Value->Shared->Prop),Inv X Ni σ H s->(∀ b∈fp,mz X Ni H b)->tn i s.heap->J.go i H ->
  wpAny (model P w) X.A (pyNext (.ref it)) (λr s1=>∃ u,r=some u ∧
   wpAny (model P w) X.A (letOwnedTupleGo tg (.ref it) u) (λ_ s2=>∃ x H',Inv X Ni σ H' s2/\RelV x u/\J.uK i H x H'/\tn (i+1) s2.heap/\∀ b∈fp,H' b=none) E s1) E s
 done:∀ (X:Cx),X.prog=P->X.w=w->X.K=K->X.calm=true->∀ (i:Nat) (Ni:List (Addr×Obj)) (s:Shared) (σ:St) (H:Hp) (E:Value->Shared->Prop),Inv X Ni σ H s->(∀ b∈fp,mz X Ni H b)->tn i s.heap->J.stop i H ->
  wpAny (model P w) X.A (pyNext (.ref it)) (λr s1=>r=none/\Inv X Ni σ H s1) E s
 self:∀ (A:Around) (i:Nat) (s:Shared) (Q:Value->Shared->Prop) (E:Value->Shared->Prop),tn i s.heap->Q (.ref it) s->wpAny (model P w) A (pyIter (.ref it)) Q E s
abbrev TI:=St->Hp->(It->Hp->Prop)->Prop
def Mh(X:Cx)(Ni:List (Addr×Obj))(σ:St)(tg:Expr)(R:It->Hp->Prop)(itv:Value)(s2:Shared):Prop :=
 ∃ (it:Addr) (fp:List Addr) (tn:Nat->Heap->Prop) (J:It) (H':Hp),itv=.ref it/\Inv X Ni σ H' s2/\Turn X.prog X.w X.K tg J fp it tn/\tn 0 s2.heap/\(∀ b∈fp,mz X Ni H' b)/\R J H'
def PI(X:Cx)(tg iter:Expr)(wi:TI):Prop :=
 ∀ (Ni:List (Addr×Obj)) (s:Shared) (σ:St) (H:Hp) (R:It->Hp->Prop),Inv X Ni σ H s->wi σ H R ->
  wpAny (model X.prog X.w) X.A (eval iter X.env) (λv s1=>wpAny (model X.prog X.w) X.A (pyIter v) (Mh X Ni σ tg R) X.xe s1) X.xe s
theorem yk {M : Model} {n : String} {vs : Array Value} {Q : Unit -> Shared -> Prop} (ho : s.heap.get? it = some o) (hc : o.cls = .type n) (hd : o.data = .fields vs)
    (hn : ["enumerate", "zip", "dict_itemiterator", "dict_reverseitemiterator", "odict_iterator", "itertools.zip_longest", "itertools.pairwise"].contains n = false) (hQ : Q () s) : wpAny M A (letOwnedTupleGo tg (.ref it) u) Q E s := by
  unfold letOwnedTupleGo
  cases tg <;> first
    | exact wpAny_pure hQ
    | (cases u <;> first
        | exact wpAny_pure hQ
        | (refine wpAny_bind (wpAny_load ho ?_)
           rw [hc, hd]
           show wpAny M A (if (["enumerate", "zip", "dict_itemiterator", "dict_reverseitemiterator", "odict_iterator", "itertools.zip_longest", "itertools.pairwise"].contains n && vs[0]? == some (rawInt _)) = true then _ else _) Q E s
           rw [if_neg (by intro h; rw [hn, Bool.false_and] at h; cases h)]
           exact wpAny_pure hQ))
def MJ(K:PySem.W.Frag)(a:Addr):It :=
 ⟨λi H=>∃ xs x,hV K H a xs/\xs[i]?=some x,λi H x H'=>H'=H/\∀ xs,hV K H a xs->xs[i]?=some x,λi H=>∃ xs,hV K H a xs/\xs.length<=i⟩
def MF(K:PySem.W.Frag)(a:Addr):It :=
 ⟨λi H=>∃ xs x,iy K H a xs/\xs[i]?=some x,λi H x H'=>H'=H/\∀ xs,iy K H a xs->xs[i]?=some x,λi H=>∃ xs,iy K H a xs/\xs.length<=i⟩
def Jz(lo:Int)(n:Nat):It:=⟨λi _=>i<n,λi H x H'=>H'=H/\x=.int (lo+i),λi _=>n<=i⟩
theorem z6{K:PySem.W.Frag}(a it:Addr):Turn P w K tg (MJ K a) [it] it (λi h=>h.IsListIter it a i) where
 mem:=by simp
 obj:=λi h st b hb=>by
  have e:b=it:=by simpa using hb
  subst e
  obtain⟨o,e,c,d⟩:=st
  exact⟨o,e,λv z=>by rw[d] at z;cases z⟩
 keep:=λi h h' st k=>st.at λo e=>k it (by simp) o e
 item:=by
  intro X hP hw hK hc i Ni s σ H E I hf st hg
  subst hP hw hK
  obtain⟨xs,x,hq,hx⟩:=hg
  obtain⟨Nl,rv,p,hz⟩:=I.list hq
  obtain⟨u,hu,ru⟩:=rv.get hx
  obtain⟨f0,f1,f2,f3,f4,f5⟩:=hf it (by simp)
  refine wpAny_pyNext_list_item st p.isList (x:=u) (by simpa using hu) λh' Oi sb=>?_
  have I1:Inv X Ni σ H { s with heap:=h' }:=I.turned (t':=s.toks) (λb o hb e=>(sb.2 b hb).trans e) f0 f1 f3 f4 f5
  obtain⟨o,e,c,d⟩:=id Oi
  exact⟨u,rfl,yk (s:={ s with heap:=h' }) e c d (by decide) ⟨x,H,I1,ru,⟨rfl,λys hy=>by rw[I.pA hy hq];exact hx⟩,Oi,λb hb=>(hf b hb).1⟩⟩
 done:=by
  intro X hP hw hK hc i Ni s σ H E I hf st hg
  subst hP hw hK
  obtain⟨xs,hq,hx⟩:=hg
  obtain⟨Nl,rv,p,hz⟩:=I.list hq
  obtain⟨f0,f1,f2,f3,f4,f5⟩:=hf it (by simp)
  have hl:=rv.length
  exact wpAny_pyNext_list_end (I.ok.hd hc) st p.isList (by simp;omega) λh' eb=>⟨rfl,I.turned (t':=s.toks) (λb o hb e=>eb b o hb e) f0 f1 f3 f4 f5⟩
 self:=λ_ _ _ _ _ st h=>wpAny_pyIter_listiter st h
theorem wY{K:PySem.W.Frag}(a it:Addr):Turn P w K tg (MF K a) [it] it (λi h=>h.IsTupleIter it a i) where
 mem:=by simp
 obj:=λi h st b hb=>by
  have e:b=it:=by simpa using hb
  subst e
  obtain⟨o,e,c,d⟩:=st
  exact⟨o,e,λv z=>by rw[d] at z;cases z⟩
 keep:=λi h h' st k=>st.at λo e=>k it (by simp) o e
 item:=by
  intro X hP hw hK hc i Ni s σ H E I hf st hg
  subst hP hw hK
  obtain⟨xs,x,hq,hx⟩:=hg
  obtain⟨Nl,rv,p,hz⟩:=I.tuple hq
  obtain⟨u,hu,ru⟩:=rv.get hx
  obtain⟨f0,f1,f2,f3,f4,f5⟩:=hf it (by simp)
  refine wpAny_pyNext_tuple_item st (show s.heap.IsTuple a Nl.toArray from p) (x:=u) (by simpa using hu) λh' Oi sb=>?_
  have I1:Inv X Ni σ H { s with heap:=h' }:=I.turned (t':=s.toks) (λb o hb e=>(sb.2 b hb).trans e) f0 f1 f3 f4 f5
  obtain⟨o,e,c,d⟩:=id Oi
  exact⟨u,rfl,yk (s:={ s with heap:=h' }) e c d (by decide) ⟨x,H,I1,ru,⟨rfl,λys hy=>by rw[I.nv hy hq];exact hx⟩,Oi,λb hb=>(hf b hb).1⟩⟩
 done:=by
  intro X hP hw hK hc i Ni s σ H E I hf st hg
  subst hP hw hK
  obtain⟨xs,hq,hx⟩:=hg
  obtain⟨Nl,rv,p,hz⟩:=I.tuple hq
  obtain⟨f0,f1,f2,f3,f4,f5⟩:=hf it (by simp)
  have hl:=rv.length
  exact wpAny_pyNext_tuple_end (I.ok.hd hc) st (show s.heap.IsTuple a Nl.toArray from p) (by simp;omega) λh' eb=>⟨rfl,I.turned (t':=s.toks) (λb o hb e=>eb b o hb e) f0 f1 f3 f4 f5⟩
 self:=λ_ _ _ _ _ st h=>wpAny_pyIter_tupleiter st h
theorem xN{K:PySem.W.Frag}(it:Addr)(lo:Int)(n:Nat):Turn P w K tg (Jz lo n) [it] it (λi h=>IsRangeIter h it (lo+(i:Nat)*1) ((n:Int)-(i:Nat)) 1) where
 mem:=by simp
 obj:=λi h st b hb=>by
  have e:b=it:=by simpa using hb
  subst e
  exact⟨_,st,λv z=>by
   have z':Data.fields _=Data.cell v:=z
   cases z'⟩
 keep:=λi h h' st k=>k it (by simp) _ st
 item:=by
  intro X hP hw hK hc i Ni s σ H E I hf st hg
  subst hP hw hK
  obtain⟨f0,f1,f2,f3,f4,f5⟩:=hf it (by simp)
  have W:=Walks.range (prog:=X.prog) (w:=X.w) (I.ok.hd hc) it lo 1 n
  refine W.item i s _ _ hg st λv h' tk hv Oi kk=>?_
  obtain⟨t,rfl⟩:=hv
  have I1:Inv X Ni σ H { s with heap:=h',toks:=tk }:=I.turned (λb o hb e=>kk b o (by simpa using hb) e) f0 f1 f3 f4 f5
  refine⟨_,rfl,yk (s:={ s with heap:=h',toks:=tk }) (n := "range_iterator") Oi rfl rfl (by decide) ⟨.int (lo+i),H,I1,⟨t,?_⟩,⟨rfl,rfl⟩,Oi,λb hb=>(hf b hb).1⟩⟩
  rw[Int.mul_one]
 done:=by
  intro X hP hw hK hc i Ni s σ H E I hf st hg
  subst hP hw hK
  obtain⟨f0,f1,f2,f3,f4,f5⟩:=hf it (by simp)
  exact wpAny_pyNext_range_end (I.ok.hd hc) st (by have:n<=i:=hg;omega) λh' eb=>⟨rfl,I.turned (t':=s.toks) (λb o hb e=>eb b o hb e) f0 f1 f3 f4 f5⟩
 self:=λ_ _ _ _ _ st h=>wpAny_pyIter_rangeiter st h
variable{p:Pos}
variable{fp:List Addr}
theorem vS{R:It->Hp->Prop}{lo hi:Int}{t u v:Tok}{tk:Nat}(I:Inv X Ni σ H s)(h1:-(2^62)<=lo)(h2:lo<2^62)(h3:-(2^62)<=hi)(h4:hi<2^62)
  (q:R (Jz lo (hi-lo).toNat) H):wpAny (model X.prog X.w) X.A (pyIter (.ref s.heap.objs.size)) (Mh X Ni σ tg R) E { s with heap:=s.heap.push { cls:=.type "range", data:=.fields #[.int lo t,.int hi u,.int 1 v] },toks:=tk }:=by
 refine wpAny_pyIter_range (IsRange.new ..) (small_one h1 h2 h3 h4) ?_
 have I1:Inv X Ni σ H { s with heap:=s.heap.push { cls:=.type "range", data:=.fields #[.int lo t,.int hi u,.int 1 v] },toks:=tk }:=I.kept λb o e=>Heap.get?_push_of_some _ e
 refine⟨(s.heap.push { cls:=.type "range", data:=.fields #[.int lo t,.int hi u,.int 1 v] }).objs.size,[(s.heap.push { cls:=.type "range", data:=.fields #[.int lo t,.int hi u,.int 1 v] }).objs.size],_,_,H,rfl,
  I1.kept (t':=tk) λb o e=>Heap.get?_push_of_some _ e,xN _ lo (hi-lo).toNat,?_,λb hb=>?_,q⟩
 ·have e1:lo+((0:Nat):Int)*1=lo:=by simp
  have e2:(((hi-lo).toNat:Nat):Int)-((0:Nat):Int)=Builtin.Range.rangeSize lo hi 1:=by rw[rangeSize_one];split <;> omega
  show IsRangeIter _ _ (lo+((0:Nat):Int)*1) ((((hi-lo).toNat:Nat):Int)-((0:Nat):Int)) 1
  rw[e1,e2]
  exact Heap.get?_push_size _ rfl
 ·have e:b=(s.heap.push { cls:=.type "range", data:=.fields #[.int lo t,.int hi u,.int 1 v] }).objs.size:=by simpa using hb
  subst e
  exact I1.sZ (Nat.le_refl _) (I1.bT.fresh (Nat.le_refl _))
def FX(ta:TA):TI:=fun σ H R=>ta σ H λvs H1=>∃ j:Int,vs=[.int j]/\-(2^62)<=j/\j<2^62/\R (Jz 0 j.toNat) H1
def FP(ta:TA):TI:=fun σ H R=>ta σ H λvs H1=>∃ i j:Int,vs=[.int i,.int j]/\(-(2^62)<=i/\i<2^62/\-(2^62)<=j/\j<2^62)/\R (Jz i (j-i).toNat) H1
theorem fG{a:Expr}{ta:TA}{pos:Pos}(hg:Gl X "range")(hm:X.mg "range" = none)(ha:PA X [a] ta)(hs:autoParam (starEach [a] X.env=[(false,eval a X.env)]) aR._auto_1):PI X tg (.Call (.Name "range" p) [a] [] pos) (FX ta):=by
 intro Ni s σ H R I h
 refine Call_ (jY I hg hm boot_range (PyProof.Rows.callWith_type1 (dh (ha pos Ni s σ H _ I h) λus s1 ⟨vs,H1,I1,r1,q1⟩=>?_) hs rfl))
 obtain⟨j,e,q1,q2,q⟩:=q1
 subst e
 cases r1 with
 | cons r rr =>
  cases rr
  obtain⟨t,rfl⟩:=r
  exact call_range_1 (vS I1 (by omega) (by omega) q1 q2 (by simpa using q))
theorem zS{a b:Expr}{ta:TA}{pos:Pos}(hg:Gl X "range")(hm:X.mg "range" = none)(ha:PA X [a,b] ta)(hs:autoParam (starEach [a,b] X.env=[(false,eval a X.env),(false,eval b X.env)]) aR._auto_1)(OK:autoParam (starEach [b] X.env=[(false,eval b X.env)]) aR._auto_1) :
  PI X tg (.Call (.Name "range" p) [a,b] [] pos) (FP ta):=by
 intro Ni s σ H R I h
 refine Call_ (jY I hg hm boot_range (PyProof.Rows.callWith_type1 (dh (ha pos Ni s σ H _ I h) λus s1 ⟨vs,H1,I1,r1,q1⟩=>?_) (by rw[hs,OK]) (by rw[OK];rfl)))
 obtain⟨i,j,e,⟨q1,q2,q3,q4⟩,q⟩:=q1
 subst e
 cases r1 with
 | cons r rr =>
  cases rr with
  | cons r' rr =>
   cases rr
   obtain⟨t,rfl⟩:=r
   obtain⟨t',rfl⟩:=r'
   exact call_range_2 (vS I1 q1 q2 q3 q4 q)
def Jy(wi:TI)(g:TG)(tb:TS):TS:=λD σ H=>wi σ H λJ H1=>∃ W:Nat->Nat->St->Hp->Prop,(∃ m,W 0 m σ H1)/\∀ i m σ H,W i m σ H ->
 (J.stop i H/\D.nx σ H)\/(J.go i H/\∃ N:St->Hp->Prop,(∀ σ' H',N σ' H'->∃ m',m'<m/\W (i+1) m' σ' H')/\∀ x H',J.uK i H x H'->g x σ H' fun σ2 H2=>tb { D with nx:=N,ct:=N,bk:=D.nx } σ2 H2)
def mY(fp:List Addr)(h:Heap):List (Addr×Obj):=fp.filterMap λb=>(h.get? b).map λo=>(b,o)
theorem jQ(hb:b∈fp)(e:h.get? b=some o):(b,o)∈mY fp h:=List.mem_filterMap.mpr ⟨b,hb,by rw[e];rfl⟩
theorem zE{p:Addr×Obj}(hp:p∈mY fp h):p.1∈fp/\h.get? p.1=some p.2:=by
 obtain⟨b,hb,e⟩:=List.mem_filterMap.mp hp
 cases q:h.get? b with
 | none=>rw[q] at e;cases e
 | some o =>
  rw[q] at e
  have e':(b,o)=p:=Option.some.inj e
  subst e'
  exact⟨hb,q⟩
theorem Inv.pinned(I:Inv X Ni σ H s)(hf:∀ b∈fp,mz X Ni H b)(ho:∀ b∈fp,∃ o,s.heap.get? b=some o/\∀ v,o.data≠.cell v):Inv X (Ni++mY fp s.heap) σ H s :=
 I.yv λp hp=>(List.mem_append.mp hp).elim (λz=>I.pin p (List.mem_append_right _ z)) λz=>by
  obtain⟨hb,e⟩:=zE z
  obtain⟨f0,f1,f2,_⟩:=hf p.1 hb
  obtain⟨o,e',d⟩:=ho p.1 hb
  rw[e] at e';cases e'
  exact⟨e,f0,f1,f2,d⟩
theorem Inv.mL{pl:List (Addr×Obj)}(I:Inv X (Ni++pl) σ H s):Inv X Ni σ H s:=I.yv λp hp=>I.pin p (List.mem_append_right _ (List.mem_append_left _ hp))
theorem BM{iter:Expr}{wi:TI}{g:TG}{pos:Pos}(hp:PassesOwn (model X.prog X.w) X.A X.env X.xe)(hc:X.calm=true)(hi:PI X tg iter wi)(hg:PG X tg g)(hb:lY X body tb)
  (hs:autoParam (∀ x,foldedSetIterable iter X.env x=pure x) aI._auto_1):PS X (.For tg iter body [] pos) (Jy wi g tb):=by
 intro Ni s σ H D I h
 refine wpAny_For (dh (hi Ni s σ H _ I h) λv s1 h1=>dh h1 λitv s2 h2=>?_) hs
 obtain⟨it,fp,tn,J,H2,e,I2,T,P7,f2,W,⟨m0,w0⟩,turn⟩:=h2
 subst e
 have Pg:∀ {H':Hp},(∀ b∈fp,H' b=none)->∀ b∈fp,mz X Ni H' b:=λhn b hb=>⟨hn b hb,(f2 b hb).2⟩
 refine codeAny_forLoop_any (λn s'=>∃ i σ' H',Inv X Ni σ' H' s'/\tn i s'.heap/\(∀ b∈fp,H' b=none)/\W i n σ' H') ?_ m0 ⟨0,σ,H2,I2,P7,λb hb=>(f2 b hb).1,w0⟩
 rintro n s3 ⟨i,σ3,H3,I3,st3,fr3,w3⟩
 rcases turn i n σ3 H3 w3 with ⟨stop,qn⟩ | ⟨go,N,hN,step⟩
 ·refine wpAny_passesOwn hp (dh (T.done X rfl rfl rfl hc i Ni s3 σ3 H3 X.xe I3 (Pg fr3) st3 stop) λr s4 ⟨hr,I4⟩=>?_)
  subst hr
  exact wpAny_execs_nil ⟨σ3,H3,I4,qn⟩
 ·refine wpAny_passesOwn hp (dh (T.item X rfl rfl rfl hc i Ni s3 σ3 H3 X.xe I3 (Pg fr3) st3 go) λr s4 ⟨u,hr,h4⟩=>?_)
  subst hr
  refine wpAny_passesOwn hp (dh h4 λ_ s5 ⟨x,H5,I5,r5,y5,st5,fr5⟩=>?_)
  have I5':=I5.pinned (Pg fr5) (T.obj _ _ st5)
  refine wpAny_passesOwn hp (dh (hg _ s5 σ3 H5 x u _ I5' r5 (step x H5 y5)) λ_ s6 ⟨σ6,H6,I6,q6⟩=>?_)
  refine wpAny_passesOwn hp (dh (hb _ s6 σ6 H6 _ I6 q6) λf s7 q7=>?_)
  have again:∀ {σ7:St} {H7:Hp},Inv X (Ni++mY fp s5.heap) σ7 H7 s7->N σ7 H7->∃ m,m<n/\∃ i σ' H',Inv X Ni σ' H' s7/\tn i s7.heap/\(∀ b∈fp,H' b=none)/\W i m σ' H':=λ{σ7 H7} I7 n7=>by
   obtain⟨m',hm,w7⟩:=hN σ7 H7 n7
   refine⟨m',hm,i+1,σ7,H7,I7.mL,T.keep _ _ _ st5 λb hb o e=>(I7.pin (b,o) (List.mem_append_right _ (List.mem_append_right _ (jQ hb e)))).1,λb hb=>?_,w7⟩
   obtain⟨o,e,d⟩:=T.obj _ _ st5 b hb
   exact(I7.pin (b,o) (List.mem_append_right _ (List.mem_append_right _ (jQ hb e)))).2.1
  cases f with
  | next=>obtain⟨σ7,H7,I7,n7⟩:=q7;exact again I7 n7
  | cont=>obtain⟨σ7,H7,I7,n7⟩:=q7;exact again I7 n7
  | brk=>obtain⟨σ7,H7,I7,q7⟩:=q7;exact⟨σ7,H7,I7.mL,q7⟩
  | ret v=>obtain⟨x7,σ7,H7,I7,r7,q7⟩:=q7;exact⟨x7,σ7,H7,I7.mL,r7,q7⟩
abbrev R2:=V->V->Hp->VK->Prop
def iR(X:Cx)(f:Value->Value->Sem Value)(r:R2):Prop :=
 ∀ (Ni:List (Addr×Obj)) (s:Shared) (σ:St) (H:Hp) (x y:V) (v u:Value) (Q:VK),Inv X Ni σ H s->RelV x v->RelV y u->r x y H Q ->
  wpAny (model X.prog X.w) X.A (f v u) (EP X Ni σ Q) X.xe s
def MA(X:Cx)(f:Value->Sem Value)(r:V->Hp->VK->Prop):Prop :=
 ∀ (Ni:List (Addr×Obj)) (s:Shared) (σ:St) (H:Hp) (x:V) (v:Value) (Q:VK),Inv X Ni σ H s->RelV x v->r x H Q ->
  wpAny (model X.prog X.w) X.A (f v) (EP X Ni σ Q) X.xe s
def dR(X:Cx)(f:Value)(r:List V->Hp->VK->Prop):Prop :=
 ∀ (Ni:List (Addr×Obj)) (s:Shared) (σ:St) (H:Hp) (xs:List V) (us:List Value) (Q:VK),Inv X Ni σ H s->Vals xs us->r xs H Q ->
  wpAny (model X.prog X.w) X.A (call f us) (EP X Ni σ Q) X.xe s
def Iu(r:R2)(ta tb:TE):TE:=fun σ H Q=>ta σ H λx H1=>tb σ H1 λy H2=>r x y H2 Q
def MG(r:V->Hp->VK->Prop)(ta:TE):TE:=fun σ H Q=>ta σ H λx H1=>r x H1 Q
def rI(C:Int->Int->Prop)(g:Int->Int->V):R2:=λx y H Q=>∃ i j,x=.int i/\y=.int j/\C i j/\Q (g i j) H
def w4(g:Int->Int->V):R2:=λx y H Q=>∃ i j,x=.int i/\y=.int j/\Q (g i j) H
def rU(g:Int->V):V->Hp->VK->Prop:=λx H Q=>∃ i,x=.int i/\Q (g i) H
variable{f:Value->Value->Sem Value}
variable{r:R2}
section
variable{a b:Expr}{tb tc:TE}{pos:Pos}
theorem Gu(ha:PE X a ta)(hb:PE X b tb){R:V->V->Hp->Prop}(I:Inv X Ni σ H s)
  (h:ta σ H λx H1=>tb σ H1 λy H2=>R x y H2)
  (hf:∀ v u s2 x y H2,Inv X Ni σ H2 s2->RelV x v->RelV y u->R x y H2->wpAny (model X.prog X.w) X.A (f v u) Q X.xe s2) :
  wpAny (model X.prog X.w) X.A (eval a X.env) (λv s₁=>wpAny (model X.prog X.w) X.A (eval b X.env) (λu s₂=>wpAny (model X.prog X.w) X.A (f v u) Q X.xe s₂) X.xe s₁) X.xe s:=by
 refine dh (ha Ni s σ H _ I h) λv s1 ⟨x,H1,I1,r1,q1⟩=>?_
 refine dh (hb Ni s1 σ H1 _ I1 q1) λu s2 ⟨y,H2,I2,r2,q2⟩=>?_
 exact hf v u s2 x y H2 I2 r1 r2 q2
theorem F7{op:Operator}(ho:iR X (binaryOp op) r)(ha:PE X a ta)(hb:PE X b tb):PE X (.BinOp a op b pos) (Iu r ta tb):=by
 intro Ni s σ H Q I h
 exact wpAny_BinOp (Gu ha hb I h λv u s2 x y H2 I2 rx ry q=>ho Ni s2 σ H2 x y v u Q I2 rx ry q)
theorem Ki{op:UnaryOp}{r:V->Hp->VK->Prop}(ho:MA X (unaryOp op) r)(ha:PE X a ta):PE X (.UnaryOp op a pos) (MG r ta):=by
 intro Ni s σ H Q I h
 exact UnaryOp_ (dh (ha Ni s σ H _ I h) λv s1 ⟨x,H1,I1,r1,q1⟩=>ho Ni s1 σ H1 x v Q I1 r1 q1)
theorem Mm{C:Int->Int->Prop}{g:Int->Int->Int}
  (rule:∀ (i j:Int) (t u:Tok) (s:Shared) (Q:Value->Shared->Prop) (E:Value->Shared->Prop),C i j->Q (.int (g i j) s.toks) { s with toks:=s.toks+1 }->wpAny (model X.prog X.w) X.A (f (.int i t) (.int j u)) Q E s) :
  iR X f (rI C λi j=>.int (g i j)):=by
 intro Ni s σ H x y v u Q I rx ry h
 obtain⟨i,j,rfl,rfl,hc,q⟩:=h
 obtain⟨t,rfl⟩:=rx
 obtain⟨t',rfl⟩:=ry
 exact rule i j t t' s _ _ hc ⟨.int (g i j),H,I.tok _,⟨_,rfl⟩,q⟩
theorem Jx{g:Int->Int->Int}
  (rule:∀ (i j:Int) (t u:Tok) (s:Shared) (Q:Value->Shared->Prop) (E:Value->Shared->Prop),Q (.int (g i j) s.toks) { s with toks:=s.toks+1 }->wpAny (model X.prog X.w) X.A (f (.int i t) (.int j u)) Q E s) :
  iR X f (w4 λi j=>.int (g i j)):=by
 intro Ni s σ H x y v u Q I rx ry h
 obtain⟨i,j,rfl,rfl,q⟩:=h
 obtain⟨t,rfl⟩:=rx
 obtain⟨t',rfl⟩:=ry
 exact rule i j t t' s _ _ ⟨.int (g i j),H,I.tok _,⟨_,rfl⟩,q⟩
theorem Ff{g:Int->Int->Bool}
  (rule:∀ (i j:Int) (t u:Tok) (s:Shared) (Q:Value->Shared->Prop) (E:Value->Shared->Prop),Q (.bool (g i j)) s->wpAny (model X.prog X.w) X.A (f (.int i t) (.int j u)) Q E s) :
  iR X f (w4 λi j=>.bl (g i j)):=by
 intro Ni s σ H x y v u Q I rx ry h
 obtain⟨i,j,rfl,rfl,q⟩:=h
 obtain⟨t,rfl⟩:=rx
 obtain⟨t',rfl⟩:=ry
 exact rule i j t t' s _ _ ⟨.bl (g i j),H,I,rfl,q⟩
theorem IG:iR X (binaryOp .Add) (w4 λi j=>.int (i+j)):=Jx λ_ _ _ _ _ _ _ q=>add_int q
theorem H_:iR X (binaryOp .Sub) (w4 λi j=>.int (i-j)):=Jx λ_ _ _ _ _ _ _ q=>sub_int q
theorem DO:iR X (binaryOp .Mod) (rI (λ_ j=>j≠0) λi j=>.int (i.fmod j)):=Mm λ_ _ _ _ _ _ _ hc q=>mod_int' hc q
theorem M3{f:Value->Sem Value}{g:Int->Int}
  (rule:∀ (i:Int) (t:Tok) (s:Shared) (Q:Value->Shared->Prop) (E:Value->Shared->Prop),Q (.int (g i) s.toks) { s with toks:=s.toks+1 }->wpAny (model X.prog X.w) X.A (f (.int i t)) Q E s) :
  MA X f (rU λi=>.int (g i)):=by
 intro Ni s σ H x v Q I rx h
 obtain⟨i,rfl,q⟩:=h
 obtain⟨t,rfl⟩:=rx
 exact rule i t s _ _ ⟨.int (g i),H,I.tok _,⟨_,rfl⟩,q⟩
theorem GP:MA X (unaryOp .USub) (rU λi=>.int (-i)):=M3 λ_ _ _ _ _ q=>neg_int q
end
variable{op:CmpOp}
variable{us:List Value}
section
variable{a b:Expr}{tb tc:TE}{pos:Pos}
theorem uH{Q:VK}{k k':Bool}(I:Inv X Ni σ H s)(q:Q (.bl k) H)(e:k=k'):EP X Ni σ Q (.bool k') s:=by
 subst e
 exact⟨.bl k,H,I,rfl,q⟩
theorem yI:iR X (compareOp .Lt) (w4 λi j=>.bl (decide (i<j))):=Ff λ_ _ _ _ _ _ _ q=>lt_int q
theorem vj:iR X (compareOp .LtE) (w4 λi j=>.bl (decide (i<=j))):=Ff λ_ _ _ _ _ _ _ q=>le_int q
theorem Ga:iR X (compareOp .Gt) (w4 λi j=>.bl (decide (j<i))):=Ff λ_ _ _ _ _ _ _ q=>gt_int q
theorem Gi:iR X (compareOp .GtE) (w4 λi j=>.bl (decide (j<=i))):=Ff λ_ _ _ _ _ _ _ q=>ge_int q
theorem Dt:iR X (compareOp .Is) (λx y H Q=>y=.cy/\Q (.bl (decide (x=.cy))) H):=by
 intro Ni s σ H x y v u Q I rx ry h
 obtain⟨rfl,q⟩:=h
 cases ry
 refine is_none_gen (uH I q ?_)
 cases x <;> first
  | (cases rx;rfl)
  | (obtain⟨t,rfl⟩:=rx;rfl)
theorem yg:iR X (compareOp .IsNot) (λx y H Q=>y=.cy/\Q (.bl (!decide (x=.cy))) H):=by
 intro Ni s σ H x y v u Q I rx ry h
 obtain⟨rfl,q⟩:=h
 cases ry
 refine isnot_none_gen (uH I q ?_)
 cases x <;> first
  | (cases rx;rfl)
  | (obtain⟨t,rfl⟩:=rx;rfl)
theorem iR.or{r':R2}(h:iR X f r)(h':iR X f r'):iR X f (λx y H Q=>r x y H Q\/r' x y H Q):=by
 intro Ni s σ H x y v u Q I rx ry q
 rcases q with q | q
 ·exact h Ni s σ H x y v u Q I rx ry q
 ·exact h' Ni s σ H x y v u Q I rx ry q
theorem dE(b:Expr)(h:autoParam (op≠.In) aD._auto_1)(h2:autoParam (op≠.NotIn) aD._auto_1):behindInMarks op b=false:=by
 have e1:(op==CmpOp.In)=false:=by cases op <;> first | rfl | exact absurd rfl h
 have e2:(op==CmpOp.NotIn)=false:=by cases op <;> first | rfl | exact absurd rfl h2
 cases b <;> simp[behindInMarks,e1,e2]
theorem Fh(ho:iR X (compareOp op) r)(ha:PE X a ta)(hb:PE X b tb)(hm:behindInMarks op b=false):PE X (.Compare a [op] [b] pos) (Iu r ta tb):=by
 intro Ni s σ H Q I h
 exact wpAny_Compare1 (Gu ha hb I h λv u s2 x y H2 I2 rx ry q=>ho Ni s2 σ H2 x y v u Q I2 rx ry q) hm
def FT(t:TE):TT:=fun σ H Q=>t σ H λx H'=>∃ k,x=.bl k/\Q k H'
theorem yK(ho:iR X (compareOp op) r)(ha:PE X a ta)(hb:PE X b tb)(hm:behindInMarks op b=false):PT X (.Compare a [op] [b] pos) (FT (Iu r ta tb)):=by
 intro Ni s σ H Q I h
 refine wpAny_isTrue_Compare1 (dh (ha Ni s σ H _ I h) λv s1 ⟨x,H1,I1,r1,q1⟩=>dh (hb Ni s1 σ H1 _ I1 q1) λu s2 ⟨y,H2,I2,r2,q2⟩ =>
  dh (ho Ni s2 σ H2 x y v u _ I2 r1 r2 q2) λc s3 ⟨z,H3,I3,r3,k,e,q3⟩=>?_) hm
 subst e
 cases r3
 exact wpAny_truthy_bool ⟨H3,I3,q3⟩
def BO(r r':R2)(ta tb tc:TE):TE:=fun σ H Q=>ta σ H λx H1=>tb σ H1 λy H2=>r x y H2 λz H3=>∃ k,z=.bl k ∧
 (if k=true then tc σ H3 λw' H4=>r' y w' H4 Q else Q (.bl false) H3)
theorem AD{QG:CmpOp}{r':R2}(ho:iR X (compareOp op) r)(O9:iR X (compareOp QG) r')(ha:PE X a ta)(hb:PE X b tb)(hc:PE X c tc)
  (hm:autoParam (lastMarks [op,QG] [b,c]=false) aU._auto_1):PE X (.Compare a [op,QG] [b,c] pos) (BO r r' ta tb tc):=by
 intro Ni s σ H Q I h
 refine Compare_chain (dh (ha Ni s σ H _ I h) λv s1 ⟨x,H1,I1,r1,q1⟩=>chain_link (dh (hb Ni s1 σ H1 _ I1 q1) λu s2 ⟨y,H2,I2,r2,q2⟩ =>
  dh (ho Ni s2 σ H2 x y v u _ I2 r1 r2 q2) λd s3 ⟨z,H3,I3,r3,k,e,q3⟩=>?_)) hm
 subst e
 cases r3
 refine wpAny_truthy_bool ?_
 cases k with
 | false=>exact ite_ff ⟨.bl false,H3,I3,rfl,q3⟩
 | true=>exact ite_tt (chain_last (dh (hc Ni s3 σ H3 _ I3 q3) λw' s4 ⟨z',H4,I4,r4,q4⟩=>O9 Ni s4 σ H4 y z' u w' Q I4 r2 r4 q4))
theorem m_:(sizeLine:Nat)<2^63:=by rw[sizeLine_eq];decide
theorem wU:iR X (binaryOp .Add) (λx y H Q=>∃ i j,x=.str i/\y=.str j/\i.length+j.length<=sizeLine/\Q (.str (i++j)) H):=by
 intro Ni s σ H x y v u Q I rx ry h
 obtain⟨i,j,rfl,rfl,hz,q⟩:=h
 obtain⟨t,rfl⟩:=rx
 obtain⟨t',rfl⟩:=ry
 exact add_str (λt' tk=>⟨.str (i++j),H,I.tok _,⟨_,rfl⟩,q⟩) hz
theorem vals1{x:V}(r:Vals [x] us):∃ u,us=[u]/\RelV x u:=by
 cases r with
 | cons r1 r2=>cases r2;exact⟨_,rfl,r1⟩
theorem vals2{x y:V}(r:Vals [x,y] us):∃ u w',us=[u,w']/\RelV x u/\RelV y w':=by
 cases r with
 | cons r1 r2 =>
  cases r2 with
  | cons r3 r4=>cases r4;exact⟨_,_,rfl,r1,r3⟩
theorem sq(hc:X.calm=true):dR X (.builtin "max") (λxs H Q=>∃ i j,xs=[.int i,.int j]/\Q (.int (if j>i then j else i)) H):=by
 intro Ni s σ H xs us Q I r h
 obtain⟨i,j,rfl,q⟩:=h
 obtain⟨u,w',rfl,⟨t,rfl⟩,⟨t',rfl⟩⟩:=vals2 r
 refine max_two_ints (I.ok.hd hc) λh' tk k=>⟨_,H,I.kept k,?_,q⟩
 by_cases hj:j>i
 ·rw[if_pos hj,if_pos hj];exact⟨_,rfl⟩
 ·rw[if_neg hj,if_neg hj];exact⟨_,rfl⟩
end
structure xO (h:Heap) (x dx C:Addr) (mA:Str->Option Value):Prop where
 obj:h.get? x=some (PySem.W.instObj C dx)
 ns:h.Ns1 dx mA
 ne:dx≠x
variable{mA:Str->Option Value}{dx:Addr}
theorem nr(n:h.Ns1 dx mA):∃ od,h.get? dx=some od/\∀ name,PySem.W.lookIn name od=some (mA name):=by
 obtain⟨o,es,ep,ho,hd,hk,_,hm⟩:=n
 refine⟨o,ho,λname=>?_⟩
 have e:=hm name
 unfold nsFind findBy at e
 rw[← Array.find?_toList] at e
 unfold PySem.W.lookIn
 rw[hd]
 dsimp only
 split
 ·rename_i y q
  rw[q] at e
  exact congrArg some e
 ·rename_i q
  rw[q] at e
  have a:es.toList.any (·.refKey)=false:=by
   rw[List.any_eq_false]
   intro y hy
   obtain⟨z,t,hkey⟩:=hk y (Array.mem_toList_iff.mp hy)
   simp[DictEntry.refKey,hkey]
  have a':¬ es.toList.any (·.refKey)=true:=by rw[a];exact Bool.false_ne_true
  rw[if_neg a']
  exact congrArg some e
variable{C:Addr}
theorem xO.look{x:Addr}(I:xO h x dx C mA):∃ od,PySem.W.InstAt h x (PySem.W.instObj C dx) C (some od)/\∀ name,PySem.W.lookIn name od=some (mA name) :=
 let ⟨od,ho,hl⟩:=nr I.ns
 ⟨od,⟨I.obj,rfl,rfl,ho⟩,hl⟩
variable{prog:Program}
variable{pl:Sem Bool}
variable{kw:List (Str×Value)}
section
variable{K:PySem.W.Frag}{x f:Addr}{name:Str}{v:Value}
theorem get_map{expr:Bool}(X:K.In s.heap)(I:xO s.heap x dx C mA)(hg:PySem.W.plainGet K C name=true)(hh:PySem.W.hasDictIn K C=true)
  (ha:PySem.W.findIn K (.ref C) name=some none) (hv:mA name=some v) (Rj:PySem.W.handedIn v=true) (h:Q v { s with toks:=s.toks+1 }) :
  wpAny (model prog w) A (getAttr (.ref x) name expr) Q E s:=by
 obtain⟨od,J,hl⟩:=I.look
 exact PySem.W.get_value X J (PySem.W.plainGet_of hg).1 (PySem.W.findObj_own hh ha rfl (by rw[hl,hv])) Rj h
theorem CC{Q:Value×List Value->Shared->Prop}(X:K.In s.heap)(I:xO s.heap x dx C mA)(hg:PySem.W.plainGet K C name=true)
  (hf:PySem.W.findIn K (.ref C) name=some (some (.ref f))) (ht:PySem.W.isFn K (.ref f)=true) (hv:mA name=none) (h:Q (.ref f,[.ref x]) s) :
  wpAny (model prog w) A (getMethod (.ref x) name pl) Q E s:=by
 obtain⟨od,J,hl⟩:=I.look
 exact PySem.W.method_fn X J (PySem.W.plainGet_of hg).1 (PySem.W.plainGet_of hg).2 hf (beq_iff_eq.mp ht) (by show (PySem.W.lookIn name od).map (·.isSome)=some false;rw[hl,hv];rfl) h
theorem Ew{ns:List Str}{Q:Unit->Shared->Prop}(X:K.In s.heap)(I:xO s.heap x dx C mA)
  (hs:PySem.W.findIn K (.ref C) "__setattr__" = some (some (.builtin "object.__setattr__"))) (hp:PySem.W.plainOver K C=true) (ht:PySem.W.takerIn K C name=some none) (hh:PySem.W.hasDictIn K C=true)
  (hw:PySem.Within mA ns) (OQ:ns.length<=sizeLine)
  (h:∀ h',xO h' x dx C (λy=>if y=name then some v else mA y)->Heap.SameBut dx s.heap h'->Q () { s with heap:=h',toks:=s.toks+2 }) :
  wpAny (model prog w) A (setAttr (.ref x) name v) Q E s:=by
 obtain⟨od,J,hl⟩:=I.look
 refine PySem.W.set_plain X J hs (PySem.W.osa_open (s:={ s with toks:=s.toks+1 }) (r:=none) X J hp ht λb=>?_)
 obtain⟨cd,hc,Q4⟩:=PySem.W.any_some hh
 have hx:s.heap.get? x=some ⟨.ref C,some dx,.plain,#[]⟩:=I.obj
 refine wpAny_bind (wpAny_pure (wpAny_bind (wpAny_bind (wpAny_loadPart hx (wpAny_bind (PySem.W.Looks.here (s:={ s with toks:=s.toks+1 }) (PySem.W.looks_clsIn X hc) ?_))))))
 rw[Q4]
 refine wpAny_pure (a:=some dx) (wpAny_bind (wpAny_pure (wpAny_bind ?_)))
 refine wpAny_nsSet1 (s:={ s with toks:=s.toks+1 }) I.ns λh' Qj OK=>?_
 obtain⟨oD,esD,epD,hoD,hdD,PF⟩:=Qj.count (PySem.Within.cons name v hw)
 refine wpAny_bind (wpAny_lookBehind hoD (by rw[hdD];exact pastItsLine_dict (Nat.le_trans PF (by rw[List.length_cons];omega))) ?_)
 exact wpAny_pure (h _ ⟨(OK.2 _ (Ne.symm I.ne)).trans I.obj,Qj,I.ne⟩ OK)
theorem BX{R:Result->Shared->Prop}{vs:List Value}(X:K.In s.heap)(hm:PySem.W.makesIn K C=true)
  (hi:PySem.W.findIn K (.ref C) "__init__" = some (some (.ref f))) (hf:PySem.W.typeIn K (.ref f)=some (.type "function"))
  (h:codeAny (model prog w) (A.under (.builtin "type.__call__" ⟨.ref C::vs,kw⟩)) (.call (.ref f) ⟨.ref (s.heap.objs.size+1)::vs,kw⟩) (PySem.W.InitBack (s.heap.objs.size+1) R)
   { s with heap:=(s.heap.push PySem.W.emptyDict).push (PySem.W.instObj C s.heap.objs.size) }) :
  codeAny (model prog w) A (.call (.ref C) ⟨vs,kw⟩) R s:=by
 obtain⟨hh,g,d,t,os⟩:=s
 exact PySem.W.make_core (PySem.W.makes_of X hm) (PySem.W.looks_findIn X hi) (λself=>PySem.W.bind_fn X self hf) (.inl rfl) h
end
def kc(f:Str)(v:V):List (Str×V)->List (Str×V)
 | []=>[(f,v)]
 | (g,x)::r=>if g=f then (g,v)::r else (g,x)::kc f v r
theorem nR(f g:Str)(v:V):∀ fs:List (Str×V),(kc f v fs).lookup g=if g=f then some v else fs.lookup g
 | []=>by
  show List.lookup g [(f,v)]=_
  by_cases h:g=f
  ·have hb:(g==f)=true:=beq_iff_eq.mpr h
   simp only[List.lookup,hb,if_pos h]
  ·have hb:(g==f)=false:=beq_eq_false_iff_ne.mpr h
   simp only[List.lookup,hb,if_neg h]
 | (k,x)::r=>by
  have ih:=nR f g v r
  rw[show kc f v ((k,x)::r)=(if k=f then (k,v)::r else (k,x)::kc f v r) from rfl]
  by_cases hk:k=f
  ·rw[if_pos hk]
   by_cases h:g=k
   ·have hb:(g==k)=true:=beq_iff_eq.mpr h
    simp only[List.lookup,hb,if_pos (h.trans hk)]
   ·have hb:(g==k)=false:=beq_eq_false_iff_ne.mpr h
    simp only[List.lookup,hb,if_neg (λe:g=f=>h (e.trans hk.symm))]
  ·rw[if_neg hk]
   by_cases h:g=k
   ·have hb:(g==k)=true:=beq_iff_eq.mpr h
    simp only[List.lookup,hb,if_neg (λe:g=f=>hk (h.symm.trans e))]
   ·have hb:(g==k)=false:=beq_eq_false_iff_ne.mpr h
    simp only[List.lookup,hb]
    exact ih
theorem ni(f:Str)(v:V):∀ fs:List (Str×V),f∈(kc f v fs).map (·.1)/\∀ g,g∈fs.map (·.1)->g∈(kc f v fs).map (·.1)
 | []=>⟨by simp[kc],λg h=>by simp at h⟩
 | (k,x)::r=>by
  obtain⟨i1,i2⟩:=ni f v r
  rw[show kc f v ((k,x)::r)=(if k=f then (k,v)::r else (k,x)::kc f v r) from rfl]
  by_cases hk:k=f
  ·rw[if_pos hk]
   subst hk
   exact⟨by simp,λg h=>by simpa using h⟩
  ·rw[if_neg hk]
   refine⟨?_,λg h=>?_⟩
   ·rw[List.map_cons]
    exact List.mem_cons_of_mem _ i1
   ·rw[List.map_cons] at h ⊢
    rcases List.mem_cons.mp h with e | e
    ·exact List.mem_cons.mpr (.inl e)
    ·exact List.mem_cons_of_mem _ (i2 g e)
theorem nV(f:Str)(v:V):∀ fs:List (Str×V),(kc f v fs).length<=fs.length+1
 | []=>by simp[kc]
 | (k,x)::r=>by
  have ih:=nV f v r
  rw[show kc f v ((k,x)::r)=(if k=f then (k,v)::r else (k,x)::kc f v r) from rfl]
  by_cases hk:k=f
  ·rw[if_pos hk,List.length_cons,List.length_cons];omega
  ·rw[if_neg hk,List.length_cons,List.length_cons];omega
theorem mX.some_of{o:Option Value}(r:mX (some v) o):∃ u,o=some u/\RelV v u:=by
 cases o with
 | none=>exact(show False from r).elim
 | some u=>exact⟨u,rfl,r⟩
theorem mX.none_of{o:Option Value}(r:mX none o):o=none:=by
 cases o with
 | none=>rfl
 | some u=>exact(show False from r).elim
theorem zk(r:RelV v u):PySem.W.handedIn u=true:=by
 cases v with
 | cy=>cases (show u=Value.none from r);rfl
 | bl b=>cases (show u=Value.bool b from r);rfl
 | int i=>obtain⟨t,e⟩:=(show ∃ t,u=Value.int i t from r);cases e;rfl
 | str x=>obtain⟨t,e⟩:=(show ∃ t,u=Value.str x t from r);cases e;rfl
 | byt b=>obtain⟨t,e⟩:=(show ∃ t,u=Value.bytes b t from r);cases e;rfl
 | FI b=>obtain⟨t,e⟩:=(show ∃ t,u=Value.float b t from r);cases e;rfl
 | ref a=>cases (show u=Value.ref a from r);rfl
 | ty n=>cases (show u=Value.type n from r);rfl
section
variable{fs Qq:List (Str×V)}
theorem l_(bT:nQ P w H h)(e:H a=some (.ins C dx fs)):∃ mA,xO h a dx C mA/\(∀ f,mX (fs.lookup f) (mA f))/\PySem.Within mA (fs.map (·.1))/\fs.length<=1000/\H dx=some (.own a):=by
 obtain⟨d,z,ne,ob,mA,n,r,q⟩:=(show cM P w H h a (.ins C dx fs) from bT a _ e)
 exact⟨mA,⟨ob,n,ne⟩,r,q,z,d⟩
end
structure lp (K:PySem.W.Frag) (C:Addr):Prop where
 pg:PySem.W.plainGet K C Str.empty=true
 hd:PySem.W.hasDictIn K C=true
 po:PySem.W.plainOver K C=true
 sa:PySem.W.findIn K (.ref C) "__setattr__" = some (some (.builtin "object.__setattr__"))
theorem lp.get{K:PySem.W.Frag}(c:lp K C)(f:Str):PySem.W.plainGet K C f=true:=c.pg
def bM(K:PySem.W.Frag)(C:Addr)(f:Str):Prop:=PySem.W.findIn K (.ref C) f=some none
theorem bM.FV{K:PySem.W.Frag}{f:Str}(n:bM K C f):PySem.W.takerIn K C f=some none:=by
 unfold PySem.W.takerIn
 rw[show PySem.W.findIn K (.ref C) f=some none from n]
 rfl
structure Meth (K:PySem.W.Frag) (C:Addr) (m:Str) (f:Addr):Prop where
 at_:PySem.W.findIn K (.ref C) m=some (some (.ref f))
 fn:PySem.W.isFn K (.ref f)=true
 kp:PySem.W.keepIn K (.ref f)=true
variable{m:Str}
section
variable{fs:List (Str×V)}{f:Str}
theorem xS{b:Bool}(I:Inv X Ni σ H s)(e:H a=some (.ins C dx fs))(c:lp X.K C)(n:bM X.K C f)(l:fs.lookup f=some v)
  (h:∀ u s',Inv X Ni σ H s'->RelV v u->Q u s'):wpAny (model X.prog X.w) A (getAttr (.ref a) f b) Q E s:=by
 obtain⟨mA,O,r,_,_,_⟩:=l_ I.bT e
 obtain⟨u,hu,ru⟩:=mX.some_of (v:=v) (o:=mA f) (by rw[← l];exact r f)
 exact get_map I.kD O (c.get f) c.hd n hu (zk ru) (h u _ (I.tok _) ru)
theorem pS{g:Addr}{Q:Value×List Value->Shared->Prop}(I:Inv X Ni σ H s)(e:H a=some (.ins C dx fs))(c:lp X.K C)(k:Meth X.K C m g)(l:fs.lookup m=none)
  (h:Q (.ref g,[.ref a]) s):wpAny (model X.prog X.w) A (getMethod (.ref a) m pl) Q E s:=by
 obtain⟨mA,O,r,_,_,_⟩:=l_ I.bT e
 have hn:mA m=none:=mX.none_of (by rw[← l];exact r m)
 exact CC I.kD O (c.get m) k.at_ k.fn hn h
theorem wI{y:V}{Q:Unit->Shared->Prop}(I:Inv X Ni σ H s)(e:H a=some (.ins C dx fs))(c:lp X.K C)(n:bM X.K C f)(hl:fs.length<1000)(ry:RelV y u)
  (h:∀ s',Inv X Ni σ (upd H a (.ins C dx (kc f y fs))) s'->Q () s'):wpAny (model X.prog X.w) A (setAttr (.ref a) f u) Q E s:=by
 obtain⟨mA,O,r,wi,_,ho⟩:=l_ I.bT e
 have hz:(fs.map (·.1)).length<=sizeLine:=by rw[List.length_map,sizeLine_eq];omega
 refine Ew I.kD O c.sa c.po n.FV c.hd wi hz λh' O' sb=>h _ ?_
 have hd:∃ o,h'.get? dx=some o:=let ⟨o,_,_,e',_⟩:=O'.ns;⟨o,e'⟩
 refine I.write (x:=a) (e:=dx) (by rw[e];exact True.intro) (.inr ho) (λb q hb z=>(sb.2 b hb).trans z) hd ?_
 refine⟨by rw[ar O.ne];exact ho,?_,O.ne,O'.obj,_,O'.ns,λg=>?_,λg hg=>?_⟩
 ·have:=nV f y fs;omega
 ·show mX ((kc f y fs).lookup g) (if g=f then some u else mA g)
  rw[nR]
  by_cases q:g=f
  ·rw[if_pos q,if_pos q];exact ry
  ·rw[if_neg q,if_neg q];exact r g
 ·by_cases q:g=f
  ·rw[q];exact(ni f y fs).1
  ·refine(ni f y fs).2 g (wi g λz=>hg ?_)
   show (if g=f then some u else mA g)=none
   rw[if_neg q];exact z
theorem Inv.made(I:Inv X Ni σ H s):Inv X Ni σ (upd (upd H s.heap.objs.size (.own (s.heap.objs.size+1))) (s.heap.objs.size+1) (.ins C s.heap.objs.size []))
  { s with heap:=(s.heap.push PySem.W.emptyDict).push (PySem.W.instObj C s.heap.objs.size) }:=by
 have e1:(s.heap.push PySem.W.emptyDict).get? s.heap.objs.size=some PySem.W.emptyDict:=Heap.get?_push_size s.heap rfl
 have e2:((s.heap.push PySem.W.emptyDict).push (PySem.W.instObj C s.heap.objs.size)).get? (s.heap.objs.size+1)=some (PySem.W.instObj C s.heap.objs.size):=by
  have:=Heap.get?_push_size (s.heap.push PySem.W.emptyDict) (o:=PySem.W.instObj C s.heap.objs.size) rfl
  rwa [Heap.size_push] at this
 have e3:(s.heap.push PySem.W.emptyDict).Ns s.heap.objs.size (λ_=>none):=⟨PySem.W.emptyDict,#[],_,e1,rfl,(λe he=>absurd he (by simp)),λ_=>rfl⟩
 have I1:=I.laid (a:=s.heap.objs.size) (o:=.own (s.heap.objs.size+1)) (h':=s.heap.push PySem.W.emptyDict) (t':=s.toks) (λb u q=>Heap.get?_push_of_some _ q) (Nat.le_refl _) ⟨_,e1⟩
 refine I1.laid (a:=s.heap.objs.size+1) (o:=.ins C s.heap.objs.size []) (t':=s.toks) (λb u q=>Heap.get?_push_of_some _ q) (Nat.le_of_eq (Heap.size_push _ _)) ?_
 have ne:s.heap.objs.size≠s.heap.objs.size+1:=Nat.ne_of_lt (Nat.lt_succ_self _)
 refine⟨by rw[ar ne,az],Nat.zero_le _,ne,e2,λ_=>none,(Heap.Ns1.of_empty e3).at λo q=>Heap.get?_push_of_some _ q,λ_=>True.intro,λy hy=>absurd rfl hy⟩
theorem EB{env:Env}{f:Str}{pos:Pos}(hb:attributeBase e f env (eval e env)=eval e env)
  (h:wpAny (model prog w) A (eval e env) (λo s₁=>wpAny (model prog w) A (getAttr o f true) Q E s₁) E s):wpAny (model prog w) A (eval (.Attribute e f pos) env) Q E s :=
 Attribute_any_ h (by rw[arm_eval_Attribute,hb])
end
def LB(K:PySem.W.Frag)(ta:TE)(f:Str):TE:=fun σ H Q=>ta σ H λx H1=>∃ a C dx fs v,x=.ref a/\H1 a=some (.ins C dx fs)/\lp K C/\bM K C f/\fs.lookup f=some v/\Q v H1
def LK(K:PySem.W.Frag)(ta tv:TE)(f:Str):TS:=λD σ H=>tv σ H λy H1=>ta σ H1 λx H2=>∃ a C dx fs,x=.ref a/\H2 a=some (.ins C dx fs)/\lp K C/\bM K C f/\fs.length<1000 ∧
 D.nx σ (upd H2 a (.ins C dx (kc f y fs)))
section
variable{o value:Expr}{f:Str}{pos pos' tpos:Pos}{tv:TE}
theorem HI(he:PE X e ta)(hb:attributeBase e f X.env (eval e X.env)=eval e X.env):PE X (.Attribute e f pos) (LB X.K ta f):=by
 intro Ni s σ H Q I h
 refine EB hb (dh (he Ni s σ H _ I h) λu s1 ⟨x,H1,I1,rx,a,C,dx,fs,v,ex,ea,c,n,l,q⟩=>?_)
 subst ex
 obtain rfl:u=Value.ref a:=rx
 exact xS I1 ea c n l λu' s2 I2 ru=>⟨v,H1,I2,ru,q⟩
theorem Hv(ha:PE X o ta)(hv:PE X value tv)(hs:swapsWith value (some (.Attribute o f pos')) pos.line X.env=pure false):PS X (.Assign [.Attribute o f pos'] value pos) (LK X.K ta tv f):=by
 intro Ni s σ H D I h
 refine plainObj_wpAny_Assign_Attribute (dh (hv Ni s σ H _ I h) λu s1 ⟨y,H1,I1,ry,q⟩=>dh (ha Ni s1 σ H1 _ I1 q) λov s2 ⟨x,H2,I2,rx,a,C,dx,fs,ex,ea,c,n,l,q2⟩=>?_) hs
 subst ex
 obtain rfl:ov=Value.ref a:=rx
 exact wI I2 ea c n l ry λs3 I3=>⟨σ,_,I3,q2⟩
end
section
variable{c:Value}{b:Bool}
inductive kH (K:PySem.W.Frag) (H:Hp):V->Value->Prop where
 | cy:kH K H .cy (.type "NoneType")
 | bl (x:Bool):kH K H (.bl x) (.type "bool")
 | int (i:Int):kH K H (.int i) (.type "int")
 | str (x:Str):kH K H (.str x) (.type "str")
 | FI (x:UInt64):kH K H (.FI x) (.type "float")
 | lst {a:Addr} {xs:List V} (e:H a=some (.lst xs)):kH K H (.ref a) (.type "list")
 | qU {a:Addr} {o:Obj} {xs:List V} (e:H a=some (.qU o (.lst xs))):kH K H (.ref a) (.type "list")
 | tup {a:Addr} {xs:List V} (e:H a=some (.tup xs)):kH K H (.ref a) (.type "tuple")
 | dK {a:Addr} {Ob:List (Key×V)} (e:H a=some (.dK Ob)):kH K H (.ref a) (.type "dict")
 | dT {a:Addr} {Ob:List (List Key×V)} (e:H a=some (.dT Ob)):kH K H (.ref a) (.type "dict")
 | ins {a C dx:Addr} {fs:List (Str×V)} (e:H a=some (.ins C dx fs)) (cl:lp K C) (ha:PySem.W.findIn K (.ref C) "__class__" = some (some (.builtin "object.__class__")))
   (hn:PySem.W.specialIn K (.builtin "object.__class__") "__get__" = some (some (.builtin "getset_descriptor.__get__"))) (Jk:PySem.W.takesIn K (.builtin "object.__class__")=some true)
   (hm:PySem.W.mroIn K C (.type "object")=some true):kH K H (.ref a) (.ref C)
theorem zD{x:V}{t:Value}(I:Inv X Ni σ H s)(rx:RelV x u)(ty:kH X.K H x t)(e:PySem.W.kitOne X.K t c=some b)(h:∀ tk,Q (.bool b) { s with toks:=tk }) :
  wpAny (model X.prog X.w) A (call (.builtin "isinstance") [u,c]) Q E s:=by
 cases ty with
 | cy=>cases (show u=Value.none from rx);exact PySem.W.kia_one PySem.W.kitx_none I.kD True.intro e (λz=>nomatch z) h
 | bl y=>cases (show u=Value.bool y from rx);exact PySem.W.kia_one PySem.W.kitx_bool I.kD True.intro e (λz=>nomatch z) h
 | int i=>obtain⟨t,q⟩:=(show ∃ t,u=Value.int i t from rx);cases q;exact PySem.W.kia_one PySem.W.kitx_int I.kD True.intro e (λz=>nomatch z) h
 | str y=>obtain⟨t,q⟩:=(show ∃ t,u=Value.str y t from rx);cases q;exact PySem.W.kia_one PySem.W.kitx_str I.kD True.intro e (λz=>nomatch z) h
 | FI y=>obtain⟨t,q⟩:=(show ∃ t,u=Value.float y t from rx);cases q;exact PySem.W.kia_one PySem.W.kitx_float I.kD True.intro e (λz=>nomatch z) h
 | @lst a xs ea =>
  cases (show u=Value.ref a from rx)
  obtain⟨_,_,n,_,h1⟩:=(show cM X.prog X.w H s.heap a (.lst xs) from I.bT a _ ea)
  exact PySem.W.kia_one PySem.W.kitx_list I.kD ⟨_,h1,rfl⟩ e (λz=>nomatch z) h
 | @qU a ob xs ea =>
  cases (show u=Value.ref a from rx)
  obtain⟨_,_,_,n,_,h1⟩:=(show cM X.prog X.w H s.heap a (.qU ob (.lst xs)) from I.bT a _ ea)
  exact PySem.W.kia_one PySem.W.kitx_list I.kD ⟨_,h1,rfl⟩ e (λz=>nomatch z) h
 | @tup a xs ea =>
  cases (show u=Value.ref a from rx)
  obtain⟨_,_,_,p⟩:=(show cM X.prog X.w H s.heap a (.tup xs) from I.bT a _ ea)
  obtain⟨o,h1,h2,_⟩:=p
  exact PySem.W.kia_one PySem.W.kitx_tuple I.kD ⟨o,h1,h2⟩ e (λz=>nomatch z) h
 | @dK a Ob ea =>
  cases (show u=Value.ref a from rx)
  obtain⟨_,_,vs,_,p⟩:=(show cM X.prog X.w H s.heap a (.dK Ob) from I.bT a _ ea)
  obtain⟨o,es,ep,h1,h2,_⟩:=p
  exact PySem.W.kia_one PySem.W.kitx_dict I.kD ⟨o,h1,h2.1⟩ e (λz=>nomatch z) h
 | @dT a Ob ea =>
  cases (show u=Value.ref a from rx)
  obtain⟨_,_,xs,_,o,es,ep,h1,h2,_⟩:=(show cM X.prog X.w H s.heap a (.dT Ob) from I.bT a _ ea)
  exact PySem.W.kia_one PySem.W.kitx_dict I.kD ⟨o,h1,h2.1⟩ e (λz=>nomatch z) h
 | @ins a C dx fs ea cl ha hn Jk hm =>
  cases (show u=Value.ref a from rx)
  obtain⟨mA,O,_⟩:=l_ I.bT ea
  obtain⟨od,J,_⟩:=O.look
  exact PySem.W.kia_one (PySem.W.kitx_own (cl.get _) cl.hd ha hn Jk hm) I.kD J e (λz=>nomatch z) h
end
structure cQ (k:Nat) (A:Around):Prop where
 hd:A.handled=none
 dp:A.depth+3*k+5<recursionLimit
 un:A.units+16*k+200<cLine
theorem cQ.mono{j:Nat}(r:cQ k A)(h:j<=k):cQ j A:=⟨r.hd,by have:=r.dp;omega,by have:=r.un;omega⟩
theorem cQ.deeper{k:Nat}{A:Around}(r:cQ (k+1) A)(env:Env):cQ k (A.deeper env) :=
 ⟨r.hd,by have:=r.dp;show A.depth+1+3*k+5<_;omega,by have:=r.un;show A.units+3+16*k+200<_;omega⟩
theorem xW:(A.under (.builtin "type.__call__" ⟨.ref C::us,kw⟩)).depth=A.depth+1:=by
 first | rfl | simp[Around.under,Code.weight,Code.isCreation,Code.isGuard,Code.isCaller,Code.frames,Code.isFrame,guardIds]
theorem wK:(A.under (.builtin "type.__call__" ⟨.ref C::us,kw⟩)).units=A.units+1:=by
 first | rfl | simp[Around.under,Code.cUnits,Code.frames,Code.isFrame]
theorem cQ.make(r:cQ (k+1) A)(C:Addr)(us:List Value)(kw:List (Str×Value)):cQ k (A.under (.builtin "type.__call__" ⟨.ref C::us,kw⟩)) :=
 ⟨r.hd,by have:=r.dp;rw[xW];omega,by have:=r.un;rw[wK];omega⟩
theorem cQ.depth{k:Nat}{A:Around}(r:cQ k A):A.depth<recursionLimit:=by have:=r.dp;omega
theorem cQ.units{k:Nat}{A:Around}(r:cQ k A):A.units+64<cLine:=by have:=r.un;omega
def xH:TA:=λ_ H Q=>Q [] H
def uQ(ta:TE)(tr:TA):TA:=fun σ H Q=>ta σ H λx H1=>tr σ H1 λxs H2=>Q (x::xs) H2
variable{t:TA}
section
variable{pos:Pos}
theorem jg:PA X [] xH:=λ_ _ _ _ H Q I h=>Calls.spliced_nil ⟨[],H,I,.nil,h⟩
theorem dX(ha:PE X e te)(hr:PA X es t)(hs:autoParam (starEach (e::es) X.env=(false,eval e X.env)::starEach es X.env) aR._auto_1):PA X (e::es) (uQ te t):=by
 intro pos Ni s σ H Q I h
 rw[hs]
 show wpAny _ _ (spliced ((false,eval e X.env)::backTo pos (starEach es X.env))) _ _ s
 refine Calls.spliced_cons (dh (ha Ni s σ H _ I h) λu s1 ⟨x,H1,I1,r1,q1⟩=>?_)
 exact dh (hr pos Ni s1 σ H1 _ I1 q1) λus s2 ⟨xs,H2,I2,r2,q2⟩=>⟨x::xs,H2,I2,.cons r1 r2,q2⟩
def My(t:TA):TE:=fun σ H Q=>t σ H λxs H1=>xs.length<=sizeLine/\∀ p,H1 p=none->Q (.ref p) (upd H1 p (.tup xs))
def Eo(t:TA):TE:=fun σ H Q=>t σ H λxs H1=>xs.length<=sizeLine/\∀ p,H1 p=none->Q (.ref p) (upd H1 p (.lst xs))
theorem Bl{x1}(h:PA X es t):PE X (.Tuple es x1 pos) (My t):=by
 intro Ni s σ H Q I hq
 refine wpAny_Tuple_spliced (dh (h pos Ni s σ H _ I hq) λus s1 ⟨xs,H1,I1,r,z,q⟩=>⟨by rw[← r.length];exact z,?_⟩)
 have hf:H1 s1.heap.objs.size=none:=I1.bT.fresh (Nat.le_refl _)
 refine⟨.ref s1.heap.objs.size,upd H1 s1.heap.objs.size (.tup xs),I1.laid (t':=s1.toks) (λb u e=>Heap.get?_push_of_some _ e) (Nat.le_refl _) ?_,rfl,q _ hf⟩
 exact⟨z,us,r,⟨_,Heap.get?_push_size _ rfl,rfl,_,rfl⟩⟩
theorem p8(h:PA X es t):PE X (.List es pos) (Eo t):=by
 intro Ni s σ H Q I hq
 refine wpAny_List_spliced (dh (h pos Ni s σ H _ I hq) λus s1 ⟨xs,H1,I1,r,z,q⟩=>⟨by rw[← r.length];exact z,?_⟩)
 have hf:H1 s1.heap.objs.size=none:=I1.bT.fresh (Nat.le_refl _)
 refine⟨.ref s1.heap.objs.size,upd H1 s1.heap.objs.size (.lst xs),I1.laid (t':=s1.toks) (λb u e=>Heap.get?_push_of_some _ e) (Nat.le_refl _) ?_,rfl,q _ hf⟩
 exact⟨z,us,0,r,Heap.get?_push_size _ rfl⟩
end
abbrev Sp:=List V->Hp->VK->XK->Prop
abbrev Jm:=List Env->Hp->Shared->XK->Value->Shared->Prop
structure wG (P:Program) (w:World) (K:PySem.W.Frag) (mg:Str->Option Value) (base:Heap) (A:Around) (outer:List Env) (s:Shared) (H:Hp):Prop where
 frames:A.frames=some outer
 mod:Mod K mg base
 bs:∀ b o,base.get? b=some o->s.heap.get? b=some o/\H b=none
 FU:base.objs.size<=s.heap.objs.size
 oF:s.heap.FunFrames base outer
 HJ:∀ b∈wD outer,H b=none
 bT:nQ P w H s.heap
 bare:AllBare s.gens
def CE(outer:List Env)(P:Program)(w:World)(H:Hp)(s:Shared)(Q:VK)(u:Value)(s':Shared):Prop :=
 ∃ v H',s'.os=s.os/\AllBare s'.gens/\Un (wD outer) [] H H' s.heap s'.heap/\nQ P w H' s'.heap/\RelV v u/\Q v H'
def CR(CX:Jm)(outer:List Env)(P:Program)(w:World)(H:Hp)(s:Shared)(Q:VK)(E:XK)(r:Result)(s':Shared):Prop :=
 match r with
 | .ok (.ret u)=>CE outer P w H s Q u s'
 | .ok _=>False
 | .error e=>CX outer H s E e s'
structure aV (P:Program) (w:World) (K:PySem.W.Frag) (mg:Str->Option Value) (base:Heap) (CX:Jm) (k:Nat) (f:Addr) (fd:FuncData) (ps:List Str) (sp:Sp):Prop where
 len:∀ vs H Q E,sp vs H Q E->vs.length=ps.length
 run:∀ (A:Around) (outer:List Env) (s:Shared) (H:Hp) (args:Args) (us:List Value) (vs:List V) (Q:VK) (E:XK),cQ k A->wG P w K mg base A outer s H->BindsTo s fd args (ps.zip us)->Vals vs us->sp vs H Q E ->
  codeAny (model P w) A (.call (.ref f) args) (CR CX outer P w H s Q E) s
variable{outer:List Env}{base:Heap}{mg:Str->Option Value}
theorem wG.make{K:PySem.W.Frag}(e:wG P w K mg base A outer s H)(C:Addr)(us:List Value)(kw:List (Str×Value)) :
  wG P w K mg base (A.under (.builtin "type.__call__" ⟨.ref C::us,kw⟩)) outer s H:=⟨by first | exact e.frames | (simpa [Around.under,Code.envs,Code.isFrame,pushEnvs] using e.frames),e.mod,e.bs,e.FU,e.oF,e.HJ,e.bT,e.bare⟩
section
variable{s':Shared}
theorem Inv.lP(I:Inv X Ni σ H s):wG X.prog X.w X.K X.mg X.base X.A X.stack s H :=
 ⟨I.ok.frames,I.ok.mod,I.bs,Nat.le_trans I.ok.FU I.sz,I.stack,I.sX,I.bT,I.bare⟩
theorem Inv.after{Q:VK}(I:Inv X Ni σ H s)(h:CE X.stack X.prog X.w H s Q u s'):EP X Ni σ Q u s':=by
 obtain⟨v,H',os,bare,un,bT,r,q⟩:=h
 obtain⟨hh,g,d,t,os'⟩:=s'
 obtain rfl:os'=s.os:=os
 exact⟨v,H',I.call (h':=hh) (g':=g) (d':=d) (t':=t) (ch:=[]) un bT bare (λb z=>absurd z (by simp)),r,q⟩
end
def Binds(K:PySem.W.Frag)(fd:FuncData)(ps:List Str)(ds:List Value):Prop :=
 ∀ (s:Shared) (us:List Value),K.In s.heap->(us++ds).length=ps.length->BindsTo s fd ⟨us,[]⟩ (ps.zip (us++ds))
variable{ps:List Str}{fd:FuncData}
theorem Binds.all{K:PySem.W.Frag}(h:∀ us:List Value,us.length=ps.length->bindArgs fd ⟨us,[]⟩=pure (ps.zip us)):Binds K fd ps []:=λs us _ hl=>by
 rw[List.append_nil] at hl ⊢
 exact .of_eq (h us hl)
variable{sp:Sp}{CX:Jm}
section
variable{f:Addr}{N8:List V}{ds:List Value}{E:XK}{pos apos:Pos}{o:Expr}
structure Mk (K:PySem.W.Frag) (C f:Addr):Prop where
 makes:PySem.W.makesIn K C=true
 init:PySem.W.findIn K (.ref C) "__init__" = some (some (.ref f))
 fn:PySem.W.isFn K (.ref f)=true
 kp:PySem.W.keepIn K (.ref C)=true
end
section
variable{f:Addr}{ks:List Str}{E:XK}{pos apos kpos:Pos}{o:Expr}{kws:List Keyword}{tk:TA}{nm:Option Str}
variable{g:List Value->List Value->List Value}{gV:List V->List V->List V}
end
structure cL (N P:List Str) (sc:Scope):Prop where
 kind:sc.kind=.function
 co:sc.isCoroutine=false
 gen:sc.isGenerator=false
 nd:N.Nodup
 pre:N.take P.length=P
 par:∀ x∈P,sc.names.lookup x=some .local\/sc.names.lookup x=some .cell
 IQ:∀ y∈sc.names,y.2≠.free
theorem rD{kindOf:Str->Option NameKind}{x:Str}:∀ {binds:List (Str×Value)} {m:Str->Option Value},(∀ v,(x,v) ∉ binds)->bindL kindOf binds m x=m x
 | [],_,_=>rfl
 | (n,v)::r,m,h=>by
  unfold bindL
  rw[rD λw hw=>h w (List.mem_cons_of_mem _ hw)]
  split
  ·have:x≠n:=by rintro rfl;exact h v List.mem_cons_self
   simp[this]
  ·rfl
theorem rK{kindOf:Str->Option NameKind}{x:Str}:∀ {binds:List (Str×Value)} {m:Str->Option Value},(∀ v,(x,v) ∉ binds)->bindC kindOf binds m x=m x
 | [],_,_=>rfl
 | (n,v)::r,m,h=>by
  unfold bindC
  rw[rK λw hw=>h w (List.mem_cons_of_mem _ hw)]
  split
  ·rfl
  ·have:x≠n:=by rintro rfl;exact h v List.mem_cons_self
   simp[this]
theorem sA{kindOf:Str->Option NameKind}{x:Str}{v:Value}:∀ {P:List Str} {vs:List Value} {i:Nat} {m:Str->Option Value},P.Nodup->P[i]?=some x->vs[i]?=some v->kindOf x=some .local ->
  bindL kindOf (P.zip vs) m x=some v
 | [],_,_,_,_,h,_,_=>by simp at h
 | _::_,[],_,_,_,_,h,_=>by simp at h
 | p::P,w::vs,0,m,nd,h1,h2,hk=>by
  simp at h1 h2;subst h1;subst h2
  show bindL kindOf ((p,w)::P.zip vs) m p=_
  unfold bindL
  rw[rD λv hv=>(List.nodup_cons.mp nd).1 (List.of_mem_zip hv).1,if_pos hk]
  simp
 | p::P,w::vs,i+1,m,nd,h1,h2,hk=>by
  show bindL kindOf ((p,w)::P.zip vs) m x=_
  unfold bindL
  exact sA (i:=i) (List.nodup_cons.mp nd).2 (by simpa using h1) (by simpa using h2) hk
theorem sJ{kindOf:Str->Option NameKind}{x:Str}{v:Value}:∀ {P:List Str} {vs:List Value} {i:Nat} {m:Str->Option Value},P.Nodup->P[i]?=some x->vs[i]?=some v->kindOf x≠some .local ->
  bindC kindOf (P.zip vs) m x=some v
 | [],_,_,_,_,h,_,_=>by simp at h
 | _::_,[],_,_,_,_,h,_=>by simp at h
 | p::P,w::vs,0,m,nd,h1,h2,hk=>by
  simp at h1 h2;subst h1;subst h2
  show bindC kindOf ((p,w)::P.zip vs) m p=_
  unfold bindC
  rw[rK λv hv=>(List.nodup_cons.mp nd).1 (List.of_mem_zip hv).1,if_neg hk]
  simp
 | p::P,w::vs,i+1,m,nd,h1,h2,hk=>by
  show bindC kindOf ((p,w)::P.zip vs) m x=_
  unfold bindC
  exact sJ (i:=i) (List.nodup_cons.mp nd).2 (by simpa using h1) (by simpa using h2) hk
def start(N:List Str)(vs:List V):St:=vs.map some++List.replicate (N.length-vs.length) none
def my(CX:Jm)(P:Program)(w:World)(K:PySem.W.Frag)(mg:Str->Option Value)(base:Heap)(N:List Str)(qual:Str)(scope:Scope)(f:Addr)(cd:Value)(A:Around)(outer:List Env)(s:Shared)(H:Hp)(E:XK):Cx where
 prog:=P
 w:=w
 K:=K
 mg:=mg
 base:=base
 A:=A.deeper (envOfC qual scope s.heap.objs.size f cd)
 N:=N
 s₀:=s
 H₀:=H
 env:=envOfC qual scope s.heap.objs.size f cd
 outer:=outer
 stack:=envOfC qual scope s.heap.objs.size f cd::outer
 ex:=[]
 calm:=true
 fn:=λ_=>true
 pn:=[]
 xe:=λe s'=>wpAny (model P w) (A.deeper (envOfC qual scope s.heap.objs.size f cd)) (leaving (envOfC qual scope s.heap.objs.size f cd) e) (λ_ s''=>CX outer H s E e s'') (λe' s''=>CX outer H s E e' s'') s'
theorem uX{sc:Scope}(h:sc.names.lookup x=some .cell):∃ c,(cellsFrom n sc.names []).lookup x=some c:=by
 have q:=PySem.W.cellsFrom_some sc.names n [] (.inl h)
 exact Option.isSome_iff_exists.mp q
variable{scope:Scope}
theorem Ao{K:PySem.W.Frag}{qual:Str}{f:Addr}{cd:Value}{s1:Shared}{E:XK}{vs:List V}
  (S:cL N ps scope) (hd:A.handled=none) (e0:wG P w K mg base A outer s H) (hl:vs.length=ps.length) (r:Vals vs us)
  (x:InCallC s s.heap.objs.size (bindL (envOfC qual scope s.heap.objs.size f cd).kindOf (ps.zip us) λ_=>none) (cellsFrom (s.heap.objs.size+1) scope.names []) (bindC (envOfC qual scope s.heap.objs.size f cd).kindOf (ps.zip us) λ_=>none) s1) :
  Inv (my CX P w K mg base N qual scope f cd A outer s H E) [] (start N vs) H s1:=by
 have NO:ps.length<=N.length:=by have:=congrArg List.length S.pre;rw[List.length_take] at this;omega
 obtain⟨h1,tk,rfl,hk⟩:=x.done
 have xE:∀ b:Addr,b ∉ (my CX P w K mg base N qual scope f cd A outer s H E).ex:=λb z=>absurd (show b∈([]:List Addr) from z) (by simp)
 refine⟨⟨e0.mod,S.kind,rfl,rfl,Nat.le_refl _,λy z c h1 h2=>?_,λy hy=>?_,λy c _ h=>?_,λ_=>hd,Around.frames_deeper e0.frames,.inr ⟨rfl,rfl⟩,λb z=>absurd z (xE b),e0.bs,e0.FU,λb _ _=>xE b,λb z=>absurd z (xE b),e0.oF,e0.HJ⟩,
  rfl,e0.bare,Un.kept hk,⟨_,x.toInCall.ns,λi y v h1 h2 h3=>?_⟩,λy c h=>⟨_,x.cell y c h⟩,e0.bT.fresh (Nat.le_refl _),λy c h=>?_,λp hp=>absurd (show p∈([]:List (Addr×Obj)) from hp) (by simp),e0.bT.kept hk,?_⟩
 ·exact name_of_addr x.apart (PySem.mem_of_lookup h1) (PySem.mem_of_lookup h2)
 ·have hy:scope.names.lookup y=some .cell\/scope.names.lookup y=some .free:=hy
  rcases hy with hy | hy
  ·exact uX hy
  ·exact absurd rfl (S.IQ _ (PySem.mem_of_lookup hy))
 ·exact Nat.le_of_lt (x.above y c (PySem.mem_of_lookup h))
 ·have hi:i<vs.length:=by
   unfold start at h2
   by_cases hi:i<vs.length
   ·exact hi
   ·rw[List.getElem?_append_right (by simpa using hi)] at h2
    rw[List.getElem?_replicate] at h2
    split at h2 <;> cases h2
  have ha:vs[i]?=some v:=by
   unfold start at h2
   rw[List.getElem?_append_left (by simpa using hi),List.getElem?_map] at h2
   cases e:vs[i]? with
   | none=>rw[e] at h2;cases h2
   | some a=>rw[e] at h2;cases h2;rfl
  obtain⟨u,hu,rv⟩:=r.get ha
  have hp:ps[i]?=some y:=by
   rw[← S.pre,List.getElem?_take_of_lt (by omega)];exact h1
  have ndP:ps.Nodup:=by rw[← S.pre];exact S.nd.sublist (List.take_sublist _ _)
  refine⟨u,rv,?_⟩
  rcases S.par y (List.mem_of_getElem? hp) with k | k
  ·exact .inl ⟨k,sA ndP hp hu k⟩
  ·obtain⟨c,e⟩:=uX (n:=s.heap.objs.size+1) k
   refine .inr ⟨.inl k,c,e,?_⟩
   have q:=x.cell y c e
   rw[sJ ndP hp hu (by show scope.names.lookup y≠_;rw[k];decide)] at q
   exact q
 ·exact e0.bT.fresh (Nat.le_of_lt (x.above y c (PySem.mem_of_lookup h)))
 ·unfold start
  show _=N.length
  rw[List.length_append,List.length_map,List.length_replicate]
  omega
theorem KN{K:PySem.W.Frag}{f:Addr}{name qual:Str}{params:Arguments}{dV kV doc pm NF ct oc:Value}{an od:Option Addr}
  {P5:Array (Option Value)} (lk:K.lookup f=some ⟨oc,od,.func (PySem.W.fnOf name qual params body scope dV kV doc pm an NF ct),P5⟩) (OB:PySem.W.codeIn K NF qual=true) (S:cL N ps scope)
  (len:∀ vs H Q E,sp vs H Q E->vs.length=ps.length)
  (PD:∀ (A:Around) (outer:List Env) (s:Shared) (H:Hp) (vs:List V) (Q:VK) (E:XK),cQ k (A.deeper (envOfC qual scope s.heap.objs.size f NF))->sp vs H Q E ->
   ∃ t,lY (my CX P w K mg base N qual scope f NF A outer s H E) body t/\t { nx:=λ_ H'=>Q .cy H',rt:=Q } (start N vs) H) :
  aV P w K mg base CX (k+1) f (PySem.W.fnOf name qual params body scope dV kV doc pm an NF ct) ps sp:=by
 refine⟨len,λA outer s H args us vs Q E hr e0 hb r hsp=>?_⟩
 have hl:=len _ _ _ _ hsp
 have KX:K.In s.heap:=e0.mod.FK.keeps λb o e=>(e0.bs b o e).1
 have lim:s.heap.NoLimit:=e0.mod.nolimit.keeps λb o e=>(e0.bs b o e).1
 have Q9:∀ y∈ps.zip us,scope.names.lookup y.1=some .local\/(scope.names.lookup y.1=some .cell/\((cellsFrom (s.heap.objs.size+1) scope.names []).lookup y.1).isSome=true):=λ⟨n,v⟩ hy=>by
  rcases S.par n (List.of_mem_zip hy).1 with q | q
  ·exact .inl q
  ·exact .inr ⟨q,PySem.W.cellsFrom_some _ _ _ (.inl q)⟩
 refine codeAny_call_function hr.depth (KX _ _ lk) rfl S.co S.gen rfl (PySem.W.codeRec_of KX OB) (hb _ _ _ _ ?_)
 refine wpAny_newFunctionEnv_cells S.kind Q9 λenv he s1 x=>?_
 subst he
 refine⟨lim.keeps x.toInCall.keep,codeAny_func ?_⟩
 obtain⟨t,ht,hq⟩:=PD A outer s H vs Q E (hr.deeper _) hsp
 have I:Inv (my CX P w K mg base N qual scope f NF A outer s H E) [] (start N vs) H s1:=Ao S hr.hd e0 hl r x
 refine wpAny_mono (ht [] s1 (start N vs) H _ I hq) (λfl s' hs=>?_) λe s' hs=>hs
 have fin:∀ {σ':St} {H':Hp} {v:V} {u:Value},Inv (my CX P w K mg base N qual scope f NF A outer s H E) [] σ' H' s'->RelV v u->Q v H'->CE outer P w H s Q u s' :=
  λ{σ' H' v u} J rv q=>⟨v,H',J.os,J.bare,J.base,J.bT,rv,q⟩
 cases fl with
 | ret u =>
  obtain⟨v,σ',H',J,rv,q⟩:=hs
  exact fin J rv q
 | next =>
  obtain⟨σ',H',J,q⟩:=hs
  exact fin (v:=V.cy) (u:=Value.none) J rfl q
 | brk =>
  obtain⟨_,_,_,q⟩:=hs
  exact False.elim q
 | cont =>
  obtain⟨_,_,_,q⟩:=hs
  exact False.elim q
section
variable{pos:Pos}{id T:String}{r:List V->Hp->VK->Prop}
def KQ(r:List V->Hp->VK->Prop)(t:TA):TE:=fun σ H Q=>t σ H λvs H1=>r vs H1 Q
theorem mJ(hc:dR X (.builtin id) r)(hg:Gl X x)(hm:X.mg x=none)(hv:bootBuiltins x=some (.builtin id))(ha:PA X (e::es) t)(hn:autoParam (x ≠ "__name__") aD._auto_1)(Oh:autoParam ((x==("__debug__" : Str))=false) aD._auto_1)
  (he:autoParam (starEach (e::es) X.env=(false,eval e X.env)::starEach es X.env) aR._auto_1) (NO:autoParam ((backTo pos (starEach es X.env)).any (·.1)=false) aR._auto_1):PE X (.Call (.Name x p) (e::es) [] pos) (KQ r t):=by
 intro Ni s σ H Q I h
 refine wpAny_Call_Name_kw (jY I hg hm hv ?_ hn Oh)
 exact PyProof.Rows.callWith_builtin1 (dh (ha pos Ni s σ H _ I h) λus s1 ⟨vs,H1,I1,r1,q1⟩=>hc Ni s1 σ H1 vs us Q I1 r1 q1) he NO
theorem zm(hc:dR X (.type T) r)(hg:Gl X x)(hm:X.mg x=none)(hv:bootBuiltins x=some (.type T))(ha:PA X (e::es) t)(hn:autoParam (x ≠ "__name__") aD._auto_1)(Oh:autoParam ((x==("__debug__" : Str))=false) aD._auto_1)
  (he:autoParam (starEach (e::es) X.env=(false,eval e X.env)::starEach es X.env) aR._auto_1) (NO:autoParam ((backTo pos (starEach es X.env)).any (·.1)=false) aR._auto_1):PE X (.Call (.Name x p) (e::es) [] pos) (KQ r t):=by
 intro Ni s σ H Q I h
 refine wpAny_Call_Name_kw (jY I hg hm hv ?_ hn Oh)
 exact PyProof.Rows.callWith_type1 (dh (ha pos Ni s σ H _ I h) λus s1 ⟨vs,H1,I1,r1,q1⟩=>hc Ni s1 σ H1 vs us Q I1 r1 q1) he NO
end
end L2
namespace HT
open PySem PyProof.Rows
section
open PySem.SeqAt
open PySem.AutoSeq1 (wpAny_loadPart')
open PySem.MeetsSeq PySem.MeetsSeq2 PySem.MeetsSeq3
end
variable{Q:Value->Shared->Prop}
section
variable{prog:Program}{w:World}{A:Around}{E:Value->Shared->Prop}{s:Shared}
theorem E1{t b:Addr}{vs ws:List Value}(ht:IsTup s.heap t vs.toArray)(hb:IsTup s.heap b ws.toArray)(hv:vs≠[])
  (h1:ws=[]->Q (.ref t) s) (h2:ws≠[]->Q (.ref s.heap.objs.size) { s with heap:=s.heap.push { cls:=.type "tuple", data:=.seq (vs++ws).toArray } })
  (OQ:vs.length+ws.length<=sizeLine):wpAny (model prog w) A (binaryOp .Add (.ref t) (.ref b)) Q E s:=by
 obtain⟨⟨cls,dd,data,sl⟩,ho,hc,n,hd⟩:=id ht
 obtain⟨⟨cls2,QS,data2,sl2⟩,Pw,Qf,n2,hd2⟩:=id hb
 simp only at hc hd Qf hd2
 subst hc hd Qf hd2
 have e:vs.toArray++ws.toArray=(vs++ws).toArray:=by simp
 by_cases hw:ws=[]
 ·exact concat_meets ⟨_,ho,rfl⟩ ⟨_,Pw,rfl⟩ noFill_tuple_add seq_tuple_add PySem.F.slot_tuple_add PySem.F.entry_tuple_add (PySem.F.args_tuple_add_2 _ _)
   (tuple_addW1 t b vs.toArray ws.toArray n n2 dd QS sl sl2 (by simpa using hv) (by simp[hw])) ⟨ho,Pw,h1 hw⟩
 ·refine concat_meets ⟨_,ho,rfl⟩ ⟨_,Pw,rfl⟩ noFill_tuple_add seq_tuple_add PySem.F.slot_tuple_add PySem.F.entry_tuple_add (PySem.F.args_tuple_add_2 _ _)
   (tuple_addW2 t b vs.toArray ws.toArray n n2 dd QS sl sl2 (by simpa using hv) (by simpa using hw) (by rw[List.size_toArray,List.size_toArray];exact OQ)) ⟨ho,Pw,?_⟩
  rw[e]
  exact h2 hw
def dI(n d:Nat):Option Int->Nat
 | none=>d
 | some v=>if v<0 then (v+(n:Int)).toNat else min v.toNat n
theorem yd(n d k:Nat):dI n d (some (k:Int))=min k n:=by
 show (if (k:Int)<0 then ((k:Int)+(n:Int)).toNat else min (k:Int).toNat n)=min k n
 rw[if_neg (by omega),Int.toNat_natCast]
theorem GW(n d:Nat)(hd:d<=n)(o:Option Int):dI n d o<=n:=by
 cases o with
 | none=>exact hd
 | some v =>
  show (if v<0 then (v+(n:Int)).toNat else min v.toNat n)<=n
  by_cases hv:v<0
  ·rw[if_pos hv];omega
  ·rw[if_neg hv];exact Nat.min_le_right _ _
theorem ye(v:Int)(n d:Nat):(if v<0 then max (v+(n:Int)) 0 else min v (n:Int))=((dI n d (some v):Nat):Int):=by
 show (if v<0 then max (v+(n:Int)) 0 else min v (n:Int))=(((if v<0 then (v+(n:Int)).toNat else min v.toNat n):Nat):Int)
 by_cases hv:v<0
 ·simp only[if_pos hv];omega
 ·simp only[if_neg hv];omega
theorem xy(lo hi:Option Int)(n:Nat):Builtin.Slice.sliceAdjust lo hi 1 (n:Int)=(((dI n 0 lo:Nat):Int),((dI n n hi:Nat):Int)):=by
 have h1:¬ ((1:Int)<0):=by omega
 unfold Builtin.Slice.sliceAdjust
 simp only[h1,if_false]
 refine Prod.ext ?_ ?_
 ·cases lo with
  | none=>rfl
  | some v=>exact ye v n 0
 ·cases hi with
  | none=>rfl
  | some v=>exact ye v n n
theorem xV(i j:Nat):Builtin.Slice.slicePlaces (i:Int) (j:Int) 1=j-i:=by
 unfold Builtin.Slice.slicePlaces
 have h1:(1:Int)>0:=by omega
 simp only[h1,if_true,Int.ediv_one]
 split <;> omega
theorem qu{v:Value}{o:Option Int}{Q:Option Int->Shared->Prop}(p:IsPart v o)(h:Q o s):wpAny (model prog w) A (Builtin.Slice.slicePartIndex v) Q E s:=by
 cases p with
 | none=>exact slicePart_none h
 | int i t=>exact slicePart_int h
theorem jA{sl:Addr}{vl vu:Value}{lo hi:Option Int}{n:Nat}{Q:Int×Int×Nat->Shared->Prop}(hs:s.heap.IsSliceOf sl vl vu .none)(pl:IsPart vl lo)(pu:IsPart vu hi)
  (h:Q (((dI n 0 lo:Nat):Int),1,dI n n hi-dI n 0 lo) s):wpAny (model prog w) A (Builtin.Slice.sliceApplied (.ref sl) (pure (n:Int))) Q E s:=by
 obtain⟨os,QD,hcs,Q5⟩:=id hs
 unfold Builtin.Slice.sliceApplied Builtin.Slice.sliceFields
 refine wpAny_bind (wpAny_bind (wpAny_field QD Q5 (x:=vl) rfl (wpAny_bind (wpAny_field QD Q5 (x:=vu) rfl (wpAny_bind (wpAny_field QD Q5 (x:=.none) rfl (wpAny_pure ?_)))))))
 refine wpAny_bind (slicePart_none ?_)
 show wpAny _ _ (if ((1:Int)==0)=true then _ else _) _ _ s
 rw[if_neg (by decide)]
 refine wpAny_bind (qu pl (wpAny_bind (qu pu (wpAny_bind (wpAny_pure ?_)))))
 show wpAny _ _ (match Builtin.Slice.sliceAdjust lo hi 1 (n:Int) with | (lo,hi)=>pure (lo,(1:Int),Builtin.Slice.slicePlaces lo hi 1)) _ _ s
 rw[xy lo hi n]
 show wpAny _ _ (pure (((dI n 0 lo:Nat):Int),(1:Int),Builtin.Slice.slicePlaces ((dI n 0 lo:Nat):Int) ((dI n n hi:Nat):Int) 1)) _ _ s
 rw[xV]
 exact wpAny_pure h
theorem AW(xs:Array Value)(i k:Nat):((List.range k).filterMap λ(m:Nat)=>xs[((i:Int)+(m:Int)*1).toNat]?).toArray=((xs.toList.drop i).take k).toArray:=by
 have e:(λ(m:Nat)=>xs[((i:Int)+(m:Int)*1).toNat]?)=λm=>xs[i+m]?:=by
  funext m
  have:((i:Int)+(m:Int)*1).toNat=i+m:=by omega
  rw[this]
 rw[e]
 have:=pick_run xs i k
 rw[List.filterMap_map] at this
 have e2:((λx=>xs[x]?)∘λx=>i+x)=λm=>xs[i+m]?:=rfl
 rw[e2] at this
 rw[this]
theorem mH{t sl:Addr}{items:Array Value}{vl vu:Value}{lo hi:Option Int}(ht:IsTup s.heap t items)(hs:s.heap.IsSliceOf sl vl vu .none)(pl:IsPart vl lo)(pu:IsPart vu hi)
  (hw:¬ (dI items.size 0 lo=0/\dI items.size items.size hi=items.size))
  (h:Q (.ref s.heap.objs.size) { s with heap:=s.heap.push { cls:=.type "tuple", data:=.seq ((items.toList.drop (dI items.size 0 lo)).take (dI items.size items.size hi-dI items.size 0 lo)).toArray } })
  (OQ:items.size<=sizeLine):wpAny (model prog w) A (getItem (.ref t) (.ref sl)) Q E s:=by
 have Pp:sizeOk (.seq ((items.toList.drop (dI items.size 0 lo)).take (dI items.size items.size hi-dI items.size 0 lo)).toArray):=by
  show ((items.toList.drop (dI items.size 0 lo)).take (dI items.size items.size hi-dI items.size 0 lo)).toArray.size<=sizeLine
  rw[List.size_toArray,List.length_take,List.length_drop,Array.length_toList]
  omega
 have hj:dI items.size items.size hi<=items.size:=GW _ _ (Nat.le_refl _) hi
 obtain⟨os,QD,hcs,Q5⟩:=id hs
 have hTs:s.TypeIs (.ref sl) "slice" := ⟨os,QD,hcs⟩
 unfold getItem
 try with_reducible refine wpAny_holding ?_
 first | refine wpAny_bind (wpAny_pure ?_) | skip
 refine wpAny_bind (wpAny_sequenceKey ht.typeIs (by decide) ?_)
 refine wpAny_bind (wpAny_callSpecial?_slot (name:=Str.ofString "__getitem__") ht.typeIs PyProof.Rows.slot_tuple_getitem
  (wpAny_call_entry PyProof.Rows.slot_tuple_getitem ht.typeIs entry_tuple_getitem ?_ (args_tuple_getitem _ _)))
 show wpAny _ _ (Builtin.Tuple.tupleItemsOf (.ref t) >>= _) _ _ s
 refine wpAny_bind (tupleItemsOf_ ht ?_)
 refine wpAny_bind (wpAny_typeOf hTs ?_)
 rw[if_pos (by decide)]
 refine wpAny_bind (jA hs pl pu ?_)
 have hno:¬ ((((dI items.size 0 lo:Nat):Int)==0&&(1:Int)==1&&(dI items.size items.size hi-dI items.size 0 lo)==items.size)=true):=by
  intro q
  rw[Bool.and_eq_true,Bool.and_eq_true] at q
  have q1:((dI items.size 0 lo:Nat):Int)=0:=eq_of_beq q.1.1
  have q2:dI items.size items.size hi-dI items.size 0 lo=items.size:=eq_of_beq q.2
  exact hw ⟨by omega,by omega⟩
 show wpAny _ _ (if (((dI items.size 0 lo:Nat):Int)==0&&(1:Int)==1&&(dI items.size items.size hi-dI items.size 0 lo)==items.size)=true then _ else _) _ _ s
 rw[if_neg hno,AW]
 first
  | exact wpAny_bind (m:=Builtin.Tuple.tupleExact _) (wpAny_newObj_type (wpAny_pure ⟨_,rfl,wpAny_pure h⟩) Pp)
  | exact wpAny_bind (m:=Builtin.Tuple.tupleExact _) (wpAny_newObj_type (wpAny_bind (wpAny_pure (wpAny_pure ⟨_,rfl,wpAny_pure h⟩))) Pp)
  | exact wpAny_bind (wpAny_bind (m:=Builtin.Tuple.tupleExact _) (wpAny_newObj_type (wpAny_pure (wpAny_pure ⟨_,rfl,wpAny_pure h⟩)) Pp))
  | exact wpAny_bind (wpAny_bind (m:=Builtin.Tuple.tupleExact _) (wpAny_newObj_type (wpAny_pure ⟨_,rfl,wpAny_pure h⟩) Pp))
end
end HT
namespace L2
open PySem PySem.Spec PyProof.Rows
abbrev TO:=St->Hp->(Option Int->Hp->Prop)->Prop
def PO(X:Cx)(e:Option Expr)(t:TO):Prop :=
 ∀ (Ni:List (Addr×Obj)) (s:Shared) (σ:St) (H:Hp) (Q:Option Int->Hp->Prop),Inv X Ni σ H s->t σ H Q ->
  wpAny (model X.prog X.w) X.A (evalPart e X.env) (λu s'=>∃ o H',Inv X Ni σ H' s'/\IsPart u o/\Q o H') X.xe s
def Ko(t:TE):TO:=fun σ H Q=>t σ H λx H1=>∃ i,x=.int i/\Q (some i) H1
theorem intsAre_of{ns:List Int}:∀ {us:List Value},Vals (ns.map V.int) us->IntsAre us ns:=by
 induction ns with
 | nil=>intro us r;rw[List.map_nil] at r;cases r;exact .nil
 | cons n ns ih =>
  intro us r
  rw[List.map_cons] at r
  cases r with
  | cons r1 r2 =>
   obtain⟨t,e⟩:=r1
   subst e
   exact .cons n t (ih r2)
variable{e:Expr}{X:Cx}
variable{r:V->Option Int->Option Int->Hp->VK->Prop}
variable{xs:List V}
section
variable{te:TE}{lo hi:Option Expr}{tl th:TO}{pos p2:Pos}
theorem Ez(h:PE X e te):PO X (some e) (Ko te):=by
 intro Ni s σ H Q I hw
 rw[evalPart_some]
 refine dh (h Ni s σ H _ I hw) λu s1 ⟨x,H1,I1,r1,q1⟩=>?_
 obtain⟨i,rfl,q⟩:=q1
 obtain⟨t,rfl⟩:=r1
 exact⟨some i,H1,I1,.int i t,q⟩
def Dz(X:Cx)(r:V->Option Int->Option Int->Hp->VK->Prop):Prop :=
 ∀ (Ni:List (Addr×Obj)) (s:Shared) (σ:St) (H:Hp) (x:V) (v vl vu:Value) (lo hi:Option Int) (sl:Addr) (Q:VK),Inv X Ni σ H s->RelV x v->s.heap.IsSliceOf sl vl vu .none->IsPart vl lo->IsPart vu hi->r x lo hi H Q ->
  ∃ T id,typeLookup (.type T) "__getitem__" = pure (some (.builtin id))/\s.TypeIs v T/\wpAny (model X.prog X.w) X.A (getItem v (.ref sl)) (EP X Ni σ Q) X.xe s
theorem Dz.or{r':V->Option Int->Option Int->Hp->VK->Prop}(h:Dz X r)(h':Dz X r'):Dz X (λx lo hi H Q=>r x lo hi H Q\/r' x lo hi H Q):=by
 intro Ni s σ H x v vl vu lo hi sl Q I rx hs pl pu q
 rcases q with q | q
 ·exact h Ni s σ H x v vl vu lo hi sl Q I rx hs pl pu q
 ·exact h' Ni s σ H x v vl vu lo hi sl Q I rx hs pl pu q
def MV(r:V->Option Int->Option Int->Hp->VK->Prop)(te:TE)(tl th:TO):TE:=fun σ H Q=>te σ H λx H1=>tl σ H1 λl H2=>th σ H2 λu H3=>r x l u H3 Q
theorem AR(hr:Dz X r)(he:PE X e te)(hl:PO X lo tl)(hu:PO X hi th):PE X (.Subscript e (.Slice lo hi none p2) pos) (MV r te tl th):=by
 intro Ni s σ H Q I h
 refine Subscript_ (dh (he Ni s σ H _ I h) λv s1 ⟨x,H1,I1,r1,q1⟩=>?_)
 refine wpAny_Slice (dh (hl Ni s1 σ H1 _ I1 q1) λvl s2 ⟨l,H2,I2,pl,q2⟩=>dh (hu Ni s2 σ H2 _ I2 q2) λvu s3 ⟨u,H3,I3,pu,q3⟩=>?_)
 rw[evalPart_none]
 refine wpAny_pure ?_
 have I4:Inv X Ni σ H3 { s3 with heap:=s3.heap.push { cls:=.type "slice", data:=.fields #[vl,vu,.none] } }:=I3.kept (t':=s3.toks) λb ob q=>Heap.get?_push_of_some _ q
 obtain⟨T,id,hT,ht,hg⟩:=hr Ni { s3 with heap:=s3.heap.push { cls:=.type "slice", data:=.fields #[vl,vu,.none] } } σ H3 x v vl vu l u s3.heap.objs.size Q I4 r1 (Heap.IsSliceOf.new ..) pl pu q3
 show wpAny (model X.prog X.w) X.A (subscriptTail e (.Slice lo hi none p2) v (.ref s3.heap.objs.size)) (EP X Ni σ Q) X.xe { s3 with heap:=s3.heap.push { cls:=.type "slice", data:=.fields #[vl,vu,.none] } }
 exact tail_any (ops:=[.ref s3.heap.objs.size,v]) ht hT hg (by with_unfolding_all rfl)
def vT(xs:List V)(lo hi:Option Int):List V:=(xs.drop (HT.dI xs.length 0 lo)).take (HT.dI xs.length xs.length hi-HT.dI xs.length 0 lo)
theorem nM(xs:List V)(lo hi:Option Int):(vT xs lo hi).length<=xs.length:=by
 unfold vT
 rw[List.length_take,List.length_drop]
 omega
def Lf(K:PySem.W.Frag):V->Option Int->Option Int->Hp->VK->Prop:=λx lo hi H Q=>∃ a xs,x=.ref a/\iy K H a xs ∧
 ¬ (HT.dI xs.length 0 lo=0/\HT.dI xs.length xs.length hi=xs.length)/\∀ p,H p=none->Q (.ref p) (upd H p (.tup (vT xs lo hi)))
theorem Ie:Dz X (Lf X.K):=by
 intro Ni s σ H x v vl vu lo hi sl Q I rx hs pl pu h
 obtain⟨a,xs,rfl,hx,hw,q⟩:=h
 cases rx
 obtain⟨Nl,r,ht,hz⟩:=I.tuple hx
 have hlen:Nl.toArray.size=xs.length:=by rw[List.size_toArray];exact r.length.symm
 refine⟨"tuple", _,PyProof.Rows.slot_tuple_getitem.lookup,ht.typeIs,?_⟩
 refine HT.mH ht hs pl pu (by rw[hlen];exact hw) ?_ (by rw[hlen];exact hz)
 rw[hlen]
 refine⟨.ref s.heap.objs.size,_,I.laid (t':=s.toks) (o:=.tup (vT xs lo hi)) (λb ob q=>Heap.get?_push_of_some _ q) (Nat.le_refl _) ?_,rfl,q _ (I.bT.fresh (Nat.le_refl _))⟩
 exact⟨Nat.le_trans (nM xs lo hi) hz,_,(r.drop (HT.dI xs.length 0 lo)).take (HT.dI xs.length xs.length hi-HT.dI xs.length 0 lo),IsTup.new _ _⟩
def F0(K:PySem.W.Frag):R2:=λx y H Q=>∃ a b xs ys,x=.ref a/\y=.ref b/\iy K H a xs/\iy K H b ys/\xs≠[]/\xs.length+ys.length<=sizeLine ∧
 (ys=[]->Q (.ref a) H)/\(ys≠[]->∀ p,H p=none->Q (.ref p) (upd H p (.tup (xs++ys))))
theorem Vals.mv{us:List Value}(r:Vals xs us):us=[] ↔ xs=[]:=by
 cases r with
 | nil=>simp
 | cons _ _=>simp
theorem Fj:iR X (binaryOp .Add) (F0 X.K):=by
 intro Ni s σ H x y v u Q I rx ry h
 obtain⟨a,b,xs,ys,rfl,rfl,ha,hb,hx,hz,q1,q2⟩:=h
 cases rx
 cases ry
 obtain⟨Nl,r1,p1,_⟩:=I.tuple ha
 obtain⟨O0,r2,p2,_⟩:=I.tuple hb
 refine HT.E1 p1 p2 (λz=>hx (r1.mv.mp z)) (λz=>⟨.ref a,H,I,rfl,q1 (r2.mv.mp z)⟩) (λz=>?_) (by rw[← r1.length,← r2.length];exact hz)
 refine⟨.ref s.heap.objs.size,_,I.laid (t':=s.toks) (o:=.tup (xs++ys)) (λb ob q=>Heap.get?_push_of_some _ q) (Nat.le_refl _) ?_,rfl,q2 (λw=>z (r2.mv.mpr w)) _ (I.bT.fresh (Nat.le_refl _))⟩
 exact⟨by rw[List.length_append];exact hz,_,r1.append r2,IsTup.new _ _⟩
end
def Av(n:Nat)(i:Int):Option Nat:=if 0<=i then (if i<n then some i.toNat else none) else if -(n:Int)<=i then some (i+n).toNat else none
variable{α:Type}
def uL(xs:List α)(i:Int):Option α:=(Av xs.length i).bind λj=>xs[j]?
variable{j n:Nat}{i:Int}
theorem yh(h:Av n i=some j):seqIndex? i n=some j/\j<n/\-(n:Int)<=i/\i<n:=by
 unfold Av at h
 by_cases h0:0<=i
 ·rw[if_pos h0] at h
  by_cases h1:i<n
  ·rw[if_pos h1] at h
   have e:i.toNat=j:=Option.some.inj h
   exact⟨by rw[seqIndex_of h0 h1,e],by omega,by omega,h1⟩
  ·rw[if_neg h1] at h;cases h
 ·rw[if_neg h0] at h
  by_cases h1:-(n:Int)<=i
  ·rw[if_pos h1] at h
   have e:(i+n).toNat=j:=Option.some.inj h
   exact⟨by rw[seqIndex_neg (by omega) h1,e],by omega,h1,by omega⟩
  ·rw[if_neg h1] at h;cases h
theorem sW{xs:List α}{v:α}(h:uL xs i=some v):∃ j,seqIndex? i xs.length=some j/\xs[j]?=some v/\j<xs.length/\-(xs.length:Int)<=i/\i<xs.length:=by
 unfold uL at h
 cases e:Av xs.length i with
 | none=>rw[e] at h;cases h
 | some j =>
  rw[e] at h
  obtain⟨h1,h2,h3,h4⟩:=yh e
  exact⟨j,h1,h,h2,h3,h4⟩
theorem ui{xs:List α}{v:α}(h:xs[j]?=some v):uL xs (j:Int)=some v:=by
 have hj:j<xs.length:=(List.getElem?_eq_some_iff.mp h).1
 have e:Av xs.length (j:Int)=some j:=by
  unfold Av
  rw[if_pos (by omega),if_pos (by omega)];simp
 unfold uL;rw[e];exact h
def sQ(b:Expr):Prop:=∀ o i,subscripted b false o i=operate [o,i] (getItem o i)
def Ec(X:Cx)(r:R2):Prop :=
 ∀ (value slice:Expr) (Ni:List (Addr×Obj)) (s:Shared) (σ:St) (H:Hp) (x y:V) (v u:Value) (Q:VK),Inv X Ni σ H s->RelV x v->RelV y u->r x y H Q ->
  subscripted slice false v u=operate [v,u] (getItem v u)->wpAny (model X.prog X.w) X.A (subscriptTail value slice v u) (EP X Ni σ Q) X.xe s
def M7(X:Cx)(id:String)(r:V->List V->Hp->VK->Prop):Prop :=
 ∀ (Ni:List (Addr×Obj)) (s:Shared) (σ:St) (H:Hp) (x:V) (xs:List V) (v:Value) (us:List Value) (Q:VK),Inv X Ni σ H s->RelV x v->Vals xs us->r x xs H Q ->
  wpAny (model X.prog X.w) X.A (call (.builtin id) (v::us)) (EP X Ni σ Q) X.xe s
variable{Nl:List Value}{s:Shared}{H:Hp}{σ:St}{Ni:List (Addr×Obj)}
section
variable{a b:Expr}{ta tb:TE}{pos:Pos}
theorem Ec.or{r r':R2}(h:Ec X r)(h':Ec X r'):Ec X (λx y H Q=>r x y H Q\/r' x y H Q):=by
 intro value slice Ni s σ H x y v u Q I rx ry q hs
 rcases q with q | q
 ·exact h value slice Ni s σ H x y v u Q I rx ry q hs
 ·exact h' value slice Ni s σ H x y v u Q I rx ry q hs
theorem FZ{r:R2}(hr:Ec X r)(ha:PE X a ta)(hb:PE X b tb)(hs:sQ b):PE X (.Subscript a b pos) (Iu r ta tb):=by
 intro Ni s σ H Q I h
 exact Subscript_ (Gu ha hb I h λv u s2 x y H2 I2 rx ry q=>hr a b Ni s2 σ H2 x y v u Q I2 rx ry q (hs _ _))
def J2(K:PySem.W.Frag):R2:=λx y H Q=>∃ p xs i v,x=.ref p/\y=.int i/\hV K H p xs/\uL xs i=some v/\Q v H
def JV(K:PySem.W.Frag):R2:=λx y H Q=>∃ p xs i v,x=.ref p/\y=.int i/\iy K H p xs/\uL xs i=some v/\Q v H
def JA:R2:=λx y H Q=>∃ z i c,x=.str z/\y=.int i/\z.length<=sizeLine/\uL z.cps.toList i=some c/\Q (.str ⟨#[c]⟩) H
theorem Fe:Ec X (J2 X.K):=by
 intro value slice Ni s σ H x y v u Q I rx ry h hs
 obtain⟨p,xs,i,z,rfl,rfl,hq,he,q⟩:=h
 cases rx
 obtain⟨t,rfl⟩:=ry
 obtain⟨Nl,r,pl,hz⟩:=I.list hq
 obtain⟨j,h1,h2,h3,h4,h5⟩:=sW he
 obtain⟨w,ew,OX⟩:=r.get h2
 have hl:=r.length
 have hn:=m_
 have fin:EP X Ni σ Q w s:=⟨z,H,I,OX,q⟩
 by_cases h0:0<=i
 ·have hj:i.toNat=j:=by
   rw[seqIndex_of h0 h5] at h1
   exact Option.some.inj h1
  exact item_listR pl.isList h0 (by omega) (by rw[hj];simpa using ew) fin hs
 ·have hj:(i+(Nl.toArray.size:Int)).toNat=j:=by
   rw[seqIndex_neg (by omega) h4] at h1
   rw[List.size_toArray,← hl]
   exact Option.some.inj h1
  exact subscriptTail_builtinR (x:=w) pl.isList.typeIs slot_list_getitem.lookup
   (wpAny_getItem_list_neg (Q:=λr s'=>r=w/\EP X Ni σ Q r s') pl.isList (by omega) (by rw[List.size_toArray] <;> omega) (by omega) (by rw[hj];simpa using ew) ⟨rfl,fin⟩) hs
theorem HG:Ec X (JV X.K):=by
 intro value slice Ni s σ H x y v u Q I rx ry h hs
 obtain⟨p,xs,i,z,rfl,rfl,hq,he,q⟩:=h
 cases rx
 obtain⟨t,rfl⟩:=ry
 obtain⟨Nl,r,pl,hz⟩:=I.tuple hq
 obtain⟨j,h1,h2,h3,h4,h5⟩:=sW he
 obtain⟨w,ew,OX⟩:=r.get h2
 have hl:=r.length
 have hn:=m_
 have fin:EP X Ni σ Q w s:=⟨z,H,I,OX,q⟩
 exact subscriptTail_builtinR (x:=w) pl.typeIs slot_tuple_getitem.lookup
  (getItem_tuple (j:=j) (Q:=λr s'=>r=w/\EP X Ni σ Q r s') pl (by omega) (by omega) (by rw[List.size_toArray,← hl];exact h1) (by simpa using ew) ⟨rfl,fin⟩) hs
theorem Gw:Ec X JA:=by
 intro value slice Ni s σ H x y v u Q I rx ry h hs
 obtain⟨z,i,c,rfl,rfl,hz,he,q⟩:=h
 obtain⟨t,rfl⟩:=rx
 obtain⟨t',rfl⟩:=ry
 obtain⟨j,h1,h2,h3,h4,h5⟩:=sW he
 have hl:z.cps.toList.length=z.length:=by simp[Str.length]
 rw[hl] at h1 h4 h5
 have hn:=m_
 exact tail_any (typeIs_str s z t) slot_str_getitem.lookup (getItem_str (c:=c) (by
  have e1:decide (i < -(2^63:Int))=false:=decide_eq_false (by omega)
  have e2:decide (i>=2^63)=false:=decide_eq_false (by omega)
  rw[e1,e2,Bool.or_false]) (by rw[h1];simpa using h2) ⟨.str ⟨#[c]⟩,H,I.tok _,⟨_,rfl⟩,q⟩) hs
def Mw(K:PySem.W.Frag):R2:=λx y H Q=>J2 K x y H Q\/JV K x y H Q\/JA x y H Q
theorem Dr:Ec X (Mw X.K):=Fe.or (HG.or Gw)
theorem xI(Nl:List Value)(n j:Nat)(u:Value):Obj.mapSeq (·.setIfInBounds j u) { cls:=.type "list", data:=.seq Nl.toArray n }={ cls:=.type "list", data:=.seq (Nl.set j u).toArray n }:=by
 simp[Obj.mapSeq]
theorem Inv.lst{Ni:List (Addr×Obj)}{σ:St}{H:Hp}{s:Shared}{p:Addr}{xs:List V}(I:Inv X Ni σ H s)(h:H p=some (.lst xs)) :
  ∃ (Nl:List Value) (n:Nat),Vals xs Nl/\s.heap.get? p=some { cls:=.type "list", data:=.seq Nl.toArray n }/\xs.length<=sizeLine:=by
 obtain⟨z,Nl,n,r,e⟩:=I.bT p _ h
 exact⟨Nl,n,r,e,z⟩
theorem Inv.HM{p:Addr}{ys:List V}{its':List Value}{n':Nat}{f:Obj->Obj}(I:Inv X Ni σ H s)(h:H p=some (.lst xs))
  (ho:s.heap.get? p=some { cls:=.type "list", data:=.seq Nl.toArray n }) (hf:f { cls:=.type "list", data:=.seq Nl.toArray n }={ cls:=.type "list", data:=.seq its'.toArray n' }) (r:Vals ys its') (hz:ys.length<=sizeLine) (t:Nat) :
  Inv X Ni σ (upd H p (.lst ys)) { s with heap:=s.heap.update p f,toks:=t }:=by
 have e:(s.heap.update p f).get? p=some { cls:=.type "list", data:=.seq its'.toArray n' }:=by
  rw[Heap.get?_update_self f ho (by rw[hf] <;> rfl),hf]
 refine I.write (x:=p) (e:=p) (by rw[h];trivial) (.inl rfl) (λb u hb q=>(Heap.get?_update_other _ _ (Ne.symm hb)).trans q) ⟨_,e⟩ ?_
 exact⟨hz,its',n',r,e⟩
def JN:V->V->V->Hp->(Hp->Prop)->Prop:=λo i v H Q=>∃ p xs k j,o=.ref p/\i=.int k/\H p=some (.lst xs)/\Av xs.length k=some j/\Q (upd H p (.lst (xs.set j v)))
theorem set_list:JM X JN:=by
 intro Ni s σ H o i v ov iv u Q I ro ri rv h
 obtain⟨p,xs,k,j,rfl,rfl,hp,hj,q⟩:=h
 cases ro
 obtain⟨t,rfl⟩:=ri
 obtain⟨Nl,n,r,ho,hz⟩:=I.lst hp
 obtain⟨h1,h2,h3,h4⟩:=yh hj
 have hl:=r.length
 have hn:=m_
 have I':Inv X Ni σ (upd H p (.lst (xs.set j v))) { s with heap:=s.heap.update p (Obj.mapSeq (·.setIfInBounds j u)) } :=
  I.HM hp ho (xI Nl n j u) (r.set rv j) (by rw[List.length_set];exact hz) s.toks
 by_cases h0:0<=k
 ·have hk:k.toNat=j:=by
   rw[seqIndex_of h0 h4] at h1
   exact Option.some.inj h1
  exact PySem.W.ki_setAt ho h0 (by omega) (by rw[List.size_toArray,← hl];exact h4) (by rw[hk];exact⟨_,I',q⟩)
 ·have hk:(k+(Nl.toArray.size:Int)).toNat=j:=by
   rw[seqIndex_neg (by omega) h3] at h1
   rw[List.size_toArray,← hl]
   exact Option.some.inj h1
  exact PySem.W.ki_setBack ho (by omega) (by rw[List.size_toArray,← hl];exact h3) (by omega) (by rw[hk];exact⟨_,I',q⟩)
theorem sN(lo hi:Option Int)(n:Nat):(sliceBounds lo hi none n).1=((HT.dI n 0 lo:Nat):Int)/\(sliceBounds lo hi none n).2.1=((HT.dI n n hi:Nat):Int)/\(sliceBounds lo hi none n).2.2=1:=by
 refine⟨?_,?_,rfl⟩
 ·cases lo with
  | none=>simp[sliceBounds,HT.dI]
  | some i =>
   simp only[sliceBounds,HT.dI,Option.getD_none,show (1:Int)>0 by decide,if_true]
   by_cases h:i<0
   ·simp only[h,if_true] <;> omega
   ·simp only[h,if_false] <;> omega
 ·cases hi with
  | none=>simp[sliceBounds,HT.dI]
  | some i =>
   simp only[sliceBounds,HT.dI,Option.getD_none,show (1:Int)>0 by decide,if_true]
   by_cases h:i<0
   ·simp only[h,if_true] <;> omega
   ·simp only[h,if_false] <;> omega
theorem rg(Nl:List Value)(lo hi:Option Int):slicePick Nl.toArray lo hi none=((Nl.drop (HT.dI Nl.length 0 lo)).take (HT.dI Nl.length Nl.length hi-HT.dI Nl.length 0 lo)).toArray:=by
 obtain⟨h1,h2,h3⟩:=sN lo hi Nl.toArray.size
 unfold slicePick
 rw[h1,h2,h3]
 simp only[sliceRange_one,pick_run,List.size_toArray] <;> rfl
def LD(K:PySem.W.Frag):V->Option Int->Option Int->Hp->VK->Prop:=λx lo hi H Q=>∃ a xs,x=.ref a/\hV K H a xs/\∀ p,H p=none->Q (.ref p) (upd H p (.lst (vT xs lo hi)))
theorem Ey:Dz X (LD X.K):=by
 intro Ni s σ H x v vl vu lo hi sl Q I rx hs pl pu h
 obtain⟨a,xs,rfl,hx,q⟩:=h
 cases rx
 obtain⟨Nl,r,ht,hz⟩:=I.list hx
 have hlen:=r.length
 refine⟨"list", _,slot_list_getitem.lookup,ht.isList.typeIs,?_⟩
 refine wpAny_getItem_list_slice ht.isList hs pl pu .none (by simp) ?_ (by rw[List.size_toArray] <;> omega)
 rw[rg,← hlen]
 refine⟨.ref s.heap.objs.size,_,I.laid (t':=s.toks) (o:=.lst (vT xs lo hi)) (λb ob q=>Heap.get?_push_of_some _ q) (Nat.le_refl _) ?_,rfl,q _ (I.bT.fresh (Nat.le_refl _))⟩
 exact⟨Nat.le_trans (nM xs lo hi) hz,_,0,(r.drop (HT.dI xs.length 0 lo)).take (HT.dI xs.length xs.length hi-HT.dI xs.length 0 lo),Heap.get?_push_size _ rfl⟩
theorem uf:dR X (.builtin "len") (λxs H Q=>∃ p ys,xs=[.ref p]/\(hV X.K H p ys\/iy X.K H p ys)/\Q (.int ys.length) H):=by
 intro Ni s σ H xs us Q I r h
 obtain⟨p,ys,rfl,hq,q⟩:=h
 obtain⟨u,rfl,rx⟩:=vals1 r
 cases rx
 have hn:=m_
 rcases hq with hq | hq
 ·obtain⟨Nl,r',pl,hz⟩:=I.list hq
  have hlen:=r'.length
  exact Calls.call_len_list pl.isList (by simp only[List.size_toArray] <;> omega) ⟨.int ys.length,H,I.tok _,⟨s.toks+1,by rw[List.size_toArray,hlen]⟩,q⟩
 ·obtain⟨Nl,r',pl,hz⟩:=I.tuple hq
  have hlen:=r'.length
  exact len_tuple pl (by simp only[List.size_toArray] <;> omega) ⟨.int ys.length,H,I.tok _,⟨s.toks+1,by rw[List.size_toArray,hlen]⟩,q⟩
theorem uA:dR X (.builtin "len") (λxs H Q=>∃ z,xs=[.str z]/\z.length<=sizeLine/\Q (.int z.length) H):=by
 intro Ni s σ H xs us Q I r h
 obtain⟨z,rfl,hz,q⟩:=h
 obtain⟨u,rfl,t,rfl⟩:=vals1 r
 have hn:=m_
 exact len_str (by omega) ⟨.int z.length,H,I.tok _,⟨_,rfl⟩,q⟩
theorem dR.or{f:Value}{r r':List V->Hp->VK->Prop}(h:dR X f r)(h':dR X f r'):dR X f (λxs H Q=>r xs H Q\/r' xs H Q):=by
 intro Ni s σ H xs us Q I rs q
 rcases q with q | q
 ·exact h Ni s σ H xs us Q I rs q
 ·exact h' Ni s σ H xs us Q I rs q
theorem uE:dR X (.type "list") (λxs H Q=>∃ p ys,xs=[.ref p]/\(hV X.K H p ys\/iy X.K H p ys)/\∀ l,H l=none->Q (.ref l) (upd H l (.lst ys))):=by
 intro Ni s σ H xs us Q I r h
 obtain⟨p,ys,rfl,hq,q⟩:=h
 obtain⟨u,rfl,rx⟩:=vals1 r
 cases rx
 have fin:∀ (Nl:List Value),Vals ys Nl->ys.length<=sizeLine->∀ (h':Heap) (c':Nat),(∀ b o',s.heap.get? b=some o'->h'.get? b=some o') ->
   h'.get? s.heap.objs.size=some { cls:=.type "list", dict:=none,data:=.seq Nl.toArray c',slots:=#[] }->EP X Ni σ Q (.ref s.heap.objs.size) { s with heap:=h' }:=λNl r' hz h' c' kp e =>
  ⟨.ref s.heap.objs.size,_,I.laid (t':=s.toks) kp (Nat.le_refl _) (show cM X.prog X.w _ h' _ (.lst ys) from ⟨hz,Nl,c',r',e⟩),rfl,q _ (I.bT.fresh (Nat.le_refl _))⟩
 rcases hq with hq | hq
 ·obtain⟨Nl,r',pl,hz⟩:=I.list hq
  have hlen:=r'.length
  obtain⟨o,ho,hc,n,hd⟩:=pl.isList
  exact call_list_seq p (.inl rfl) ho hc hd (λh' c' kp e=>fin Nl r' hz h' c' kp e) (by simp only[List.size_toArray] <;> omega)
 ·obtain⟨Nl,r',pl,hz⟩:=I.tuple hq
  have hlen:=r'.length
  obtain⟨o,ho,hc,n,hd⟩:=pl
  exact call_list_seq p (.inr rfl) ho hc hd (λh' c' kp e=>fin Nl r' hz h' c' kp e) (by simp only[List.size_toArray] <;> omega)
theorem qN:dR X (.type "tuple") (λxs H Q=>∃ p ys,xs=[.ref p]/\((hV X.K H p ys/\∀ l,H l=none->Q (.ref l) (upd H l (.tup ys)))\/(iy X.K H p ys/\Q (.ref p) H))):=by
 intro Ni s σ H xs us Q I r h
 obtain⟨p,ys,rfl,h⟩:=h
 obtain⟨u,rfl,rx⟩:=vals1 r
 cases rx
 rcases h with ⟨hq,q⟩ | ⟨hq,q⟩
 ·obtain⟨Nl,r',pl,hz⟩:=I.list hq
  have hlen:=r'.length
  refine call_tuple_list pl.isList (λh' kp=>?_) (by simp only[List.size_toArray] <;> omega)
  have I1:Inv X Ni σ H { s with heap:=h' }:=I.kept (t':=s.toks) kp
  have I2:Inv X Ni σ (upd H h'.objs.size (.tup ys)) { s with heap:=h'.push { cls:=.type "tuple", data:=.seq Nl.toArray } } :=
   I1.laid (t':=s.toks) (λb o e=>Heap.get?_push_of_some _ e) (Nat.le_refl _) (show cM X.prog X.w _ _ _ (.tup ys) from ⟨hz,Nl,r',IsTup.new _ _⟩)
  exact⟨.ref h'.objs.size,_,I2,rfl,q _ (I1.bT.fresh (Nat.le_refl _))⟩
 ·obtain⟨Nl,r',pl,hz⟩:=I.tuple hq
  exact call_tuple_same pl ⟨.ref p,H,I,rfl,q⟩
def MK(K:PySem.W.Frag)(T:String)(x:V)(H:Hp):Prop:=match x with
 | .str _=>T = "str"
 | .int _=>T = "int"
 | .ref p=>(T = "list" /\ ∃ xs,hV K H p xs)\/(T = "tuple" /\ ∃ o,K.lookup p=some o/\o.cls=.type "tuple" /\ o.dict=none) ∨
   (T = "dict" /\ ((∃ Ob,H p=some (.dK Ob))\/∃ Ob,H p=some (.dT Ob)))\/(T = "set" /\ ∃ S n,H p=some (.set S n))
 | _=>False
theorem Jf{T:String}{x:V}{v:Value}(I:Inv X Ni σ H s)(r:RelV x v)(ty:MK X.K T x H) :
  s.TypeIs v T/\∀ a,v=.ref a->∃ ob,s.heap.get? a=some ob/\ob.dict=none:=by
 cases x with
 | str z =>
  obtain⟨t,rfl⟩:=r
  cases (show T = "str" from ty)
  exact⟨typeIs_str s z t,λ_ e=>nomatch e⟩
 | int i =>
  obtain⟨t,rfl⟩:=r
  cases (show T = "int" from ty)
  exact⟨typeIs_int s i t,λ_ e=>nomatch e⟩
 | ref p =>
  cases r
  rcases ty with ⟨rfl,xs,hq⟩ | ⟨rfl,o,hk,hc,hd⟩ | ⟨rfl,hk⟩ | ⟨rfl,S,n,hk⟩
  ·obtain⟨Nl,_,pl,_⟩:=I.list hq
   refine⟨pl.isList.typeIs,λa e=>?_⟩
   cases e
   obtain⟨o,n,e,c,hd,_⟩:=pl
   exact⟨o,e,hd⟩
  ·refine⟨⟨o,I.kD p o hk,hc⟩,λa e=>?_⟩
   cases e
   exact⟨o,I.kD _ o hk,hd⟩
  ·have z:∃ o,s.heap.get? p=some o/\o.ExactDict:=by
    rcases hk with ⟨Ob,hk⟩ | ⟨Ob,hk⟩
    ·obtain⟨_,_,_,_,o,_,_,e,ex,_⟩:=I.bT p _ hk
     exact⟨o,e,ex⟩
    ·obtain⟨_,_,_,_,o,_,_,e,ex,_⟩:=I.bT p _ hk
     exact⟨o,e,ex⟩
   obtain⟨o,e,ex⟩:=z
   refine⟨⟨o,e,ex.1⟩,λa e2=>?_⟩
   cases e2
   exact⟨o,e,ex.2.1⟩
  ·obtain⟨o,_,_,_,e,ex,_⟩:=I.bT p _ hk
   refine⟨⟨o,e,ex.1⟩,λa e2=>?_⟩
   cases e2
   exact⟨o,e,ex.2.1⟩
 | _=>exact False.elim ty
def MI(K:PySem.W.Frag)(T:String)(r:V->List V->Hp->VK->Prop)(to:TE)(t:TA):TE:=fun σ H Q=>to σ H λx H1=>MK K T x H1/\t σ H1 λxs H2=>r x xs H2 Q
variable{o:Expr}{es:List Expr}{to:TE}{t:TA}{name:Str}{apos NJ:Pos}{T id:String}{r:V->List V->Hp->VK->Prop}
theorem F4(pa:PlainAttrs T)(slot:Slot T name id)(hty:typeOf (.builtin id)=pure (.type "method_descriptor"))(hm:M7 X id r)(ho:PE X o to)(ha:PA X (e::es) t)
  (PC:autoParam (attributeBase o name X.env (eval o X.env)=eval o X.env) aR._auto_1)
  (Qx:autoParam (((backTo NJ (starEach (e::es) X.env)).all (λx=>!x.1)&&(backToKw NJ (keywordEach [] X.env)).all (λx=>x.1.isSome)
   && decide ((e::es).length+([]:List Keyword).length+(if ([]:List Keyword).isEmpty then 0 else 1)<30))=true) aR._auto_1)
  (PM:autoParam ((apos.endLine==NJ.line)=true) aR._auto_1) (hs:autoParam (starEach (e::es) X.env=(false,eval e X.env)::starEach es X.env) aR._auto_1) (Pb:autoParam ((backTo NJ (starEach es X.env)).any (·.1)=false) aR._auto_1) :
  PE X (.Call (.Attribute o name apos) (e::es) [] NJ) (MI X.K T r to t):=by
 intro Ni s σ H Q I h
 refine wpAny_Call_method_late PC Qx PM rfl (dh (ho Ni s σ H _ I h) λv s1 ⟨x,H1,I1,r1,ty,q1⟩=>?_)
 obtain⟨h1,h2⟩:=Jf I1 r1 ty
 refine⟨T,id,pa,slot,hty,h1,h2,?_⟩
 have hA:=ha NJ Ni s1 σ H1 _ I1 q1
 rw[hs] at hA ⊢
 refine Calls.callWith_builtin (by show (false||(backTo NJ (starEach es X.env)).any (·.1))=false;rw[Pb] <;> rfl) (Calls.evalArgs_plain ?_)
 exact dh hA λus s2 ⟨vs,H2,I2,r2,q2⟩=>hm Ni s2 σ H2 x vs v us Q I2 r1 r2 q2
end
def MX(X:Cx)(id:String)(r:V->List V->Hp->VK->Prop):Prop :=
 ∀ (Ni:List (Addr×Obj)) (s:Shared) (σ:St) (H:Hp) (x:V) (xs:List V) (v:Value) (us:List Value) (Q:VK),Inv X Ni σ H s->RelV x v->Vals xs us->r x xs H Q ->
  wpAny (model X.prog X.w) X.A (call (.builtin id) (v::us)) (EP X Ni σ Q) X.xe s
theorem Vals.one:∀ {x:V} {us:List Value},Vals [x] us->∃ u,us=[u]/\RelV x u
 | _,_,.cons r .nil=>⟨_,rfl,r⟩
theorem Vals.rep{xs:List V}{us:List Value}(h:Vals xs us):∀ k:Nat,Vals (List.replicate k xs).flatten (List.replicate k us).flatten
 | 0=>.nil
 | k+1=>by
  rw[List.replicate_succ,List.replicate_succ,List.flatten_cons,List.flatten_cons]
  exact Vals.append h (Vals.rep h k)
theorem foldl_rep(Nl:List Value):∀ (k:Nat) (acc:List Value),
  List.foldl (λx1 x2=>x1++x2) acc.toArray (List.replicate k Nl.toArray)=(acc++(List.replicate k Nl).flatten).toArray
 | 0,acc=>by simp
 | k+1,acc=>by
  have e:acc.toArray++Nl.toArray=(acc++Nl).toArray:=by simp
  have e2:(acc++Nl)++(List.replicate k Nl).flatten=acc++(List.replicate (k+1) Nl).flatten:=by
   rw[List.replicate_succ,List.flatten_cons,List.append_assoc]
  rw[← e2,← foldl_rep Nl k (acc++Nl),← e,List.replicate_succ,List.foldl_cons]
variable{t':Nat}
section
variable{l b:Addr}{ys zs:List V}
theorem Inv.LV{its':List Value}{f:Array Value->Array Value}(I:Inv X Ni σ H s)(hH:H l=some (.lst xs))
  (e:s.heap.get? l=some { cls:=.type "list", data:=.seq Nl.toArray n }) (hf:f Nl.toArray=its'.toArray) (hv:Vals ys its') (hz:ys.length<=sizeLine) :
  Inv X Ni σ (upd H l (.lst ys)) { s with heap:=s.heap.update l (Obj.mapSeq f),toks:=t' }:=by
 have q:=PySem.IsL.update e f
 rw[hf] at q
 refine I.write (x:=l) (e:=l) (by rw[hH];exact trivial) (.inl rfl) (λb' u hb hu=>(Heap.get?_update_other s.heap (Obj.mapSeq f) (Ne.symm hb)).trans hu) ⟨_,q⟩ ?_
 exact⟨hz,its',_,hv,q⟩
theorem Inv.KD(I:Inv X Ni σ H s)(hv:Vals ys Nl)(hz:ys.length<=sizeLine) :
  Inv X Ni σ (upd H s.heap.objs.size (.lst ys)) { s with heap:=s.heap.push { cls:=.type "list", data:=.seq Nl.toArray },toks:=t' } :=
 I.laid (λ_ _ q=>Heap.get?_push_of_some _ q) (Nat.le_refl _) ⟨hz,Nl,0,hv,Heap.get?_push_size _ rfl⟩
theorem Inv.fresh(I:Inv X Ni σ H s):H s.heap.objs.size=none:=I.bT.fresh (Nat.le_refl _)
theorem Inv.DF(I:Inv X Ni σ H s)(hH:H l=some (.lst xs)):xs.length<=sizeLine/\∃ (Nl:List Value) (n:Nat),Vals xs Nl/\xs.length=Nl.length/\s.heap.get? l=some { cls:=.type "list", data:=.seq Nl.toArray n }:=by
 obtain⟨z,Nl,n,r,e⟩:=I.bT l _ hH
 exact⟨z,Nl,n,r,r.length,e⟩
theorem C7(h:n<=sizeLine):Builtin.List.listTooLong n=false:=by
 unfold Builtin.List.listTooLong
 exact decide_eq_false (by omega)
end
def yM:V->List V->Hp->VK->Prop:=λx vs H Q=>∃ l xs y,x=.ref l/\vs=[y]/\H l=some (.lst xs)/\xs.length<sizeLine/\Q .cy (upd H l (.lst (xs++[y])))
theorem nI:MX X "list.append" yM:=by
 intro Ni s σ H x vs v us Q I rx rv h
 obtain⟨l,xs,y,rfl,rfl,hH,hz,q⟩:=h
 cases rx
 obtain⟨u,rfl,ru⟩:=rv.one
 obtain⟨z,Nl,n,r,hl,e⟩:=I.DF hH
 refine call_meets F.slot_list_append ⟨_,e,rfl⟩ F.entry_list_append (F.args_list_append_2 _ _) (PySem.list_append l Nl.toArray n u (by rw[List.size_toArray];omega)) ⟨e,?_⟩
 refine⟨.cy,_,I.LV (its':=Nl++[u]) hH e (by simp) (r.append (.cons ru .nil)) ?_,rfl,q⟩
 rw[List.length_append,List.length_singleton]
 omega
def KH:R2:=λx y H Q=>∃ l b xs zs,x=.ref l/\y=.ref b/\H l=some (.lst xs)/\H b=some (.lst zs)/\xs.length+zs.length<=sizeLine/\∀ p,H p=none->Q (.ref p) (upd H p (.lst (xs++zs)))
theorem G1:iR X (binaryOp .Add) KH:=by
 intro Ni s σ H x y v u Q I rx ry h
 obtain⟨l,b,xs,zs,rfl,rfl,hH,hB,hz,q⟩:=h
 cases rx
 cases ry
 obtain⟨z,Nl,n,r,hl,e⟩:=I.DF hH
 obtain⟨z2,O0,n2,r2,OI,e2⟩:=I.DF hB
 refine PySem.P.add_list e e2 ?_ (by rw[List.size_toArray,List.size_toArray];omega)
 have ea:Nl.toArray++O0.toArray=(Nl++O0).toArray:=by simp
 rw[ea]
 exact⟨.ref _,_,I.KD (t':=s.toks) (r.append r2) (by rw[List.length_append];omega),rfl,q _ I.fresh⟩
def Kv:R2:=λx y H Q=>∃ l k xs,x=.ref l/\y=.int k/\H l=some (.lst xs)/\-(2^63)<=k/\k<2^63/\xs.length*k.toNat<=sizeLine ∧
 ∀ p,H p=none->Q (.ref p) (upd H p (.lst (List.replicate k.toNat xs).flatten))
theorem len_rep(xs:List α)(k:Nat):(List.replicate k xs).flatten.length=k*xs.length:=by
 induction k with
 | zero=>simp
 | succ k ih=>rw[List.replicate_succ,List.flatten_cons,List.length_append,ih,Nat.succ_mul,Nat.add_comm]
theorem BU:iR X (binaryOp .Mult) Kv:=by
 intro Ni s σ H x y v u Q I rx ry h
 obtain⟨l,k,xs,rfl,rfl,hH,h1,h2,hz,q⟩:=h
 cases rx
 obtain⟨t,rfl⟩:=ry
 obtain⟨z,Nl,n,r,hl,e⟩:=I.DF hH
 have hlen:Nl.toArray.size*k.toNat<=sizeLine:=by rw[List.size_toArray,← hl];exact hz
 have hcap:¬ Nl.toArray.size*k.toNat>(2^63-1)/8:=by
  have:(sizeLine:Nat)<=(2^63-1)/8:=by decide
  omega
 have hfit:¬ (!Builtin.List.listFitsIndex k)=true:=by
  rw[fitsIndex_both h1 h2]
  exact Bool.false_ne_true
 have Q_:¬ Builtin.List.listTooLong (Nl.toArray.size*k.toNat)=true:=by
  rw[C7 hlen]
  exact Bool.false_ne_true
 have OJ:List.foldl (λx1 x2=>x1++x2) #[] (List.replicate (if Nl.toArray.isEmpty=true then 0 else k.toNat) Nl.toArray)=(List.replicate k.toNat Nl).flatten.toArray:=by
  have f0:∀ m:Nat,List.foldl (λx1 x2=>x1++x2) #[] (List.replicate m Nl.toArray)=(List.replicate m Nl).flatten.toArray:=λm=>by
   have:=foldl_rep Nl m []
   rw[List.nil_append] at this
   exact this
  rw[f0]
  cases Nl with
  | nil=>simp
  | cons a r'=>rw[if_neg (by simp)]
 refine wpAny_binaryOp_repeat_ref (T := "list") (U := "int") (by decide) ⟨_,e,rfl⟩ (λs'=>typeIs_int s' k t) noFill_list_mul F.fills_int_mul F.slot_int_rmul repeat_list F.slot_int_index.lookup
  (call_meets F.slot_int_rmul (typeIs_int s k t) F.entry_int_rmul (F.args_int_rmul_2 _ _) (int___rmul___int_list k t l Nl.toArray n)
   ⟨e,rfl,⟨_,e,rfl⟩,call_meets F.slot_list_mul ⟨_,e,rfl⟩ F.entry_list_mul (F.args_list_mul_2 _ _) (AutoListH.list___mul___list_int_3 l Nl.toArray n k t hfit hcap Q_) ⟨e,?_⟩⟩)
 rw[OJ]
 exact⟨.ref _,_,I.KD (t':=s.toks) (r.rep k.toNat) (by rw[len_rep,Nat.mul_comm];exact hz),rfl,q _ I.fresh⟩
variable{E:Value->Shared->Prop}{A:Around}{w:World}
section
variable{prog:Program}
end
section
variable{κ:Type}[DecidableEq κ]
end
variable{a:Addr}
section
variable{P:Program}{h:Heap}
end
variable{o:Option V}{u:Value}
section
variable{y v:V}{r:Value}
end
variable{Ob:List (Key×V)}
section
variable{k:Key}
end
section
variable{o i value:Expr}{pos pos' tpos:Pos}{td ty tv:TE}
end
section
variable{pos:Pos}
end
section
variable{y d:V}{r:Value}
end
section
variable{o f:Expr}{apos NJ:Pos}{td ty tx:TE}
end
section
variable{y:V}
end
end L2
namespace Att
open PySem PySem.W PySem.Calls PyProof.Rows
variable{h:Heap}{P:Params}
theorem n9:∀ (ns:List Int) (vs:List Value),WellAll P h vs (ns.map WData.int)->IntsAre vs ns:=by
 intro ns
 induction ns with
 | nil =>
  intro vs w
  rw[List.map_nil] at w
  cases w
  exact .nil
 | cons n ns ih =>
  intro vs w
  rw[List.map_cons] at w
  cases w with
  | cons a b =>
   cases a
   exact .cons _ _ (ih _ b)
theorem Ar{l:OpenLaw}{n:Nat}(hn:l.most=some n){args:List WData}{vals:List Value}
  (z7:l.row.toRowW.claim.pre args=true) (hwl:WellAll P h vals args) :
  ∃ a vs ns,vals=[Value.ref a]/\args=[WData.list (ns.map WData.int)]/\h.get? a=some { cls:=.type "list", data:=.seq vs.toArray }/\IntsAre vs ns/\ns.length<=n:=by
 have hsh:WShape.hasAll [] args [.list .int]=true:=(pre_splitW z7).1
 have hc:l.pre.holds [] { args:=args }=true:=(pre_splitW z7).2
 obtain⟨d,r,rfl,h1,h2⟩:=hasAllW_cons hsh
 obtain rfl:=hasAllW_nil h2
 obtain⟨xs,rfl,h3⟩:=hasW_list h1
 obtain⟨ns,rfl⟩:=items_int h3
 have hlen:ns.length<=n:=by
  unfold OpenLaw.pre at hc
  have h4:(WTm.not (.lt (.lit (.int (n:Int))) (.len (.arg 0)))).holds [] { args:=[.list (ns.map .int)] }=true:=by
   have h4:=(holds_andW hc).1
   rw[hn] at h4
   exact h4
  have h5:=condW_of h4 (w_not (w_lt w_lit (w_len_list (w_arg rfl))))
  rw[List.length_map] at h5
  refine Nat.le_of_not_lt λq=>?_
  have q':(n:Int)<((ns.length:Nat):Int):=by omega
  first
   | (rw[decide_eq_true q'] at h5;exact absurd h5 (by decide))
   | (simp at h5;omega)
 cases hwl with
 | cons w1 w2 =>
  cases w2
  cases w1 with
  | list ho hall=>exact⟨_,_,ns,rfl,rfl,ho,n9 ns _ hall,hlen⟩
theorem ze(l:OpenLaw)(args:List WData):l.row.toRowW.claim.post args (.bool true) args=true :=
 postW_of (r:=l.row.toRowW) (X:=(true==true))
  (show WShape.has [] (.bool true) .bool=true by first | rfl | decide | simp[WShape.has,WShape.arms,WShape.armsAll])
  (show (WTm.eq .res (.lit (.bool true))).value [] { args:=args,res:=some (.bool true),after:=args }=some (.bool (true==true)) from w_eq_bool (w_res rfl) w_lit) rfl
section
variable{prog:Program}{w:World}{A:Around}{E:Value->Shared->Prop}{s:Shared}{K:Frag}
end
end Att
namespace L2
open PySem PySem.Spec PyProof.Rows
theorem rG:∀ {vs:List Value} {ns:List Int},IntsAre vs ns->Vals (ns.map V.int) vs
 | _,_,.nil=>.nil
 | _,_,.cons n t h=>.cons ⟨t,rfl⟩ (rG h)
def KA(H:Hp):Prop:=∀ b,H b=none\/∃ o xs,H b=some (.qU o (.lst xs))
variable{sp:Sp}{x:Str}{fd:FuncData}{a:Addr}{k:Nat}{mg:Str->Option Value}{w:World}{P:Program}
theorem A1{K:PySem.W.Frag}{mb:Str->Option Value}{CX:Jm}{fa:Addr}{s₁:Shared}{vs:List Value}{ns:List Int}
  (KX:K.In s₁.heap) (hns:s₁.heap.Ns mainGlobals mg) (hb:s₁.heap.Ns builtinsNs mb) (QW:∀ x:Str,x ≠ "__name__" -> mb x=bootBuiltins x) (hlim:s₁.heap.NoLimit) (hg:s₁.gens=#[])
  (ha:s₁.heap.get? a=some { cls:=.type "list", data:=.seq vs.toArray }) (hi:IntsAre vs ns) (hl:ns.length<=sizeLine) (hr:cQ k callerA)
  (F:∀ base:Heap,K.In base->base.Ns mainGlobals mg->aV P w K mg base CX k fa fd [x] sp) (QY:∀ (s:Shared) (u:Value),BindsTo s fd ⟨[u],[]⟩ [(x,u)])
  (hsp:∀ H:Hp,KA H->hV K H a (ns.map V.int)->sp [.ref a] H (λv _=>v=.bl true) λ_ _ _=>False)
  (hCX:∀ H e s',CX [] H s₁ (λ_ _ _=>False) e s'->False) :
  codeAny (model P w) callerA (.call (.ref fa) ⟨[.ref a],[]⟩) (λr s'=>r=.ok (.ret (.bool true))/\OldK s₁.heap s'.heap/\s'.os=s₁.os/\AllBare s'.gens) s₁:=by
 have rv:=rG hi
 have lenV:=hi.length
 have core:∀ H:Hp,KA H->hV K H a (ns.map V.int)->nQ P w H s₁.heap->(∀ b,H b≠none->b=a)->(H a≠none->K.lookup a=none) ->
   codeAny (model P w) callerA (.call (.ref fa) ⟨[.ref a],[]⟩) (λr s'=>r=.ok (.ret (.bool true))/\OldK s₁.heap s'.heap/\s'.os=s₁.os/\AllBare s'.gens) s₁:=by
  intro H hO hS bT hA hK
  have Ph:∀ {b:Addr} {o:Obj},s₁.heap.get? b=some o->H b=none->(sP s₁.heap H).get? b=some o:=λe n=>Bo e n
  have xE:∀ {b:Addr} {o:Obj} {es:Array DictEntry} {ep:Nat},s₁.heap.get? b=some o->o.data=.dict es ep->H b=none:=λ{b o es ep} e d=>by
   cases q:H b with
   | none=>rfl
   | some u =>
    have e':b=a:=hA b (by rw[q];simp)
    subst e'
    rw[ha] at e;cases e
    have d':Data.seq vs.toArray _=Data.dict es ep:=d
    cases d'
  have nsK:∀ {b:Addr} {m:Str->Option Value},s₁.heap.Ns b m->(sP s₁.heap H).Ns b m:=λ{b m} ⟨o,es,ep,e,d,r⟩=>⟨o,es,ep,Ph e (xE e d),d,r⟩
  have hKb:K.In (sP s₁.heap H):=λb o e=>Ph (KX b o e) (by
   cases q:H b with
   | none=>rfl
   | some u =>
    have e':b=a:=hA b (by rw[q];simp)
    subst e'
    rw[hK (by rw[q];simp)] at e;cases e)
  have hM:Mod K mg (sP s₁.heap H):=⟨hKb,nsK hns,⟨mb,nsK hb,QW⟩,let ⟨mc,h1,h2⟩:=hlim;⟨mc,nsK h1,h2⟩⟩
  have e0:wG P w K mg (sP s₁.heap H) callerA [] s₁ H:=⟨rfl,hM,λb o e=>Ep e,Nat.le_of_eq (zy _ _),trivial,λb hb=>absurd (show b∈([]:List Addr) from hb) (by simp),bT,.of_eq hg⟩
  refine codeAny_mono ((F _ hKb (nsK hns)).run callerA [] s₁ H ⟨[.ref a],[]⟩ [.ref a] [.ref a] _ _ hr e0 (QY s₁ (.ref a)) (.cons rfl .nil) (hsp H hO hS)) λr s' h=>?_
  cases r with
  | error e=>exact(hCX H e s' h).elim
  | ok fl =>
   cases fl with
   | next=>exact False.elim h
   | brk=>exact False.elim h
   | cont=>exact False.elim h
   | ret u =>
    obtain⟨v,H',os,bare,un,hok',r',q⟩:=h
    have q':v=.bl true:=q
    subst q'
    obtain rfl:u=Value.bool true:=r'
    refine⟨rfl,OldK.of_keep λb o e=>?_,os,bare⟩
    cases q:H b with
    | none=>exact un.keep b o e q (by intro z;exact absurd (show b∈([]:List Addr) from z) (by simp)) (by simp)
    | some u =>
     rcases hO b with z | ⟨ob,xs,z⟩
     ·rw[q] at z;cases z
     ·have z2:=un.mR b ob _ z
      obtain⟨e1,_⟩:=bT b _ z
      obtain⟨e2,_⟩:=hok' b _ z2
      rw[e] at e1;cases e1
      exact e2
 cases hk:K.lookup a with
 | some o =>
  have e:=KX a o hk
  rw[ha] at e
  cases e
  refine core (λ_=>none) (λ_=>.inl rfl) (.inr ⟨_,vs.toArray,_,hk,rfl,rfl,rfl,by rw[List.size_toArray,lenV];exact hl,by simpa using rv⟩) (λb u z=>by have z':(none:Option HO)=some u:=z;cases z') (λb z=>absurd rfl z) λz=>absurd rfl z
 | none =>
  refine core (λb=>if b=a then some (.qU { cls:=.type "list", data:=.seq vs.toArray } (.lst (ns.map V.int))) else none) (λb=>?_) (.inl (.inr ⟨{ cls:=.type "list", data:=.seq vs.toArray },if_pos rfl⟩)) (λb u z=>?_) (λb z=>?_) λ_=>hk
  ·by_cases hb:b=a
   ·exact .inr ⟨_,_,if_pos hb⟩
   ·exact .inl (if_neg hb)
  ·by_cases hb:b=a
   ·have z':=(if_pos hb).symm.trans z
    cases z'
    subst hb
    exact⟨ha,by rw[List.length_map];exact hl,vs,_,rv,ha⟩
   ·have z':=(if_neg hb).symm.trans z
    cases z'
  ·by_cases hb:b=a
   ·exact hb
   ·exact absurd (if_neg hb) z
def inClass(s:Stmt)(j:Nat):Stmt:=match s with
 | .ClassDef _ _ _ body _ _ _ _ _ _ _=>body.getD j (.Pass ⟨0,0,0,0⟩)
 | _=>.Pass ⟨0,0,0,0⟩
def iW(s:Stmt):Arguments:=match s with
 | .FunctionDef _ a _ _ _ _ _ _ _ _=>a
 | _=>{ posonlyargs:=[],args:=[],vararg:=none,kwonlyargs:=[],kw_defaults:=[],kwarg:=none,defaults:=[] }
def eP(s:Stmt):List Stmt:=match s with
 | .FunctionDef _ _ b _ _ _ _ _ _ _=>b
 | _=>[]
def bf(s:Stmt):Scope:=match s with
 | .FunctionDef _ _ _ _ _ _ sc _ _ _=>sc
 | _=>{ kind:=.function,names:=[],isGenerator:=false,isCoroutine:=false }
abbrev E0:XK:=λ_ _ _=>False
variable{base:Heap}
section
variable{K:PySem.W.Frag}
end
variable{n:Nat}
theorem nq(h:n<=1000):n<sizeLine:=Nat.lt_of_le_of_lt h (by decide)
variable{X:Cx}
def bC(H H':Hp):Prop:=∀ b o,H b=some o->H' b=some o
def C4(_ j:Int):Prop:=j≠0/\j.natAbs.log2<9000
theorem CY:iR X (binaryOp .FloorDiv) (rI C4 λi j=>.int (i.fdiv j)):=Mm λ_ _ _ _ _ _ _ hc q=>floordiv_int hc.1 q (.inl (PyProof.noPylong_of_log2 hc.2))
theorem Ea:iR X (binaryOp .Mult) (rI (λi j=>IntMulOk i j) λi j=>.int (i*j)):=Mm λ_ _ _ _ _ _ _ hc q=>mul_int q hc
theorem Cg{a b:Int}{m:Nat}(ha:a.natAbs<2^m)(hb:b.natAbs<2^n)(h:m+n<=134217728):IntMulOk a b:=IntMulOk.of_le (intBits_le_iff.mpr ha) (intBits_le_iff.mpr hb) h
theorem CJ:bootBuiltins "isinstance" = some (.builtin "isinstance"):=by decide +kernel
theorem AE:bootBuiltins "int" = some (.type "int"):=by decide +kernel
theorem DT:bootBuiltins "bool" = some (.type "bool"):=by decide +kernel
theorem pE:bootBuiltins "tuple" = some (.type "tuple"):=by decide +kernel
theorem yH:bootBuiltins "list" = some (.type "list"):=by decide +kernel
theorem Ij:bootBuiltins "sum" = some (.builtin "sum"):=by decide +kernel
def LR(K:PySem.W.Frag):List V->Hp->VK->Prop:=λxs H Q=>∃ x T t b,xs=[x,.ty T]/\kH K H x t/\PySem.W.kitOne K t (.type T)=some b/\Q (.bl b) H
theorem Bn:dR X (.builtin "isinstance") (LR X.K):=by
 intro Ni s σ H xs us Q I r h
 obtain⟨x,T,t,b,rfl,ty,e,q⟩:=h
 cases r with
 | cons r1 r2 =>
  cases r2 with
  | cons r3 r4 =>
   cases r4
   cases (show _=Value.type T from r3)
   exact zD I r1 ty e λtk=>⟨.bl b,H,I.tok tk,rfl,q⟩
section
variable(K:PySem.W.Frag)
end
variable{ch:List Addr}{t':Nat}{h':Heap}{s:Shared}{H:Hp}{σ:St}{Ni:List (Addr×Obj)}
variable{x1:Nat}{elts:List Expr}
theorem Inv.kP{o:HO}(I:Inv X Ni σ H s)(k:∀ b u,b ∉ ch->s.heap.get? b=some u->h'.get? b=some u)
  (O5:∀ b∈ch,mz X Ni H b) (hp:s.heap.objs.size<=a) (hl:∀ b∈ch,∃ u,s.heap.get? b=some u) (new:cM X.prog X.w (upd H a o) h' a o):Inv X Ni σ (upd H a o) { s with heap:=h',toks:=t' }:=by
 have ne:∀ b u,s.heap.get? b=some u->b≠a:=λb u e=>Nat.ne_of_lt (Nat.lt_of_lt_of_le (Heap.lt_size e) hp)
 have PK:H a=none:=I.bT.fresh hp
 have P1:∀ b u,H b=some u->b ∉ ch:=λb u e z=>by rw[(O5 b z).1] at e;cases e
 have PZ:∀ b u,H b=some u->b≠a:=λb u e z=>by rw[z,PK] at e;cases e
 refine I.step (g':=s.gens) (d':=s.drawn) (ch:=ch) (λb hb=>?_) (λb u _ _ hc e _=>k b u hc e) (λb u _ _ hc e _=>⟨u.slots,k b u hc e⟩)
  (λb u _ e n=>by rw[ar (ne b u e)];exact n) (λb u hc e=>⟨u,k b u hc e⟩)
  (λb xs e=>by rw[ar (PZ b _ e)];exact e) (λb ob u e=>by rw[ar (PZ b _ e)];exact e) (λb ps e=>⟨#[],by rw[ar (PZ b _ e),e];simp⟩) (λm hm=>?_) (λb u e=>?_) I.bare
 ·obtain⟨_,f1,_,f3,f4,f5⟩:=O5 b hb
  exact⟨f3,f1,f4,f5⟩
 ·obtain⟨ob,es,ep,ho,r⟩:=hm
  exact⟨ob,es,ep,k _ ob (λz=>(O5 _ z).2.1 rfl) ho,r⟩
 ·by_cases z:b=a
  ·subst z
   rw[az] at e
   cases e
   exact new
  ·rw[ar z] at e
   refine(I.bT b u e).oz (λc v hc q=>k c v ?_ q) (λc q=>?_) λc ys q=>?_
   ·rcases hc with z' | z'
    ·rw[z'];exact P1 b u e
    ·exact P1 c _ z'
   ·rw[ar (PZ c _ q)];exact q
   ·rw[ar (PZ c _ q)];exact q
def HE (K : PySem.W.Frag) (a : Addr) : It :=
  ⟨λi H => ∃ xs x, hV K H a xs /\ xs[i]? = some x,
   λi H y H' => ∃ p x, H p = none /\ y = .ref p /\ H' = upd H p (.tup [.int i, x]) /\ ∀ xs, hV K H a xs -> xs[i]? = some x,
   λi H => ∃ xs, hV K H a xs /\ xs.length <= i⟩
theorem zt{K:PySem.W.Frag}{tp:Pos}(a e it:Addr)(Pm:e≠it):Turn P w K (.Tuple elts x1 tp) (HE K a) [e,it] e (λi h=>(∃ old,IsEnum h e it i old)/\h.IsListIter it a i) where
 mem:=by simp
 obj:=λi h st b hb=>by
  obtain⟨⟨old,he⟩,⟨o,e1,c,d⟩⟩:=st
  rcases List.mem_cons.mp hb with z | z
  ·subst z
   exact⟨_,he,λv z=>by cases z⟩
  ·have z':b=it:=by simpa using z
   subst z'
   exact⟨o,e1,λv z=>by rw[d] at z;cases z⟩
 keep:=λi h h' st k=>by
  obtain⟨⟨old,he⟩,hit⟩:=st
  exact⟨⟨old,k e (by simp) _ he⟩,hit.at λo x=>k it (by simp) o x⟩
 item:=by
  intro X hP hw hK hc i Ni s σ H E I hf st hg
  subst hP hw hK
  obtain⟨xs,x,hq,hx⟩:=hg
  obtain⟨Nl,rv,p,hz⟩:=I.list hq
  obtain⟨u,hu,ru⟩:=rv.get hx
  obtain⟨⟨old,he⟩,hit⟩:=st
  have PJ:e<s.heap.objs.size:=Heap.lt_size he
  have Qy:it<s.heap.objs.size:=by obtain⟨_,z,_⟩:=hit;exact Heap.lt_size z
  refine wpAny_pyNext_enum_item he hit p.isList (x:=u) (by simpa using hu) Pm λh' ho Qz hT OQ hk=>⟨_,rfl,?_⟩
  refine wpAny_letOwnedTupleGo_enum (s:={ s with heap:=h',toks:=s.toks+1 }) ho λh2 he2 OK=>?_
  have PX:∀ b o,b ∉ [e,it]->s.heap.get? b=some o->h2.get? b=some o:=λb o hb q=>by
   have n1:b≠e:=λz=>hb (by simp[z])
   have n2:b≠it:=λz=>hb (by simp[z])
   exact(OK.2 b n1).trans (hk b o n1 n2 q)
  have Qb:h2.get? s.heap.objs.size=some { cls:=.type "tuple", data:=.seq #[.int i s.toks,u] }:=(OK.2 _ (Nat.ne_of_gt PJ)).trans hT
  have I2:Inv X Ni σ (upd H s.heap.objs.size (.tup [.int i,x])) { s with heap:=h2,toks:=s.toks+1 } :=
   I.kP (ch:=[e,it]) PX hf (Nat.le_refl _) (λb hb=>by
    rcases List.mem_cons.mp hb with z | z
    ·subst z;exact⟨_,he⟩
    ·have z':b=it:=by simpa using z
     subst z'
     obtain⟨o,z,_⟩:=hit
     exact⟨o,z⟩)
    ⟨by show 2<=sizeLine;decide,[.int i s.toks,u],.cons ⟨_,rfl⟩ (.cons ru .nil),⟨_,Qb,rfl,_,rfl⟩⟩
  have OJ:H s.heap.objs.size=none:=I.bT.fresh (Nat.le_refl _)
  refine⟨.ref s.heap.objs.size,_,I2,rfl,⟨_,x,OJ,rfl,rfl,λys hy=>by rw[I.pA hy hq];exact hx⟩,⟨⟨u,by simpa using he2⟩,Qz.at λo z=>(OK.2 it (Ne.symm Pm)).trans z⟩,λb hb=>?_⟩
  have nb:b≠s.heap.objs.size:=by
   rcases List.mem_cons.mp hb with z | z
   ·rw[z];exact Nat.ne_of_lt PJ
   ·have z':b=it:=by simpa using z
    rw[z'];exact Nat.ne_of_lt Qy
  rw[ar nb]
  exact(hf b hb).1
 done:=by
  intro X hP hw hK hc i Ni s σ H E I hf st hg
  subst hP hw hK
  obtain⟨xs,hq,hx⟩:=hg
  obtain⟨Nl,rv,p,hz⟩:=I.list hq
  have hl:=rv.length
  obtain⟨⟨old,he⟩,hit⟩:=st
  obtain⟨f0,f1,f2,f3,f4,f5⟩:=hf it (by simp)
  exact wpAny_pyNext_enum_end (I.ok.hd hc) he hit p.isList (by simp;omega) λh' eb=>⟨rfl,I.turned (t':=s.toks) (λb o hb e=>eb b o hb e) f0 f1 f3 f4 f5⟩
 self:=λ_ _ _ _ _ st h=>by
  obtain⟨⟨old,he⟩,_⟩:=st
  exact wpAny_pyIter_enum he h
variable{A:Around}{prog:Program}
variable{scope:Scope}{ifs:List Expr}{elt iter:Expr}
section
variable{R:Result->Shared->Prop}
theorem Ap{target:Expr}{pos:Pos}{it acc:Value}{env:Env}(I:Nat->Shared->Prop)
  (turn:∀ n s,I n s->wpAny (model prog w) A (pyNext it) (λr s₁=>match r with
   | none=>R (.ok .next) s₁
   | some v=>wpAny (model prog w) A (letOwnedTupleGo target it v) (λ_ s₂=>wpAny (model prog w) A (assign target env v) (λ_ s₃ =>
     wpAny (model prog w) A (forIn ifs true λc r=>if r=true then do let ok ← isTrue c env (eval c env);pure (ForInStep.yield ok) else pure (ForInStep.yield r)) (λok s₄ =>
      if ok=true then wpAny (model prog w) A (eval elt env) (λx s₅ =>
       wpAny (model prog w) A (call (.builtin "list.append") [acc,x]) (λ_ s₆=>∃ m,m<n/\I m s₆) (λ_ _=>False) s₅) (λ_ _=>False) s₄
      else ∃ m,m<n/\I m s₄) (λ_ _=>False) s₃) (λ_ _=>False) s₂) (λ_ _=>False) s₁) (λ_ _=>False) s)
  (n:Nat) (h:I n s) :
  codeAny (model prog w) A (.compLoop (.ListComp elt [⟨target,iter,ifs,0⟩] scope pos) 0 it acc env) R s:=by
 refine codeAny_loop rfl I (λn s hI=>?_) n h
 show wpAny _ A ((compTurn (.ListComp elt [⟨target,iter,ifs,0⟩] scope pos) 0 it acc env).onRaise (λx=>do noteFrame x env;theTreesLotGoes x)) _ _ s
 refine wpAny_noted ?_
 rw[compTurn_list]
 refine wpAny_bind (wpAny_standAt (wpAny_bind (wpAny_mono (turn n s hI) (λr s₁ h₁=>?_) λ_ _ h'=>h'.elim)))
 cases r with
 | none=>exact wpAny_pure h₁
 | some v =>
  refine wpAny_bind (wpAny_mono h₁ (λ_ s₂ h₂=>wpAny_bind (wpAny_mono h₂ (λ_ s₃ h₃=>wpAny_bind (wpAny_mono h₃ (λok s₄ h₄=>?_) λ_ _ h'=>h'.elim)) λ_ _ h'=>h'.elim)) λ_ _ h'=>h'.elim)
  cases ok with
  | false=>exact wpAny_pure ⟨rfl,h₄⟩
  | true =>
   exact wpAny_bind (wpAny_bind (wpAny_mono h₄ (λx s₅ h₅=>wpAny_bind (wpAny_mono h₅ (λ_ s₆ h₆=>wpAny_pure (wpAny_pure ⟨rfl,h₆⟩)) λ_ _ h'=>h'.elim)) λ_ _ h'=>h'.elim))
end
def qE(X:Cx)(scope:Scope)(cl:List (Str×Addr))(N:List Str)(C:Addr)(s₀:Shared)(H₀:Hp)(ex:List Addr)(Ni:List (Addr×Obj)):Cx :=
 { X with N:=N,s₀:=s₀,H₀:=H₀,env:=compEnvC scope cl C X.env,outer:=X.stack,stack:=X.stack,ex:=ex,fn:=λ_=>false,pn:=X.pn++Ni,xe:=λ_ _=>False }
inductive jj (X:Cx) (sc:Scope) (cl:List (Str×Addr)):List Str->List Nat->Prop where
 | nil:jj X sc cl [] []
 | cons {x:Str} {j:Nat} {c:Addr} {fs:List Str} {js:List Nat} (hN:X.N[j]?=some x) (hf:sc.names.lookup x=some .free) (hv:X.env.kindOf x=some .cell\/X.env.kindOf x=some .free) (hc:X.env.cells.lookup x=some c) (hl:cl.lookup x=some c) (r:jj X sc cl fs js):jj X sc cl (x::fs) (j::js)
inductive eV (X:Cx):List (Str×Addr)->Prop where
 | nil:eV X []
 | cons {x:Str} {c:Addr} {r:List (Str×Addr)} (h:X.env.cells.lookup x=some c) (t:eV X r):eV X ((x,c)::r)
theorem eV.at{X:Cx}:∀ {cl:List (Str×Addr)},eV X cl->∀ x c,cl.lookup x=some c->X.env.cells.lookup x=some c
 | _,.nil,_,_,e=>by simp at e
 | _,.cons (x:=y) (c:=d) h t,x,c,e=>by
  rw[List.lookup_cons] at e
  cases q:x==y with
  | true =>
   rw[q] at e
   have e':d=c:=Option.some.inj e
   have q':x=y:=by simpa using q
   rw[q',← e'];exact h
  | false =>
   rw[q] at e
   exact eV.at t x c e
def iT(cl:List (Str×Addr))(names:List (Str×NameKind)):Bool:=names.all λy=>y.2 != .free||(cl.lookup y.1).isSome
def gz(names:List (Str×NameKind)):Bool:=names.all λy=>y.2 != .cell
def iI(names:List (Str×NameKind)):Bool:=names.all λy=>y.2 != .local||(names.lookup y.1==some .local)
def fJ(ts:List Str)(js:List Nat)(σ:St):St:=ts.map (λ_=>none)++js.map λj=>(σ[j]?).join
def AO(wi:TI)(g:TG)(tt:Option TT)(te:TE)(ts:List Str)(js:List Nat):TE:=fun σ H Q=>wi σ H λJ H1=>∀ D,H1 D=none ->
 ∃ W:Nat->Nat->St->Hp->Prop,(∃ m,W 0 m (fJ ts js σ) (upd H1 D (.lst [])))/\∀ i m σ' H',W i m σ' H' ->
  (J.stop i H'/\Q (.ref D) H')\/(J.go i H'/\∃ N:St->Hp->Prop,(∀ σ'' H'',N σ'' H''->∃ m',m'<m/\W (i+1) m' σ'' H'') ∧
   ∀ x H2,J.uK i H' x H2->g x σ' H2 fun σ2 H3=>match tt with
    | none=>te σ2 H3 λy H4=>∃ ys,H4 D=some (.lst ys)/\ys.length<sizeLine/\N σ2 (upd H4 D (.lst (ys++[y])))
    | some t=>t σ2 H3 λb QQ=>if b=true then te σ2 QQ λy H4=>∃ ys,H4 D=some (.lst ys)/\ys.length<sizeLine/\N σ2 (upd H4 D (.lst (ys++[y]))) else N σ2 QQ)
variable{C:Addr}
theorem pG {cl : List (Str × Addr)} {env : Env} (h : (compEnvC scope cl C env).kindOf x = some .cell \/ (compEnvC scope cl C env).kindOf x = some .free) (nc : gz scope.names = true) : scope.names.lookup x = some .free := by
  have key : ∀ (names : List (Str × NameKind)), gz names = true ->
      ((names.map λ(n, k) => if (k == NameKind.free && env.scope.kind == .function && env.kindOf n == some .cell) then (n, NameKind.cell) else (n, k)).lookup x = some .cell ∨
       (names.map λ(n, k) => if (k == NameKind.free && env.scope.kind == .function && env.kindOf n == some .cell) then (n, NameKind.cell) else (n, k)).lookup x = some .free) -> names.lookup x = some .free := by
    intro names
    induction names with
    | nil => intro _ h; simp at h
    | cons p r ih =>
      obtain ⟨n, k⟩ := p
      intro nc h
      have nc' : (k != .cell) = true /\ gz r = true := by
        unfold gz at nc
        rw [List.all_cons, Bool.and_eq_true] at nc
        exact nc
      rw [List.map_cons] at h
      dsimp only at h
      by_cases hc : (k == NameKind.free && env.scope.kind == .function && env.kindOf n == some .cell) = true
      · rw [if_pos hc] at h
        rw [List.lookup_cons] at h ⊢
        cases q : x == n with
        | true =>
          have : k = .free := by
            rw [Bool.and_eq_true, Bool.and_eq_true] at hc
            simpa using hc.1.1
          rw [this]
        | false =>
          rw [q] at h
          exact ih nc'.2 h
      · rw [if_neg hc] at h
        rw [List.lookup_cons] at h ⊢
        cases q : x == n with
        | true =>
          rw [q] at h
          have nk : k ≠ .cell := by simpa using nc'.1
          rcases h with h | h
          · exact absurd (Option.some.inj h) nk
          · exact h
        | false =>
          rw [q] at h
          exact ih nc'.2 h
  exact key scope.names nc h
variable{js:List Nat}{ts:List Str}{te:TE}{tt:Option TT}{NJ:Pos}{tg:Expr}
theorem vd{cl:List (Str×Addr)}{pos:Pos}{wi:TI}{g:TG}{fs:List Str}(Nv:X.calm=true)
  (NM:closureFor scope X.env=pure cl) (hk:scope.kind=.function) (nc:gz scope.names=true) (lo:iI scope.names=true) (fh:iT cl scope.names=true) (ag:eV X cl) (fr:jj X scope cl fs js)
  (hi:PI X tg iter wi) (hg:∀ C s₀ H₀ ex Ni,PG (qE X scope cl (ts++fs) C s₀ H₀ ex Ni) tg g)
  (ht:∀ C s₀ H₀ ex Ni,match ifs,tt with | [],none=>True | [c],some t=>PT (qE X scope cl (ts++fs) C s₀ H₀ ex Ni) c t | _,_=>False)
  (he:∀ C s₀ H₀ ex Ni,PE (qE X scope cl (ts++fs) C s₀ H₀ ex Ni) elt te)
  (hs:∀ x,foldedSetIterable iter X.env x=pure x) {Q:VK} (I:Inv X Ni σ H s) (h:AO wi g tt te ts js σ H Q)
  (use:Option (Value->Sem Unit)) (Qv:Value->Shared->Prop)
  (Iw:∀ (D:Addr) (H':Hp) (s':Shared) (C:Addr),Inv X Ni σ H' s'->Q (.ref D) H'->(∃ m,s'.heap.Ns C m)->mz X Ni H' C->compPost (model X.prog X.w) X.A X.xe use Qv (.ref D) C (.ok .next) s') :
  wpAny (model X.prog X.w) X.A (comprehension (.ListComp elt [⟨tg,iter,ifs,0⟩] scope pos) scope X.env NJ (newList []) false (eval iter X.env) use) Qv X.xe s:=by
 have Pk:∀ y∈scope.names,y.2≠.cell:=λy hy=>by
  have:=List.all_eq_true.mp nc y hy
  simpa using this
 have QA:∀ y∈scope.names,y.2=.local->scope.names.lookup y.1=some .local:=λy hy hl=>by
  have:=List.all_eq_true.mp lo y hy
  rw[hl] at this
  simpa using this
 refine wpAny_comprehension_free (use:=use) rfl hs NM hk QA (dh (hi Ni s σ H _ I h) λv s1 h1=>dh h1 λitv s2 h2=>?_)
 obtain⟨it,fp,tn,J,H1,e,I2,T,P7,f2,hJ⟩:=h2
 subst e
 refine wpAny_newObj_type (wpAny_newFunctionEnv Pk (by intro y hy;simp at hy) (λh₁ hns1 hsb1=>?_) hk)
 dsimp only at hns1 hsb1 ⊢
 generalize hH2:s2.heap.push { cls:=.type "list", dict:=none,data:=.seq ([]:List Value).toArray }=G at hns1 hsb1 ⊢
 have hC:G.objs.size=s2.heap.objs.size+1:=by rw[← hH2,Heap.size_push]
 have old:∀ b o,s2.heap.get? b=some o->h₁.get? b=some o:=λb o e=>by
  have hb:=Heap.lt_size e
  refine hsb1.extBut b o (Nat.ne_of_lt (Nat.lt_of_lt_of_le hb (Nat.le_of_lt (by rw[hC];exact Nat.lt_succ_self _)))) (Heap.get?_push_of_some _ ?_)
  rw[← hH2]
  exact Heap.get?_push_of_some _ e
 have hacc:h₁.get? s2.heap.objs.size=some { cls:=.type "list", dict:=none,data:=.seq #[] }:=by
  refine hsb1.extBut _ _ (Nat.ne_of_lt (by rw[hC];exact Nat.lt_succ_self _)) (Heap.get?_push_of_some _ ?_)
  rw[← hH2]
  exact Heap.get?_push_size _ rfl
 have nD:H1 s2.heap.objs.size=none:=I2.bT.fresh (Nat.le_refl _)
 have nC:H1 G.objs.size=none:=I2.bT.fresh (by omega)
 obtain⟨W,⟨m0,w0⟩,turn⟩:=hJ _ nD
 have Q7:∀ b∈fp,b<s2.heap.objs.size:=λb hb=>by
  obtain⟨o,e,_⟩:=T.obj _ _ P7 b hb
  exact Heap.lt_size e
 have ltk:∀ (x:Str) (c:Addr),cl.lookup x=some c->c<s2.heap.objs.size/\H1 c=none/\(∃ v,s2.heap.IsCell c v):=λx c e=>by
  have e':=ag.at x c e
  obtain⟨v,q⟩:=I2.cell x c e'
  exact⟨q.lt,I2.lE x c e',v,q⟩
 let X':=qE X scope cl (ts++fs) G.objs.size s2 H1 fp Ni
 have okX:X'.Ok:=by
  refine⟨I2.ok.mod,hk,I2.ok.glob,I2.ok.blt,by show s2.heap.objs.size<=G.objs.size;omega,λx y c e1 e2=>I2.ok.inj x y c (ag.at x c e1) (ag.at y c e2),λx hx=>?_,λx c hf _=>(nomatch (show (false:Bool)=true from hf)),I2.ok.hd,I2.ok.frames,.inl rfl,λb hb=>⟨?_,λx c e z=>?_⟩,λb o e=>I2.bs b o e,Nat.le_trans I2.ok.FU I2.sz,λb o e hb=>?_,λb hb hz=>?_,I2.stack,λb hb=>I2.sX b hb⟩
  ·have Pl:=pG (env:=X.env) hx nc
   have hm:∃ y∈scope.names,y.1=x/\y.2=.free:=by
    have:∀ (l:List (Str×NameKind)),l.lookup x=some .free->∃ y∈l,y.1=x/\y.2=.free:=by
     intro l
     induction l with
     | nil=>intro h;simp at h
     | cons p r ih =>
      intro h
      rw[List.lookup_cons] at h
      cases q:x==p.1 with
      | true =>
       rw[q] at h
       exact⟨p,List.mem_cons_self,(by simpa using q:x=p.1).symm,Option.some.inj h⟩
      | false =>
       rw[q] at h
       obtain⟨y,hy,r1,r2⟩:=ih h
       exact⟨y,List.mem_cons_of_mem _ hy,r1,r2⟩
    exact this _ Pl
   obtain⟨y,hy,r1,r2⟩:=hm
   have:=List.all_eq_true.mp fh y hy
   rw[r2] at this
   have h':(cl.lookup y.1).isSome=true:=by simpa using this
   rw[r1] at h'
   exact Option.isSome_iff_exists.mp h'
  ·exact Nat.ne_of_lt (Nat.lt_of_lt_of_le (Q7 b hb) (by show s2.heap.objs.size<=G.objs.size;omega))
  ·exact(f2 b hb).2.2.2.2.1 x c (ag.at x c e) z
  ·obtain⟨_,_,_,f3,_,_⟩:=f2 b hb
   rcases f3 with z | z
   ·exact I2.ok.zP b o e z
   ·exact absurd (Nat.lt_of_lt_of_le (Heap.lt_size (I2.ok.bs b o e).1) z) (Nat.lt_irrefl _)
  ·rcases List.mem_cons.mp (I2.uk b hz) with z | z
   ·exact(f2 b hb).2.1 z
   ·exact(f2 b hb).2.2.1 z
 have keepB:∀ b o,s2.heap.get? b=some o->h₁.get? b=some o:=old
 have I3:Inv X' [] (fJ ts js σ) (upd H1 s2.heap.objs.size (.lst [])) { s2 with heap:=h₁,toks:=s2.toks+([]:List (Str×Value)).length }:=by
  have neD:∀ b o,s2.heap.get? b=some o->b≠s2.heap.objs.size:=λb o e=>Nat.ne_of_lt (Heap.lt_size e)
  refine⟨okX,rfl,I2.bare,⟨λb o e n hb hx=>old b o e,λb o e n hb hx=>⟨o.slots,old b o e⟩,λb o e n hx=>by rw[ar (neD b o e)];exact n,λb o e hx=>⟨o,old b o e⟩,λb xs e=>?_,λb o u e=>?_,λb ps e=>?_⟩,⟨_,hns1,λi x v e1 e2 e3=>?_⟩,λx c e=>?_,?_,λx c e=>?_,λp hp=>?_,?_,?_⟩
  ·rw[ar (cx e nD)];exact e
  ·rw[ar (cx e nD)];exact e
  ·exact⟨#[],by rw[ar (cx e nD)];exact Eq.trans e (by simp)⟩
  ·
   have hlen:(ts.map (λ_=>(none:Option V))).length=ts.length:=List.length_map _
   unfold fJ at e2
   by_cases Oa:i<ts.length
   ·rw[List.getElem?_append_left (by rw[hlen];exact Oa),List.getElem?_map] at e2
    cases q:ts[i]? <;> rw[q] at e2 <;> cases e2
   ·rw[List.getElem?_append_right (by rw[hlen];omega),hlen] at e2
    have Qa:fs[i-ts.length]?=some x:=by
     have Qa:(ts++fs)[i]?=some x:=e1
     rw[List.getElem?_append_right (by omega)] at Qa
     exact Qa
    have all:∀ {fs:List Str} {js:List Nat},jj X scope cl fs js->∀ k:Nat,fs[k]?=some x->(js.map λj=>(σ[j]?).join)[k]?=some (some v) ->
      ∃ (j:Nat) (c:Addr),X.N[j]?=some x/\σ[j]?=some (some v)/\(X.env.kindOf x=some .cell\/X.env.kindOf x=some .free)/\X.env.cells.lookup x=some c/\cl.lookup x=some c/\scope.names.lookup x=some .free:=by
     intro fs js r
     induction r with
     | nil=>intro k e;simp at e
     | @cons y j c fs js hN hf hv hc hl r ih =>
      intro k e e'
      cases k with
      | zero =>
       have e0:y=x:=by simpa using e
       subst e0
       have QT:(σ[j]?).join=some v:=by simpa using e'
       refine⟨j,c,hN,?_,hv,hc,hl,hf⟩
       cases q:σ[j]? with
       | none=>rw[q] at QT;cases QT
       | some z=>rw[q] at QT;cases z with
        | none=>cases QT
        | some z =>
         have:z=v:=by simpa using QT
         rw[this]
      | succ k=>exact ih k (by simpa using e) (by simpa using e')
    obtain⟨j,c,q1,q2,q3,q4,q5,q6⟩:=all fr (i-ts.length) Qa e2
    obtain⟨m,hn,hl⟩:=I2.loc
    have vis:DA X.env.scope x:=by
     rcases q3 with z | z
     ·exact .inr (.inl z)
     ·exact .inr (.inr z)
    obtain⟨u,ru,lk⟩:=hl j x v q1 q2 vis
    refine⟨u,ru,.inr ⟨?_,c,q5,?_⟩⟩
    ·rcases e3 with z | z | z
     ·exfalso
      have key:∀ (l:List (Str×NameKind)),(l.map λ(n,k)=>if (k==NameKind.free&&X.env.scope.kind==.function&&X.env.kindOf n==some .cell) then (n,NameKind.cell) else (n,k)).lookup x=some .local->l.lookup x=some .local:=by
       intro l
       induction l with
       | nil=>intro h;simp at h
       | cons p r ih =>
        obtain⟨n,k⟩:=p
        intro h
        rw[List.map_cons] at h
        dsimp only at h
        by_cases hc:(k==NameKind.free&&X.env.scope.kind==.function&&X.env.kindOf n==some .cell)=true
        ·rw[if_pos hc] at h
         rw[List.lookup_cons] at h ⊢
         cases q:x==n with
         | true=>rw[q] at h;cases h
         | false=>rw[q] at h;exact ih h
        ·rw[if_neg hc] at h
         rw[List.lookup_cons] at h ⊢
         cases q:x==n with
         | true=>rw[q] at h;exact h
         | false=>rw[q] at h;exact ih h
      have:=key _ z
      rw[q6] at this
      cases this
     ·exact .inl z
     ·exact .inr z
    ·rcases lk with ⟨k,_⟩ | ⟨_,c',e4,z⟩
     ·rcases q3 with z | z <;> rw[z] at k <;> cases k
     ·rw[q4] at e4
      cases e4
      obtain⟨o,ho,hd⟩:=z
      exact⟨o,old c o ho,hd⟩
  ·obtain⟨_,_,v,o,ho,hd⟩:=ltk x c e
   exact⟨v,o,old c o ho,hd⟩
  ·show upd H1 s2.heap.objs.size (.lst []) G.objs.size=none
   rw[ar (Nat.ne_of_gt (by rw[hC];exact Nat.lt_succ_self _))];exact nC
  ·obtain⟨q1,q2,_⟩:=ltk x c e
   rw[ar (Nat.ne_of_lt q1)];exact q2
  ·have Qu:p∈X.pn++Ni:=by
    have:p∈(X.pn++Ni)++[]:=hp
    rwa [List.append_nil] at this
   obtain⟨e,n,ne,nf,d⟩:=I2.pin p Qu
   have Oa:=Heap.lt_size e
   refine⟨old _ _ e,by rw[ar (Nat.ne_of_lt Oa)];exact n,?_,λhz=>?_,d⟩
   ·show p.1≠G.objs.size
    exact Nat.ne_of_lt (Nat.lt_trans Oa (by rw[hC];exact Nat.lt_succ_self _))
   ·rcases List.mem_cons.mp (I2.uk _ hz) with z | z
    ·exact ne z
    ·exact nf z
  ·exact I2.bT.laid old (Nat.le_refl _) ⟨Nat.zero_le _,[],0,.nil,hacc⟩
  ·show (fJ ts js σ).length=(ts++fs).length
   have frl:∀ {fs:List Str} {js:List Nat},jj X scope cl fs js->fs.length=js.length:=by
    intro fs js r
    induction r with
    | nil=>rfl
    | cons _ _ _ _ _ _ ih=>rw[List.length_cons,List.length_cons,ih]
   unfold fJ
   rw[List.length_append,List.length_append,List.length_map,List.length_map,frl fr]
 have Pg:∀ {H':Hp},(∀ b∈fp,H' b=none)->∀ b∈fp,mz X' [] H' b:=λ{H'} hn b hb=>by
  obtain⟨_,f1,f3,_,f4,f5⟩:=f2 b hb
  refine⟨hn b hb,okX.Me b hb |>.1,okX.Cy b hb,.inl hb,λx c e=>f4 x c (ag.at x c e),λp hp=>f5 p ?_⟩
  have:p∈(X.pn++Ni)++[]:=hp
  rwa [List.append_nil] at this
 have fin:∀ {σ':St} {H':Hp} {s':Shared},Inv X' [] σ' H' s'->Q (.ref s2.heap.objs.size) H' ->
   compPost (model X.prog X.w) X.A X.xe use Qv (.ref s2.heap.objs.size) G.objs.size (.ok .next) s':=by
  intro σ' H' s' I4 q
  obtain⟨m,hn,_⟩:=I4.loc
  have fC:H' G.objs.size=none:=I4.free
  have Io:Inv X Ni σ H' s':=by
   refine I2.Bt (s':=s') (ch:=fp) I4.os ⟨λb o e n hb hx=>?_,λb o e n hb hx=>?_,λb o e n hx=>I4.base.free b o e n hx,λb o e hx=>?_,I4.base.tV,I4.base.mR,I4.base.sU⟩ I4.bT I4.bare λb hb=>?_
   ·exact I4.base.keep b o e n hb hx
   ·exact I4.base.slot b o e n hb hx
   ·exact I4.base.there b o e hx
   ·obtain⟨_,f1,_,f3,f4,f5⟩:=f2 b hb
    exact⟨f3,f1,f4,f5⟩
  have hCl:s2.heap.objs.size<=G.objs.size:=by rw[hC];exact Nat.le_succ _
  exact Iw _ H' s' _ Io q ⟨m,hn⟩ (I2.sZ hCl fC)
 have loop:∀ s3:Shared,s3={ s2 with heap:=h₁,toks:=s2.toks+([]:List (Str×Value)).length } ->
   codeAny (model X.prog X.w) X.A (.compLoop (.ListComp elt [⟨tg,iter,ifs,0⟩] scope pos) 0 (.ref it) (.ref s2.heap.objs.size) (compEnvC scope cl G.objs.size X.env))
    (compPost (model X.prog X.w) X.A X.xe use Qv (.ref s2.heap.objs.size) G.objs.size) s3:=by
  rintro s3 rfl
  refine Ap (λn s'=>∃ i σ' H',Inv X' [] σ' H' s'/\tn i s'.heap/\(∀ b∈fp,H' b=none)/\W i n σ' H') ?_ m0 ⟨0,_,_,I3,T.keep _ _ _ P7 λb _ o e=>old b o e,λb hb=>?_,w0⟩
  ·rintro n s3 ⟨i,σ3,H3,I3,st3,fr3,w3⟩
   rcases turn i n σ3 H3 w3 with ⟨stop,qn⟩ | ⟨go,N,hN,step⟩
   ·refine dh (T.done X' rfl rfl rfl Nv i [] s3 σ3 H3 _ I3 (Pg fr3) st3 stop) λr s4 ⟨hr,I4⟩=>?_
    subst hr
    exact fin I4 qn
   ·refine dh (T.item X' rfl rfl rfl Nv i [] s3 σ3 H3 _ I3 (Pg fr3) st3 go) λr s4 ⟨u,hr,h4⟩=>?_
    subst hr
    refine dh h4 λ_ s5 ⟨x,H5,I5,r5,y5,st5,fr5⟩=>?_
    have I5':=I5.pinned (Pg fr5) (T.obj _ _ st5)
    refine dh (hg _ _ _ _ _ _ s5 σ3 H5 x u _ I5' r5 (step x H5 y5)) λ_ s6 ⟨σ6,H6,I6,q6⟩=>?_
    have again:∀ {σ7:St} {H7:Hp} {s7:Shared},Inv X' ([]++mY fp s5.heap) σ7 H7 s7->N σ7 H7->∃ m,m<n/\∃ i σ' H',Inv X' [] σ' H' s7/\tn i s7.heap/\(∀ b∈fp,H' b=none)/\W i m σ' H':=λ{σ7 H7 s7} I7 n7=>by
     obtain⟨m',hm,w7⟩:=hN σ7 H7 n7
     refine⟨m',hm,i+1,σ7,H7,I7.mL,T.keep _ _ _ st5 λb hb o e=>(I7.pin (b,o) (List.mem_append_right _ (List.mem_append_right _ (jQ hb e)))).1,λb hb=>?_,w7⟩
     obtain⟨o,e,d⟩:=T.obj _ _ st5 b hb
     exact(I7.pin (b,o) (List.mem_append_right _ (List.mem_append_right _ (jQ hb e)))).2.1
    have tail:∀ {H7:Hp} {s7:Shared},Inv X' ([]++mY fp s5.heap) σ6 H7 s7->(te σ6 H7 λy H4=>∃ ys,H4 s2.heap.objs.size=some (.lst ys)/\ys.length<sizeLine/\N σ6 (upd H4 s2.heap.objs.size (.lst (ys++[y])))) ->
      wpAny (model X.prog X.w) X.A (eval elt (compEnvC scope cl G.objs.size X.env)) (λx s₅=>wpAny (model X.prog X.w) X.A (call (.builtin "list.append") [.ref s2.heap.objs.size,x])
       (λ_ s₆=>∃ m,m<n/\∃ i σ' H',Inv X' [] σ' H' s₆/\tn i s₆.heap/\(∀ b∈fp,H' b=none)/\W i m σ' H') (λ_ _=>False) s₅) (λ_ _=>False) s7:=by
     intro H7 s7 I7 q7
     refine dh (he _ _ _ _ _ _ s7 σ6 H7 _ I7 q7) λuy s8 ⟨y,H8,I8,ry,ys,hy,hl,q8⟩=>?_
     refine dh (nI (X:=X') _ s8 σ6 H8 (.ref s2.heap.objs.size) [y] (.ref s2.heap.objs.size) [uy] (λ_ H9=>N σ6 H9) I8 rfl (.cons ry .nil) ⟨_,ys,y,rfl,rfl,hy,hl,q8⟩) λ_ s9 ⟨_,H9,I9,_,q9⟩=>?_
     exact again I9 q9
    cases ifs with
    | nil =>
     cases tt with
     | none=>exact wpAny_tests_nil (tail I6 q6)
     | some t=>exact(ht 0 s2 H1 [] []).elim
    | cons c r =>
     cases r with
     | nil =>
      cases tt with
      | none=>exact(ht 0 s2 H1 [] []).elim
      | some t =>
       refine wpAny_tests_one (dh (ht G.objs.size s2 H1 fp Ni _ s6 σ6 H6 _ I6 q6) λb s7 ⟨H7,I7,q7⟩=>?_)
       cases b with
       | true =>
        rw[if_pos rfl] at q7 ⊢
        exact tail I7 q7
       | false =>
        rw[if_neg Bool.false_ne_true] at q7 ⊢
        exact again I7 q7
     | cons _ _=>cases tt <;> exact(ht 0 s2 H1 [] []).elim
  ·rw[ar (Nat.ne_of_lt (Q7 b hb))]
   exact(f2 b hb).1
 exact codeAny_compStart_list (loop _ rfl) (T.self _ 0 _ _ _ (T.keep _ _ _ P7 λb _ o e=>old b o e) (loop _ rfl))
theorem Inv.other(I:Inv X Ni σ H s)(f:mz X Ni H C)(hs:Heap.SameBut C s.heap h'):Inv X Ni σ H { s with heap:=h' }:=by
 obtain⟨f0,f1,_,f3,f4,f5⟩:=f
 refine I.Bt (s':={ s with heap:=h' }) (ch:=[C]) rfl ⟨λb o e n hb hx=>?_,λb o e n hb hx=>?_,λb o e n hx=>n,λb o e hx=>?_,λ_ _ q=>q,λ_ _ _ q=>q,λb ps q=>⟨#[],by rw[q];simp⟩⟩ (λb u e=>?_) I.bare λb hb=>?_
 ·exact(hs.2 b (λz=>hx (by rw[z];exact List.mem_singleton.mpr rfl))).trans e
 ·exact⟨o.slots,(hs.2 b (λz=>hx (by rw[z];exact List.mem_singleton.mpr rfl))).trans e⟩
 ·exact⟨o,(hs.2 b (λz=>hx (by rw[z];exact List.mem_singleton.mpr rfl))).trans e⟩
 ·refine(I.bT b u e).oz (λc v hc q=>(hs.2 c ?_).trans q) (λ_ q=>q) λ_ _ q=>q
  rcases hc with z | z
  ·rw[z];exact cx e f0
  ·exact cx z f0
 ·rw[List.mem_singleton.mp hb]
  exact⟨f3,f1,f4,f5⟩
theorem yV{cl:List (Str×Addr)}{pos:Pos}{wi:TI}{g:TG}{fs:List Str}(Nv:X.calm=true)
  (NM:closureFor scope X.env=pure cl) (hk:scope.kind=.function) (nc:gz scope.names=true) (lo:iI scope.names=true) (fh:iT cl scope.names=true) (ag:eV X cl) (fr:jj X scope cl fs js)
  (hi:PI X tg iter wi) (hg:∀ C s₀ H₀ ex Ni,PG (qE X scope cl (ts++fs) C s₀ H₀ ex Ni) tg g)
  (ht:∀ C s₀ H₀ ex Ni,match ifs,tt with | [],none=>True | [c],some t=>PT (qE X scope cl (ts++fs) C s₀ H₀ ex Ni) c t | _,_=>False)
  (he:∀ C s₀ H₀ ex Ni,PE (qE X scope cl (ts++fs) C s₀ H₀ ex Ni) elt te)
  (hs:autoParam (∀ x,foldedSetIterable iter X.env x=pure x) aI._auto_1) :
  PE X (.ListComp elt [⟨tg,iter,ifs,0⟩] scope pos) (AO wi g tt te ts js):=by
 intro Ni s σ H Q I h
 rw[eval_ListComp]
 refine vd Nv NM hk nc lo fh ag fr hi hg ht he hs I h none _ λD H' s' C Io q hm f=>?_
 obtain⟨m,hn⟩:=hm
 exact⟨m,hn,λh' QO=>⟨.ref D,H',Io.other f QO,rfl,q⟩⟩
def wX(wi:TI)(g:TG)(te:TE)(ts:List Str)(js:List Nat):TE:=fun σ H Q=>wi σ H λJ H1=>∀ D,H1 D=none ->
 ∃ W:Nat->Nat->St->Hp->Prop,(∃ m,W 0 m (fJ ts js σ) (upd H1 D (.lst [])))/\∀ i m σ' H',W i m σ' H' ->
  (J.stop i H'/\Q (.ref D) H')\/(J.go i H'/\∃ N:St->Hp->Prop,(∀ σ'' H'',N σ'' H''->∃ m',m'<m/\W (i+1) m' σ'' H'') ∧
   ∀ x H2,J.uK i H' x H2->g x σ' H2 fun σ2 H3=>te σ2 H3 λy H4=>∃ ys,H4 D=some (.lst ys)/\ys.length<sizeLine/\N σ2 (upd H4 D (.lst (ys++[y]))))
def Ca(wi:TI)(g:TG)(t:TT)(te:TE)(ts:List Str)(js:List Nat):TE:=fun σ H Q=>wi σ H λJ H1=>∀ D,H1 D=none ->
 ∃ W:Nat->Nat->St->Hp->Prop,(∃ m,W 0 m (fJ ts js σ) (upd H1 D (.lst [])))/\∀ i m σ' H',W i m σ' H' ->
  (J.stop i H'/\Q (.ref D) H')\/(J.go i H'/\∃ N:St->Hp->Prop,(∀ σ'' H'',N σ'' H''->∃ m',m'<m/\W (i+1) m' σ'' H'') ∧
   ∀ x H2,J.uK i H' x H2->g x σ' H2 fun σ2 H3=>t σ2 H3 λb QQ=>if b=true then te σ2 QQ λy H4=>∃ ys,H4 D=some (.lst ys)/\ys.length<sizeLine/\N σ2 (upd H4 D (.lst (ys++[y]))) else N σ2 QQ)
theorem B8{cl:List (Str×Addr)}{pos:Pos}{wi:TI}{g:TG}{fs:List Str}(Nv:X.calm=true)
  (NM:closureFor scope X.env=pure cl) (hk:scope.kind=.function) (nc:gz scope.names=true) (lo:iI scope.names=true) (fh:iT cl scope.names=true) (ag:eV X cl) (fr:jj X scope cl fs js)
  (hi:PI X tg iter wi) (hg:∀ C s₀ H₀ ex Ni,PG (qE X scope cl (ts++fs) C s₀ H₀ ex Ni) tg g) (he:∀ C s₀ H₀ ex Ni,PE (qE X scope cl (ts++fs) C s₀ H₀ ex Ni) elt te)
  (hs:autoParam (∀ x,foldedSetIterable iter X.env x=pure x) aI._auto_1):PE X (.ListComp elt [⟨tg,iter,[],0⟩] scope pos) (wX wi g te ts js) :=
 yV (tt:=none) Nv NM hk nc lo fh ag fr hi hg (λ_ _ _ _ _=>trivial) he hs
variable{c:Expr}
theorem Bu{cl:List (Str×Addr)}{pos:Pos}{wi:TI}{g:TG}{t:TT}{fs:List Str}(Nv:X.calm=true)
  (NM:closureFor scope X.env=pure cl) (hk:scope.kind=.function) (nc:gz scope.names=true) (lo:iI scope.names=true) (fh:iT cl scope.names=true) (ag:eV X cl) (fr:jj X scope cl fs js)
  (hi:PI X tg iter wi) (hg:∀ C s₀ H₀ ex Ni,PG (qE X scope cl (ts++fs) C s₀ H₀ ex Ni) tg g) (ht:∀ C s₀ H₀ ex Ni,PT (qE X scope cl (ts++fs) C s₀ H₀ ex Ni) c t) (he:∀ C s₀ H₀ ex Ni,PE (qE X scope cl (ts++fs) C s₀ H₀ ex Ni) elt te)
  (hs:autoParam (∀ x,foldedSetIterable iter X.env x=pure x) aI._auto_1):PE X (.ListComp elt [⟨tg,iter,[c],0⟩] scope pos) (Ca wi g t te ts js) :=
 yV (tt:=some t) Nv NM hk nc lo fh ag fr hi hg ht he hs
def gy(h:Heap)(b:Bool)(l:Addr)(xs:Array Value):Prop:=match b with
 | true=>h.IsList l xs
 | false=>h.IsTuple l xs
def eM(h:Heap)(b:Bool)(it l:Addr)(i:Nat):Prop:=match b with
 | true=>h.IsListIter it l i
 | false=>h.IsTupleIter it l i
variable{l:Addr}{b:Bool}{h:Heap}
theorem gy.at{xs:Array Value}(x:gy h b l xs)(k:∀ o,h.get? l=some o->h'.get? l=some o):gy h' b l xs:=by
 cases b with
 | true=>obtain⟨o,ho,r⟩:=(show h.IsList l xs from x);exact(show h'.IsList l xs from ⟨o,k o ho,r⟩)
 | false=>obtain⟨o,ho,r⟩:=(show h.IsTuple l xs from x);exact(show h'.IsTuple l xs from ⟨o,k o ho,r⟩)
variable{i:Nat}{it:Addr}
theorem eM.at(x:eM h b it l i)(k:∀ o,h.get? it=some o->h'.get? it=some o):eM h' b it l i:=by
 cases b with
 | true=>obtain⟨o,ho,r⟩:=(show h.IsListIter it l i from x);exact(show h'.IsListIter it l i from ⟨o,k o ho,r⟩)
 | false=>obtain⟨o,ho,r⟩:=(show h.IsTupleIter it l i from x);exact(show h'.IsTupleIter it l i from ⟨o,k o ho,r⟩)
theorem eM.obj(x:eM h b it l i):∃ o vs,h.get? it=some o/\o.data=.fields vs:=by
 cases b with
 | true=>obtain⟨o,ho,_,hd⟩:=(show h.IsListIter it l i from x);exact⟨o,_,ho,hd⟩
 | false=>obtain⟨o,ho,_,hd⟩:=(show h.IsTupleIter it l i from x);exact⟨o,_,ho,hd⟩
theorem gy.obj{xs:Array Value}(x:gy h b l xs):∃ o n,h.get? l=some o/\o.data=.seq xs n:=by
 cases b with
 | true=>obtain⟨o,ho,_,n,hd⟩:=(show h.IsList l xs from x);exact⟨o,n,ho,hd⟩
 | false=>obtain⟨o,ho,_,n,hd⟩:=(show h.IsTuple l xs from x);exact⟨o,n,ho,hd⟩
variable{Q:Value->Shared->Prop}{items:Array Value}
variable{ys:Array Value}{k1 k2:Nat}{l1 l2:Addr}
section
variable{E:Value->Shared->Prop}
theorem iN{t:Addr}{x:Value}(hit:s.heap.IsTupleIter it t i)
  (ht:s.heap.IsTuple t items) (hx:items[i]?=some x)
  (hQ:∀ h',h'.IsTupleIter it t (i+1)->Heap.SameBut it s.heap h'->Q x { s with heap:=h' }) :
  wpAny (model prog w) A (Builtin.SmallTypes.nextOf (.ref it)) Q E s:=by
 obtain⟨o,ho,hc,hd⟩:=id hit
 obtain⟨ol,hol,_,nl,hdl⟩:=ht
 unfold Builtin.SmallTypes.nextOf
 refine wpAny_bind (wpAny_callSpecial?_slot (name:=Str.ofString "__next__") hit.typeIs F.slot_tuple_iterator_next
  (wpAny_call_entry F.slot_tuple_iterator_next hit.typeIs F.entry_tuple_iterator_next ?_ (F.args_tuple_iterator_next_1 _)))
 show wpAny _ _ (field (.ref it) 0 >>= _) _ _ s
 refine wpAny_bind (wpAny_field ho hd (x:=.ref t) rfl ?_)
 show wpAny _ _ (if (Value.ref t==Value.none)=true then _ else _) _ _ s
 rw[if_neg (show ¬ ((Value.ref t==Value.none)=true) from Bool.false_ne_true)]
 show wpAny _ _ (field (.ref it) 1 >>= _) _ _ s
 refine wpAny_bind (wpAny_field ho hd (x:=.int i 0) rfl ?_)
 show wpAny _ _ (seqItems? (.ref t) >>= _) _ _ s
 refine wpAny_bind (wpAny_seqItems hol hdl ?_)
 simp only[Int.toNat_natCast,hx]
 refine wpAny_bind (wpAny_setField ho hd (by simp) (wpAny_pure ⟨x,rfl,wpAny_pure (hQ _ ?_ (Heap.SameBut.update ..))⟩))
 exact⟨_,Heap.get?_update_self _ ho (Obj.isFreed_of_fields (Obj.data_mapFields hd _)),(Obj.cls_mapFields ..).trans hc,by
  rw[Obj.data_mapFields hd];simp[rawInt]⟩
theorem fj{t:Addr}(hh:A.handled=none)
  (hit:s.heap.IsTupleIter it t i) (ht:s.heap.IsTuple t items) (hx:items[i]?=none)
  (hE:∀ h' e,Heap.ExtBut it s.heap h'->(∃ o,h'.get? e=some o/\o.cls=.type "StopIteration")->E (.ref e) { s with heap:=h' }) :
  wpAny (model prog w) A (Builtin.SmallTypes.nextOf (.ref it)) Q E s:=by
 obtain⟨o,ho,hc,hd⟩:=id hit
 obtain⟨ol,hol,_,nl,hdl⟩:=ht
 unfold Builtin.SmallTypes.nextOf
 refine wpAny_bind (wpAny_callSpecial?_slot (name:=Str.ofString "__next__") hit.typeIs F.slot_tuple_iterator_next
  (wpAny_call_entry F.slot_tuple_iterator_next hit.typeIs F.entry_tuple_iterator_next ?_ (F.args_tuple_iterator_next_1 _)))
 show wpAny _ _ (field (.ref it) 0 >>= _) _ _ s
 refine wpAny_bind (wpAny_field ho hd (x:=.ref t) rfl ?_)
 show wpAny _ _ (if (Value.ref t==Value.none)=true then _ else _) _ _ s
 rw[if_neg (show ¬ ((Value.ref t==Value.none)=true) from Bool.false_ne_true)]
 show wpAny _ _ (field (.ref it) 1 >>= _) _ _ s
 refine wpAny_bind (wpAny_field ho hd (x:=.int i 0) rfl ?_)
 show wpAny _ _ (seqItems? (.ref t) >>= _) _ _ s
 refine wpAny_bind (wpAny_seqItems hol hdl ?_)
 simp only[Int.toNat_natCast,hx]
 refine wpAny_bind (wpAny_rule (wpAny_bind (wpAny_setField ho hd (by simp) ?_)))
 show wpAny _ _ (newExc (.type "StopIteration") [] >>= _) _ _ _
 refine wpAny_bind ?_
 simp only[newExc,newTuple]
 refine wpAny_bind (wpAny_newObj_type ?_ (by size_fits))
 refine wpAny_bind (m:=firstArgMember _ _) (wpAny_of_eq (a:=Value.none) (by first | rfl | (simp only[firstArgMember];rfl)) ?_)
 refine wpAny_newObj_type ?_ (by size_fits)
 simp only[raiseNew]
 refine wpAny_bind (wpAny_handled ?_)
 first | rw[show A.in1.handled=none from hh] | rw[hh]
 refine wpAny_bind (wpAny_pure (wpAny_throw ?_))
 exact hE _ _ (((Heap.SameBut.update ..).extBut.push _).push _) ⟨_,Heap.get?_push_size _ rfl,rfl⟩
theorem dc{x:Value}(hit:eM s.heap b it l i)(hl:gy s.heap b l items)(hx:items[i]?=some x)
  (hQ:∀ h',eM h' b it l (i+1)->Heap.SameBut it s.heap h'->Q x { s with heap:=h' }):wpAny (model prog w) A (Builtin.SmallTypes.nextOf (.ref it)) Q E s:=by
 cases b with
 | true=>exact wpAny_nextOf_list_item hit hl hx hQ
 | false=>exact iN hit hl hx hQ
theorem h_(hh:A.handled=none)(hit:eM s.heap b it l i)(hl:gy s.heap b l items)(hx:items[i]?=none)
  (hE:∀ h' e,Heap.ExtBut it s.heap h'->(∃ o,h'.get? e=some o/\o.cls=.type "StopIteration")->E (.ref e) { s with heap:=h' }):wpAny (model prog w) A (Builtin.SmallTypes.nextOf (.ref it)) Q E s:=by
 cases b with
 | true=>exact wpAny_nextOf_list_end hh hit hl hx hE
 | false=>exact fj hh hit hl hx hE
theorem y0{b1 b2:Bool}{z TI TO i1 i2:Addr}{xs:Array Value}{x y a b:Value}(D:ZipApart z TI TO i1 i2 l1 l2)
  (hz:IsZip s.heap z TI TO .none) (N1:IsPair s.heap TI (.ref i1) (.ref i2)) (N3:IsPair s.heap TO a b)
  (h1:eM s.heap b1 i1 l1 k1) (h2:eM s.heap b2 i2 l2 k2) (OH:gy s.heap b1 l1 xs) (OI:gy s.heap b2 l2 ys) (hx:xs[k1]?=some x) (hy:ys[k2]?=some y)
  (hQ:∀ h',IsZip h' z TI TO (rawInt s.heap.objs.size)->IsPair h' TO x y->eM h' b1 i1 l1 (k1+1)->eM h' b2 i2 l2 (k2+1)->IsPair h' s.heap.objs.size x y->h'.objs.size=s.heap.objs.size+1 ->
   (∀ c o,c≠z->c≠TO->c≠i1->c≠i2->s.heap.get? c=some o->h'.get? c=some o)->Q (.ref s.heap.objs.size) { s with heap:=h' }) :
  wpAny (model prog w) A (Builtin.«zip.__next__» ⟨[.ref z],[]⟩) (λfin s'=>∃ v,fin=.done (.ret v)/\Q v s') E s:=by
 show wpAny _ _ (field (.ref z) 2 >>= _) _ _ _
 refine wpAny_bind (wpAny_field hz rfl (x:=.bool false) rfl ?_)
 show wpAny _ _ (field (.ref z) 3 >>= _) _ _ _
 refine wpAny_bind (wpAny_field hz rfl (x:=.ref TI) rfl ?_)
 refine wpAny_bind (wpAny_seqItems N1 rfl ?_)
 show wpAny _ _ (Builtin.SmallTypes.ownedTupleIsFree (.ref z) >>= _) _ _ _
 refine wpAny_bind ?_
 unfold Builtin.SmallTypes.ownedTupleIsFree
 refine wpAny_bind (wpAny_field hz rfl (x:=.none) rfl (wpAny_pure ?_))
 simp only[if_true]
 refine wpAny_bind (wpAny_rule ?_)
 refine wpAny_bind (wpAny_field hz rfl (x:=.ref TO) rfl ?_)
 refine wpAny_bind (wpAny_setField_rec hz (by simp) λh₁ hz1 hs1=>?_)
 replace hz1:IsZip h₁ z TI TO .ellipsis:=hz1
 refine wpAny_bind ?_
 simp only[List.zipIdx_cons,List.zipIdx_nil,List.forIn_cons,List.forIn_nil]
 refine wpAny_bind (wpAny_bind (wpAny_onRaise ?_))
 show wpAny _ _ (Builtin.SmallTypes.nextOf (.ref i1) >>= _) _ _ _
 refine wpAny_bind (dc (h1.at λo e=>hs1.extBut _ _ D.i1z e) (OH.at λo e=>hs1.extBut _ _ D.l1z e) hx λh₂ h1₂ hs2=>wpAny_pure ?_)
 have hTO2:IsPair h₂ TO a b:=hs2.extBut _ _ D.TOi1 (hs1.extBut _ _ D.TOz N3)
 refine wpAny_bind (wpAny_seqItems hTO2 rfl ?_)
 refine wpAny_bind (wpAny_updateSeq_pair hTO2 λh₃ hTO3 hs3=>?_)
 replace hTO3:IsPair h₃ TO x b:=hTO3
 refine wpAny_bind (wpAny_letGo (wpAny_pure ?_))
 refine wpAny_bind (wpAny_bind (wpAny_onRaise ?_))
 show wpAny _ _ (Builtin.SmallTypes.nextOf (.ref i2) >>= _) _ _ _
 refine wpAny_bind (dc (h2.at λo e=>hs3.extBut _ _ D.TOi2.symm (hs2.extBut _ _ D.i12.symm (hs1.extBut _ _ D.i2z e)))
  (OI.at λo e=>hs3.extBut _ _ D.l2TO (hs2.extBut _ _ D.l2i1 (hs1.extBut _ _ D.l2z e))) hy λh₄ h2₄ hs4=>wpAny_pure ?_)
 have hTO4:IsPair h₄ TO x b:=hs4.extBut _ _ D.TOi2 hTO3
 refine wpAny_bind (wpAny_seqItems hTO4 rfl ?_)
 refine wpAny_bind (wpAny_updateSeq_pair hTO4 λh₅ hTO5 hs5=>?_)
 replace hTO5:IsPair h₅ TO x y:=hTO5
 refine wpAny_bind (wpAny_letGo (wpAny_pure (wpAny_pure ?_)))
 refine wpAny_bind (wpAny_seqItems hTO5 rfl ?_)
 refine wpAny_bind (wpAny_newTuple ?_)
 have OQ:h₅.objs.size=s.heap.objs.size:=by rw[hs5.1,hs4.1,hs3.1,hs2.1,hs1.1]
 have hz5:IsZip h₅ z TI TO .ellipsis:=hs5.extBut _ _ D.TOz.symm (hs4.extBut _ _ D.i2z.symm (hs3.extBut _ _ D.TOz.symm (hs2.extBut _ _ D.i1z.symm hz1)))
 have hk5:∀ c o,c≠z->c≠TO->c≠i1->c≠i2->s.heap.get? c=some o->h₅.get? c=some o:=λc o c1 c2 c3 c4 e =>
  hs5.extBut _ _ c2 (hs4.extBut _ _ c4 (hs3.extBut _ _ c2 (hs2.extBut _ _ c3 (hs1.extBut _ _ c1 e))))
 have h1₅:eM h₅ b1 i1 l1 (k1+1):=h1₂.at λo e=>hs5.extBut _ _ D.TOi1.symm (hs4.extBut _ _ D.i12 (hs3.extBut _ _ D.TOi1.symm e))
 have h2₅:eM h₅ b2 i2 l2 (k2+1):=h2₄.at λo e=>hs5.extBut _ _ D.TOi2.symm e
 have PR:z<h₅.objs.size:=Heap.lt_size hz5
 show wpAny _ _ (Builtin.SmallTypes.ownedTupleHandOut (.ref z) (.ref h₅.objs.size) >>= _) _ _ _
 refine wpAny_bind ?_
 unfold Builtin.SmallTypes.ownedTupleHandOut
 have hz6:IsZip (h₅.push { cls:=.type "tuple", data:=.seq #[x,y] }) z TI TO .ellipsis:=Heap.get?_push_of_some _ hz5
 refine wpAny_bind (wpAny_setField_rec hz6 (by simp) λh₇ hz7 hs7=>?_)
 replace hz7:IsZip h₇ z TI TO (rawInt h₅.objs.size):=hz7
 refine wpAny_setField_rec hz7 (by simp) λh₈ hz₈ hs8=>?_
 replace hz₈:IsZip h₈ z TI TO (rawInt h₅.objs.size):=hz₈
 have up:∀ c o,c≠z->h₅.get? c=some o->h₈.get? c=some o:=λc o c1 e=>hs8.extBut _ _ c1 (hs7.extBut _ _ c1 (Heap.get?_push_of_some _ e))
 have hT8:IsPair h₈ h₅.objs.size x y:=hs8.extBut _ _ (Nat.ne_of_gt PR) (hs7.extBut _ _ (Nat.ne_of_gt PR) (Heap.get?_push_size _ rfl))
 have hz8:h₈.objs.size=h₅.objs.size+1:=by rw[hs8.1,hs7.1,Heap.size_push]
 rw[OQ] at hz₈ hT8 hz8
 refine wpAny_pure ⟨_,rfl,?_⟩
 show Q (.ref h₅.objs.size) _
 rw[OQ]
 exact hQ h₈ hz₈ (up _ _ D.TOz hTO5) (h1₅.at λo e=>up _ o D.i1z e) (h2₅.at λo e=>up _ o D.i2z e) hT8 hz8 λc o c1 c2 c3 c4 e=>up c o c1 (hk5 c o c1 c2 c3 c4 e)
theorem Ci{b1 b2:Bool}{z TI TO i1 i2:Addr}{xs:Array Value}{a b:Value}{Q:Fin->Shared->Prop}(hh:A.handled=none)(D:ZipApart z TI TO i1 i2 l1 l2)
  (hz:IsZip s.heap z TI TO .none) (N1:IsPair s.heap TI (.ref i1) (.ref i2)) (N3:IsPair s.heap TO a b)
  (h1:eM s.heap b1 i1 l1 k1) (h2:eM s.heap b2 i2 l2 k2) (OH:gy s.heap b1 l1 xs) (OI:gy s.heap b2 l2 ys) (OP:xs[k1]?=none\/ys[k2]?=none)
  (hE:∀ h' e,(∀ c o,c≠z->c≠TO->c≠i1->c≠i2->s.heap.get? c=some o->h'.get? c=some o)->(∃ o,h'.get? e=some o/\o.cls=.type "StopIteration")->E (.ref e) { s with heap:=h' }) :
  wpAny (model prog w) A (Builtin.«zip.__next__» ⟨[.ref z],[]⟩) Q E s:=by
 show wpAny _ _ (field (.ref z) 2 >>= _) _ _ _
 refine wpAny_bind (wpAny_field hz rfl (x:=.bool false) rfl ?_)
 show wpAny _ _ (field (.ref z) 3 >>= _) _ _ _
 refine wpAny_bind (wpAny_field hz rfl (x:=.ref TI) rfl ?_)
 refine wpAny_bind (wpAny_seqItems N1 rfl ?_)
 show wpAny _ _ (Builtin.SmallTypes.ownedTupleIsFree (.ref z) >>= _) _ _ _
 refine wpAny_bind ?_
 unfold Builtin.SmallTypes.ownedTupleIsFree
 refine wpAny_bind (wpAny_field hz rfl (x:=.none) rfl (wpAny_pure ?_))
 simp only[if_true]
 refine wpAny_bind (wpAny_rule ?_)
 refine wpAny_bind (wpAny_field hz rfl (x:=.ref TO) rfl ?_)
 refine wpAny_bind (wpAny_setField_rec hz (by simp) λh₁ hz1 hs1=>?_)
 replace hz1:IsZip h₁ z TI TO .ellipsis:=hz1
 refine wpAny_bind ?_
 simp only[List.zipIdx_cons,List.zipIdx_nil,List.forIn_cons,List.forIn_nil]
 refine wpAny_bind (wpAny_bind (wpAny_onRaise ?_))
 show wpAny _ _ (Builtin.SmallTypes.nextOf (.ref i1) >>= _) _ _ _
 cases hx:xs[k1]? with
 | none =>
  refine wpAny_bind (h_ hh (h1.at λo e=>hs1.extBut _ _ D.i1z e) (OH.at λo e=>hs1.extBut _ _ D.l1z e) hx λh₂ e hs2 he=>?_)
  obtain⟨oe,OY,Pj⟩:=he
  have hz2:IsZip h₂ z TI TO .ellipsis:=hs2 _ _ D.i1z.symm hz1
  have Qg:e≠z:=λx=>by subst x;rw[hz2] at OY;cases OY;simp at Pj
  refine wpAny_setField_rec hz2 (by simp) λh₃ _ hs3=>hE h₃ e (λc o c1 _ c3 _ x=>hs3.extBut _ _ c1 (hs2 _ _ c3 (hs1.extBut _ _ c1 x))) ⟨oe,hs3.extBut _ _ Qg OY,Pj⟩
 | some x =>
  have hy:ys[k2]?=none:=by rcases OP with h | h;rw[hx] at h;cases h;exact h
  refine wpAny_bind (dc (h1.at λo e=>hs1.extBut _ _ D.i1z e) (OH.at λo e=>hs1.extBut _ _ D.l1z e) hx λh₂ h1₂ hs2=>wpAny_pure ?_)
  have hTO2:IsPair h₂ TO a b:=hs2.extBut _ _ D.TOi1 (hs1.extBut _ _ D.TOz N3)
  refine wpAny_bind (wpAny_seqItems hTO2 rfl ?_)
  refine wpAny_bind (wpAny_updateSeq_pair hTO2 λh₃ hTO3 hs3=>?_)
  refine wpAny_bind (wpAny_letGo (wpAny_pure ?_))
  refine wpAny_bind (wpAny_bind (wpAny_onRaise ?_))
  show wpAny _ _ (Builtin.SmallTypes.nextOf (.ref i2) >>= _) _ _ _
  refine wpAny_bind (h_ hh (h2.at λo e=>hs3.extBut _ _ D.TOi2.symm (hs2.extBut _ _ D.i12.symm (hs1.extBut _ _ D.i2z e)))
   (OI.at λo e=>hs3.extBut _ _ D.l2TO (hs2.extBut _ _ D.l2i1 (hs1.extBut _ _ D.l2z e))) hy λh₄ e hs4 he=>?_)
  obtain⟨oe,OY,Pj⟩:=he
  have hz4:IsZip h₄ z TI TO .ellipsis:=hs4 _ _ D.i2z.symm (hs3.extBut _ _ D.TOz.symm (hs2.extBut _ _ D.i1z.symm hz1))
  have Qg:e≠z:=λx=>by subst x;rw[hz4] at OY;cases OY;simp at Pj
  refine wpAny_setField_rec hz4 (by simp) λh₅ _ hs5=>hE h₅ e (λc o c1 c2 c3 c4 x=>hs5.extBut _ _ c1 (hs4 _ _ c4 (hs3.extBut _ _ c2 (hs2.extBut _ _ c3 (hs1.extBut _ _ c1 x))))) ⟨oe,hs5.extBut _ _ Qg OY,Pj⟩
theorem ve(hl:gy s.heap b l items)
  (h:∀ o,o=({ cls:=.type (if b then "list_iterator" else "tuple_iterator"),data:=.fields #[.ref l,.int 0 0] }:Obj)->Q (.ref s.heap.objs.size) { s with heap:=s.heap.push o }):wpAny (model prog w) A (pyIter (.ref l)) Q E s:=by
 cases b with
 | true=>exact wpAny_pyIter_list hl (h _ rfl)
 | false=>exact wpAny_pyIter_tuple hl (h _ rfl)
theorem nA{b1 b2:Bool}{z TI TO i1 i2:Addr}{xs:Array Value}{x y a b:Value}{Q:Option Value->Shared->Prop}(D:ZipApart z TI TO i1 i2 l1 l2)
  (hz:IsZip s.heap z TI TO .none) (N1:IsPair s.heap TI (.ref i1) (.ref i2)) (N3:IsPair s.heap TO a b)
  (h1:eM s.heap b1 i1 l1 k1) (h2:eM s.heap b2 i2 l2 k2) (OH:gy s.heap b1 l1 xs) (OI:gy s.heap b2 l2 ys) (hx:xs[k1]?=some x) (hy:ys[k2]?=some y)
  (hQ:∀ h',IsZip h' z TI TO (rawInt s.heap.objs.size)->IsPair h' TO x y->eM h' b1 i1 l1 (k1+1)->eM h' b2 i2 l2 (k2+1)->IsPair h' s.heap.objs.size x y->h'.objs.size=s.heap.objs.size+1 ->
   (∀ c o,c≠z->c≠TO->c≠i1->c≠i2->s.heap.get? c=some o->h'.get? c=some o)->Q (some (.ref s.heap.objs.size)) { s with heap:=h' }) :
  wpAny (model prog w) A (pyNext (.ref z)) Q E s:=by
 have hT:s.TypeIs (.ref z) "zip" := ⟨_,hz,rfl⟩
 unfold pyNext
 exact wpAny_bind (wpAny_attempt (wpAny_callSpecial?_slot (name:=Str.ofString "__next__") hT F.slot_zip_next
  (wpAny_call_entry F.slot_zip_next hT F.entry_zip_next
   (y0 D hz N1 N3 h1 h2 OH OI hx hy λh' a1 a2 a3 a4 a5 a6 a7=>wpAny_pure (hQ h' a1 a2 a3 a4 a5 a6 a7)) (F.args_zip_next_1 _))))
theorem og{b1 b2:Bool}{z TI TO i1 i2:Addr}{xs:Array Value}{a b:Value}{Q:Option Value->Shared->Prop}(hh:A.handled=none)(D:ZipApart z TI TO i1 i2 l1 l2)
  (hz:IsZip s.heap z TI TO .none) (N1:IsPair s.heap TI (.ref i1) (.ref i2)) (N3:IsPair s.heap TO a b)
  (h1:eM s.heap b1 i1 l1 k1) (h2:eM s.heap b2 i2 l2 k2) (OH:gy s.heap b1 l1 xs) (OI:gy s.heap b2 l2 ys) (OP:xs[k1]?=none\/ys[k2]?=none)
  (hQ:∀ h',(∀ c o,c≠z->c≠TO->c≠i1->c≠i2->s.heap.get? c=some o->h'.get? c=some o)->Q none { s with heap:=h' }):wpAny (model prog w) A (pyNext (.ref z)) Q E s:=by
 have hT:s.TypeIs (.ref z) "zip" := ⟨_,hz,rfl⟩
 unfold pyNext
 refine wpAny_bind (wpAny_attempt (wpAny_callSpecial?_slot (name:=Str.ofString "__next__") hT F.slot_zip_next
  (wpAny_call_entry F.slot_zip_next hT F.entry_zip_next (Ci hh D hz N1 N3 h1 h2 OH OI OP λh' e hk he=>?_) (F.args_zip_next_1 _))))
 obtain⟨o,ho,hc⟩:=he
 refine wpAny_bind (wpAny_isInstance (T := "StopIteration") (b:=true) ⟨o,ho,hc⟩ isSubtype_stop ?_)
 exact wpAny_pure (hQ _ hk)
abbrev DQ(b:Bool)(l:Addr):Obj:={ cls:=.type (if b then "list_iterator" else "tuple_iterator"),data:=.fields #[.ref l,.int 0 0] }
abbrev G2(h:Heap)(b1:Bool)(l1:Addr):Heap:=h.push (DQ b1 l1)
abbrev F3(h:Heap)(b1 b2:Bool)(l1 l2:Addr):Heap:=(G2 h b1 l1).push (DQ b2 l2)
abbrev K0(h:Heap)(b1 b2:Bool)(l1 l2:Addr):Heap:=(F3 h b1 b2 l1 l2).push { cls:=.type "tuple", data:=.seq #[.ref h.objs.size,.ref (G2 h b1 l1).objs.size] }
abbrev K1(h:Heap)(b1 b2:Bool)(l1 l2:Addr):Heap:=(K0 h b1 b2 l1 l2).push { cls:=.type "tuple", data:=.seq #[.none,.none] }
abbrev GV(h:Heap)(b1 b2:Bool)(l1 l2:Addr):Heap:=(K1 h b1 b2 l1 l2).push { cls:=.type "zip", data:=.fields #[.none,.bool false,.bool false,.ref (F3 h b1 b2 l1 l2).objs.size,.ref (K0 h b1 b2 l1 l2).objs.size] }
end
theorem f_{E:Value->Shared->Prop}(hl:gy s.heap b l items)
  (h:Q (.ref s.heap.objs.size) { s with heap:=s.heap.push (DQ b l) }):wpAny (model prog w) A (pyIter (.ref l)) Q E s:=ve hl λo e=>by subst e;exact h
theorem gy.push{h:Heap}{b:Bool}{l:Addr}{xs:Array Value}(x:gy h b l xs)(o:Obj):gy (h.push o) b l xs:=x.at λ_ e=>Heap.get?_push_of_some _ e
theorem pz(b1 b2:Bool)(l1 l2:Addr)(xs ys:Array Value) :
  Meets (Builtin.«zip.__new__» ⟨[.type "zip", .ref l1,.ref l2],[]⟩) (λ_ R s=>gy s.heap b1 l1 xs/\gy s.heap b2 l2 ys ∧
   R (.ok (.ret (.ref (K1 s.heap b1 b2 l1 l2).objs.size))) { s with heap:=GV s.heap b1 b2 l1 l2 }) :=
 .of_wp λprog w A R s h=>by
  obtain⟨hp,g,d,tk,os⟩:=s;obtain⟨OH,OI,h⟩:=h
  have Rh:=sub_zip
  have hL1:gy (Shared.heap ⟨hp,g,d,tk,os⟩) b1 l1 xs:=OH
  have hL2:gy (Shared.heap ⟨hp.push (DQ b1 l1),g,d,tk,os⟩) b2 l2 ys:=gy.push OI _
  wp_walk using f_ hL1,f_ hL2
  exact⟨_,rfl,h⟩
section
variable{E:Value->Shared->Prop}
theorem eM.new(h:Heap)(b:Bool)(it l:Addr)(e:h.get? it=some (DQ b l)):eM h b it l 0:=by
 cases b with
 | true=>exact⟨_,e,rfl,rfl⟩
 | false=>exact⟨_,e,rfl,rfl⟩
theorem As{b1 b2:Bool}{xs:Array Value}(OH:gy s.heap b1 l1 xs)(OI:gy s.heap b2 l2 ys)
  (h:∀ h',IsZip h' (s.heap.objs.size+4) (s.heap.objs.size+2) (s.heap.objs.size+3) .none->IsPair h' (s.heap.objs.size+2) (.ref s.heap.objs.size) (.ref (s.heap.objs.size+1)) ->
   IsPair h' (s.heap.objs.size+3) .none .none->eM h' b1 s.heap.objs.size l1 0->eM h' b2 (s.heap.objs.size+1) l2 0->h'.objs.size=s.heap.objs.size+5 ->
   (∀ c o,s.heap.get? c=some o->h'.get? c=some o)->Q (.ref (s.heap.objs.size+4)) { s with heap:=h' }) :
  wpAny (model prog w) A (call (.type "zip") [.ref l1,.ref l2]) Q E s:=by
 refine callType_new F.called_zip (by decide) (F.typeCall_zip_2 _ _) (F.newCall_zip_2 _ _) (λobj=>F.args_object_init_3 obj _ _) F.entry_zip_new
  (pz b1 b2 l1 l2 xs ys) ⟨OH,OI,?_⟩
 have z1:(G2 s.heap b1 l1).objs.size=s.heap.objs.size+1:=Heap.size_push ..
 have z2:(F3 s.heap b1 b2 l1 l2).objs.size=s.heap.objs.size+2:=by rw[Heap.size_push,z1]
 have z3:(K0 s.heap b1 b2 l1 l2).objs.size=s.heap.objs.size+3:=by rw[Heap.size_push,z2]
 have z4:(K1 s.heap b1 b2 l1 l2).objs.size=s.heap.objs.size+4:=by rw[Heap.size_push,z3]
 have z5:(GV s.heap b1 b2 l1 l2).objs.size=s.heap.objs.size+5:=by rw[Heap.size_push,z4]
 have g5:(GV s.heap b1 b2 l1 l2).get? (K1 s.heap b1 b2 l1 l2).objs.size=some _:=Heap.get?_push_size _ rfl
 have g4:(GV s.heap b1 b2 l1 l2).get? (K0 s.heap b1 b2 l1 l2).objs.size=some _:=Heap.get?_push_of_some _ (Heap.get?_push_size _ rfl)
 have g3:(GV s.heap b1 b2 l1 l2).get? (F3 s.heap b1 b2 l1 l2).objs.size=some _:=Heap.get?_push_of_some _ (Heap.get?_push_of_some _ (Heap.get?_push_size _ rfl))
 have g2:(GV s.heap b1 b2 l1 l2).get? (G2 s.heap b1 l1).objs.size=some _:=Heap.get?_push_of_some _ (Heap.get?_push_of_some _ (Heap.get?_push_of_some _ (Heap.get?_push_size _ rfl)))
 have g1:(GV s.heap b1 b2 l1 l2).get? s.heap.objs.size=some _:=Heap.get?_push_of_some _ (Heap.get?_push_of_some _ (Heap.get?_push_of_some _ (Heap.get?_push_of_some _ (Heap.get?_push_size _ rfl))))
 show _/\_
 rw[z2,z3,z4] at g5
 rw[z1,z2] at g3
 rw[z3] at g4
 rw[z1] at g2
 rw[z4]
 exact⟨⟨_,g5,rfl⟩,h _ g5 g3 g4 (eM.new _ b1 _ _ g1) (eM.new _ b2 _ _ g2) z5 λc o x =>
  Heap.get?_push_of_some _ (Heap.get?_push_of_some _ (Heap.get?_push_of_some _ (Heap.get?_push_of_some _ (Heap.get?_push_of_some _ x))))⟩
end
def k_(K:PySem.W.Frag)(H:Hp)(b:Bool)(a:Addr)(xs:List V):Prop:=match b with
 | true=>hV K H a xs
 | false=>iy K H a xs
variable{tl:TA}
theorem Inv.row{xs:List V}(I:Inv X Ni σ H s)(h:k_ X.K H b a xs):∃ Nl:List Value,Vals xs Nl/\gy s.heap b a Nl.toArray/\xs.length<=sizeLine:=by
 cases b with
 | true =>
  obtain⟨Nl,r,p,z⟩:=I.list h
  exact⟨Nl,r,p.isList,z⟩
 | false =>
  obtain⟨Nl,r,p,z⟩:=I.tuple h
  exact⟨Nl,r,p,z⟩
theorem Inv.l5{xs ys:List V}(I:Inv X Ni σ H s)(h:k_ X.K H b a xs)(h':k_ X.K H b a ys):xs=ys:=by
 cases b with
 | true=>exact I.pA h h'
 | false=>exact I.nv h h'
theorem Inv.yt(I:Inv X Ni σ H s)(k:∀ b u,b ∉ ch->s.heap.get? b=some u->h'.get? b=some u)
  (O5:∀ b∈ch,mz X Ni H b):Inv X Ni σ H { s with heap:=h',toks:=t' }:=by
 have P1:∀ b u,H b=some u->b ∉ ch:=λb u e z=>by rw[(O5 b z).1] at e;cases e
 refine I.step (g':=s.gens) (d':=s.drawn) (ch:=ch) (λb hb=>?_) (λb u _ _ hc e _=>k b u hc e) (λb u _ _ hc e _=>⟨u.slots,k b u hc e⟩)
  (λb u _ e n=>n) (λb u hc e=>⟨u,k b u hc e⟩) (λb xs e=>e) (λb ob u e=>e) (λb ps e=>⟨#[],by rw[e];simp⟩) (λm hm=>?_) (λb u e=>?_) I.bare
 ·obtain⟨_,f1,_,f3,f4,f5⟩:=O5 b hb
  exact⟨f3,f1,f4,f5⟩
 ·obtain⟨ob,es,ep,ho,r⟩:=hm
  exact⟨ob,es,ep,k _ ob (λz=>(O5 _ z).2.1 rfl) ho,r⟩
 ·refine(I.bT b u e).oz (λc v hc q=>k c v ?_ q) (λc q=>q) λc ys q=>q
  rcases hc with z' | z'
  ·rw[z'];exact P1 b u e
  ·exact P1 c _ z'
theorem cU{c:Addr}{xs:List V}(I:Inv X Ni σ H s)(h:k_ X.K H b a xs)(f:mz X Ni H c):a≠c:=by
 have rd:∀ {u:HO},Rd H a u->a≠c:=λ{u} r=>by
  rcases r with r | ⟨o,r⟩
  ·exact cx r f.1
  ·exact cx r f.1
 have mk:∀ {o:Obj},X.K.lookup a=some o->a≠c:=λ{o} e z=>by
  subst z
  have e':=I.ok.mod.FK _ _ e
  rcases f.2.2.2.1 with q | q
  ·exact I.ok.zP _ _ e' q
  ·exact absurd (Nat.lt_of_lt_of_le (Heap.lt_size (I.ok.bs _ _ e').1) q) (Nat.lt_irrefl _)
 cases b with
 | true =>
  rcases(show hV X.K H a xs from h) with r | ⟨o,Nl,n,e,_⟩
  ·exact rd r
  ·exact mk e
 | false =>
  rcases(show iy X.K H a xs from h) with r | ⟨o,Nl,n,e,_⟩
  ·exact rd r
  ·exact mk e
def Lk (K : PySem.W.Frag) (b1 b2 : Bool) (a1 a2 : Addr) : It :=
  ⟨λi H => ∃ xs ys x y, k_ K H b1 a1 xs /\ k_ K H b2 a2 ys /\ xs[i]? = some x /\ ys[i]? = some y,
   λi H v H' => ∃ p x y, H p = none /\ v = .ref p /\ H' = upd H p (.tup [x, y]) /\ (∀ xs, k_ K H b1 a1 xs -> xs[i]? = some x) /\ (∀ ys, k_ K H b2 a2 ys -> ys[i]? = some y),
   λi H => ∃ xs ys, k_ K H b1 a1 xs /\ k_ K H b2 a2 ys /\ (xs.length <= i \/ ys.length <= i)⟩
theorem Ck{K:PySem.W.Frag}{tp:Pos}(b1 b2:Bool)(a1 a2 z TI TO i1 i2:Addr)(D:TI≠z/\TO≠z/\i1≠z/\i2≠z/\TI≠TO/\TI≠i1/\TI≠i2/\TO≠i1/\TO≠i2/\i1≠i2) :
  Turn P w K (.Tuple elts x1 tp) (Lk K b1 b2 a1 a2) [z,TO,i1,i2,TI] z (λi h=>IsZip h z TI TO .none/\IsPair h TI (.ref i1) (.ref i2)/\(∃ a b,IsPair h TO a b)/\eM h b1 i1 a1 i/\eM h b2 i2 a2 i) where
 mem:=by simp
 obj:=λi h st b hb=>by
  obtain⟨hz,N1,⟨a,c,N3⟩,h1,h2⟩:=st
  simp only[List.mem_cons,List.mem_nil_iff,or_false] at hb
  rcases hb with q | q | q | q | q <;> subst q
  ·exact⟨_,hz,λv z=>by cases z⟩
  ·exact⟨_,N3,λv z=>by cases z⟩
  ·obtain⟨o,vs,e,d⟩:=h1.obj
   exact⟨o,e,λv z=>by rw[d] at z;cases z⟩
  ·obtain⟨o,vs,e,d⟩:=h2.obj
   exact⟨o,e,λv z=>by rw[d] at z;cases z⟩
  ·exact⟨_,N1,λv z=>by cases z⟩
 keep:=λi h h' st k=>by
  obtain⟨hz,N1,⟨a,c,N3⟩,h1,h2⟩:=st
  exact⟨k z (by simp) _ hz,k TI (by simp) _ N1,⟨a,c,k TO (by simp) _ N3⟩,h1.at λo e=>k i1 (by simp) o e,h2.at λo e=>k i2 (by simp) o e⟩
 item:=by
  intro X hP hw hK hc i Ni s σ H E I hf st hg
  subst hP hw hK
  obtain⟨xs,ys,x,y,N2,NU,hx,hy⟩:=hg
  obtain⟨PU,Ql,p1,Rm⟩:=I.row N2
  obtain⟨O0,Qn,p2,Rn⟩:=I.row NU
  obtain⟨u1,hu1,ru1⟩:=Ql.get hx
  obtain⟨u2,hu2,ru2⟩:=Qn.get hy
  obtain⟨hz,N1,⟨a,c,N3⟩,h1,h2⟩:=st
  obtain⟨d1,d2,d3,d4,d5,d6,d7,d8,d9,d10⟩:=D
  obtain⟨o1,n1,e1,dd1⟩:=p1.obj
  obtain⟨o2,n2,e2,QS⟩:=p2.obj
  obtain⟨oi1,vs1,QU,di1⟩:=h1.obj
  obtain⟨oi2,vs2,QV,di2⟩:=h2.obj
  have D:ZipApart z TI TO i1 i2 a1 a2:=⟨d1,d2,d3,d4,d5,d6,d7,d8,d9,d10,cU I N2 (hf z (by simp)),cU I N2 (hf TO (by simp)),cU I N2 (hf i1 (by simp)),cU I N2 (hf i2 (by simp)),
   cU I NU (hf z (by simp)),cU I NU (hf TO (by simp)),cU I NU (hf i1 (by simp)),cU I NU (hf i2 (by simp))⟩
  refine nA D hz N1 N3 h1 h2 p1 p2 (x:=u1) (y:=u2) (by simpa using hu1) (by simpa using hu2) λh' g1 g2 g3 g4 g5 g6 g7=>⟨_,rfl,?_⟩
  refine wpAny_letOwnedTupleGo_zip (s:={ s with heap:=h' }) g1 λh3 hz3 Po=>?_
  have OJ:H s.heap.objs.size=none:=I.bT.fresh (Nat.le_refl _)
  have lt:∀ {c:Addr} {o:Obj},s.heap.get? c=some o->c≠s.heap.objs.size:=λe=>Nat.ne_of_lt (Heap.lt_size e)
  have PY:∀ b o,b ∉ [z,TO,i1,i2,TI]->s.heap.get? b=some o->h3.get? b=some o:=λb o hb q=>by
   simp only[List.mem_cons,List.mem_nil_iff,or_false,not_or] at hb
   exact(Po.2 b hb.1).trans (g7 b o hb.1 hb.2.1 hb.2.2.1 hb.2.2.2.1 q)
  have hT3:h3.get? s.heap.objs.size=some { cls:=.type "tuple", data:=.seq #[u1,u2] }:=(Po.2 _ (lt hz).symm).trans g5
  have I3:Inv X Ni σ (upd H s.heap.objs.size (.tup [x,y])) { s with heap:=h3,toks:=s.toks } :=
   I.kP (ch:=[z,TO,i1,i2,TI]) PY hf (Nat.le_refl _) (λb hb=>by
    simp only[List.mem_cons,List.mem_nil_iff,or_false] at hb
    rcases hb with q | q | q | q | q <;> subst q
    ·exact⟨_,hz⟩
    ·exact⟨_,N3⟩
    ·exact⟨_,QU⟩
    ·exact⟨_,QV⟩
    ·exact⟨_,N1⟩)
    ⟨by show 2<=sizeLine;decide,[u1,u2],.cons ru1 (.cons ru2 .nil),⟨_,hT3,rfl,_,rfl⟩⟩
  refine⟨.ref s.heap.objs.size,_,I3,rfl,⟨_,x,y,OJ,rfl,rfl,λzs Qk=>by rw[I.l5 Qk N2];exact hx,λzs Qk=>by rw[I.l5 Qk NU];exact hy⟩,
   ⟨hz3,(Po.2 TI d1).trans (g7 TI _ d1 d5 d6 d7 N1),⟨_,_,(Po.2 TO d2).trans g2⟩,g3.at λo e=>(Po.2 i1 d3).trans e,g4.at λo e=>(Po.2 i2 d4).trans e⟩,λb hb=>?_⟩
  have nb:b≠s.heap.objs.size:=by
   simp only[List.mem_cons,List.mem_nil_iff,or_false] at hb
   rcases hb with q | q | q | q | q <;> subst q
   ·exact lt hz
   ·exact lt N3
   ·exact lt QU
   ·exact lt QV
   ·exact lt N1
  rw[ar nb]
  exact(hf b hb).1
 done:=by
  intro X hP hw hK hc i Ni s σ H E I hf st hg
  subst hP hw hK
  obtain⟨xs,ys,N2,NU,OP⟩:=hg
  obtain⟨PU,Ql,p1,Rm⟩:=I.row N2
  obtain⟨O0,Qn,p2,Rn⟩:=I.row NU
  obtain⟨hz,N1,⟨a,c,N3⟩,h1,h2⟩:=st
  obtain⟨d1,d2,d3,d4,d5,d6,d7,d8,d9,d10⟩:=D
  have D:ZipApart z TI TO i1 i2 a1 a2:=⟨d1,d2,d3,d4,d5,d6,d7,d8,d9,d10,cU I N2 (hf z (by simp)),cU I N2 (hf TO (by simp)),cU I N2 (hf i1 (by simp)),cU I N2 (hf i2 (by simp)),
   cU I NU (hf z (by simp)),cU I NU (hf TO (by simp)),cU I NU (hf i1 (by simp)),cU I NU (hf i2 (by simp))⟩
  have l1:=Ql.length
  have l2:=Qn.length
  refine og (I.ok.hd hc) D hz N1 N3 h1 h2 p1 p2 ?_ λh' k=>⟨rfl,?_⟩
  ·rcases OP with q | q
   ·exact .inl (by simp;omega)
   ·exact .inr (by simp;omega)
  ·exact I.yt (t':=s.toks) (ch:=[z,TO,i1,i2,TI]) (λb u hb e=>by
    simp only[List.mem_cons,List.mem_nil_iff,or_false,not_or] at hb
    exact k b u hb.1 hb.2.1 hb.2.2.1 hb.2.2.2.1 e) hf
 self:=λ_ _ _ _ _ st h=>by
  obtain⟨hz,_⟩:=st
  exact wpAny_pyIter_zip hz h
theorem G4(n:Nat):n+2≠n+4/\n+3≠n+4/\n≠n+4/\n+1≠n+4/\n+2≠n+3/\n+2≠n/\n+2≠n+1/\n+3≠n/\n+3≠n+1/\n≠n+1:=by
 refine⟨?_,?_,?_,?_,?_,?_,?_,?_,?_,?_⟩ <;> omega
def JW(K:PySem.W.Frag)(tl:TA):TI:=fun σ H R=>tl σ H λvs H1=>∃ b1 b2 a1 a2,vs=[.ref a1,.ref a2]/\(∃ xs,k_ K H1 b1 a1 xs)/\(∃ ys,k_ K H1 b2 a2 ys)/\R (Lk K b1 b2 a1 a2) H1
theorem jf{tp:Pos}{l1 l2:Expr}{p pos:Pos}(hg:Gl X "zip")(hm:X.mg "zip" = none)(hl:PA X [l1,l2] tl)(hs:autoParam (starEach [l1,l2] X.env=[(false,eval l1 X.env),(false,eval l2 X.env)]) aR._auto_1)(OK:autoParam (starEach [l2] X.env=[(false,eval l2 X.env)]) aR._auto_1) :
  PI X (.Tuple elts x1 tp) (.Call (.Name "zip" p) [l1,l2] [] pos) (JW X.K tl):=by
 intro Ni s σ H R I h
 refine Call_ (jY I hg hm PyProof.Rows.boot_zip (PyProof.Rows.callWith_type1 (dh (hl pos Ni s σ H _ I h) λus s1 ⟨vs,H1,I1,r1,q1⟩=>?_) (by rw[hs,OK]) (by rw[OK];rfl)))
 obtain⟨b1,b2,a1,a2,e,⟨xs,N2⟩,⟨ys,NU⟩,q⟩:=q1
 subst e
 cases r1 with
 | cons r rr =>
  cases rr with
  | cons r' rr =>
   cases rr
   cases (show _=Value.ref a1 from r)
   cases (show _=Value.ref a2 from r')
   obtain⟨PU,Ql,p1,Rm⟩:=I1.row N2
   obtain⟨O0,Qn,p2,Rn⟩:=I1.row NU
   refine As p1 p2 λh' g1 g2 g3 g4 g5 g6 g7=>?_
   have I2:Inv X Ni σ H1 { s1 with heap:=h' }:=I1.kept (t':=s1.toks) g7
   refine wpAny_pyIter_zip (s:={ s1 with heap:=h' }) g1 ?_
   refine⟨s1.heap.objs.size+4,[s1.heap.objs.size+4,s1.heap.objs.size+3,s1.heap.objs.size,s1.heap.objs.size+1,s1.heap.objs.size+2],_,_,H1,rfl,I2,
    Ck b1 b2 a1 a2 _ _ _ _ _ (G4 s1.heap.objs.size),⟨g1,g2,⟨_,_,g3⟩,g4,g5⟩,λb hb=>?_,q⟩
   have hle:s1.heap.objs.size<=b:=by
    simp only[List.mem_cons,List.mem_nil_iff,or_false] at hb
    rcases hb with q | q | q | q | q
    ·rw[q];exact Nat.le_add_right _ 4
    ·rw[q];exact Nat.le_add_right _ 3
    ·rw[q];exact Nat.le_refl _
    ·rw[q];exact Nat.le_add_right _ 1
    ·rw[q];exact Nat.le_add_right _ 2
   exact I1.sZ hle (I1.bT.fresh hle)
def Ln(K:PySem.W.Frag)(b:Bool)(a:Addr):It:=match b with
 | true=>MJ K a
 | false=>MF K a
def J5(K:PySem.W.Frag)(tl:TE):TI:=fun σ H R=>tl σ H λx H1=>∃ b a,x=.ref a/\(∃ xs,k_ K H1 b a xs)/\R (Ln K b a) H1
theorem c6{l:Expr}{tl:TE}(hl:PE X l tl):PI X tg l (J5 X.K tl):=by
 intro Ni s σ H R I h
 refine dh (hl Ni s σ H _ I h) λv s1 ⟨x,H1,I1,r1,q1⟩=>?_
 obtain⟨b,a,e,⟨xs,hq⟩,q⟩:=q1
 subst e
 cases r1
 cases b with
 | true =>
  obtain⟨Nl,rv,p,hz⟩:=I1.list hq
  refine wpAny_pyIter_list p.isList ?_
  refine⟨s1.heap.objs.size,[s1.heap.objs.size],_,_,H1,rfl,I1.kept (t':=s1.toks) λb o e=>Heap.get?_push_of_some _ e,z6 a _,⟨_,Heap.get?_push_size _ rfl,rfl,rfl⟩,λb hb=>?_,q⟩
  have e:b=s1.heap.objs.size:=by simpa using hb
  subst e
  exact I1.sZ (Nat.le_refl _) (I1.bT.fresh (Nat.le_refl _))
 | false =>
  obtain⟨Nl,rv,p,hz⟩:=I1.tuple hq
  refine wpAny_pyIter_tuple (show s1.heap.IsTuple a Nl.toArray from p) ?_
  refine⟨s1.heap.objs.size,[s1.heap.objs.size],_,_,H1,rfl,I1.kept (t':=s1.toks) λb o e=>Heap.get?_push_of_some _ e,wY a _,⟨_,Heap.get?_push_size _ rfl,rfl,rfl⟩,λb hb=>?_,q⟩
  have e:b=s1.heap.objs.size:=by simpa using hb
  subst e
  exact I1.sZ (Nat.le_refl _) (I1.bT.fresh (Nat.le_refl _))
theorem zQ(hc:X.calm=true):dR X (.builtin "sum") (λxs H Q=>∃ (a:Addr) (ns:List Int),xs=[.ref a]/\hV X.K H a (ns.map V.int)/\Q (.int ns.sum) H):=by
 intro Ni s σ H xs us Q I r h
 obtain⟨a,ns,rfl,hq,q⟩:=h
 cases r with
 | cons r1 r2 =>
  cases r2
  cases (show _=Value.ref a from r1)
  obtain⟨Nl,rv,p,hz⟩:=I.list hq
  have hi:=intsAre_of rv
  obtain⟨xs',e⟩:=hi.allInts.items
  have e3:numsOf (intItems xs').toList=ns:=by rw[← e];exact hi.numsOf
  rw[nums_intItems] at e3
  refine sum_intListG (I.ok.hd hc) (by rw[← e];exact p.isList) λh' tk t' hk=>⟨.int ns.sum,H,I.kept (t':=tk) hk,⟨t',?_⟩,q⟩
  rw[preSum_eq,List.take_of_length_le (by simp),e3]
structure jb (K:PySem.W.Frag) (C:Addr):Prop where
 ga:PySem.W.findIn K (.ref C) "__getattribute__" = some (some (.builtin "BaseException.__getattribute__"))
 gn:PySem.W.findIn K (.ref C) "__getattr__" = some none
 hd:PySem.W.hasDictIn K C=true
 sa:PySem.W.findIn K (.ref C) "__setattr__" = some (some (.builtin "object.__setattr__"))
 mb:PySem.W.mroIn K C (.type "BaseException")=some true
 mo:PySem.W.mroIn K C (.type "object")=some true
 ca:PySem.W.findIn K (.ref C) "__class__" = some (some (.builtin "object.__class__"))
 cg:PySem.W.specialIn K (.builtin "object.__class__") "__get__" = some (some (.builtin "getset_descriptor.__get__"))
 ct:PySem.W.takesIn K (.builtin "object.__class__")=some true
variable{name:Str}{ox:Obj}
section
variable{E:Value->Shared->Prop}{K:PySem.W.Frag}{x:Addr}{od:Option Obj}
theorem Cc:builtinKind "BaseException.__getattribute__" = some .slot:=by decide +kernel
theorem zZ:splitId "BaseException.__getattribute__" = some ("BaseException", "__getattribute__"):=by decide +kernel
theorem GX{tk:Tok}{fill expr:Bool}(c:jb K C)(X:K.In s.heap)(I:PySem.W.InstAt s.heap x ox C od)
  (h:wpAny (model prog w) A.in1 (Builtin.«object.__getattribute__» ⟨[.ref x,.str name tk],[]⟩)
   (λfin s'=>match fin with | .done (.ret v)=>wpAny (model prog w) A (handedOut v) Q E s' | _=>False) (λ_ _=>False) s) :
  wpAny (model prog w) A (getAttrBy (.ref x) (.str name tk) fill expr) Q E s:=by
 have Rl:(Value.builtin "BaseException.__getattribute__" == Value.builtin "object.__getattribute__")=false:=by decide +kernel
 have QP:(onTheHeap (Value.ref C)&&Value.builtin "BaseException.__getattribute__" == Value.builtin "object.__getattribute__")=false:=by rw[Rl];rfl
 have hx0:(expr&&onTheHeap (Value.builtin "BaseException.__getattribute__"))=false:=by cases expr <;> rfl
 have sub:PySem.W.Looks (model prog w) s.heap (isInstance (.ref x) (.type "BaseException")) true:=I.type.andThen (PySem.W.looks_mroIn X c.mb)
 unfold getAttrBy
 refine wpAny_holding (wpAny_bind (I.type.here (wpAny_bind ((PySem.W.looks_findIn X c.ga).here ?_))))
 dsimp only
 rw[QP,if_neg Bool.false_ne_true]
 unfold getAttrByItsOwn hookBefore
 refine wpAny_bind ?_
 show wpAny _ _ (typeLookup (.ref C) "__getattr__") _ _ _
 refine(PySem.W.looks_findIn X c.gn).here ?_
 refine wpAny_bind (wpAny_attempt (wpAny_holding ?_))
 unfold callGetattribute
 rw[hx0,if_neg Bool.false_ne_true]
 unfold boundAndCalled
 refine wpAny_bind (wpAny_of_eq (PySem.F.attr_ValueError.ga.bind _) ?_)
 refine wpAny_call (codeAny_call_builtin PySem.F.attr_ValueError.ga.plain PySem.F.entry_bexc_ga (@PySem.W.check_slot (model prog w) _ _ s "BaseException.__getattribute__" "BaseException" "__getattribute__" (.ref x) [.str name tk] [] _ Cc zZ sub (PySem.F.args_bexc_ga _ _) ?_))
 refine wpAny_mono h (λfin s' z=>?_) (λ_ _ z=>z.elim)
 rcases fin with (v | _ | _ | _) | _ <;> first | exact z | exact z.elim
end
variable{newId:String}{dd:Option Addr}
variable{f:Addr}
section
open PySem.Builtin.ObjectAttr (storeInOwnDict storeTaker? setByDescriptor)
abbrev fz:List Value:=[.type "ValueError", .type "Exception", .type "BaseException", .type "object"]
def fX:List Value->Bool
 | .ref _::r=>fX r
 | l=>l==fz
theorem qa(self:Value):refuseLoop self "__setattr__" fz=pure ():=by kernel_rfl
theorem nW(self:Value):∀ {l:List Value},fX l=true->refuseLoop self "__setattr__" l=pure ()
 | .ref c::r,e=>by rw[PySem.refuseLoop_ref];exact nW self e
 | [],e=>by cases (show false=true from e)
 | .type n::r,e=>by rw[show Value.type n::r=fz from beq_iff_eq.mp e];exact qa self
 | .none::r,e=>by rw[show Value.none::r=fz from beq_iff_eq.mp e];exact qa self
section
variable{E:Value->Shared->Prop}{K:PySem.W.Frag}{x:Addr}{od:Option Obj}
theorem rf{a g:Value}(hc:(PySem.W.clsIn K C).isSome=true)(ha:PySem.W.findIn K (.ref C) name=some (some a))(hg:PySem.W.specialIn K a "__get__" = some (some g))(ht:PySem.W.takesIn K a=some true):PySem.W.findObj K C od name=some (.bind g a):=by
 obtain⟨cd,hc⟩:=Option.isSome_iff_exists.mp hc
 unfold PySem.W.findObj
 rw[hc,Option.bind_some,ha,Option.bind_some]
 simp[hg,ht]
theorem zF{Q:Option Value->Shared->Prop}(c:jb K C)(X:K.In s.heap)(I:PySem.W.InstAt s.heap x ox C od)(h:Q (some (.ref C)) { s with toks:=s.toks+1 }):wpAny (model prog w) A (getAttr? (.ref x) "__class__") Q E s:=by
 have hc:(PySem.W.clsIn K C).isSome=true:=by obtain⟨cd,hc,_⟩:=PySem.W.any_some c.hd;rw[hc];rfl
 have hf:PySem.W.findObj K C od "__class__" = some (.bind (.builtin "getset_descriptor.__get__") (.builtin "object.__class__")):=rf hc c.ca c.cg c.ct
 unfold getAttr? getAttrBy?
 refine wpAny_bind (wpAny_mkText (wpAny_bind (wpAny_attempt ?_)))
 refine GX (s:={ s with toks:=s.toks+1 }) c X I ?_
 unfold Builtin.«object.__getattribute__»
 refine wpAny_bind (wpAny_pure ?_)
 dsimp only
 refine wpAny_bind (wpAny_pure ?_)
 refine wpAny_bind (I.type.here (s:={ s with toks:=s.toks+1 }) (wpAny_bind ((PySem.W.looks_find X I hf).here (s:={ s with toks:=s.toks+1 }) ?_)))
 show wpAny _ _ (holding [.builtin "object.__class__"] (call (.builtin "getset_descriptor.__get__") [.builtin "object.__class__", .ref x,.ref C]) >>= ret) _ _ _
 refine wpAny_bind (wpAny_holding (wpAny_call (PySem.W.class_get (s:={ s with toks:=s.toks+1 }) (ox:=ox) (od:=od) X I c.mo ?_)))
 refine wpAny_pure ?_
 exact PySem.W.handed_on rfl (wpAny_pure h)
theorem v_(c:jb K C):PySem.W.KitX K (.ref x) (.ref C) (λh=>PySem.W.InstAt h x ox C od) where
 ty:=λ_ _ _ I=>I.type
 it:=λ_ _ X _=>by
  obtain⟨cdD,PF,_⟩:=PySem.W.any_some c.hd
  unfold PySem.W.clsIn at PF
  split at PF
  ·rename_i c' d' cd' sl' ho
   intro A' Q' E' s' k q
   unfold isType loadHead
   exact wpAny_bind (wpAny_loadPart (k _ _ (X _ _ ho)) (wpAny_pure q))
  ·cases PF
 ne:=λh tp dd Nl n sl X htp=>by
  obtain⟨cdD,PF,_⟩:=PySem.W.any_some c.hd
  refine Bool.eq_false_iff.mpr λq=>?_
  have e:C=tp:=Value.ref.inj (beq_iff_eq.mp q)
  subst e
  unfold PySem.W.clsIn at PF
  split at PF
  ·rename_i c' d' cd' sl' ho
   have z:=(X _ _ ho).symm.trans htp
   cases z
  ·cases PF
 ca:=λX I k=>zF c X I k
theorem DL{tk:Tok}{v:Value}{R:Result->Shared->Prop}(po:((PySem.W.clsIn K C).any λcd=>fX cd.mro)=true)(c:jb K C)(X:K.In s.heap)(I:PySem.W.InstAt s.heap x ox C od)(ht:PySem.W.takerIn K C name=some none)
  (h:∀ b,wpAny (model prog w) A.in1 (storeInOwnDict (.ref x) (.ref C) (.str name tk) name v b)
   (λfin s'=>match fin with | .done f=>R (.ok f) s' | .again c'=>c'.quiet=true/\codeAny (model prog w) A c' R s') (λe s'=>R (.error e) s') s) :
  codeAny (model prog w) A (.call (.builtin "object.__setattr__") ⟨[.ref x,.str name tk,v],[]⟩) R s:=by
 have SF:=PySem.F.store_object
 obtain⟨cd,hc,ho⟩:=PySem.W.any_some po
 have sub:PySem.W.Looks (model prog w) s.heap (isInstance (.ref x) (.type "object")) true:=I.type.andThen (PySem.W.looks_mroIn X c.mo)
 refine codeAny_call_builtin SF.slot.plain SF.entry (@PySem.W.check_slot (model prog w) _ _ s "object.__setattr__" "object" "__setattr__" (.ref x) [.str name tk,v] [] _ SF.kind SF.split sub (SF.args (.ref x) (.str name tk) v) ?_)
 obtain⟨attr,ha,hr⟩:=Option.bind_eq_some_iff.mp ht
 have hm:PySem.W.Looks (model prog w) s.heap (mroOf (.ref C)) cd.mro:=(PySem.W.looks_clsIn X hc).andThen .now
 have L3:PySem.W.Looks (model prog w) s.heap (storeTaker? attr) none:=by
  cases attr with
  | none=>cases hr;exact .now
  | some a =>
   obtain⟨b,hb,e⟩:=Option.map_eq_some_iff.mp hr
   refine(PySem.W.looks_takesIn X hb).andThen ?_
   cases b with
   | true=>cases e
   | false=>exact .now
 rw[PySem.W.osa_eq,PySem.refuse_eq]
 refine wpAny_bind (wpAny_bind (I.type.here (wpAny_bind (hm.here ?_))))
 rw[nW _ ho]
 refine wpAny_pure (wpAny_bind (I.type.here (wpAny_bind ((PySem.W.looks_findIn X ha).here (wpAny_bind (L3.here ?_))))))
 exact h _
theorem Cp{vs:Array Value}{v:Value}{Q:Unit->Shared->Prop}(po:((PySem.W.clsIn K C).any λcd=>fX cd.mro)=true)(c:jb K C)(X:K.In s.heap)(hx:s.heap.get? x=some ⟨.ref C,none,.fields vs,#[]⟩)(ht:PySem.W.takerIn K C name=some none)
  (h:∀ h' tk d,h'.get? x=some ⟨.ref C,some d,.fields vs,#[]⟩->s.heap.get? d=none->h'.Ns1 d (λy=>if y=name then some v else none)->(∀ b o,b≠x->s.heap.get? b=some o->h'.get? b=some o)->Q () { s with heap:=h',toks:=tk }) :
  wpAny (model prog w) A (setAttr (.ref x) name v) Q E s:=by
 have I:PySem.W.InstAt s.heap x ⟨.ref C,none,.fields vs,#[]⟩ C none:=⟨hx,rfl,rfl,trivial⟩
 refine PySem.W.set_plain X I c.sa (DL (s:={ s with toks:=s.toks+1 }) po c X I ht λb=>?_)
 obtain⟨cd,hc,Q4⟩:=PySem.W.any_some c.hd
 have Oa:=Heap.lt_size hx
 refine wpAny_bind (wpAny_pure (wpAny_bind (wpAny_bind (wpAny_loadPart hx (wpAny_bind (PySem.W.Looks.here (s:={ s with toks:=s.toks+1 }) (PySem.W.looks_clsIn X hc) ?_))))))
 rw[Q4]
 refine wpAny_bind (wpAny_alloc ?_)
 have QP:(s.heap.push { cls:=.type "dict", data:=.dict #[] }).get? x=some ⟨.ref C,none,.fields vs,#[]⟩:=Heap.get?_push_of_some _ hx
 refine wpAny_bind (wpAny_update QP ?_)
 refine wpAny_pure (a:=some s.heap.objs.size) (wpAny_bind (wpAny_pure (wpAny_bind ?_)))
 have Rl:((s.heap.push { cls:=.type "dict", data:=.dict #[] }).update x λo=>{ o with dict:=some s.heap.objs.size }).get? x=some ⟨.ref C,some s.heap.objs.size,.fields vs,#[]⟩:=Heap.get?_update_self _ QP rfl
 have e1:(s.heap.push { cls:=.type "dict", data:=.dict #[] }).get? s.heap.objs.size=some { cls:=.type "dict", data:=.dict #[] }:=Heap.get?_push_size s.heap rfl
 have nxd:s.heap.objs.size≠x:=Nat.ne_of_gt Oa
 have e2:((s.heap.push { cls:=.type "dict", data:=.dict #[] }).update x λo=>{ o with dict:=some s.heap.objs.size }).get? s.heap.objs.size=some { cls:=.type "dict", data:=.dict #[] }:=by
  rw[Heap.get?_update_other _ _ (Ne.symm nxd)]
  exact e1
 have e3:((s.heap.push { cls:=.type "dict", data:=.dict #[] }).update x λo=>{ o with dict:=some s.heap.objs.size }).Ns s.heap.objs.size (λ_=>none):=⟨_,#[],_,e2,rfl,(λe he=>absurd he (by simp)),λ_=>rfl⟩
 refine wpAny_nsSet1 (s:={ s with heap:=(s.heap.push { cls:=.type "dict", data:=.dict #[] }).update x λo=>{ o with dict:=some s.heap.objs.size },toks:=s.toks+1 }) (Heap.Ns1.of_empty e3) λh' Qj OK=>?_
 obtain⟨oD,esD,epD,hoD,hdD,PF⟩:=Qj.count (PySem.Within.cons (ns:=[]) name v (λy hy=>absurd rfl hy))
 refine wpAny_bind (wpAny_lookBehind hoD (by rw[hdD];exact pastItsLine_dict (Nat.le_trans PF (by show 1<=sizeLine+1;exact Nat.le_add_left _ _))) ?_)
 refine wpAny_pure (h h' _ s.heap.objs.size ((OK.2 x (Ne.symm nxd)).trans Rl) (Heap.get?_none_of_le (Nat.le_refl _)) Qj λb o hb e=>?_)
 refine(OK.2 b (Nat.ne_of_lt (Heap.lt_size e))).trans ?_
 rw[Heap.get?_update_other _ _ (Ne.symm hb)]
 exact Heap.get?_push_of_some _ e
end
def pj(K:PySem.W.Frag)(C:Addr)(newId:String)(f:Addr):Bool:=match K.lookup C with
 | some ⟨.type "type", _,.cls cd,sl⟩=>(match cd.mro,sl.toList with
  | .ref C'::bm,[_,_,_,_,some (.builtin n),_]=>C'==C&&n==newId&&!cd.hasDel&&PySem.W.tailIn K fz bm&&PySem.W.nsOkIn K cd.ns&&PySem.W.nsIn K cd.ns "__init__" == some (some (.ref f))
  | _,_=>false)
 | _=>false
section
variable{E:Value->Shared->Prop}{g:Array GenState}{d:Drawn}{t:Nat}{os:OsState}
variable{nm q:Str}{N:Addr}{bs bm:List Value}{O_:Bool}{sn:List Str}{sub:List Value}{ab:Bool}{col:Option Bool}{k0 k1 k2 k3 k5:Option Value}{QF:String}
theorem qk(F:ExcBaseFacts "ValueError" newId QF fz)(T:OwnTail h fz bm){mN:Str->Option Value}{rest:List Value}{Q:Fin->Shared->Prop}
  (hC:h.get? C=some (excClassObj nm q C N bs bm O_ sn sub ab col dd k0 k1 k2 k3 k5 newId)) (hn:h.Ns N mN) (Pu:mN "__init__" = some (.ref f))
  (hb:∀ h':Heap,(∀ b o,h.get? b=some o->h'.get? b=some o)->∀ self,PySem.W.Looks (model prog w) h' (bindSpecial (.ref f) self) (.ref f,[self]))
  (hq:∀ h':Heap,(∀ b o,h.get? b=some o->h'.get? b=some o)->h'.get? h.objs.size=some { cls:=.type "tuple", data:=.seq rest.toArray } ->
   h'.get? (h.objs.size+1)=some { cls:=.ref C,data:=.fields #[.ref h.objs.size,.none,.none,.none,.bool false,.none] }->h'.objs.size=h.objs.size+2 ->
   wpAny (model prog w) A (call (.ref f) (.ref (h.objs.size+1)::rest)) (λv s'=>v=.none/\Q (.done (.ret (.ref (h.objs.size+1)))) s') E ⟨h',g,d,t,os⟩) (BV:rest.length<=sizeLine:=by size_fits) :
  wpAny (model prog w) A (Builtin.«type.__call__» ⟨.ref C::rest,[]⟩) Q E ⟨h,g,d,t,os⟩:=by
 repeat (first | with_reducible refine wpAny_loadPart_at hC ?_ | with_reducible refine wpAny_madeBy_exc hC ?_ | wp_step)
 refine codeAny_call_builtin_code (Code.quiet_builtin _ F.quiet) (wpAny_check_new_subT F T hC ?_)
 refine codeAny_exc_new_subT F T hC ?_ BV
 show wpAny _ _ _ _ _ _
 have kp:∀ b o,h.get? b=some o->((h.push { cls:=.type "tuple", data:=.seq rest.toArray }).push { cls:=.ref C,data:=.fields #[.ref h.objs.size,.none,.none,.none,.bool false,.none] }).get? b=some o:=λb o e=>Heap.get?_push_of_some _ (Heap.get?_push_of_some _ e)
 have hC1:=kp _ _ hC
 have hn₁:((h.push { cls:=.type "tuple", data:=.seq rest.toArray }).push { cls:=.ref C,data:=.fields #[.ref h.objs.size,.none,.none,.none,.bool false,.none] }).Ns N mN:=hn.keeps kp
 have Q8:((h.push { cls:=.type "tuple", data:=.seq rest.toArray }).push
   { cls:=.ref C,data:=.fields #[.ref h.objs.size,.none,.none,.none,.bool false,.none] }).get? (h.objs.size+1)=some
   { cls:=.ref C,data:=.fields #[.ref h.objs.size,.none,.none,.none,.bool false,.none] }:=by heap_get
 have htup:((h.push { cls:=.type "tuple", data:=.seq rest.toArray }).push
   { cls:=.ref C,data:=.fields #[.ref h.objs.size,.none,.none,.none,.bool false,.none] }).get? h.objs.size=some { cls:=.type "tuple", data:=.seq rest.toArray }:=Heap.get?_push_of_some _ (Heap.get?_push_size _ rfl)
 have OQ:((h.push { cls:=.type "tuple", data:=.seq rest.toArray }).push { cls:=.ref C,data:=.fields #[.ref h.objs.size,.none,.none,.none,.bool false,.none] }).objs.size=h.objs.size+2:=by rw[Heap.size_push,Heap.size_push]
 have hcC:(Value.ref C::bm).contains (.ref C)=true:=by simp
 have T₁:=T.keeps kp
 have hb₁:=hb _ kp (.ref (h.objs.size+1))
 have fin:=hq _ kp htup Q8 OQ
 generalize ((h.push { cls:=.type "tuple", data:=.seq rest.toArray }).push { cls:=.ref C,data:=.fields #[.ref h.objs.size,.none,.none,.none,.bool false,.none] })=h1 at *
 unfold isInstance
 repeat (first | with_reducible refine wpAny_loadPart_at Q8 ?_ | (with_reducible refine wpAny_isSubtype_exc hC1 ?_;rw[hcC]) | wp_step)
 show wpAny _ _ (typeLookup (.ref C) _) _ _ _
 refine wpAny_typeLookup_tail hC1 hn₁ T₁ F.mroIs F.init.lookup ?_
 rw[Pu]
 refine wpAny_holding (wpAny_bind (hb₁.here ?_))
 refine wpAny_bind (wpAny_mono fin (λv s' z=>?_) λ_ _ z=>z)
 obtain⟨rfl,z⟩:=z
 wp_walk
 exact z
end
end
def jV(C:Addr)(dd:Option Addr)(e:Addr):HO:=.ext λh=>∃ vs,h.get? e=some ⟨.ref C,dd,.fields vs,#[]⟩
def ExcAt(H:Hp)(e C:Addr)(fo:Option (List (Str×V))):Prop:=match fo with
 | none=>H e=some (jV C none e)
 | some fs=>∃ d,H e=some (jV C (some d) e)/\H d=some (.xd fs)
theorem Inv.C1(I:Inv X Ni σ H s){e:Addr}(he:H e=some (jV C dd e)):∃ vs,s.heap.get? e=some ⟨.ref C,dd,.fields vs,#[]⟩:=(I.bT e _ he).1
theorem Inv.D_(I:Inv X Ni σ H s){e:Addr}{fo:Option (List (Str×V))}(h:ExcAt H e C fo):∃ ox od,PySem.W.InstAt s.heap e ox C od/\(fo=none->od=none) ∧
  ∀ fs,fo=some fs->∃ (o:Obj) (mA:Str->Option Value),od=some o/\(∀ n,PySem.W.lookIn n o=some (mA n))/\∀ f,mX (fs.lookup f) (mA f):=by
 cases fo with
 | none =>
  obtain⟨vs,q⟩:=I.C1 h
  exact⟨_,none,⟨q,rfl,rfl,trivial⟩,λ_=>rfl,λfs z=>(by cases z)⟩
 | some fs =>
  obtain⟨d,h1,h2⟩:=h
  obtain⟨vs,q⟩:=I.C1 h1
  obtain⟨mA,n,r⟩:=(show ∃ mA,s.heap.Ns1 d mA/\∀ f,mX (fs.lookup f) (mA f) from I.bT d _ h2)
  obtain⟨o,ho,hl⟩:=nr n
  refine⟨_,some o,⟨q,rfl,rfl,ho⟩,λz=>(by cases z),λQq z=>?_⟩
  cases z
  exact⟨o,mA,rfl,hl,r⟩
theorem Inv.tq(I:Inv X Ni σ H s)(hn:s.heap.get? a=none):H a=none:=by
 cases q:H a with
 | none=>rfl
 | some u =>
  exfalso
  have:∀ (u:HO),cM X.prog X.w H s.heap a u->∃ ob,s.heap.get? a=some ob:=by
   intro u
   induction u with
   | lst xs=>intro ⟨_,_,_,_,e⟩;exact⟨_,e⟩
   | tup xs=>intro ⟨_,_,_,p⟩;obtain⟨ob,e,_⟩:=p;exact⟨ob,e⟩
   | dK Ob=>intro ⟨_,_,_,_,p⟩;obtain⟨ob,_,_,e,_⟩:=p;exact⟨ob,e⟩
   | dT Ob=>intro ⟨_,_,_,_,ob,_,_,e,_⟩;exact⟨ob,e⟩
   | set S n=>intro p;obtain⟨es,ob,xs,ep,e,_⟩:=p;exact⟨_,e⟩
   | ins C dx fs=>intro ⟨_,_,_,e,_⟩;exact⟨_,e⟩
   | own x=>intro ⟨ob,e⟩;exact⟨ob,e⟩
   | xd fs=>intro ⟨mA,n,_⟩;obtain⟨ob,e,_⟩:=nr n;exact⟨ob,e⟩
   | met f x=>intro e;exact⟨_,e⟩
   | kd lo hi=>intro ⟨_,_,_,e⟩;exact⟨_,e⟩
   | qU o u _=>intro ⟨e,_⟩;exact⟨_,e⟩
   | F_ ps=>intro e;exact⟨_,e⟩
   | ext φ=>intro ⟨_,⟨ob,e⟩,_⟩;exact⟨ob,e⟩
  obtain⟨ob,e⟩:=this u (I.bT a u q)
  rw[hn] at e;cases e
theorem Inv.FG{o:HO}(I:Inv X Ni σ H s)(k:∀ b u,s.heap.get? b=some u->h'.get? b=some u)(hn:s.heap.get? a=none)(new:cM X.prog X.w (upd H a o) h' a o) :
  Inv X Ni σ (upd H a o) { s with heap:=h',toks:=t' }:=by
 have ne:∀ b u,s.heap.get? b=some u->b≠a:=λb u e z=>by rw[z,hn] at e;cases e
 have PK:H a=none:=I.tq hn
 have PZ:∀ b u,H b=some u->b≠a:=λb u e z=>by rw[z,PK] at e;cases e
 refine I.un ⟨λb u e _ _ _=>k b u e,λb u e _ _ _=>⟨u.slots,k b u e⟩,λb u e n _=>by rw[ar (ne b u e)];exact n,λb u e _=>⟨u,k b u e⟩,
  λb xs e=>by rw[ar (PZ b _ e)];exact e,λb ob u e=>by rw[ar (PZ b _ e)];exact e,λb ps e=>⟨#[],by rw[ar (PZ b _ e),e];simp⟩⟩ λb u e=>?_
 by_cases z:b=a
 ·subst z
  rw[az] at e
  cases e
  exact new
 ·rw[ar z] at e
  refine(I.bT b u e).oz (λc v _ q=>k c v q) (λc q=>?_) λc ys q=>?_
  ·rw[ar (PZ c _ q)];exact q
  ·rw[ar (PZ c _ q)];exact q
variable{apos:Pos}{m:Str}{ta:TE}{o:Expr}
section
variable{f:Str}{pos:Pos}
def Lh(K:PySem.W.Frag):List V->Hp->VK->Prop:=λxs H Q=>∃ e C fo b,jb K C/\ExcAt H e C fo ∧
 ((∃ T,xs=[.ref e,.ty T]/\PySem.W.kitOne K (.ref C) (.type T)=some b)\/(∃ D,xs=[.ref e,.ref D]/\PySem.W.kitOne K (.ref C) (.ref D)=some b))/\Q (.bl b) H
theorem Dk:dR X (.builtin "isinstance") (Lh X.K):=by
 intro Ni s σ H xs us Q I r h
 obtain⟨e,C,fo,b,c,ha,hc,q⟩:=h
 obtain⟨ox,od,J,_⟩:=I.D_ ha
 rcases hc with ⟨T,rfl,hk⟩ | ⟨D,rfl,hk⟩
 ·cases r with
  | cons r1 r2 =>
   cases r2 with
   | cons r3 r4 =>
    cases r4
    cases (show _=Value.ref e from r1)
    cases (show _=Value.type T from r3)
    exact PySem.W.kia_one (v_ c) I.kD J hk (λz=>nomatch z) λtk=>⟨.bl b,H,I.tok tk,rfl,q⟩
 ·cases r with
  | cons r1 r2 =>
   cases r2 with
   | cons r3 r4 =>
    cases r4
    cases (show _=Value.ref e from r1)
    cases (show _=Value.ref D from r3)
    exact PySem.W.kia_one (v_ c) I.kD J hk (λz=>nomatch z) λtk=>⟨.bl b,H,I.tok tk,rfl,q⟩
end
theorem wL{K:PySem.W.Frag}{N:Addr}{n:Str}{v:Value}(X:K.In h)(G:h.Ns N mg)(e:PySem.W.nsIn K N n=some (some v)):mg n=some v:=by
 obtain⟨o,es,ep,ho,hd,_,hf⟩:=G
 unfold PySem.W.nsIn at e
 split at e
 ·rename_i c d es' n' sl q
  have:=X _ _ q
  rw[ho] at this
  cases this
  cases hd
  split at e
  ·rename_i en he
   cases e
   rw[← hf]
   unfold nsFind findBy
   rw[← Array.find?_toList,he]
   rfl
  ·split at e <;> cases e
 ·cases e
theorem En{K:PySem.W.Frag}(X:K.In h)(q:PySem.W.excIn K C fz newId=true) :
  ∃ bm N nm qn bs O_ sn sub ab col dd k0 k1 k2 k3 k5 mN,h.get? C=some (excClassObj nm qn C N bs bm O_ sn sub ab col dd k0 k1 k2 k3 k5 newId)/\h.Ns N mN/\mN "__init__" = none/\OwnTail h fz bm:=by
 unfold PySem.W.excIn at q
 split at q
 ·rename_i dd cd sl ho
  split at q
  ·rename_i C' bm k0 k1 k2 k3 n k5 hm hs
   simp only[Bool.and_eq_true,beq_iff_eq,Bool.not_eq_true'] at q
   obtain⟨⟨⟨⟨⟨rfl,rfl⟩,PH⟩,ht⟩,bT⟩,Pu⟩:=q
   obtain⟨nm,bs,mro,ns,qn,hd,sn,sub,ab,col,del⟩:=cd
   dsimp only at hm PH bT Pu
   subst hm PH
   have hsl:sl=#[k0,k1,k2,k3,some (.builtin n),k5]:=by
    obtain⟨l⟩:=sl
    simp only at hs
    rw[hs]
   subst hsl
   exact⟨bm,ns,nm,qn,bs,hd,sn,sub,ab,col,dd,k0,k1,k2,k3,k5,_,X _ _ ho,.of_isNs (PySem.W.isNs_of_in X bT),PySem.W.nsMap_none_of_in X bT Pu,PySem.W.tail_of_in X ht⟩
  ·cases q
 ·cases q
theorem CZ{K:PySem.W.Frag}(X:K.In h)(q:pj K C newId f=true) :
  ∃ bm N nm qn bs O_ sn sub ab col dd k0 k1 k2 k3 k5 mN,h.get? C=some (excClassObj nm qn C N bs bm O_ sn sub ab col dd k0 k1 k2 k3 k5 newId)/\h.Ns N mN/\mN "__init__" = some (.ref f)/\OwnTail h fz bm:=by
 unfold pj at q
 split at q
 ·rename_i dd cd sl ho
  split at q
  ·rename_i C' bm k0 k1 k2 k3 n k5 hm hs
   simp only[Bool.and_eq_true,beq_iff_eq,Bool.not_eq_true'] at q
   obtain⟨⟨⟨⟨⟨rfl,rfl⟩,PH⟩,ht⟩,bT⟩,Pu⟩:=q
   obtain⟨nm,bs,mro,ns,qn,hd,sn,sub,ab,col,del⟩:=cd
   dsimp only at hm PH bT Pu
   subst hm PH
   have hsl:sl=#[k0,k1,k2,k3,some (.builtin n),k5]:=by
    obtain⟨l⟩:=sl
    simp only at hs
    rw[hs]
   subst hsl
   have hN:=Heap.Ns.of_isNs (PySem.W.isNs_of_in X bT)
   exact⟨bm,ns,nm,qn,bs,hd,sn,sub,ab,col,dd,k0,k1,k2,k3,k5,_,X _ _ ho,hN,wL X hN Pu,PySem.W.tail_of_in X ht⟩
  ·cases q
 ·cases q
variable{t:TA}{es:List Expr}{e:Expr}{ps:List Str}
section
variable{p pos:Pos}
end
section
open PySem.SeqAt (shaped noMix noMixAll)
end
section
open PySem.SeqAt (shaped noMix noMixAll)
theorem EH{x:V}{u t:Value}(I:Inv X Ni σ H s)(rx:RelV x u)(ty:kH X.K H x t):∃ HH:Heap->Prop,PySem.W.KitX X.K u t HH/\HH s.heap/\u≠.builtin "__main__.__loader__#opaque" := by
 cases ty with
 | cy=>cases (show u=Value.none from rx);exact⟨_,PySem.W.kitx_none,True.intro,λz=>nomatch z⟩
 | bl y=>cases (show u=Value.bool y from rx);exact⟨_,PySem.W.kitx_bool,True.intro,λz=>nomatch z⟩
 | int i=>obtain⟨t,q⟩:=(show ∃ t,u=Value.int i t from rx);cases q;exact⟨_,PySem.W.kitx_int,True.intro,λz=>nomatch z⟩
 | str y=>obtain⟨t,q⟩:=(show ∃ t,u=Value.str y t from rx);cases q;exact⟨_,PySem.W.kitx_str,True.intro,λz=>nomatch z⟩
 | FI y=>obtain⟨t,q⟩:=(show ∃ t,u=Value.float y t from rx);cases q;exact⟨_,PySem.W.kitx_float,True.intro,λz=>nomatch z⟩
 | @lst a xs ea =>
  cases (show u=Value.ref a from rx)
  obtain⟨_,_,n,_,h1⟩:=(show cM X.prog X.w H s.heap a (.lst xs) from I.bT a _ ea)
  exact⟨_,PySem.W.kitx_list,⟨_,h1,rfl⟩,λz=>nomatch z⟩
 | @qU a ob xs ea =>
  cases (show u=Value.ref a from rx)
  obtain⟨_,_,_,n,_,h1⟩:=(show cM X.prog X.w H s.heap a (.qU ob (.lst xs)) from I.bT a _ ea)
  exact⟨_,PySem.W.kitx_list,⟨_,h1,rfl⟩,λz=>nomatch z⟩
 | @tup a xs ea =>
  cases (show u=Value.ref a from rx)
  obtain⟨_,_,_,o,h1,h2,_⟩:=(show cM X.prog X.w H s.heap a (.tup xs) from I.bT a _ ea)
  exact⟨_,PySem.W.kitx_tuple,⟨o,h1,h2⟩,λz=>nomatch z⟩
 | @dK a Ob ea =>
  cases (show u=Value.ref a from rx)
  obtain⟨_,_,vs,_,o,es,ep,h1,h2,_⟩:=(show cM X.prog X.w H s.heap a (.dK Ob) from I.bT a _ ea)
  exact⟨_,PySem.W.kitx_dict,⟨o,h1,h2.1⟩,λz=>nomatch z⟩
 | @dT a Ob ea =>
  cases (show u=Value.ref a from rx)
  obtain⟨_,_,xs,_,o,es,ep,h1,h2,_⟩:=(show cM X.prog X.w H s.heap a (.dT Ob) from I.bT a _ ea)
  exact⟨_,PySem.W.kitx_dict,⟨o,h1,h2.1⟩,λz=>nomatch z⟩
 | @ins a C dx fs ea cl ha hn Jk hm =>
  cases (show u=Value.ref a from rx)
  obtain⟨mA,O,_⟩:=l_ I.bT ea
  obtain⟨od,J,_⟩:=O.look
  exact⟨_,PySem.W.kitx_own (cl.get _) cl.hd ha hn Jk hm,J,λz=>nomatch z⟩
def JO(K:PySem.W.Frag):List V->Hp->VK->Prop:=λxs H Q=>∃ (x:V) (tp:Addr) (Ts:List String) (t:Value) (b:Bool),xs=[x,.ref tp]/\H tp=some (.tup (Ts.map V.ty))/\kH K H x t/\PySem.W.kitAny K t (Ts.map Value.type)=some b/\Q (.bl b) H
theorem ym:∀ {Ts:List String} {us:List Value},Vals (Ts.map V.ty) us->us=Ts.map Value.type
 | [],us,r=>by rw[List.map_nil] at r;cases r;rfl
 | T::Ts,us,r=>by
  rw[List.map_cons] at r
  cases r with
  | cons r1 r2 =>
   cases (show _=Value.type T from r1)
   rw[ym r2]
   rfl
theorem Af:dR X (.builtin "isinstance") (JO X.K):=by
 intro Ni s σ H xs us Q I r h
 obtain⟨x,tp,Ts,t,b,rfl,htp,ty,e,q⟩:=h
 cases r with
 | cons r1 r2 =>
  cases r2 with
  | cons r3 r4 =>
   cases r4
   cases (show _=Value.ref tp from r3)
   obtain⟨HH,Z,p,ne⟩:=EH I r1 ty
   obtain⟨_,Nl,rv,o,h1,h2,n,h3⟩:=(show cM X.prog X.w H s.heap tp (.tup (Ts.map V.ty)) from I.bT tp _ htp)
   have ei:=ym rv
   subst ei
   obtain⟨cls,dd,data,sl⟩:=o
   dsimp only at h2 h3
   subst h2 h3
   exact PySem.W.kia_tup Z I.kD p h1 e ne λtk=>⟨.bl b,H,I.tok tk,rfl,q⟩
theorem yX:∀ {bs:List Bool} {us:List Value},Vals (bs.map V.bl) us->us=bs.map Value.bool
 | [],us,r=>by rw[List.map_nil] at r;cases r;rfl
 | b::bs,us,r=>by
  rw[List.map_cons] at r
  cases r with
  | cons r1 r2 =>
   cases (show _=Value.bool b from r1)
   rw[yX r2]
   rfl
theorem IK:bootBuiltins "all" = some (.builtin "all"):=by decide +kernel
theorem zG(hc:X.calm=true):dR X (.builtin "all") (λxs H Q=>∃ (a:Addr) (bs:List Bool),xs=[.ref a]/\hV X.K H a (bs.map V.bl)/\Q (.bl (bs.all id)) H):=by
 intro Ni s σ H xs us Q I r h
 obtain⟨a,bs,rfl,hq,q⟩:=h
 cases r with
 | cons r1 r2 =>
  cases r2
  cases (show _=Value.ref a from r1)
  obtain⟨Nl,rv,p,hz⟩:=I.list hq
  have ei:=yX rv
  subst ei
  have hl:=p.isList
  have Oa:a<s.heap.objs.size:=by obtain⟨_,e,_⟩:=hl;exact Heap.lt_size e
  refine call_all_walk (wpAny_pyIter_list hl ?_)
  refine⟨s.heap.objs.size,[s.heap.objs.size,a],[s.heap.objs.size],(bs.map Value.bool).toArray.size,_,_,λi=>(bs[i]?).getD true,rfl,Walks.list (A:=X.A.in1) (I.ok.hd hc) _ a (Nat.ne_of_lt Oa) (bs.map Value.bool).toArray,
   ⟨⟨_,Heap.get?_push_size _ rfl,rfl,rfl⟩,hl.push _⟩,λi v s' Q' E' hP hQ=>?_,λh' tk hk=>?_⟩
  ·have hP':(bs.map Value.bool)[i]?=some v:=by simpa using hP
   rw[List.getElem?_map] at hP'
   obtain⟨b,e1,e2⟩:=Option.map_eq_some_iff.mp hP'
   subst e2
   simp only[e1,Option.getD_some] at hQ
   exact wpAny_truthy_bool hQ
  ·have e:((List.range (bs.map Value.bool).toArray.size).all λi=>(bs[i]?).getD true)=bs.all id:=by
    rw[List.size_toArray,List.length_map]
    rw[Bool.eq_iff_iff,List.all_eq_true,List.all_eq_true]
    constructor
    ·intro h b hb
     obtain⟨i,hi,e⟩:=List.getElem_of_mem hb
     have:=h i (List.mem_range.mpr hi)
     simp only[List.getElem?_eq_getElem hi,Option.getD_some,e] at this
     exact this
    ·intro h i hi
     have Qh:=List.mem_range.mp hi
     simp only[List.getElem?_eq_getElem Qh,Option.getD_some]
     exact h _ (List.getElem_mem Qh)
   rw[e]
   refine⟨.bl _,H,I.kept (t':=tk) (λb x e=>?_),rfl,q⟩
   exact hk b x (λhm=>by rw[List.mem_singleton.mp hm] at e;exact Nat.lt_irrefl _ (Heap.lt_size e)) (Heap.get?_push_of_some _ e)
end
section
open PySem.MeetsSeq PySem.MeetsSeq2 PySem.MeetsSeq3
theorem nu:fillsNumberSlot (.type "tuple") "mul" = pure false :=
 PySem.fillsNumberSlot_seq (id := "tuple.__mul__") (r:=some (.builtin "tuple.__rmul__")) F.slot_tuple_mul.lookup (by decide +kernel) F.slot_tuple_rmul.lookup (by decide +kernel)
theorem sY:seqRepeat? (.type "tuple")=pure (some (.builtin "tuple.__mul__")):=by
 unfold seqRepeat?
 rw[PySem.seqSlot_of (T := "tuple") (name := "__mul__") (id := "tuple.__mul__") F.slot_tuple_mul.lookup (by decide +kernel),PySem.seqSlot_of (T := "tuple") (name := "__rmul__") (id := "tuple.__rmul__") F.slot_tuple_rmul.lookup (by decide +kernel)]
 rfl
theorem tR(a:Int)(t:Tok)(l:Addr)(items:Array Value)(n:Nat)(dd:Option Addr)(sl:Array (Option Value)) :
  Meets (Builtin.«int.__rmul__» ⟨[.int a t,.ref l],[]⟩) (λ_ R s=>s.heap.get? l=some ⟨.type "tuple", dd,.seq items n,sl⟩/\R (.ok (.ret Value.notImplemented)) s) :=
 .of_wp λprog w A R s h=>by obtain⟨hp,g,d,tk,os⟩:=s;obtain⟨hl,h⟩:=h;wp_walk;exact⟨_,rfl,h⟩
theorem zp(l:Addr)(items:Array Value)(n:Nat)(dd:Option Addr)(sl:Array (Option Value))(u:Tok) :
  Meets (Builtin.«tuple.__mul__» ⟨[.ref l,.int 1 u],[]⟩) (λ_ R s=>s.heap.get? l=some ⟨.type "tuple", dd,.seq items n,sl⟩/\R (.ok (.ret (.ref l))) s) :=
 .of_wp λprog w A R s h=>by
  obtain⟨hp,g,d,tk,os⟩:=s;obtain⟨hl,h⟩:=h;have f1:=AutoSeq1.idx_int;have f2:=AutoSeq1.sub_tuple_tuple
  wp_walk using AutoSeq1.wpAny_loadPart' hl
  exact⟨_,rfl,h⟩
theorem zq(l:Addr)(items:Array Value)(n:Nat)(dd:Option Addr)(sl:Array (Option Value))(x:Int)(u:Tok)(c0:¬ (decide (x < -2^63)||decide (x>=2^63))=true)(c1:¬ (items.isEmpty||x==1)=true)(c2:¬ (decide (x<=0)||items.isEmpty)=true)
  (c3:¬ (items.size:Int)*x>(2^63-1)/8) (c4:¬ Builtin.Tuple.tupleTooMany ((items.size:Int)*x)=true) (OQ:(List.foldl (λx1 x2=>x1++x2) #[] (List.replicate x.toNat items)).size<=sizeLine) :
  Meets (Builtin.«tuple.__mul__» ⟨[.ref l,.int x u],[]⟩) (λ_ R s=>s.heap.get? l=some ⟨.type "tuple", dd,.seq items n,sl⟩/\R (.ok (.ret (.ref s.heap.objs.size))) { s with heap:=s.heap.push { cls:=.type "tuple", data:=.seq (List.foldl (λx1 x2=>x1++x2) #[] (List.replicate x.toNat items)) },toks:=s.toks }) :=
 .of_wp λprog w A R s h=>by
  obtain⟨hp,g,d,tk,os⟩:=s;obtain⟨hl,h⟩:=h;have f1:=AutoSeq1.idx_int;have f2:=AutoSeq1.sub_tuple_tuple
  wp_walk using AutoSeq1.wpAny_loadPart' hl
  refine wpAny_ite_false (decide_eq_false c0) ?_;wp_walk using AutoSeq1.wpAny_loadPart' hl
  refine wpAny_ite_false (decide_eq_false c3) ?_;wp_walk using AutoSeq1.wpAny_loadPart' hl
  exact⟨_,rfl,h⟩
theorem z8(l:Addr)(items:Array Value)(n:Nat)(dd:Option Addr)(sl:Array (Option Value))(x:Int)(u:Tok)(c0:¬ (decide (x < -2^63)||decide (x>=2^63))=true)(c1:¬ (items.isEmpty||x==1)=true)(c2:(decide (x<=0)||items.isEmpty)=true) :
  Meets (Builtin.«tuple.__mul__» ⟨[.ref l,.int x u],[]⟩) (λ_ R s=>s.heap.get? l=some ⟨.type "tuple", dd,.seq items n,sl⟩/\R (.ok (.ret (.ref s.heap.objs.size))) { s with heap:=s.heap.push { cls:=.type "tuple", data:=.seq #[] },toks:=s.toks }) :=
 .of_wp λprog w A R s h=>by
  obtain⟨hp,g,d,tk,os⟩:=s;obtain⟨hl,h⟩:=h;have f1:=AutoSeq1.idx_int;have f2:=AutoSeq1.sub_tuple_tuple
  wp_walk using AutoSeq1.wpAny_loadPart' hl
  refine wpAny_ite_false (decide_eq_false c0) ?_;wp_walk using AutoSeq1.wpAny_loadPart' hl
  exact⟨_,rfl,h⟩
def F1(K:PySem.W.Frag):R2:=λx y H Q=>∃ a k xs,x=.ref a/\y=.int k/\iy K H a xs/\xs≠[]/\-(2^63)<=k/\k<2^63/\xs.length*k.toNat<=sizeLine/\(k=1->Q (.ref a) H)/\(k≠1->∀ p,H p=none->Q (.ref p) (upd H p (.tup (List.replicate k.toNat xs).flatten)))
theorem EC:iR X (binaryOp .Mult) (F1 X.K):=by
 intro Ni s σ H x y v u Q I rx ry h
 obtain⟨a,k,xs,rfl,rfl,hq,Pm,h1,h2,hz,q1,q2⟩:=h
 cases rx
 obtain⟨t,rfl⟩:=ry
 obtain⟨Nl,r,⟨o,e,hc,n,hd⟩,_⟩:=I.tuple hq
 obtain⟨cls,dd,data,sl⟩:=o
 dsimp only at hc hd
 subst hc hd
 have hl:=r.length
 refine wpAny_binaryOp_repeat_ref (T := "tuple") (U := "int") (by decide) ⟨_,e,rfl⟩ (λs'=>typeIs_int s' k t) nu F.fills_int_mul F.slot_int_rmul sY F.slot_int_index.lookup
  (call_meets F.slot_int_rmul (typeIs_int s k t) F.entry_int_rmul (F.args_int_rmul_2 _ _) (tR k t a Nl.toArray n dd sl) ⟨e,rfl,⟨_,e,rfl⟩,?_⟩)
 by_cases hk1:k=1
 ·subst hk1
  exact call_meets F.slot_tuple_mul ⟨_,e,rfl⟩ F.entry_tuple_mul (F.args_tuple_mul_2 _ _) (zp a Nl.toArray n dd sl t) ⟨e,⟨.ref a,H,I,rfl,q1 rfl⟩⟩
 ·have hb1:(k==1)=false:=by simpa using hk1
  have Pu:Nl≠[]:=λz=>Pm (r.mv.mp z)
  have hie:Nl.toArray.isEmpty=false:=by cases Nl with | nil=>exact absurd rfl Pu | cons _ _=>rfl
  have c0:¬ (decide (k < -2^63)||decide (k>=2^63))=true:=by simp;omega
  have c1:¬ (Nl.toArray.isEmpty||k==1)=true:=by rw[hie,hb1];simp
  have fin:∀ ys,ys=(List.replicate k.toNat Nl).flatten.toArray->EP X Ni σ Q (.ref s.heap.objs.size) { s with heap:=s.heap.push { cls:=.type "tuple", data:=.seq ys },toks:=s.toks }:=λys ey=>by
   subst ey
   refine⟨.ref s.heap.objs.size,_,I.laid (t':=s.toks) (o:=.tup (List.replicate k.toNat xs).flatten) (λb ob q=>Heap.get?_push_of_some _ q) (Nat.le_refl _) ?_,rfl,q2 hk1 _ (I.bT.fresh (Nat.le_refl _))⟩
   exact⟨by rw[len_rep,Nat.mul_comm];exact hz,_,r.rep k.toNat,IsTup.new _ _⟩
  have OJ:List.foldl (λx1 x2=>x1++x2) #[] (List.replicate k.toNat Nl.toArray)=(List.replicate k.toNat Nl).flatten.toArray:=by
   have:=foldl_rep Nl k.toNat []
   rw[List.nil_append] at this
   exact this
  by_cases hk0:k<=0
  ·have c2:(decide (k<=0)||Nl.toArray.isEmpty)=true:=by rw[decide_eq_true hk0];rfl
   refine call_meets F.slot_tuple_mul ⟨_,e,rfl⟩ F.entry_tuple_mul (F.args_tuple_mul_2 _ _) (z8 a Nl.toArray n dd sl k t c0 c1 c2) ⟨e,fin _ ?_⟩
   rw[show k.toNat=0 by omega]
   rfl
  ·have c2:¬ (decide (k<=0)||Nl.toArray.isEmpty)=true:=by rw[decide_eq_false hk0,hie];simp
   have em:((Nl.toArray.size:Nat):Int)*k=((xs.length*k.toNat:Nat):Int):=by
    rw[List.size_toArray,← hl,Int.natCast_mul,Int.toNat_of_nonneg (by omega)]
   have hs:(sizeLine:Int)<=(2^63-1)/8:=by decide
   refine call_meets F.slot_tuple_mul ⟨_,e,rfl⟩ F.entry_tuple_mul (F.args_tuple_mul_2 _ _) (zq a Nl.toArray n dd sl k t c0 c1 c2 ?_ ?_ ?_) ⟨e,fin _ OJ⟩
   ·rw[em];omega
   ·rw[em]
    unfold Builtin.Tuple.tupleTooMany
    simp only[decide_eq_true_eq]
    omega
   ·rw[OJ,List.size_toArray,len_rep,Nat.mul_comm,← hl]
    exact hz
end
structure bo (K:PySem.W.Frag) (x qual:Str) (st:Stmt) (dv:Value) (f:Addr) (fd:FuncData):Prop where
 ex:∃ (oc:Value) (od:Option Addr) (kV doc pm:Value) (an:Option Addr) (NF ct:Value) (P5:Array (Option Value)),
  fd=PySem.W.fnOf x qual (iW st) (eP st) (bf st) dv kV doc pm an NF ct/\K.lookup f=some ⟨oc,od,.func fd,P5⟩/\PySem.W.codeIn K NF qual=true
 kp:PySem.W.keepIn K (.ref f)=true
variable{ds:List Value}{T:Addr}{qual:Str}
section
variable{K:PySem.W.Frag}
theorem bo.binds{st:Stmt}{o:Obj}(F:bo K x qual st (.ref T) f fd)(ho:K.lookup T=some o)(hs:o.data=.seq items n)
  (h:∀ (kV doc pm:Value) (an:Option Addr) (NF ct:Value) (us:List Value),(us++ds).length=ps.length->∃ k,bindArgs (PySem.W.fnOf x qual (iW st) (eP st) (bf st) (.ref T) kV doc pm an NF ct) ⟨us,[]⟩=seqItems? (.ref T) >>= k/\k (some items)=pure (ps.zip (us++ds))):Binds K fd ps ds:=by
 obtain⟨oc,od,kV,doc,pm,an,NF,ct,P5,rfl,lk,OB⟩:=F.ex
 intro s us X hl
 obtain⟨k,h1,h2⟩:=h kV doc pm an NF ct us hl
 exact BindsTo.of_defaults rfl (X _ _ ho) hs h1 h2
end
variable{v:V}
theorem JX{pos:Pos}(hg:Gl X x)(hm:∃ u,X.mg x=some u/\RelV v u)(hd:autoParam ((x==("__debug__" : Str))=false) aD._auto_1):PE X (.Name x pos) (tC v):=by
 obtain⟨u,h1,h2⟩:=hm
 exact Fm hg h1 h2 hd
theorem Cb:bootBuiltins "max" = some (.builtin "max"):=by decide +kernel
variable{y:Str}
theorem DW{cl:List (Str×Addr)}{pos Pe py:Pos}{wi:TI}{g:TG}{fs:List Str}(hN:X.N.Nodup)(hiy:X.N[i]?=some y)(hy:Loc X.env.scope y)(Nv:X.calm=true)
  (NM:closureFor scope X.env=pure cl) (hk:scope.kind=.function) (nc:gz scope.names=true) (lo:iI scope.names=true) (fh:iT cl scope.names=true) (ag:eV X cl) (fr:jj X scope cl fs js)
  (hi:PI X tg iter wi) (hg:∀ C s₀ H₀ ex Ni,PG (qE X scope cl (ts++fs) C s₀ H₀ ex Ni) tg g) (he:∀ C s₀ H₀ ex Ni,PE (qE X scope cl (ts++fs) C s₀ H₀ ex Ni) elt te)
  (hs:autoParam (∀ x,foldedSetIterable iter X.env x=pure x) aI._auto_1) (Ri:autoParam (swapsWith (.ListComp elt [⟨tg,iter,[],0⟩] scope pos) (some (.Name y py)) Pe.line X.env=pure true) aR._auto_1)
  (hf:autoParam (X.fn y=true\/X.env.scope.names.lookup y=some .local) aF._auto_1) :
  PS X (.Assign [.Name y py] (.ListComp elt [⟨tg,iter,[],0⟩] scope pos) Pe) (Bp (wX wi g te ts js) (aH i)):=by
 intro Ni s σ H D I h
 rw[exec_Assign_Name_used _ _ _ _ Ri]
 refine wpAny_bind (wpAny_standAt (wpAny_bind ?_))
 show wpAny _ X.A (do let _ ← comprehension (.ListComp elt [⟨tg,iter,[],0⟩] scope pos) scope X.env _ (newList []) false (eval iter X.env) (some (assign (.Name y py) X.env))) _ _ s
 refine wpAny_bind (wpAny_mono (vd (tt:=none) Nv NM hk nc lo fh ag fr hi hg (λ_ _ _ _ _=>trivial) he hs I (show AO wi g none te ts js σ H (λx H1=>D.nx (σ.set i (some x)) H1) from h) (some (assign (.Name y py) X.env)) (λ_ s'=>SP X Ni D .next s') λDd H' s' C Io q hm f=>?_) (λ_ s' hq=>wpAny_pure (wpAny_pure hq)) λ_ _ e=>e)
 show wpAny _ X.A (assign (.Name y py) X.env (.ref Dd)) _ _ s'
 refine wpAny_assign_Name (sL Io hN hiy hy (v:=.ref Dd) rfl (λs'' I'' ⟨a,sb,ha⟩=>?_) hf)
 obtain⟨m,hn⟩:=hm
 obtain⟨f0,f1,f2,f3,f4,f5⟩:=f
 have naC:a≠C:=by
  rcases ha with z | z
  ·rw[z];exact λw=>f1 w.symm
  ·exact f4 y a z
 refine⟨m,hn.sameBut sb (Ne.symm naC),λh' QO=>?_⟩
 exact⟨_,H',I''.other ⟨f0,f1,f2,f3,f4,f5⟩ QO,q⟩
theorem p_(a b c:Value):checkTypeCall "zip" ⟨[a,b,c],[]⟩=pure ():=by kernel_rfl
theorem qT(a b c:Value):checkBuiltinCall "zip.__new__" ⟨[.type "zip", a,b,c],[]⟩=pure ():=by kernel_rfl
abbrev bV(h:Heap)(T:Addr)(a b c:Value):Prop:=h.get? T=some { cls:=.type "tuple", data:=.seq #[a,b,c] }
structure Z3 (z TI TO i1 i2 i3:Addr):Prop where
 TIz:TI≠z
 TOz:TO≠z
 i1z:i1≠z
 i2z:i2≠z
 Jn:i3≠z
 TITO:TI≠TO
 TIi1:TI≠i1
 TIi2:TI≠i2
 Lq:TI≠i3
 TOi1:TO≠i1
 TOi2:TO≠i2
 Es:TO≠i3
 i12:i1≠i2
 La:i1≠i3
 Ma:i2≠i3
structure L3 (z TO i1 i2 i3 l:Addr):Prop where
 z:l≠z
 o:l≠TO
 i1:l≠i1
 i2:l≠i2
 i3:l≠i3
section
variable{E:Value->Shared->Prop}
theorem dz{a b c x:Value}{Q:Unit->Shared->Prop}(hT:bV s.heap T a b c)
  (h:∀ h',h'.get? T=some { cls:=.type "tuple", data:=.seq ((#[a,b,c]:Array Value).setIfInBounds k x) }->Heap.SameBut T s.heap h'->Q () { s with heap:=h' }) :
  wpAny (model prog w) A (updateSeq T (·.setIfInBounds k x)) Q E s:=by
 refine wpAny_updateSeq hT rfl (h _ ?_ (Heap.SameBut.update ..))
 rw[Heap.get?_update_self _ hT rfl]
 simp[Obj.mapSeq]
variable{b1 b2 b3:Bool}{z TI TO i1 i2 i3 l3:Addr}{k3:Nat}{xs zs:Array Value}{x y v a b c:Value}
theorem zx(D:Z3 z TI TO i1 i2 i3)(D1:L3 z TO i1 i2 i3 l1)(D2:L3 z TO i1 i2 i3 l2)(D3:L3 z TO i1 i2 i3 l3)
  (hz:IsZip s.heap z TI TO .none) (N1:bV s.heap TI (.ref i1) (.ref i2) (.ref i3)) (N3:bV s.heap TO a b c)
  (h1:eM s.heap b1 i1 l1 k1) (h2:eM s.heap b2 i2 l2 k2) (h3:eM s.heap b3 i3 l3 k3) (OH:gy s.heap b1 l1 xs) (OI:gy s.heap b2 l2 ys) (PL:gy s.heap b3 l3 zs) (hx:xs[k1]?=some x) (hy:ys[k2]?=some y) (hv:zs[k3]?=some v)
  (hQ:∀ h',IsZip h' z TI TO (rawInt s.heap.objs.size)->bV h' TO x y v->eM h' b1 i1 l1 (k1+1)->eM h' b2 i2 l2 (k2+1)->eM h' b3 i3 l3 (k3+1)->bV h' s.heap.objs.size x y v->h'.objs.size=s.heap.objs.size+1 ->
   (∀ c o,c≠z->c≠TO->c≠i1->c≠i2->c≠i3->s.heap.get? c=some o->h'.get? c=some o)->Q (.ref s.heap.objs.size) { s with heap:=h' }) :
  wpAny (model prog w) A (Builtin.«zip.__next__» ⟨[.ref z],[]⟩) (λfin s'=>∃ v,fin=.done (.ret v)/\Q v s') E s:=by
 show wpAny _ _ (field (.ref z) 2 >>= _) _ _ _
 refine wpAny_bind (wpAny_field hz rfl (x:=.bool false) rfl ?_)
 show wpAny _ _ (field (.ref z) 3 >>= _) _ _ _
 refine wpAny_bind (wpAny_field hz rfl (x:=.ref TI) rfl ?_)
 refine wpAny_bind (wpAny_seqItems N1 rfl ?_)
 show wpAny _ _ (Builtin.SmallTypes.ownedTupleIsFree (.ref z) >>= _) _ _ _
 refine wpAny_bind ?_
 unfold Builtin.SmallTypes.ownedTupleIsFree
 refine wpAny_bind (wpAny_field hz rfl (x:=.none) rfl (wpAny_pure ?_))
 simp only[if_true]
 refine wpAny_bind (wpAny_rule ?_)
 refine wpAny_bind (wpAny_field hz rfl (x:=.ref TO) rfl ?_)
 refine wpAny_bind (wpAny_setField_rec hz (by simp) λh₁ hz1 hs1=>?_)
 replace hz1:IsZip h₁ z TI TO .ellipsis:=hz1
 refine wpAny_bind ?_
 simp only[List.zipIdx_cons,List.zipIdx_nil,List.forIn_cons,List.forIn_nil]
 refine wpAny_bind (wpAny_bind (wpAny_onRaise ?_))
 show wpAny _ _ (Builtin.SmallTypes.nextOf (.ref i1) >>= _) _ _ _
 refine wpAny_bind (dc (h1.at λo e=>hs1.extBut _ _ D.i1z e) (OH.at λo e=>hs1.extBut _ _ D1.z e) hx λh₂ h1₂ hs2=>wpAny_pure ?_)
 have hTO2:bV h₂ TO a b c:=hs2.extBut _ _ D.TOi1 (hs1.extBut _ _ D.TOz N3)
 refine wpAny_bind (wpAny_seqItems hTO2 rfl ?_)
 refine wpAny_bind (dz hTO2 λh₃ hTO3 hs3=>?_)
 replace hTO3:bV h₃ TO x b c:=hTO3
 refine wpAny_bind (wpAny_letGo (wpAny_pure ?_))
 have P9:∀ q o,q≠z->q≠TO->q≠i1->s.heap.get? q=some o->h₃.get? q=some o:=λq o c1 c2 c3 e=>hs3.extBut _ _ c2 (hs2.extBut _ _ c3 (hs1.extBut _ _ c1 e))
 refine wpAny_bind (wpAny_bind (wpAny_onRaise ?_))
 show wpAny _ _ (Builtin.SmallTypes.nextOf (.ref i2) >>= _) _ _ _
 refine wpAny_bind (dc (h2.at λo e=>P9 _ o D.i2z D.TOi2.symm D.i12.symm e) (OI.at λo e=>P9 _ o D2.z D2.o D2.i1 e) hy λh₄ h2₄ hs4=>wpAny_pure ?_)
 have hTO4:bV h₄ TO x b c:=hs4.extBut _ _ D.TOi2 hTO3
 refine wpAny_bind (wpAny_seqItems hTO4 rfl ?_)
 refine wpAny_bind (dz hTO4 λh₅ hTO5 hs5=>?_)
 replace hTO5:bV h₅ TO x y c:=hTO5
 refine wpAny_bind (wpAny_letGo (wpAny_pure ?_))
 have k5:∀ q o,q≠z->q≠TO->q≠i1->q≠i2->s.heap.get? q=some o->h₅.get? q=some o:=λq o c1 c2 c3 c4 e=>hs5.extBut _ _ c2 (hs4.extBut _ _ c4 (P9 q o c1 c2 c3 e))
 refine wpAny_bind (wpAny_bind (wpAny_onRaise ?_))
 show wpAny _ _ (Builtin.SmallTypes.nextOf (.ref i3) >>= _) _ _ _
 refine wpAny_bind (dc (h3.at λo e=>k5 _ o D.Jn D.Es.symm D.La.symm D.Ma.symm e) (PL.at λo e=>k5 _ o D3.z D3.o D3.i1 D3.i2 e) hv λh₆ h3₆ hs6=>wpAny_pure ?_)
 have hTO6:bV h₆ TO x y c:=hs6.extBut _ _ D.Es hTO5
 refine wpAny_bind (wpAny_seqItems hTO6 rfl ?_)
 refine wpAny_bind (dz hTO6 λh₇ hTO7 hs7=>?_)
 replace hTO7:bV h₇ TO x y v:=hTO7
 refine wpAny_bind (wpAny_letGo (wpAny_pure (wpAny_pure ?_)))
 refine wpAny_bind (wpAny_seqItems hTO7 rfl ?_)
 refine wpAny_bind (wpAny_newTuple ?_)
 have OQ:h₇.objs.size=s.heap.objs.size:=by rw[hs7.1,hs6.1,hs5.1,hs4.1,hs3.1,hs2.1,hs1.1]
 have hz₃:IsZip h₃ z TI TO .ellipsis:=hs3.extBut _ _ D.TOz.symm (hs2.extBut _ _ D.i1z.symm hz1)
 have hz5:IsZip h₅ z TI TO .ellipsis:=hs5.extBut _ _ D.TOz.symm (hs4.extBut _ _ D.i2z.symm hz₃)
 have hz7:IsZip h₇ z TI TO .ellipsis:=hs7.extBut _ _ D.TOz.symm (hs6.extBut _ _ D.Jn.symm hz5)
 have k7:∀ q o,q≠z->q≠TO->q≠i1->q≠i2->q≠i3->s.heap.get? q=some o->h₇.get? q=some o:=λq o c1 c2 c3 c4 c5 e=>hs7.extBut _ _ c2 (hs6.extBut _ _ c5 (k5 q o c1 c2 c3 c4 e))
 have h1₇:eM h₇ b1 i1 l1 (k1+1):=h1₂.at λo e=>hs7.extBut _ _ D.TOi1.symm (hs6.extBut _ _ D.La (hs5.extBut _ _ D.TOi1.symm (hs4.extBut _ _ D.i12 (hs3.extBut _ _ D.TOi1.symm e))))
 have h2₇:eM h₇ b2 i2 l2 (k2+1):=h2₄.at λo e=>hs7.extBut _ _ D.TOi2.symm (hs6.extBut _ _ D.Ma (hs5.extBut _ _ D.TOi2.symm e))
 have h3₇:eM h₇ b3 i3 l3 (k3+1):=h3₆.at λo e=>hs7.extBut _ _ D.Es.symm e
 have PR:z<h₇.objs.size:=Heap.lt_size hz7
 show wpAny _ _ (Builtin.SmallTypes.ownedTupleHandOut (.ref z) (.ref h₇.objs.size) >>= _) _ _ _
 refine wpAny_bind ?_
 unfold Builtin.SmallTypes.ownedTupleHandOut
 have hz₈:IsZip (h₇.push { cls:=.type "tuple", data:=.seq #[x,y,v] }) z TI TO .ellipsis:=Heap.get?_push_of_some _ hz7
 refine wpAny_bind (wpAny_setField_rec hz₈ (by simp) λh₉ hz9 hs9=>?_)
 replace hz9:IsZip h₉ z TI TO (rawInt h₇.objs.size):=hz9
 refine wpAny_setField_rec hz9 (by simp) λhA hzA hsA=>?_
 replace hzA:IsZip hA z TI TO (rawInt h₇.objs.size):=hzA
 have up:∀ c o,c≠z->h₇.get? c=some o->hA.get? c=some o:=λc o c1 e=>hsA.extBut _ _ c1 (hs9.extBut _ _ c1 (Heap.get?_push_of_some _ e))
 have hTA:bV hA h₇.objs.size x y v:=hsA.extBut _ _ (Nat.ne_of_gt PR) (hs9.extBut _ _ (Nat.ne_of_gt PR) (Heap.get?_push_size _ rfl))
 have Ro:hA.objs.size=h₇.objs.size+1:=by rw[hsA.1,hs9.1,Heap.size_push]
 rw[OQ] at hzA hTA Ro
 refine wpAny_pure ⟨_,rfl,?_⟩
 show Q (.ref h₇.objs.size) _
 rw[OQ]
 exact hQ hA hzA (up _ _ D.TOz hTO7) (h1₇.at λo e=>up _ o D.i1z e) (h2₇.at λo e=>up _ o D.i2z e) (h3₇.at λo e=>up _ o D.Jn e) hTA Ro λc o c1 c2 c3 c4 c5 e=>up c o c1 (k7 c o c1 c2 c3 c4 c5 e)
theorem C9{Q:Fin->Shared->Prop}(hh:A.handled=none)(D:Z3 z TI TO i1 i2 i3)(D1:L3 z TO i1 i2 i3 l1)(D2:L3 z TO i1 i2 i3 l2)(D3:L3 z TO i1 i2 i3 l3)
  (hz:IsZip s.heap z TI TO .none) (N1:bV s.heap TI (.ref i1) (.ref i2) (.ref i3)) (N3:bV s.heap TO a b c)
  (h1:eM s.heap b1 i1 l1 k1) (h2:eM s.heap b2 i2 l2 k2) (h3:eM s.heap b3 i3 l3 k3) (OH:gy s.heap b1 l1 xs) (OI:gy s.heap b2 l2 ys) (PL:gy s.heap b3 l3 zs) (OP:xs[k1]?=none\/ys[k2]?=none\/zs[k3]?=none)
  (hE:∀ h' e,(∀ c o,c≠z->c≠TO->c≠i1->c≠i2->c≠i3->s.heap.get? c=some o->h'.get? c=some o)->(∃ o,h'.get? e=some o/\o.cls=.type "StopIteration")->E (.ref e) { s with heap:=h' }) :
  wpAny (model prog w) A (Builtin.«zip.__next__» ⟨[.ref z],[]⟩) Q E s:=by
 show wpAny _ _ (field (.ref z) 2 >>= _) _ _ _
 refine wpAny_bind (wpAny_field hz rfl (x:=.bool false) rfl ?_)
 show wpAny _ _ (field (.ref z) 3 >>= _) _ _ _
 refine wpAny_bind (wpAny_field hz rfl (x:=.ref TI) rfl ?_)
 refine wpAny_bind (wpAny_seqItems N1 rfl ?_)
 show wpAny _ _ (Builtin.SmallTypes.ownedTupleIsFree (.ref z) >>= _) _ _ _
 refine wpAny_bind ?_
 unfold Builtin.SmallTypes.ownedTupleIsFree
 refine wpAny_bind (wpAny_field hz rfl (x:=.none) rfl (wpAny_pure ?_))
 simp only[if_true]
 refine wpAny_bind (wpAny_rule ?_)
 refine wpAny_bind (wpAny_field hz rfl (x:=.ref TO) rfl ?_)
 refine wpAny_bind (wpAny_setField_rec hz (by simp) λh₁ hz1 hs1=>?_)
 replace hz1:IsZip h₁ z TI TO .ellipsis:=hz1
 refine wpAny_bind ?_
 simp only[List.zipIdx_cons,List.zipIdx_nil,List.forIn_cons,List.forIn_nil]
 refine wpAny_bind (wpAny_bind (wpAny_onRaise ?_))
 show wpAny _ _ (Builtin.SmallTypes.nextOf (.ref i1) >>= _) _ _ _
 cases hx:xs[k1]? with
 | none =>
  refine wpAny_bind (h_ hh (h1.at λo e=>hs1.extBut _ _ D.i1z e) (OH.at λo e=>hs1.extBut _ _ D1.z e) hx λh₂ e hs2 he=>?_)
  obtain⟨oe,OY,Pj⟩:=he
  have hz2:IsZip h₂ z TI TO .ellipsis:=hs2 _ _ D.i1z.symm hz1
  have Qg:e≠z:=λx=>by subst x;rw[hz2] at OY;cases OY;simp at Pj
  refine wpAny_setField_rec hz2 (by simp) λh₃ _ hs3=>hE h₃ e (λc o c1 _ c3 _ _ x=>hs3.extBut _ _ c1 (hs2 _ _ c3 (hs1.extBut _ _ c1 x))) ⟨oe,hs3.extBut _ _ Qg OY,Pj⟩
 | some x =>
  refine wpAny_bind (dc (h1.at λo e=>hs1.extBut _ _ D.i1z e) (OH.at λo e=>hs1.extBut _ _ D1.z e) hx λh₂ h1₂ hs2=>wpAny_pure ?_)
  have hTO2:bV h₂ TO a b c:=hs2.extBut _ _ D.TOi1 (hs1.extBut _ _ D.TOz N3)
  refine wpAny_bind (wpAny_seqItems hTO2 rfl ?_)
  refine wpAny_bind (dz hTO2 λh₃ hTO3 hs3=>?_)
  replace hTO3:bV h₃ TO x b c:=hTO3
  refine wpAny_bind (wpAny_letGo (wpAny_pure ?_))
  have P9:∀ q o,q≠z->q≠TO->q≠i1->s.heap.get? q=some o->h₃.get? q=some o:=λq o c1 c2 c3 e=>hs3.extBut _ _ c2 (hs2.extBut _ _ c3 (hs1.extBut _ _ c1 e))
  have hz₃:IsZip h₃ z TI TO .ellipsis:=hs3.extBut _ _ D.TOz.symm (hs2.extBut _ _ D.i1z.symm hz1)
  refine wpAny_bind (wpAny_bind (wpAny_onRaise ?_))
  show wpAny _ _ (Builtin.SmallTypes.nextOf (.ref i2) >>= _) _ _ _
  cases hy:ys[k2]? with
  | none =>
   refine wpAny_bind (h_ hh (h2.at λo e=>P9 _ o D.i2z D.TOi2.symm D.i12.symm e) (OI.at λo e=>P9 _ o D2.z D2.o D2.i1 e) hy λh₄ e hs4 he=>?_)
   obtain⟨oe,OY,Pj⟩:=he
   have hz4:IsZip h₄ z TI TO .ellipsis:=hs4 _ _ D.i2z.symm hz₃
   have Qg:e≠z:=λx=>by subst x;rw[hz4] at OY;cases OY;simp at Pj
   refine wpAny_setField_rec hz4 (by simp) λh₅ _ hs5=>hE h₅ e (λc o c1 c2 c3 c4 _ x=>hs5.extBut _ _ c1 (hs4 _ _ c4 (P9 c o c1 c2 c3 x))) ⟨oe,hs5.extBut _ _ Qg OY,Pj⟩
  | some y =>
   have hv:zs[k3]?=none:=by
    rcases OP with h | h | h
    ·rw[hx] at h;cases h
    ·rw[hy] at h;cases h
    ·exact h
   refine wpAny_bind (dc (h2.at λo e=>P9 _ o D.i2z D.TOi2.symm D.i12.symm e) (OI.at λo e=>P9 _ o D2.z D2.o D2.i1 e) hy λh₄ h2₄ hs4=>wpAny_pure ?_)
   have hTO4:bV h₄ TO x b c:=hs4.extBut _ _ D.TOi2 hTO3
   refine wpAny_bind (wpAny_seqItems hTO4 rfl ?_)
   refine wpAny_bind (dz hTO4 λh₅ hTO5 hs5=>?_)
   refine wpAny_bind (wpAny_letGo (wpAny_pure ?_))
   have k5:∀ q o,q≠z->q≠TO->q≠i1->q≠i2->s.heap.get? q=some o->h₅.get? q=some o:=λq o c1 c2 c3 c4 e=>hs5.extBut _ _ c2 (hs4.extBut _ _ c4 (P9 q o c1 c2 c3 e))
   have hz5:IsZip h₅ z TI TO .ellipsis:=hs5.extBut _ _ D.TOz.symm (hs4.extBut _ _ D.i2z.symm hz₃)
   refine wpAny_bind (wpAny_bind (wpAny_onRaise ?_))
   show wpAny _ _ (Builtin.SmallTypes.nextOf (.ref i3) >>= _) _ _ _
   refine wpAny_bind (h_ hh (h3.at λo e=>k5 _ o D.Jn D.Es.symm D.La.symm D.Ma.symm e) (PL.at λo e=>k5 _ o D3.z D3.o D3.i1 D3.i2 e) hv λh₆ e hs6 he=>?_)
   obtain⟨oe,OY,Pj⟩:=he
   have hz6:IsZip h₆ z TI TO .ellipsis:=hs6 _ _ D.Jn.symm hz5
   have Qg:e≠z:=λx=>by subst x;rw[hz6] at OY;cases OY;simp at Pj
   refine wpAny_setField_rec hz6 (by simp) λh₇ _ hs7=>hE h₇ e (λc o c1 c2 c3 c4 c5 x=>hs7.extBut _ _ c1 (hs6 _ _ c5 (k5 c o c1 c2 c3 c4 x))) ⟨oe,hs7.extBut _ _ Qg OY,Pj⟩
end
section
variable{E:Value->Shared->Prop}
variable{b1 b2 b3:Bool}{z TI TO i1 i2 i3 l3:Addr}{k3:Nat}{xs zs:Array Value}{x y v a b c:Value}
theorem nB{Q:Option Value->Shared->Prop}(D:Z3 z TI TO i1 i2 i3)(D1:L3 z TO i1 i2 i3 l1)(D2:L3 z TO i1 i2 i3 l2)(D3:L3 z TO i1 i2 i3 l3)
  (hz:IsZip s.heap z TI TO .none) (N1:bV s.heap TI (.ref i1) (.ref i2) (.ref i3)) (N3:bV s.heap TO a b c)
  (h1:eM s.heap b1 i1 l1 k1) (h2:eM s.heap b2 i2 l2 k2) (h3:eM s.heap b3 i3 l3 k3) (OH:gy s.heap b1 l1 xs) (OI:gy s.heap b2 l2 ys) (PL:gy s.heap b3 l3 zs) (hx:xs[k1]?=some x) (hy:ys[k2]?=some y) (hv:zs[k3]?=some v)
  (hQ:∀ h',IsZip h' z TI TO (rawInt s.heap.objs.size)->bV h' TO x y v->eM h' b1 i1 l1 (k1+1)->eM h' b2 i2 l2 (k2+1)->eM h' b3 i3 l3 (k3+1)->bV h' s.heap.objs.size x y v->h'.objs.size=s.heap.objs.size+1 ->
   (∀ c o,c≠z->c≠TO->c≠i1->c≠i2->c≠i3->s.heap.get? c=some o->h'.get? c=some o)->Q (some (.ref s.heap.objs.size)) { s with heap:=h' }) :
  wpAny (model prog w) A (pyNext (.ref z)) Q E s:=by
 have hT:s.TypeIs (.ref z) "zip" := ⟨_,hz,rfl⟩
 unfold pyNext
 exact wpAny_bind (wpAny_attempt (wpAny_callSpecial?_slot (name:=Str.ofString "__next__") hT F.slot_zip_next
  (wpAny_call_entry F.slot_zip_next hT F.entry_zip_next
   (zx D D1 D2 D3 hz N1 N3 h1 h2 h3 OH OI PL hx hy hv λh' a1 a2 a3 a4 a5 a6 a7 a8=>wpAny_pure (hQ h' a1 a2 a3 a4 a5 a6 a7 a8)) (F.args_zip_next_1 _))))
theorem ou{Q:Option Value->Shared->Prop}(hh:A.handled=none)(D:Z3 z TI TO i1 i2 i3)(D1:L3 z TO i1 i2 i3 l1)(D2:L3 z TO i1 i2 i3 l2)(D3:L3 z TO i1 i2 i3 l3)
  (hz:IsZip s.heap z TI TO .none) (N1:bV s.heap TI (.ref i1) (.ref i2) (.ref i3)) (N3:bV s.heap TO a b c)
  (h1:eM s.heap b1 i1 l1 k1) (h2:eM s.heap b2 i2 l2 k2) (h3:eM s.heap b3 i3 l3 k3) (OH:gy s.heap b1 l1 xs) (OI:gy s.heap b2 l2 ys) (PL:gy s.heap b3 l3 zs) (OP:xs[k1]?=none\/ys[k2]?=none\/zs[k3]?=none)
  (hQ:∀ h',(∀ c o,c≠z->c≠TO->c≠i1->c≠i2->c≠i3->s.heap.get? c=some o->h'.get? c=some o)->Q none { s with heap:=h' }):wpAny (model prog w) A (pyNext (.ref z)) Q E s:=by
 have hT:s.TypeIs (.ref z) "zip" := ⟨_,hz,rfl⟩
 unfold pyNext
 refine wpAny_bind (wpAny_attempt (wpAny_callSpecial?_slot (name:=Str.ofString "__next__") hT F.slot_zip_next
  (wpAny_call_entry F.slot_zip_next hT F.entry_zip_next (C9 hh D D1 D2 D3 hz N1 N3 h1 h2 h3 OH OI PL OP λh' e hk he=>?_) (F.args_zip_next_1 _))))
 obtain⟨o,ho,hc⟩:=he
 refine wpAny_bind (wpAny_isInstance (T := "StopIteration") (b:=true) ⟨o,ho,hc⟩ isSubtype_stop ?_)
 exact wpAny_pure (hQ _ hk)
end
abbrev K7(h:Heap)(b1 b2 b3:Bool)(l1 l2 l3:Addr):Heap:=(F3 h b1 b2 l1 l2).push (DQ b3 l3)
abbrev K5(h:Heap)(b1 b2 b3:Bool)(l1 l2 l3:Addr):Heap:=(K7 h b1 b2 b3 l1 l2 l3).push { cls:=.type "tuple", data:=.seq #[.ref h.objs.size,.ref (G2 h b1 l1).objs.size,.ref (F3 h b1 b2 l1 l2).objs.size] }
abbrev KW(h:Heap)(b1 b2 b3:Bool)(l1 l2 l3:Addr):Heap:=(K5 h b1 b2 b3 l1 l2 l3).push { cls:=.type "tuple", data:=.seq #[.none,.none,.none] }
abbrev HQ(h:Heap)(b1 b2 b3:Bool)(l1 l2 l3:Addr):Heap:=(KW h b1 b2 b3 l1 l2 l3).push { cls:=.type "zip", data:=.fields #[.none,.bool false,.bool false,.ref (K7 h b1 b2 b3 l1 l2 l3).objs.size,.ref (K5 h b1 b2 b3 l1 l2 l3).objs.size] }
theorem qt(b1 b2 b3:Bool)(l1 l2 l3:Addr)(xs ys zs:Array Value) :
  Meets (Builtin.«zip.__new__» ⟨[.type "zip", .ref l1,.ref l2,.ref l3],[]⟩) (λ_ R s=>gy s.heap b1 l1 xs/\gy s.heap b2 l2 ys/\gy s.heap b3 l3 zs ∧
   R (.ok (.ret (.ref (KW s.heap b1 b2 b3 l1 l2 l3).objs.size))) { s with heap:=HQ s.heap b1 b2 b3 l1 l2 l3 }) :=
 .of_wp λprog w A R s h=>by
  obtain⟨hp,g,d,tk,os⟩:=s;obtain⟨OH,OI,PL,h⟩:=h
  have Rh:=sub_zip
  have hL1:gy (Shared.heap ⟨hp,g,d,tk,os⟩) b1 l1 xs:=OH
  have hL2:gy (Shared.heap ⟨hp.push (DQ b1 l1),g,d,tk,os⟩) b2 l2 ys:=gy.push OI _
  have hL3:gy (Shared.heap ⟨(hp.push (DQ b1 l1)).push (DQ b2 l2),g,d,tk,os⟩) b3 l3 zs:=gy.push (gy.push PL _) _
  wp_walk using f_ hL1,f_ hL2,f_ hL3
  exact⟨_,rfl,h⟩
section
variable{E:Value->Shared->Prop}
theorem Aa{b1 b2 b3:Bool}{l3:Addr}{xs zs:Array Value}(OH:gy s.heap b1 l1 xs)(OI:gy s.heap b2 l2 ys)(PL:gy s.heap b3 l3 zs)
  (h:∀ h',IsZip h' (s.heap.objs.size+5) (s.heap.objs.size+3) (s.heap.objs.size+4) .none->bV h' (s.heap.objs.size+3) (.ref s.heap.objs.size) (.ref (s.heap.objs.size+1)) (.ref (s.heap.objs.size+2)) ->
   bV h' (s.heap.objs.size+4) .none .none .none->eM h' b1 s.heap.objs.size l1 0->eM h' b2 (s.heap.objs.size+1) l2 0->eM h' b3 (s.heap.objs.size+2) l3 0 ->
   (∀ c o,s.heap.get? c=some o->h'.get? c=some o)->Q (.ref (s.heap.objs.size+5)) { s with heap:=h' }) :
  wpAny (model prog w) A (call (.type "zip") [.ref l1,.ref l2,.ref l3]) Q E s:=by
 refine callType_new F.called_zip (by decide) (p_ _ _ _) (qT _ _ _) (λobj=>F.initArgs_range_3 obj _ _ _) F.entry_zip_new
  (qt b1 b2 b3 l1 l2 l3 xs ys zs) ⟨OH,OI,PL,?_⟩
 have z1:(G2 s.heap b1 l1).objs.size=s.heap.objs.size+1:=Heap.size_push ..
 have z2:(F3 s.heap b1 b2 l1 l2).objs.size=s.heap.objs.size+2:=by rw[Heap.size_push,z1]
 have z3:(K7 s.heap b1 b2 b3 l1 l2 l3).objs.size=s.heap.objs.size+3:=by rw[Heap.size_push,z2]
 have z4:(K5 s.heap b1 b2 b3 l1 l2 l3).objs.size=s.heap.objs.size+4:=by rw[Heap.size_push,z3]
 have z5:(KW s.heap b1 b2 b3 l1 l2 l3).objs.size=s.heap.objs.size+5:=by rw[Heap.size_push,z4]
 have g6:(HQ s.heap b1 b2 b3 l1 l2 l3).get? (KW s.heap b1 b2 b3 l1 l2 l3).objs.size=some _:=Heap.get?_push_size _ rfl
 have g5:(HQ s.heap b1 b2 b3 l1 l2 l3).get? (K5 s.heap b1 b2 b3 l1 l2 l3).objs.size=some _:=Heap.get?_push_of_some _ (Heap.get?_push_size _ rfl)
 have g4:(HQ s.heap b1 b2 b3 l1 l2 l3).get? (K7 s.heap b1 b2 b3 l1 l2 l3).objs.size=some _:=Heap.get?_push_of_some _ (Heap.get?_push_of_some _ (Heap.get?_push_size _ rfl))
 have g3:(HQ s.heap b1 b2 b3 l1 l2 l3).get? (F3 s.heap b1 b2 l1 l2).objs.size=some _:=Heap.get?_push_of_some _ (Heap.get?_push_of_some _ (Heap.get?_push_of_some _ (Heap.get?_push_size _ rfl)))
 have g2:(HQ s.heap b1 b2 b3 l1 l2 l3).get? (G2 s.heap b1 l1).objs.size=some _:=Heap.get?_push_of_some _ (Heap.get?_push_of_some _ (Heap.get?_push_of_some _ (Heap.get?_push_of_some _ (Heap.get?_push_size _ rfl))))
 have g1:(HQ s.heap b1 b2 b3 l1 l2 l3).get? s.heap.objs.size=some _:=Heap.get?_push_of_some _ (Heap.get?_push_of_some _ (Heap.get?_push_of_some _ (Heap.get?_push_of_some _ (Heap.get?_push_of_some _ (Heap.get?_push_size _ rfl)))))
 show _/\_
 rw[z3,z4,z5] at g6
 rw[z1,z2,z3] at g4
 rw[z4] at g5
 rw[z2] at g3
 rw[z1] at g2
 rw[z5]
 exact⟨⟨_,g6,rfl⟩,h _ g6 g4 g5 (eM.new _ b1 _ _ g1) (eM.new _ b2 _ _ g2) (eM.new _ b3 _ _ g3) λc o x =>
  Heap.get?_push_of_some _ (Heap.get?_push_of_some _ (Heap.get?_push_of_some _ (Heap.get?_push_of_some _ (Heap.get?_push_of_some _ (Heap.get?_push_of_some _ x)))))⟩
end
def Lx (K : PySem.W.Frag) (b1 b2 b3 : Bool) (a1 a2 a3 : Addr) : It :=
  ⟨λi H => ∃ xs ys zs x y v, k_ K H b1 a1 xs /\ k_ K H b2 a2 ys /\ k_ K H b3 a3 zs /\ xs[i]? = some x /\ ys[i]? = some y /\ zs[i]? = some v,
   λi H r H' => ∃ p x y v, H p = none /\ r = .ref p /\ H' = upd H p (.tup [x, y, v]) /\ (∀ xs, k_ K H b1 a1 xs -> xs[i]? = some x) /\ (∀ ys, k_ K H b2 a2 ys -> ys[i]? = some y) /\ (∀ zs, k_ K H b3 a3 zs -> zs[i]? = some v),
   λi H => ∃ xs ys zs, k_ K H b1 a1 xs /\ k_ K H b2 a2 ys /\ k_ K H b3 a3 zs /\ (xs.length <= i \/ ys.length <= i \/ zs.length <= i)⟩
theorem r9{z TI TO i1 i2 i3:Addr}{xs:List V}(I:Inv X Ni σ H s)(h:k_ X.K H b a xs)(hf:∀ b∈[z,TO,i1,i2,i3,TI],mz X Ni H b):L3 z TO i1 i2 i3 a :=
 ⟨cU I h (hf z (by simp)),cU I h (hf TO (by simp)),cU I h (hf i1 (by simp)),cU I h (hf i2 (by simp)),cU I h (hf i3 (by simp))⟩
theorem Aq{K:PySem.W.Frag}{tp:Pos}(b1 b2 b3:Bool)(a1 a2 a3 z TI TO i1 i2 i3:Addr)(D:Z3 z TI TO i1 i2 i3) :
  Turn P w K (.Tuple elts x1 tp) (Lx K b1 b2 b3 a1 a2 a3) [z,TO,i1,i2,i3,TI] z (λi h=>IsZip h z TI TO .none/\bV h TI (.ref i1) (.ref i2) (.ref i3)/\(∃ a b c,bV h TO a b c)/\eM h b1 i1 a1 i/\eM h b2 i2 a2 i/\eM h b3 i3 a3 i) where
 mem:=by simp
 obj:=λi h st b hb=>by
  obtain⟨hz,N1,⟨a,c,d,N3⟩,h1,h2,h3⟩:=st
  simp only[List.mem_cons,List.mem_nil_iff,or_false] at hb
  rcases hb with q | q | q | q | q | q <;> subst q
  ·exact⟨_,hz,λv z=>by cases z⟩
  ·exact⟨_,N3,λv z=>by cases z⟩
  ·obtain⟨o,vs,e,d⟩:=h1.obj
   exact⟨o,e,λv z=>by rw[d] at z;cases z⟩
  ·obtain⟨o,vs,e,d⟩:=h2.obj
   exact⟨o,e,λv z=>by rw[d] at z;cases z⟩
  ·obtain⟨o,vs,e,d⟩:=h3.obj
   exact⟨o,e,λv z=>by rw[d] at z;cases z⟩
  ·exact⟨_,N1,λv z=>by cases z⟩
 keep:=λi h h' st k=>by
  obtain⟨hz,N1,⟨a,c,d,N3⟩,h1,h2,h3⟩:=st
  exact⟨k z (by simp) _ hz,k TI (by simp) _ N1,⟨a,c,d,k TO (by simp) _ N3⟩,h1.at λo e=>k i1 (by simp) o e,h2.at λo e=>k i2 (by simp) o e,h3.at λo e=>k i3 (by simp) o e⟩
 item:=by
  intro X hP hw hK hc i Ni s σ H E I hf st hg
  subst hP hw hK
  obtain⟨xs,ys,zs,x,y,v,N2,NU,Pd,hx,hy,hv⟩:=hg
  obtain⟨PU,Ql,p1,Rm⟩:=I.row N2
  obtain⟨O0,Qn,p2,Rn⟩:=I.row NU
  obtain⟨Rp,rv3,p3,hz3'⟩:=I.row Pd
  obtain⟨u1,hu1,ru1⟩:=Ql.get hx
  obtain⟨u2,hu2,ru2⟩:=Qn.get hy
  obtain⟨u3,hu3,ru3⟩:=rv3.get hv
  obtain⟨hz,N1,⟨a,c,d,N3⟩,h1,h2,h3⟩:=st
  obtain⟨oi1,vs1,QU,di1⟩:=h1.obj
  obtain⟨oi2,vs2,QV,di2⟩:=h2.obj
  obtain⟨oi3,vs3,ei3,di3⟩:=h3.obj
  refine nB D (r9 I N2 hf) (r9 I NU hf) (r9 I Pd hf) hz N1 N3 h1 h2 h3 p1 p2 p3 (x:=u1) (y:=u2) (v:=u3) (by simpa using hu1) (by simpa using hu2) (by simpa using hu3) λh' g1 g2 g3 g4 g4' g5 g6 g7=>⟨_,rfl,?_⟩
  refine wpAny_letOwnedTupleGo_zip (s:={ s with heap:=h' }) g1 λhN hz3 Po=>?_
  have OJ:H s.heap.objs.size=none:=I.bT.fresh (Nat.le_refl _)
  have lt:∀ {c:Addr} {o:Obj},s.heap.get? c=some o->c≠s.heap.objs.size:=λe=>Nat.ne_of_lt (Heap.lt_size e)
  have PY:∀ b o,b ∉ [z,TO,i1,i2,i3,TI]->s.heap.get? b=some o->hN.get? b=some o:=λb o hb q=>by
   simp only[List.mem_cons,List.mem_nil_iff,or_false,not_or] at hb
   exact(Po.2 b hb.1).trans (g7 b o hb.1 hb.2.1 hb.2.2.1 hb.2.2.2.1 hb.2.2.2.2.1 q)
  have hT3:hN.get? s.heap.objs.size=some { cls:=.type "tuple", data:=.seq #[u1,u2,u3] }:=(Po.2 _ (lt hz).symm).trans g5
  have I3:Inv X Ni σ (upd H s.heap.objs.size (.tup [x,y,v])) { s with heap:=hN,toks:=s.toks } :=
   I.kP (ch:=[z,TO,i1,i2,i3,TI]) PY hf (Nat.le_refl _) (λb hb=>by
    simp only[List.mem_cons,List.mem_nil_iff,or_false] at hb
    rcases hb with q | q | q | q | q | q <;> subst q
    ·exact⟨_,hz⟩
    ·exact⟨_,N3⟩
    ·exact⟨_,QU⟩
    ·exact⟨_,QV⟩
    ·exact⟨_,ei3⟩
    ·exact⟨_,N1⟩)
    ⟨by show 3<=sizeLine;decide,[u1,u2,u3],.cons ru1 (.cons ru2 (.cons ru3 .nil)),⟨_,hT3,rfl,_,rfl⟩⟩
  refine⟨.ref s.heap.objs.size,_,I3,rfl,⟨_,x,y,v,OJ,rfl,rfl,λzs' Qk=>by rw[I.l5 Qk N2];exact hx,λzs' Qk=>by rw[I.l5 Qk NU];exact hy,λzs' Qk=>by rw[I.l5 Qk Pd];exact hv⟩,
   ⟨hz3,(Po.2 TI D.TIz).trans (g7 TI _ D.TIz D.TITO D.TIi1 D.TIi2 D.Lq N1),⟨_,_,_,(Po.2 TO D.TOz).trans g2⟩,g3.at λo e=>(Po.2 i1 D.i1z).trans e,g4.at λo e=>(Po.2 i2 D.i2z).trans e,g4'.at λo e=>(Po.2 i3 D.Jn).trans e⟩,λb hb=>?_⟩
  have nb:b≠s.heap.objs.size:=by
   simp only[List.mem_cons,List.mem_nil_iff,or_false] at hb
   rcases hb with q | q | q | q | q | q <;> subst q
   ·exact lt hz
   ·exact lt N3
   ·exact lt QU
   ·exact lt QV
   ·exact lt ei3
   ·exact lt N1
  rw[ar nb]
  exact(hf b hb).1
 done:=by
  intro X hP hw hK hc i Ni s σ H E I hf st hg
  subst hP hw hK
  obtain⟨xs,ys,zs,N2,NU,Pd,OP⟩:=hg
  obtain⟨PU,Ql,p1,Rm⟩:=I.row N2
  obtain⟨O0,Qn,p2,Rn⟩:=I.row NU
  obtain⟨Rp,rv3,p3,hz3'⟩:=I.row Pd
  obtain⟨hz,N1,⟨a,c,d,N3⟩,h1,h2,h3⟩:=st
  have l1:=Ql.length
  have l2:=Qn.length
  have l3:=rv3.length
  refine ou (I.ok.hd hc) D (r9 I N2 hf) (r9 I NU hf) (r9 I Pd hf) hz N1 N3 h1 h2 h3 p1 p2 p3 ?_ λh' k=>⟨rfl,?_⟩
  ·rcases OP with q | q | q
   ·exact .inl (by simp;omega)
   ·exact .inr (.inl (by simp;omega))
   ·exact .inr (.inr (by simp;omega))
  ·exact I.yt (t':=s.toks) (ch:=[z,TO,i1,i2,i3,TI]) (λb u hb e=>by
    simp only[List.mem_cons,List.mem_nil_iff,or_false,not_or] at hb
    exact k b u hb.1 hb.2.1 hb.2.2.1 hb.2.2.2.1 hb.2.2.2.2.1 e) hf
 self:=λ_ _ _ _ _ st h=>by
  obtain⟨hz,_⟩:=st
  exact wpAny_pyIter_zip hz h
theorem Fg(n:Nat):Z3 (n+5) (n+3) (n+4) n (n+1) (n+2):=by
 refine⟨?_,?_,?_,?_,?_,?_,?_,?_,?_,?_,?_,?_,?_,?_,?_⟩ <;> (show @Ne Nat _ _;omega)
def FJ(K:PySem.W.Frag)(tl:TA):TI:=fun σ H R=>tl σ H λvs H1=>∃ b1 b2 b3 a1 a2 a3,vs=[.ref a1,.ref a2,.ref a3]/\(∃ xs,k_ K H1 b1 a1 xs)/\(∃ ys,k_ K H1 b2 a2 ys)/\(∃ zs,k_ K H1 b3 a3 zs)/\R (Lx K b1 b2 b3 a1 a2 a3) H1
theorem Em{tp:Pos}{l1 l2 l3:Expr}{p pos:Pos}(hg:Gl X "zip")(hm:X.mg "zip" = none)(hl:PA X [l1,l2,l3] tl)(hs:autoParam (starEach [l1,l2,l3] X.env=[(false,eval l1 X.env),(false,eval l2 X.env),(false,eval l3 X.env)]) aR._auto_1)(OK:autoParam (starEach [l2,l3] X.env=[(false,eval l2 X.env),(false,eval l3 X.env)]) aR._auto_1) :
  PI X (.Tuple elts x1 tp) (.Call (.Name "zip" p) [l1,l2,l3] [] pos) (FJ X.K tl):=by
 intro Ni s σ H R I h
 refine Call_ (jY I hg hm PyProof.Rows.boot_zip (PyProof.Rows.callWith_type1 (dh (hl pos Ni s σ H _ I h) λus s1 ⟨vs,H1,I1,r1,q1⟩=>?_) (by rw[hs,OK]) (by rw[OK];rfl)))
 obtain⟨b1,b2,b3,a1,a2,a3,e,⟨xs,N2⟩,⟨ys,NU⟩,⟨zs,Pd⟩,q⟩:=q1
 subst e
 cases r1 with
 | cons r rr =>
  cases rr with
  | cons r' rr =>
   cases rr with
   | cons Rt rr =>
    cases rr
    cases (show _=Value.ref a1 from r)
    cases (show _=Value.ref a2 from r')
    cases (show _=Value.ref a3 from Rt)
    obtain⟨PU,Ql,p1,Rm⟩:=I1.row N2
    obtain⟨O0,Qn,p2,Rn⟩:=I1.row NU
    obtain⟨Rp,rv3,p3,hz3⟩:=I1.row Pd
    refine Aa p1 p2 p3 λh' g1 g2 g3 g4 g5 g6 g7=>?_
    have I2:Inv X Ni σ H1 { s1 with heap:=h' }:=I1.kept (t':=s1.toks) g7
    refine wpAny_pyIter_zip (s:={ s1 with heap:=h' }) g1 ?_
    refine⟨s1.heap.objs.size+5,[s1.heap.objs.size+5,s1.heap.objs.size+4,s1.heap.objs.size,s1.heap.objs.size+1,s1.heap.objs.size+2,s1.heap.objs.size+3],_,_,H1,rfl,I2,
     Aq b1 b2 b3 a1 a2 a3 _ _ _ _ _ _ (Fg s1.heap.objs.size),⟨g1,g2,⟨_,_,_,g3⟩,g4,g5,g6⟩,λb hb=>?_,q⟩
    have hle:s1.heap.objs.size<=b:=by
     simp only[List.mem_cons,List.mem_nil_iff,or_false] at hb
     rcases hb with q | q | q | q | q | q
     ·rw[q];exact Nat.le_add_right _ 5
     ·rw[q];exact Nat.le_add_right _ 4
     ·rw[q];exact Nat.le_refl _
     ·rw[q];exact Nat.le_add_right _ 1
     ·rw[q];exact Nat.le_add_right _ 2
     ·rw[q];exact Nat.le_add_right _ 3
    exact I1.sZ hle (I1.bT.fresh hle)
variable{oe:Obj}{outer:List Env}
variable{to:Option Addr}
section
variable{M:Model}{E:Value->Shared->Prop}
theorem rV{env:Env}{L e:Addr}{vs:Array Value}{head:Value}{Qc:Bool}{Q:Unit->Shared->Prop}
  (PK:A.frames=some (env::outer)) (hl:s.heap.FunFrames base (env::outer)) (hf:env.frame=some L)
  (he:s.heap.get? e=some oe) (hd:oe.data=.fields vs) (OQ:1<vs.size)
  (h:∀ h' T oT ts,h'.get? e=some (Obj.mapFields (·.setIfInBounds 1 (.ref T)) oe)->s.heap.objs.size<=T->T≠e->h'.get? T=some oT->oT.data=.fields ts->ts[3]?=some (rawInt L) ->
   (∀ b o,b≠e->b ∉ wD (env::outer)->s.heap.get? b=some o->h'.get? b=some o)->(∀ b o,b≠e->s.heap.get? b=some o->∃ sl,h'.get? b=some { o with slots:=sl })->Q () { s with heap:=h' }) :
  wpAny M A (do let a ← frameOf env;let pl ← entryPlaceOf L Qc;let b ← EntryCells.newEntry head a .none (rawInt L) .none pl;setField (.ref e) 1 b) Q E s:=by
 have hene:e ∉ (env::outer).filterMap (·.frame):=λhm=>by
  obtain⟨_,o,ho,Ra⟩:=hl.mem hm
  rw[he] at ho;injection ho with ho;subst ho;exact Ra vs hd
 refine wpAny_bind (wpAny_frameOf_fun PK hl hf λh₁ hs1=>?_)
 refine wpAny_bind (wpAny_entryPlaceOf λpl NO=>?_)
 unfold EntryCells.newEntry newFields
 refine wpAny_bind (wpAny_newObj_type ?_ (NO.sizeOk5 _ _ _ _ _))
 have he1:h₁.get? e=some oe:=(hs1.2.1 e hene).trans he
 have he₂:=Heap.get?_push_of_some (h:=h₁) { cls:=.type "traceback", dict:=none,data:=.fields ([head,.ref L,.none,rawInt L,.none]++(if pl.isEmpty then List.replicate 6 Value.none else pl)).toArray } he1
 have hTe:h₁.objs.size≠e:=Nat.ne_of_gt (Heap.lt_size he1)
 have hd3:=Obj.data_mapFields hd (·.setIfInBounds 1 (Value.ref h₁.objs.size))
 have he3:=Heap.get?_update_self (Obj.mapFields (·.setIfInBounds 1 (Value.ref h₁.objs.size))) he₂ (Obj.isFreed_of_fields hd3)
 have hT₃:=(Heap.get?_update_other (h₁.push { cls:=.type "traceback", dict:=none,data:=.fields ([head,.ref L,.none,rawInt L,.none]++(if pl.isEmpty then List.replicate 6 Value.none else pl)).toArray })
  (Obj.mapFields (·.setIfInBounds 1 (Value.ref h₁.objs.size))) (Ne.symm hTe)).trans (Heap.get?_push_size h₁ rfl)
 have keep:∀ b o,b≠e->h₁.get? b=some o ->
   ((h₁.push { cls:=.type "traceback", dict:=none,data:=.fields ([head,.ref L,.none,rawInt L,.none]++(if pl.isEmpty then List.replicate 6 Value.none else pl)).toArray }).update e (Obj.mapFields (·.setIfInBounds 1 (Value.ref h₁.objs.size)))).get? b=some o:=λb o Pt hb=>by
  rw[Heap.get?_update_other _ _ (Ne.symm Pt)]
  exact Heap.get?_push_of_some _ hb
 refine wpAny_setField he₂ hd OQ (h _ h₁.objs.size _ _ he3 ?_ hTe hT₃ rfl (by first | (simp;done) | (rcases NO with rfl | ⟨_,_,_,_,_,_,_,rfl⟩ <;> simp)) ?_ ?_)
 ·exact Nat.le_of_eq hs1.1.symm
 ·intro b o Pt hbf hb
  exact keep b o Pt ((hs1.2.1 b hbf).trans hb)
 ·intro b o Pt hb
  obtain⟨sl,hs⟩:=hs1.2.2 b o hb
  exact⟨sl,keep b _ Pt hs⟩
def Lies(h:Heap)(e:Addr)(vs:Array Value)(to:Option Addr):Prop:=match to with
 | none=>vs[1]?=some .none
 | some T=>vs[1]?=some (.ref T)/\T≠e/\∃ oT ts,h.get? T=some oT/\oT.data=.fields ts/\ts[3]?=some .none
theorem zB{env:Env}{L e:Addr}{vs:Array Value}{Q:Unit->Shared->Prop}
  (PK:A.frames=some (env::outer)) (hl:s.heap.FunFrames base (env::outer)) (hf:env.frame=some L)
  (he:s.heap.get? e=some oe) (hd:oe.data=.fields vs) (hto:Lies s.heap e vs to)
  (h:∀ h' T oT ts,h'.get? e=some (Obj.mapFields (·.setIfInBounds 1 (.ref T)) oe)->s.heap.objs.size<=T->T≠e->h'.get? T=some oT->oT.data=.fields ts->ts[3]?=some (rawInt L) ->
   (∀ b o,b≠e->(∀ T,to=some T->b≠T)->b ∉ wD (env::outer)->s.heap.get? b=some o->h'.get? b=some o) ->
   (∀ b o,b≠e->(∀ T,to=some T->b≠T)->s.heap.get? b=some o->∃ sl,h'.get? b=some { o with slots:=sl })->(∀ b o,s.heap.get? b=some o->∃ o',h'.get? b=some o')->Q () { s with heap:=h' }) :
  wpAny M A (noteFrame (.ref e) env) Q E s:=by
 unfold noteFrame
 simp only[hf]
 cases to with
 | none =>
  have h1:vs[1]?=some .none:=hto
  refine wpAny_bind (wpAny_field he hd h1 ?_)
  rw[if_neg (by decide)]
  refine rV PK hl hf he hd (Array.getElem?_eq_some_iff.mp h1).1 λh' T oT ts a1 a2 a3 a4 a5 a6 a7 a8=>?_
  refine h h' T oT ts a1 a2 a3 a4 a5 a6 (λb o n1 _ n2 q=>a7 b o n1 n2 q) (λb o n1 _ q=>a8 b o n1 q) λb o q=>?_
  by_cases z:b=e
  ·subst z;exact⟨_,a1⟩
  ·obtain⟨sl,r⟩:=a8 b o z q;exact⟨_,r⟩
 | some T0 =>
  obtain⟨h1,hTe,oT,ts,hT,hdT,h3⟩:=hto
  refine wpAny_bind (wpAny_field he hd h1 ?_)
  rw[if_pos (show (Value.ref T0 != Value.none)=true from by simp)]
  refine wpAny_bind (wpAny_field hT hdT h3 ?_)
  rw[if_neg (show ¬ ((Value.none==rawInt L)=true) from by simp[rawInt])]
  refine wpAny_bind (wpAny_setField hT hdT (Array.getElem?_eq_some_iff.mp h3).1 ?_)
  have other:∀ b,b≠T0->(s.heap.update T0 (Obj.mapFields (·.setIfInBounds 3 Value.none))).get? b=s.heap.get? b:=λb hb=>Heap.get?_update_other _ _ (Ne.symm hb)
  have P2:∀ b o,s.heap.get? b=some o->(∀ vs,o.data≠.fields vs)->b≠T0:=λb o hb Ra q=>by
   rw[q,hT] at hb;injection hb with hb;subst hb;exact Ra ts hdT
  have Qb:=Heap.get?_update_self (Obj.mapFields (·.setIfInBounds 3 Value.none)) hT (Obj.isFreed_of_fields (Obj.data_mapFields hdT _))
  refine rV PK (hl.of_keeps λb o hb Ra=>⟨o,(other b (P2 b o hb Ra)).trans hb,rfl⟩) hf ((other e (Ne.symm hTe)).trans he) hd (Array.getElem?_eq_some_iff.mp h1).1 λh' T oT' ts' a1 a2 a3 a4 a5 a6 a7 a8=>?_
  refine h h' T oT' ts' a1 (by simpa [Heap.update] using a2) a3 a4 a5 a6 (λb o n1 n2 n3 q=>a7 b o n1 n3 ((other b (n2 T0 rfl)).trans q)) (λb o n1 n2 q=>a8 b o n1 ((other b (n2 T0 rfl)).trans q)) λb o q=>?_
  by_cases z:b=e
  ·subst z;exact⟨_,a1⟩
  ·by_cases z2:b=T0
   ·subst z2
    obtain⟨sl,r⟩:=a8 b _ z Qb;exact⟨_,r⟩
   ·obtain⟨sl,r⟩:=a8 b o z ((other b z2).trans q);exact⟨_,r⟩
end
def lh(C:Addr)(dd:Option Addr)(e:Addr):HO:=.ext λh=>∃ t,h.get? e=some ⟨.ref C,dd,.fields #[.ref t,.none,.none,.none,.bool false,.none],#[]⟩
def JR(C:Addr)(dd:Option Addr)(e T:Addr):HO:=.ext λh=>∃ vs,h.get? e=some ⟨.ref C,dd,.fields vs,#[]⟩/\vs[1]?=some (.ref T)
def ME(fl:Value)(T:Addr):HO:=.ext λh=>∃ oT ts,h.get? T=some oT/\oT.data=.fields ts/\ts[3]?=some fl
def pB(Hc:Hp)(e T C:Addr)(dd:Option Addr)(fl:Value):Hp:=upd (upd Hc T (ME fl T)) e (JR C dd e T)
variable{fl:Value}{Hc:Hp}
theorem wj{e:Addr}:pB Hc e T C dd fl e=some (JR C dd e T):=az
theorem rQ{e:Addr}(n:T≠e):pB Hc e T C dd fl T=some (ME fl T):=by unfold pB;rw[ar n,az]
theorem mV{e b:Addr}(n:b≠e)(n2:b≠T):pB Hc e T C dd fl b=Hc b:=by unfold pB;rw[ar n,ar n2]
theorem Inv.note{e:Addr}{vs:Array Value}{φ:Heap->Prop}{Q:Unit->Shared->Prop}{E:Value->Shared->Prop}(I:Inv X Ni σ H s)(NL:X.stack=X.env::X.outer)(hf:X.env.frame=some X.env.locals)
  (he:H e=some (.ext φ)) (hx:s.heap.get? e=some ⟨.ref C,dd,.fields vs,#[]⟩) (lies:Lies s.heap e vs to) (hT:∀ T,to=some T->(∃ ψ,H T=some (.ext ψ))/\Hc T=none) (hc:∀ b,b≠e->(∀ T,to=some T->b≠T)->Hc b=H b)
  (h:∀ h' T,Hc T=none->T≠e->Inv X Ni σ (pB Hc e T C dd (rawInt X.env.locals)) { s with heap:=h' }->Q () { s with heap:=h' }) :
  wpAny (model X.prog X.w) X.A (noteFrame (.ref e) X.env) Q E s:=by
 have hl:=I.stack
 have PK:=I.ok.frames
 have sf:=I.sX
 rw[NL] at hl PK sf
 refine zB (base:=X.base) PK hl hf hx rfl lies λh' T oT ts a1 a2 a3 a4 a5 a6 a7 a8 a9=>?_
 have hTn:H T=none:=I.bT.fresh a2
 have nT:∀ b u,H b=some u->b≠T:=λb u q z=>by rw[z,hTn] at q;cases q
 have PB:∀ b u,H b=some u->(∀ ψ,u≠.ext ψ)->b≠e/\∀ T0,to=some T0->b≠T0:=by
  intro b u q hu
  refine⟨λz=>?_,λT0 z w=>?_⟩
  ·rw[z,he] at q;exact hu _ (Option.some.inj q).symm
  ·obtain⟨⟨ψ,q2⟩,_⟩:=hT T0 z
   rw[w,q2] at q;exact hu _ (Option.some.inj q).symm
 have old:∀ b u,H b=some u->(∀ ψ,u≠.ext ψ)->pB Hc e T C dd (rawInt X.env.locals) b=some u:=λb u q hu=>by
  obtain⟨n1,n2⟩:=PB b u q hu
  rw[mV n1 (nT b u q),hc b n1 n2];exact q
 have hcT:Hc T=none:=by
  by_cases z:∃ T0,to=some T0/\T=T0
  ·obtain⟨T0,z1,z2⟩:=z;rw[z2];exact(hT T0 z1).2
  ·rw[hc T a3 λT0 z1 z2=>z ⟨T0,z1,z2⟩];exact hTn
 have un:∀ b o,s.heap.get? b=some o->H b=none->b≠e/\(∀ T0,to=some T0->b≠T0)/\b≠T:=by
  intro b o q n
  refine⟨λz=>?_,λT0 z w=>?_,Nat.ne_of_lt (Nat.lt_of_lt_of_le (Heap.lt_size q) a2)⟩
  ·rw[z,he] at n;cases n
  ·obtain⟨⟨ψ,q2⟩,_⟩:=hT T0 z
   rw[w,q2] at n;cases n
 refine h h' T hcT a3 ?_
 have U:Un (wD X.stack) [] H (pB Hc e T C dd (rawInt X.env.locals)) s.heap h':=by
  rw[NL]
  refine⟨λb o q n nf _=>?_,λb o q n _ _=>?_,λb o q n _=>?_,λb o q _=>a9 b o q,λb xs q=>old b _ q (λ_ z=>nomatch z),λb ob u q=>old b _ q (λ_ z=>nomatch z),λb ps q=>⟨#[],?_⟩⟩
  ·obtain⟨n1,n2,_⟩:=un b o q n;exact a7 b o n1 n2 nf q
  ·obtain⟨n1,n2,_⟩:=un b o q n;exact a8 b o n1 n2 q
  ·obtain⟨n1,n2,n3⟩:=un b o q n
   rw[mV n1 n3,hc b n1 n2];exact n
  ·rw[old b _ q (λ_ z=>nomatch z)];simp
 have ok:nQ X.prog X.w (pB Hc e T C dd (rawInt X.env.locals)) h':=λb u q=>by
  by_cases z:b=e
  ·subst z
   rw[wj] at q;cases q
   refine⟨⟨_,a1,?_⟩,⟨_,a1⟩,λh1 h2 ⟨ws,q1,q2⟩ k=>⟨ws,k _ q1,q2⟩⟩
   have OQ:1<vs.size:=by
    cases to with
    | none=>exact(Array.getElem?_eq_some_iff.mp (show vs[1]?=some .none from lies)).1
    | some T0=>exact(Array.getElem?_eq_some_iff.mp lies.1).1
   simp[OQ]
  ·by_cases z2:b=T
   ·subst z2
    rw[rQ a3] at q;cases q
    exact⟨⟨oT,ts,a4,a5,a6⟩,⟨_,a4⟩,λh1 h2 ⟨o1,t1,q1,q2,q3⟩ k=>⟨o1,t1,k _ q1,q2,q3⟩⟩
   ·rw[mV z z2] at q
    have z3:∀ T0,to=some T0->b≠T0:=λT0 w w2=>by rw[w2,(hT T0 w).2] at q;cases q
    rw[hc b z z3] at q
    have nf:∀ c u',H c=some u'->c ∉ wD (X.env::X.outer):=λc u' q' hm=>by have:=sf c hm;rw[q'] at this;cases this
    refine(I.bT b u q).oz (λc v Qd q'=>?_) (λc q'=>old c _ q' (λ_ z=>nomatch z)) λc xs q'=>old c _ q' (λ_ z=>nomatch z)
    rcases Qd with rfl | Qd
    ·exact a7 c v z z3 (nf c u q) q'
    ·obtain⟨n1,n2⟩:=PB c _ Qd (λ_ z=>nomatch z)
     exact a7 c v n1 n2 (nf c _ Qd) q'
 exact I.call (ch:=[]) U ok I.bare (λb z=>absurd z (by simp))
theorem Inv.Ir{e:Addr}(I:Inv X Ni σ (pB Hc e T C dd fl) s)(n:T≠e):∃ vs oT ts,s.heap.get? e=some ⟨.ref C,dd,.fields vs,#[]⟩/\vs[1]?=some (.ref T)/\s.heap.get? T=some oT/\oT.data=.fields ts/\ts[3]?=some fl:=by
 obtain⟨vs,h1,h2⟩:=(I.bT e _ wj).1
 obtain⟨oT,ts,q⟩:=(I.bT T _ (rQ n)).1
 exact⟨vs,oT,ts,h1,h2,q⟩
theorem Inv.JF{e:Addr}{Q:Unit->Shared->Prop}{E:Value->Shared->Prop}(I:Inv X Ni σ (pB Hc e T C dd fl) s)(hfl:fl=.none\/fl=rawInt X.env.locals)(n:T≠e)(hcT:Hc T=none)(NL:X.stack=X.env::X.outer)(hf:X.env.frame=some X.env.locals)
  (h:∀ h' T,Hc T=none->T≠e->Inv X Ni σ (pB Hc e T C dd (rawInt X.env.locals)) { s with heap:=h' }->Q () { s with heap:=h' }) :
  wpAny (model X.prog X.w) X.A (noteFrame (.ref e) X.env) Q E s:=by
 obtain⟨vs,oT,ts,hx,h1,hT,hd,h3⟩:=I.Ir n
 rcases hfl with rfl | rfl
 ·refine I.note (Hc:=Hc) (to:=some T) NL hf wj hx ⟨h1,n,oT,ts,hT,hd,h3⟩ (λT0 z=>?_) (λb n1 n2=>(mV n1 (n2 T rfl)).symm) h
  cases z
  exact⟨⟨_,rQ n⟩,hcT⟩
 ·unfold noteFrame
  simp only[hf]
  refine wpAny_bind (wpAny_field hx rfl h1 ?_)
  rw[if_pos (show (Value.ref T != Value.none)=true from by simp)]
  refine wpAny_bind (wpAny_field hT hd h3 ?_)
  rw[if_pos (show (rawInt X.env.locals==rawInt X.env.locals)=true from by simp)]
  exact wpAny_pure (h s.heap T hcT n I)
theorem Inv.JJ{e:Addr}{Q:Unit->Shared->Prop}{E:Value->Shared->Prop}(I:Inv X Ni σ H s)(he:H e=some (lh C dd e))(NL:X.stack=X.env::X.outer)(hf:X.env.frame=some X.env.locals)
  (h:∀ h' T,upd H e (jV C dd e) T=none->T≠e->Inv X Ni σ (pB (upd H e (jV C dd e)) e T C dd (rawInt X.env.locals)) { s with heap:=h' }->Q () { s with heap:=h' }) :
  wpAny (model X.prog X.w) X.A (noteFrame (.ref e) X.env) Q E s:=by
 obtain⟨t,hx⟩:=(I.bT e _ he).1
 exact I.note (Hc:=upd H e (jV C dd e)) (to:=none) NL hf he hx rfl (λ_ z=>by cases z) (λb n1 _=>ar n1) h
theorem Inv.Ay{e:Addr}{fr:Option Addr}{Q:Unit->Shared->Prop}{E:Value->Shared->Prop}(I:Inv X Ni σ (pB Hc e T C dd fl) s)(n:T≠e)
  (h:∀ h',Inv X Ni σ (pB Hc e T C dd (fr.elim .none λf=>rawInt f)) { s with heap:=h' }->Q () { s with heap:=h' }) :
  wpAny (model X.prog X.w) X.A (setFlight (.ref e) fr) Q E s:=by
 obtain⟨vs,oT,ts,hx,h1,hT,hd,h3⟩:=I.Ir n
 unfold setFlight
 refine wpAny_bind (wpAny_field hx rfl h1 ?_)
 rw[if_pos (show (Value.ref T != Value.none)=true from by simp)]
 have OQ:3<ts.size:=(Array.getElem?_eq_some_iff.mp h3).1
 refine wpAny_setField hT hd OQ (h _ ?_)
 have other:∀ b,b≠T->(s.heap.update T (Obj.mapFields (·.setIfInBounds 3 (fr.elim Value.none λf=>rawInt f)))).get? b=s.heap.get? b:=λb hb=>Heap.get?_update_other _ _ (Ne.symm hb)
 have Qb:=Heap.get?_update_self (Obj.mapFields (·.setIfInBounds 3 (fr.elim Value.none λf=>rawInt f))) hT (Obj.isFreed_of_fields (Obj.data_mapFields hd _))
 have nT:∀ b,pB Hc e T C dd fl b=none->b≠T:=λb q z=>by rw[z,rQ n] at q;cases q
 have same:∀ b,b≠T->pB Hc e T C dd (fr.elim .none λf=>rawInt f) b=pB Hc e T C dd fl b:=λb z=>by
  by_cases w:b=e
  ·subst w;rw[wj,wj]
  ·rw[mV w z,mV w z]
 have ne:∀ b u,pB Hc e T C dd fl b=some u->(∀ ψ,u≠.ext ψ)->b≠T:=λb u q hu z=>by rw[z,rQ n] at q;exact hu _ (Option.some.inj q).symm
 refine I.un (t':=s.toks) ⟨λb o q z _ _=>(other b (nT b z)).trans q,λb o q z _ _=>⟨o.slots,(other b (nT b z)).trans q⟩,λb o q z _=>by rw[same b (nT b z)];exact z,λb o q _=>?_,λb xs q=>?_,λb ob u q=>?_,λb ps q=>⟨#[],?_⟩⟩ λb u q=>?_
 ·by_cases z:b=T
  ·subst z;exact⟨_,Qb⟩
  ·exact⟨o,(other b z).trans q⟩
 ·rw[same b (ne b _ q λ_ z=>nomatch z)];exact q
 ·rw[same b (ne b _ q λ_ z=>nomatch z)];exact q
 ·rw[same b (ne b _ q λ_ z=>nomatch z),q];simp
 ·by_cases z:b=T
  ·subst z
   rw[rQ n] at q;cases q
   refine⟨⟨_,_,Qb,Obj.data_mapFields hd _,?_⟩,⟨_,Qb⟩,λh1 h2 ⟨o1,t1,q1,q2,q3⟩ k=>⟨o1,t1,k _ q1,q2,q3⟩⟩
   simp[OQ]
  ·rw[same b z] at q
   refine(I.bT b u q).oz (λc v hc q'=>(other c ?_).trans q') (λc q'=>?_) λc xs q'=>?_
   ·rcases hc with rfl | hc
    ·exact z
    ·exact ne c _ hc λ_ z=>nomatch z
   ·rw[same c (ne c _ q' λ_ z=>nomatch z)];exact q'
   ·rw[same c (ne c _ q' λ_ z=>nomatch z)];exact q'
def bX(P:Program)(w:World):Jm:=λouter H s E e s'=>∃ (ea T C:Addr) (dd:Option Addr) (Hc:Hp),e=.ref ea/\s'.os=s.os/\AllBare s'.gens/\Un (wD outer) [] H (pB Hc ea T C dd .none) s.heap s'.heap/\nQ P w (pB Hc ea T C dd .none) s'.heap ∧
 Hc ea=some (jV C dd ea)/\Hc T=none/\T≠ea/\E (.ref ea) none Hc
def Zx (X : Cx) (E : St -> XK) (e : Value) (s : Shared) : Prop := ∃ (ea C : Addr) (dd : Option Addr) (Ni : List (Addr × Obj)) (σ : St), e = .ref ea ∧
  ((∃ H, Inv X Ni σ H s /\ H ea = some (lh C dd ea) /\ E σ (.ref ea) none (upd H ea (jV C dd ea))) ∨
   (∃ Hc T fl, Inv X Ni σ (pB Hc ea T C dd fl) s /\ (fl = .none \/ fl = rawInt X.env.locals) /\ Hc ea = some (jV C dd ea) /\ Hc T = none /\ T ≠ ea /\ E σ (.ref ea) none Hc))
variable{E:St->XK}
theorem Zx.note{e:Value}{Q:Unit->Shared->Prop}{F:Value->Shared->Prop}(z:Zx X E e s)(NL:X.stack=X.env::X.outer)(hf:X.env.frame=some X.env.locals)
  (h:∀ s' ea C dd Ni σ Hc T,e=.ref ea->Inv X Ni σ (pB Hc ea T C dd (rawInt X.env.locals)) s'->Hc ea=some (jV C dd ea)->Hc T=none->T≠ea->E σ (.ref ea) none Hc->Q () s') :
  wpAny (model X.prog X.w) X.A (noteFrame e X.env) Q F s:=by
 obtain⟨ea,C,dd,Ni,σ,rfl,⟨H,I,h1,h2⟩ | ⟨Hc,T,fl,I,h1,h2,h3,h4,h5⟩⟩:=z
 ·exact I.JJ h1 NL hf λh' T q1 q2 I2=>h _ ea C dd Ni σ _ T rfl I2 az q1 q2 h2
 ·exact I.JF h1 h4 h3 NL hf λh' T q1 q2 I2=>h _ ea C dd Ni σ _ T rfl I2 h2 q1 q2 h5
theorem Zx.Hm{E:XK}{e:Value}{F:Value->Shared->Prop}(z:Zx X (λ_=>E) e s)(NL:X.stack=X.env::X.outer)(hf:X.env.frame=some X.env.locals)(hex:X.ex=[]) :
  wpAny (model X.prog X.w) X.A (leaving X.env e) (λ_ s'=>bX X.prog X.w X.outer X.H₀ X.s₀ E e s') F s:=by
 unfold leaving
 refine wpAny_bind (z.note NL hf λs' ea C dd Ni σ Hc T he I h1 h2 h3 h4=>?_)
 subst he
 refine I.Ay h3 λh' I2=>⟨ea,T,C,dd,Hc,rfl,I2.os,I2.bare,?_,I2.bT,h1,h2,h3,h4⟩
 have:=I2.base
 rw[hex] at this
 exact this
theorem Zx.own(NL:X.stack=X.env::X.outer)(hf:X.env.frame=some X.env.locals):PassesOwn (model X.prog X.w) X.A X.env (Zx X E):=by
 intro e s z
 refine z.note NL hf λs' ea C dd Ni σ Hc T he I h1 h2 h3 h4=>?_
 subst he
 obtain⟨vs,oT,ts,hx,q1,_⟩:=I.Ir h3
 show wpAny _ _ _ _ _ _
 refine wpAny_bind (wpAny_field hx rfl q1 ?_)
 rw[if_neg (show ¬ ((Value.ref T==Value.none)=true) from by simp)]
 rw[hf]
 refine I.Ay h3 λh' I2=>⟨ea,C,dd,Ni,σ,rfl,.inr ⟨Hc,T,_,I2,.inr rfl,h1,h2,h3,h4⟩⟩
structure fF (X:Cx) (E:St->XK):Prop where
 pass:∀ (Ni:List (Addr×Obj)) (σ:St) (H:Hp) (s:Shared) (e:Value) (s':Shared),Inv X Ni σ H s->bX X.prog X.w X.stack H s (E σ) e s'->X.xe e s'
 new:∀ (Ni:List (Addr×Obj)) (σ:St) (H:Hp) (s:Shared) (e C:Addr) (dd:Option Addr),Inv X Ni σ H s->H e=some (lh C dd e)->E σ (.ref e) none (upd H e (jV C dd e))->X.xe (.ref e) s
 own:PassesOwn (model X.prog X.w) X.A X.env X.xe
abbrev Cx.out(X:Cx)(E:St->XK):Cx:=X.qS (Zx X E)
theorem Gm(NL:X.stack=X.env::X.outer)(hf:X.env.frame=some X.env.locals):fF (X.out E) E where
 pass:=by
  intro Ni σ H s e s' I h
  obtain⟨ea,T,C,dd,Hc,rfl,os,bare,un,bT,h1,h2,h3,hE⟩:=h
  have I':=I.i9.Bt (ch:=[]) os un bT bare (λb z=>absurd z (by simp))
  exact⟨ea,C,dd,Ni,σ,rfl,.inr ⟨Hc,T,.none,I',.inl rfl,h1,h2,h3,hE⟩⟩
 new:=λNi σ H s e C dd I he hE=>⟨e,C,dd,Ni,σ,rfl,.inl ⟨H,I.i9,he,hE⟩⟩
 own:=Zx.own NL hf
variable{N:List Str}{P5:Array (Option Value)}{od:Option Addr}{body:List Stmt}{params:Arguments}
theorem wV{K:PySem.W.Frag}{dV kV doc pm NF ct oc:Value}{an:Option Addr}(lk:K.lookup f=some ⟨oc,od,.func (PySem.W.fnOf name qual params body scope dV kV doc pm an NF ct),P5⟩)(OB:PySem.W.codeIn K NF qual=true)(S:cL N ps scope)
  (len:∀ vs H Q E,sp vs H Q E->vs.length=ps.length)
  (PD:∀ (A:Around) (outer:List Env) (s:Shared) (H:Hp) (vs:List V) (Q:VK) (E:XK),cQ k (A.deeper (envOfC qual scope s.heap.objs.size f NF))->sp vs H Q E ->
   ∃ t,lY ((my (bX P w) P w K mg base N qual scope f NF A outer s H E).out λ_=>E) body t/\t { nx:=λ_ H'=>Q .cy H',rt:=Q } (start N vs) H) :
  aV P w K mg base (bX P w) (k+1) f (PySem.W.fnOf name qual params body scope dV kV doc pm an NF ct) ps sp:=by
 refine KN lk OB S len λA outer s H vs Q E hr hs=>?_
 obtain⟨t,h1,h2⟩:=PD A outer s H vs Q E hr hs
 refine⟨t,λNi s1 σ H1 D I q=>?_,h2⟩
 refine wpAny_mono (h1 Ni s1 σ H1 D (I.qS _) q) (λf s' z=>z.i9) λe s' z=>?_
 exact z.Hm rfl rfl rfl
variable{pos':Pos}
section
open PySem.Builtin.ObjectAttr (storeInOwnDict storeTaker? setByDescriptor)
theorem ua{e t:Addr}(he:h.get? e=some ⟨.ref C,dd,.fields #[.ref t,.none,.none,.none,.bool false,.none],#[]⟩):cM P w H h e (lh C dd e) :=
 ⟨⟨t,he⟩,⟨_,he⟩,λ_ _ ⟨t,q⟩ k=>⟨t,k _ q⟩⟩
section
variable{p pos:Pos}
def JT(C:Addr)(t:TA):TE:=fun σ H Q=>t σ H λvs H1=>vs.length<=sizeLine/\∀ a,H1 a=none->Q (.ref a) (upd H1 a (lh C none a))
theorem E_(hc:PySem.W.excIn X.K C fz "ValueError.__new__" = true)(kp:PySem.W.keepIn X.K (.ref C)=true)(hg:Gl X x)(hm:X.mg x=some (.ref C))
  (ha:PA X (e::es) t) (Oh:autoParam ((x==("__debug__" : Str))=false) aD._auto_1) (he:autoParam (starEach (e::es) X.env=(false,eval e X.env)::starEach es X.env) aR._auto_1) (NO:autoParam ((backTo pos (starEach es X.env)).any (·.1)=false) aR._auto_1) :
  PE X (.Call (.Name x p) (e::es) [] pos) (JT C t):=by
 intro Ni s σ H Q I h
 refine wpAny_Call_Name_kw (l9 I hg hm ?_ Oh)
 refine PySem.W.callWith_K (h₀:=X.base) I.ok.mod.FK kp (dh (ha pos Ni s σ H _ I h) λus s1 ⟨vs,H1,I1,r,hl,q⟩=>⟨I1.kD,?_⟩) he NO
 obtain⟨bm,N,nm,qn,bs,O_,sn,sub,ab,col,dd,k0,k1,k2,k3,k5,mN,hC,hN,Pu,T⟩:=En I1.kD hc
 obtain⟨hp,g,d,tk,os⟩:=s1
 refine wpAny_call_exc_subT PySem.F.excBase_ValueError T hC hN Pu (λh' a M=>?_) (by show us.length<=sizeLine;rw[← r.length];exact hl)
 obtain⟨t',e1,_,_⟩:=M.there
 have I2:Inv X Ni σ (upd H1 a (lh C none a)) ⟨h',g,d,tk,os⟩:=I1.FG (t':=tk) M.keeps M.new (ua e1)
 have hn:H1 a=none:=I1.tq M.new
 exact⟨.ref a,_,I2,rfl,q a hn⟩
def Jb(C:Addr)(sp:Sp)(t:TA):TE:=fun σ H Q=>t σ H λvs H1=>vs.length<=sizeLine/\∀ a,H1 a=none->sp (.ref a::vs) (upd H1 a (lh C none a)) (λv H2=>v=.cy/\Q (.ref a) H2) E0
theorem Bh(hc:pj X.K C "ValueError.__new__" f=true)(hf:PySem.W.isFn X.K (.ref f)=true)(kp:PySem.W.keepIn X.K (.ref C)=true)(F:aV X.prog X.w X.K X.mg X.base (bX X.prog X.w) k f fd ps sp)(hr:cQ (k+1) X.A)(hb:Binds X.K fd ps [])(hg:Gl X x)(hm:X.mg x=some (.ref C))
  (ha:PA X (e::es) t) (Oh:autoParam ((x==("__debug__" : Str))=false) aD._auto_1) (he:autoParam (starEach (e::es) X.env=(false,eval e X.env)::starEach es X.env) aR._auto_1) (NO:autoParam ((backTo pos (starEach es X.env)).any (·.1)=false) aR._auto_1) :
  PE X (.Call (.Name x p) (e::es) [] pos) (Jb C sp t):=by
 intro Ni s σ H Q I h
 refine wpAny_Call_Name_kw (l9 I hg hm ?_ Oh)
 refine PySem.W.callWith_K (h₀:=X.base) I.ok.mod.FK kp (dh (ha pos Ni s σ H _ I h) λus s1 ⟨vs,H1,I1,r,hl,q⟩=>⟨I1.kD,?_⟩) he NO
 have X1:=I1.kD
 obtain⟨bm,N,nm,qn,bs,O_,sn,sub,ab,col,dd,k0,k1,k2,k3,k5,mN,hC,hN,Pu,T⟩:=CZ X1 hc
 obtain⟨hp,g,d,tk,os⟩:=s1
 have f1:=tc_lookup
 have f2:=tc_bind (.ref C)
 have hT:(⟨hp,g,d,tk,os⟩:Shared).TypeIs (.ref C) "type" := ⟨_,hC,rfl⟩
 refine wpAny_call (codeAny_of_tree ?_)
 show wpAny _ _ (callAny (.ref C) _) _ _ _
 repeat (any_goals (first | assumption | with_reducible refine wpAny_loadPart_at hC ?_ | wp_step))
 refine⟨rfl,?_⟩
 refine codeAny_call_builtin_at (Code.quiet_builtin _ (by decide +kernel)) entry_typeCall (wpAny_check_type_call_sub hC (qk PySem.F.excBase_ValueError T hC hN Pu
  (λh' kk self=>PySem.W.bind_fn (λb o z=>kk b o (X1 b o z)) self (beq_iff_eq.mp hf)) (λh' kk ht hx hz=>?_) (by show us.length<=sizeLine;rw[← r.length];exact hl)))
 have I2:Inv X Ni σ (upd H1 (hp.objs.size+1) (lh C none (hp.objs.size+1))) ⟨h',g,d,tk,os⟩:=I1.FG (t':=tk) kk (Heap.get?_none_of_le (Nat.le_succ _)) (ua hx)
 have hq:=q (hp.objs.size+1) (I1.tq (Heap.get?_none_of_le (Nat.le_succ _)))
 have r2:Vals (V.ref (hp.objs.size+1)::vs) (Value.ref (hp.objs.size+1)::us):=.cons rfl r
 have hlen:(Value.ref (hp.objs.size+1)::us++[]).length=ps.length:=by
  rw[List.append_nil,← r2.length]
  exact F.len _ _ _ _ hq
 refine wpAny_call (codeAny_mono (F.run _ X.stack _ _ ⟨Value.ref (hp.objs.size+1)::us,[]⟩ (Value.ref (hp.objs.size+1)::us) _ _ E0 (hr.make C us []) (I2.lP.make C us []) (by have:=hb _ (Value.ref (hp.objs.size+1)::us) I2.kD hlen;rwa [List.append_nil] at this) r2 hq) λr s' Pc=>?_)
 cases r with
 | error e =>
  obtain⟨_,_,_,_,_,_,_,_,_,_,_,_,_,z⟩:=Pc
  exact z.elim
 | ok fl =>
  cases fl with
  | ret u =>
   obtain⟨v,H',I3,rv,ev,q3⟩:=I2.after Pc
   subst ev
   exact⟨rv,⟨V.ref (hp.objs.size+1),H',I3,rfl,q3⟩⟩
  | next=>exact False.elim Pc
  | brk=>exact False.elim Pc
  | cont=>exact False.elim Pc
def Iz(K:PySem.W.Frag)(ta tv:TE)(f:Str):TS:=λD σ H=>tv σ H λy H1=>ta σ H1 λx H2=>∃ a C,x=.ref a/\H2 a=some (lh C none a)/\jb K C/\((PySem.W.clsIn K C).any λcd=>fX cd.mro)=true/\bM K C f ∧
 ∀ d,H2 d=none->d≠a->D.nx σ (upd (upd H2 d (.xd [(f,y)])) a (lh C (some d) a))
theorem Cd{value:Expr}{tv:TE}{n:Str}(ha:PE X o ta)(hv:PE X value tv)(hs:swapsWith value (some (.Attribute o n pos')) pos.line X.env=pure false):PS X (.Assign [.Attribute o n pos'] value pos) (Iz X.K ta tv n):=by
 intro Ni s σ H D I h
 refine plainObj_wpAny_Assign_Attribute (dh (hv Ni s σ H _ I h) λu s1 ⟨y,H1,I1,ry,q⟩=>dh (ha Ni s1 σ H1 _ I1 q) λov s2 ⟨x,H2,I2,rx,a,C,ex,ea,c,po,na,q2⟩=>?_) hs
 subst ex
 obtain rfl:ov=Value.ref a:=rx
 obtain⟨tt,hx⟩:=(I2.bT a _ ea).1
 refine Cp po c I2.kD hx na.FV λh' tk d e1 e2 e3 e4=>?_
 have hd:H2 d=none:=I2.tq e2
 have nda:d≠a:=λz=>by rw[z,ea] at hd;cases hd
 refine⟨σ,_,?_,q2 d hd nda⟩
 have up:∀ b,b≠a->b≠d->upd (upd H2 d (.xd [(n,y)])) a (lh C (some d) a) b=H2 b:=λb h1 h2=>by rw[ar h1,ar h2]
 have nd:∀ b u,s2.heap.get? b=some u->b≠d:=λb u e z=>by rw[z,e2] at e;cases e
 have nH:∀ b u,H2 b=some u->b≠d:=λb u e z=>by rw[z,hd] at e;cases e
 have nE:∀ b u,H2 b=some u->(∀ C dd,u≠lh C dd a)->b≠a:=λb u e hu z=>by
  rw[z,ea] at e
  exact hu C none (Option.some.inj e).symm
 refine I2.un (t':=tk) ⟨λb u e z _ _=>e4 b u (λw=>by rw[w,ea] at z;cases z) e,λb u e z _ _=>⟨u.slots,e4 b u (λw=>by rw[w,ea] at z;cases z) e⟩,λb u e z _=>?_,λb u e _=>?_,λb xs e=>?_,λb ob u e=>?_,λb ps e=>?_⟩ λb u e=>?_
 ·rw[up b (λw=>by rw[w,ea] at z;cases z) (nd b u e)];exact z
 ·by_cases w:b=a
  ·rw[w];exact⟨_,e1⟩
  ·exact⟨u,e4 b u w e⟩
 ·rw[up b (nE b _ e λ_ _ z=>by cases z) (nH b _ e)];exact e
 ·rw[up b (nE b _ e λ_ _ z=>by cases z) (nH b _ e)];exact e
 ·exact⟨#[],by rw[up b (nE b _ e λ_ _ z=>by cases z) (nH b _ e),e];simp⟩
 ·by_cases w:b=a
  ·subst w
   rw[az] at e
   cases e
   exact ua e1
  ·rw[ar w] at e
   by_cases w2:b=d
   ·subst w2
    rw[az] at e
    cases e
    refine⟨_,e3,λg=>?_⟩
    show mX (List.lookup g [(n,y)]) (if g=n then some _ else none)
    rw[List.lookup_cons]
    by_cases z:g=n
    ·rw[if_pos z,show (g==n)=true from by simp[z]];exact ry
    ·rw[if_neg z,show (g==n)=false from by simp[z]];exact True.intro
   ·rw[ar w2] at e
    refine(I2.bT b u e).oz (λc v hc z=>e4 c v ?_ z) (λc z=>?_) λc ys z=>?_
    ·rcases hc with z' | z'
     ·rw[z'];exact w
     ·exact nE c _ z' λ_ _ z=>by cases z
    ·rw[up c (nE c _ z λ_ _ z=>by cases z) (nH c _ z)];exact z
    ·rw[up c (nE c _ z λ_ _ z=>by cases z) (nH c _ z)];exact z
end
end
section
variable{M:Model}{E:Value->Shared->Prop}
theorem Gf{e:Addr}{o:Obj}(hx:s.heap.get? e=some o)(h:Q o.cls s):wpAny M A (typeOf (.ref e)) Q E s:=by
 unfold typeOf
 exact wpAny_bind (wpAny_loadPart hx (wpAny_pure h))
theorem yJ{e:Addr}{o:Obj}{vs:Array Value}{Q:Bool->Shared->Prop}(hx:s.heap.get? e=some o)(hd:o.data=.fields vs)(h:Q false s):wpAny M A (isType (.ref e)) Q E s:=by
 unfold isType loadHead
 refine wpAny_bind (wpAny_loadPart hx (wpAny_pure ?_))
 rw[hd];exact h
end
def HC(K:PySem.W.Frag)(E:St->XK)(te:TE):TS:=λD σ H=>te σ H λv H1=>∃ e C dd,v=.ref e/\H1 e=some (lh C dd e)/\jb K C/\PySem.W.typeIn K (.ref C)=some (.type "type")/\E σ (.ref e) none (upd H1 e (jV C dd e))
theorem vv{exc:Expr}{pos:Pos}(O:fF X E)(Nv:X.calm=true)(he:PE X exc te):PS X (.Raise (some exc) none pos) (HC X.K E te):=by
 intro Ni s σ H D I h
 rw[arm_exec_Raise]
 refine wpAny_bind (wpAny_standAt ?_)
 unfold raiseStmt
 dsimp only [evalOpt,Option.map]
 refine wpAny_bind (wpAny_bind (dh (he Ni s σ H _ I h) λu s1 hq=>wpAny_bind (wpAny_standAt (wpAny_pure ?_))))
 obtain⟨v,H1,I1,rv,e,C,dd,ev,hN,c,ht,hE⟩:=hq
 subst ev
 obtain rfl:u=Value.ref e:=rv
 obtain⟨t,hx⟩:=(I1.bT e _ hN).1
 have X1:=I1.kD
 refine wpAny_bind (wpAny_pure ?_)
 refine wpAny_bind (wpAny_holding ?_)
 unfold excFromValue isExcClass
 refine wpAny_bind (wpAny_bind (yJ hx rfl ?_))
 refine wpAny_pure ?_
 refine wpAny_bind ?_
 unfold isInstance
 refine wpAny_bind (Gf hx ((PySem.W.looks_mroIn X1 c.mb).here ?_))
 refine wpAny_pure ?_
 dsimp only
 refine wpAny_bind (yJ hx rfl ?_)
 unfold raisedInstance
 refine wpAny_bind (wpAny_bind (Gf hx (wpAny_bind ((PySem.W.looks_typeIn X1 ht).here ?_))))
 refine wpAny_pure ?_
 unfold setFlight
 refine wpAny_bind (wpAny_bind (wpAny_field hx rfl (x:=.none) rfl ?_))
 refine wpAny_pure ?_
 exact wpAny_raiseNew_none (I1.ok.hd Nv) (O.new Ni σ H1 s1 e C dd I1 hN hE)
inductive PV where
 | cy | bl (b:Bool) | int (i:Int) | str (x:Str)
 | tup (xs:List PV) | lst (xs:List PV)
 | j9 (xs:List PV)
 | obj (C:Addr) (fs:List (Str×PV))
 | exc (C:Addr) (fo:Option (List (Str×PV)))
 | emp
 deriving Inhabited
mutual
inductive Rep (H:Hp):PV->V->Prop where
 | cy:Rep H .cy .cy
 | bl (b:Bool):Rep H (.bl b) (.bl b)
 | int (i:Int):Rep H (.int i) (.int i)
 | str (x:Str):Rep H (.str x) (.str x)
 | tup {a:Addr} {xs:List PV} {vs:List V}:H a=some (.tup vs)->a_ H xs vs->Rep H (.tup xs) (.ref a)
 | lst {a:Addr} {xs:List PV} {vs:List V}:H a=some (.lst vs)->a_ H xs vs->Rep H (.lst xs) (.ref a)
 | j9 {a:Addr} {o:Obj} {xs:List PV} {vs:List V}:H a=some (.qU o (.lst vs))->a_ H xs vs->Rep H (.j9 xs) (.ref a)
 | obj {a C dx:Addr} {fs:List (Str×PV)} {vs:List (Str×V)}:H a=some (.ins C dx vs)->ji H fs vs->Rep H (.obj C fs) (.ref a)
 | Ae {a C:Addr}:H a=some (jV C none a)->Rep H (.exc C none) (.ref a)
 | zC {a C d:Addr} {fs:List (Str×PV)} {vs:List (Str×V)}:H a=some (jV C (some d) a)->H d=some (.xd vs)->ji H fs vs->Rep H (.exc C (some fs)) (.ref a)
 | emp {a:Addr}:H a=some (.dK [])->Rep H .emp (.ref a)
inductive a_ (H:Hp):List PV->List V->Prop where
 | nil:a_ H [] []
 | cons {p:PV} {v:V} {ps:List PV} {vs:List V}:Rep H p v->a_ H ps vs->a_ H (p::ps) (v::vs)
inductive ji (H:Hp):List (Str×PV)->List (Str×V)->Prop where
 | nil:ji H [] []
 | cons {n:Str} {p:PV} {v:V} {ps:List (Str×PV)} {vs:List (Str×V)}:Rep H p v->ji H ps vs->ji H ((n,p)::ps) ((n,v)::vs)
end
mutual
theorem Rep.mono{H H':Hp}(s:bC H H'):∀ {p:PV} {v:V},Rep H p v->Rep H' p v
 | _,_,.cy=>.cy
 | _,_,.bl b=>.bl b
 | _,_,.int i=>.int i
 | _,_,.str x=>.str x
 | _,_,.tup h r=>.tup (s _ _ h) (r.mono s)
 | _,_,.lst h r=>.lst (s _ _ h) (r.mono s)
 | _,_,.j9 h r=>.j9 (s _ _ h) (r.mono s)
 | _,_,.obj h r=>.obj (s _ _ h) (r.mono s)
 | _,_,.Ae h=>.Ae (s _ _ h)
 | _,_,.zC h h2 r=>.zC (s _ _ h) (s _ _ h2) (r.mono s)
 | _,_,.emp h=>.emp (s _ _ h)
theorem a_.mono{H H':Hp}(s:bC H H'):∀ {p:List PV} {v:List V},a_ H p v->a_ H' p v
 | _,_,.nil=>.nil
 | _,_,.cons h r=>.cons (h.mono s) (r.mono s)
theorem ji.mono{H H':Hp}(s:bC H H'):∀ {p:List (Str×PV)} {v:List (Str×V)},ji H p v->ji H' p v
 | _,_,.nil=>.nil
 | _,_,.cons h r=>.cons (h.mono s) (r.mono s)
end
theorem a_.length{H:Hp}:∀ {p:List PV} {v:List V},a_ H p v->p.length=v.length
 | _,_,.nil=>rfl
 | _,_,.cons _ r=>by simp[r.length]
theorem a_.get{H:Hp}:∀ {p:List PV} {v:List V} {i:Nat} {x:PV},a_ H p v->p[i]?=some x->∃ u,v[i]?=some u/\Rep H x u
 | _,_,_,_,.nil,e=>by simp at e
 | _,_,0,_,.cons h _,e=>by simp at e;subst e;exact⟨_,rfl,h⟩
 | _,_,i+1,x,.cons _ r,e=>by
  obtain⟨u,h1,h2⟩:=a_.get (i:=i) (x:=x) r (by simpa using e)
  exact⟨u,by simpa using h1,h2⟩
theorem a_.append{H:Hp}:∀ {p q:List PV} {v u:List V},a_ H p v->a_ H q u->a_ H (p++q) (v++u)
 | _,_,_,_,.nil,s=>s
 | _,_,_,_,.cons h r,s=>.cons h (r.append s)
theorem a_.take{H:Hp}:∀ {p:List PV} {v:List V} (n:Nat),a_ H p v->a_ H (p.take n) (v.take n)
 | _,_,0,_=>.nil
 | _,_,_+1,.nil=>.nil
 | _,_,n+1,.cons h r=>.cons h (r.take n)
theorem a_.drop{H:Hp}:∀ {p:List PV} {v:List V} (n:Nat),a_ H p v->a_ H (p.drop n) (v.drop n)
 | _,_,0,r=>r
 | _,_,_+1,.nil=>.nil
 | _,_,n+1,.cons _ r=>r.drop n
theorem a_.set{H:Hp}{x:PV}{u:V}(h:Rep H x u):∀ {p:List PV} {v:List V} (i:Nat),a_ H p v->a_ H (p.set i x) (v.set i u)
 | _,_,_,.nil=>.nil
 | _,_,0,.cons _ r=>.cons h r
 | _,_,i+1,.cons q r=>.cons q (r.set h i)
theorem a_.snoc{p:List PV}{v:List V}{x:PV}{u:V}(r:a_ H p v)(h:Rep H x u):a_ H (p++[x]) (v++[u]):=r.append (.cons h .nil)
theorem ji.look{H:Hp}{f:Str}:∀ {p:List (Str×PV)} {v:List (Str×V)} {x:PV},ji H p v->p.lookup f=some x->∃ u,v.lookup f=some u/\Rep H x u
 | _,_,_,.nil,e=>by simp at e
 | (n,_)::_,_,x,.cons h r,e=>by
  rw[List.lookup_cons] at e ⊢
  cases q:f==n with
  | true=>rw[q] at e;cases e;exact⟨_,rfl,h⟩
  | false=>rw[q] at e;exact r.look e
theorem ji.none{H:Hp}{f:Str}:∀ {p:List (Str×PV)} {v:List (Str×V)},ji H p v->p.lookup f=none->v.lookup f=none
 | _,_,.nil,_=>rfl
 | (n,_)::_,_,.cons h r,e=>by
  rw[List.lookup_cons] at e ⊢
  cases q:f==n with
  | true=>rw[q] at e;cases e
  | false=>rw[q] at e;exact r.none e
theorem a_.ints{H:Hp}:∀ {ns:List Int} {v:List V},a_ H (ns.map PV.int) v->v=ns.map V.int
 | [],_,.nil=>rfl
 | _::_,_,.cons (.int i) r=>by rw[r.ints];rfl
theorem a_.MM{H:Hp}:∀ {ns:List Bool} {v:List V},a_ H (ns.map PV.bl) v->v=ns.map V.bl
 | [],_,.nil=>rfl
 | _::_,_,.cons (.bl i) r=>by rw[r.MM];rfl
structure bZ (Hs H Np H':Hp):Prop where
 st:bC Hs Np
 al:bC H H'
 sub:bC Np H'
 nw:∀ a o,Hs a=none->H a=some o->Np a=none
variable{Hs:Hp}
theorem bZ.refl(s:bC Hs H):bZ Hs H Hs H:=⟨λ_ _ e=>e,λ_ _ e=>e,s,λ_ _ e _=>e⟩
variable{NA:Hp}
theorem bZ.trans{H1 Nx H2:Hp}(a:bZ Hs H NA H1)(b:bZ NA H1 Nx H2):bZ Hs H Nx H2 :=
 ⟨λc o e=>b.st c o (a.st c o e),λc o e=>b.al c o (a.al c o e),b.sub,λc o e q=>b.nw c o (a.nw c o e q) (a.al c o q)⟩
theorem bZ.new{p:Addr}{o:HO}(s:bC Hs H)(n:H p=none):bZ Hs H (upd Hs p o) (upd H p o):=by
 have ne:∀ c u,H c=some u->c≠p:=λc u e z=>by rw[z,n] at e;cases e
 refine⟨λc u e=>?_,λc u e=>?_,λc u e=>?_,λc u e q=>?_⟩
 ·rw[ar (ne c u (s c u e))];exact e
 ·rw[ar (ne c u e)];exact e
 ·by_cases z:c=p
  ·subst z;rw[az] at e ⊢;exact e
  ·rw[ar z] at e ⊢;exact s c u e
 ·rw[ar (ne c u q)];exact e
inductive SV where
 | sh (p:PV)
 | ow (xs:List PV)
 | bd (a C:Addr) (fs:List (Str×PV))
abbrev af:=List (Option SV)
structure SR (B H₀ Hs H:Hp) (σ:St) (env:af):Prop where
 gr:bZ B H₀ Hs H
 len:σ.length=env.length
 sh:∀ (i:Nat) (p:PV),env[i]?=some (some (.sh p))->∃ v,σ[i]?=some (some v)/\Rep Hs p v
 ow:∀ (i:Nat) (xs:List PV),env[i]?=some (some (.ow xs))->∃ a vs,σ[i]?=some (some (.ref a))/\H a=some (.lst vs)/\Hs a=none/\H₀ a=none/\a_ Hs xs vs
 sep:∀ (i j:Nat) (xs ys:List PV) (a:Addr),i≠j->env[i]?=some (some (.ow xs))->env[j]?=some (some (.ow ys))->σ[i]?=some (some (.ref a))->σ[j]?≠some (some (.ref a))
 bd:∀ (i:Nat) (a C:Addr) (fs:List (Str×PV)),env[i]?=some (some (.bd a C fs))->∃ dx vs,σ[i]?=some (some (.ref a))/\H a=some (.ins C dx vs)/\Hs a=none/\H₀ a=none/\ji Hs fs vs
 one:∀ (i j:Nat) (a b C D:Addr) (fs gs:List (Str×PV)),env[i]?=some (some (.bd a C fs))->env[j]?=some (some (.bd b D gs))->i=j
variable{H₀:Hp}
theorem SR.grow{B Np H':Hp}{env:af}(r:SR B H₀ Hs H σ env)(g:bZ Hs H Np H'):SR B H₀ Np H' σ env where
 gr:=r.gr.trans g
 len:=r.len
 sh:=λi p e=>let ⟨v,h1,h2⟩:=r.sh i p e;⟨v,h1,h2.mono g.st⟩
 ow:=λi xs e=>let ⟨a,vs,h1,h2,h3,h4,h5⟩:=r.ow i xs e;⟨a,vs,h1,g.al _ _ h2,g.nw _ _ h3 h2,h4,h5.mono g.st⟩
 sep:=r.sep
 bd:=λi a C fs e=>let ⟨dx,vs,h1,h2,h3,h4,h5⟩:=r.bd i a C fs e;⟨dx,vs,h1,g.al _ _ h2,g.nw _ _ h3 h2,h4,h5.mono g.st⟩
 one:=r.one
abbrev EX:=Addr×Option (List (Str×PV))
abbrev M(α:Type):=Option (Except EX α)
def M.ok{α:Type}(a:α):M α:=some (.ok a)
variable{α:Type}
noncomputable def M.bind{β:Type}(x:M α)(f:α->M β):M β:=match x with
 | some (.ok a)=>f a
 | some (.error e)=>some (.error e)
 | none=>none
instance:Monad M where
 pure:=M.ok
 bind:=M.bind
def aA(r:M α)(Q:α->Prop)(E:EX->Prop):Prop:=match r with
 | some (.ok a)=>Q a
 | some (.error e)=>E e
 | none=>False
theorem aA.imp{r:M α}{Q Q':α->Prop}{E E':EX->Prop}(h:aA r Q E)(hq:∀ a,Q a->Q' a)(he:∀ e,E e->E' e):aA r Q' E':=by
 cases r with
 | none=>exact h
 | some x=>cases x with
  | ok a=>exact hq a h
  | error e=>exact he e h
theorem aA.bind{α β:Type}{x:M α}{f:α->M β}{Q:β->Prop}{E:EX->Prop}(h:aA (x.bind f) Q E):aA x (λa=>aA (f a) Q E) E:=by
 cases x with
 | none=>exact h
 | some x=>cases x with
  | ok a=>exact h
  | error e=>exact h
def XW(E:XK)(Hs H:Hp)(x:EX):Prop:=∀ ea Np H',bZ Hs H Np H'->Rep Np (.exc x.1 x.2) (.ref ea)->E (.ref ea) none H'
theorem XW.grow{E:XK}{Np H':Hp}{x:EX}(h:XW E Hs H x)(g:bZ Hs H Np H'):XW E Np H' x:=λea Nx H2 g2 r=>h ea Nx H2 (g.trans g2) r
def tE(E:St->XK)(f:af->M PV):TE:=fun σ H Q=>∃ B H₀ Hs env,SR B H₀ Hs H σ env/\aA (f env) (λp=>∀ v Np H',bZ Hs H Np H'->Rep Np p v->Q v H') (XW (E σ) Hs H)
theorem PE.imp{t t':TE}(h:PE X e t)(i:∀ σ H Q,t' σ H Q->t σ H Q):PE X e t':=λNi s σ H Q I q=>h Ni s σ H Q I (i σ H Q q)
theorem yE{f:af->M PV}{g:af->PV->M PV}{Q R:VK}(h:tE E (λenv=>(f env).bind (g env)) σ H Q)
  (k:∀ B H₀ Hs H1 env p v,SR B H₀ Hs H1 σ env->Rep Hs p v->aA (g env p) (λq=>∀ u Np H',bZ Hs H1 Np H'->Rep Np q u->Q u H') (XW (E σ) Hs H1)->R v H1):tE E f σ H R:=by
 obtain⟨B,H₀,Hs,env,sr,h⟩:=h
 refine⟨B,H₀,Hs,env,sr,(aA.bind h).imp (λp hp v Np H' g r=>?_) λe he=>he⟩
 exact k B H₀ Np H' env p v (sr.grow g) r (hp.imp (λq hq u Nx H2 g2 r2=>hq u Nx H2 (g.trans g2) r2) λe he=>he.grow g)
theorem yT{f g:af->M PV}{op:PV->PV->M PV}{r:R2}{Q:VK}(h:tE E (λenv=>(f env).bind λp=>(g env).bind λq=>op p q) σ H Q)
  (k:∀ Hs H1 p q v u,bC Hs H1->Rep Hs p v->Rep Hs q u->aA (op p q) (λz=>∀ w Np H',bZ Hs H1 Np H'->Rep Np z w->Q w H') (XW (E σ) Hs H1)->r v u H1 Q):Iu r (tE E f) (tE E g) σ H Q:=by
 refine yE h λB H₀ Hs H1 env p v sr rp hp=>?_
 refine⟨B,H₀,Hs,env,sr,(aA.bind hp).imp (λq hq u Np H' g ru=>?_) λe he=>he⟩
 exact k Np H' p q v u (sr.grow g).gr.sub (rp.mono g.st) ru (hq.imp (λz hz w Nx H2 g2 r2=>hz w Nx H2 (g.trans g2) r2) λe he=>he.grow g)
theorem J6{f:af->M PV}{op:PV->M PV}{r:V->Hp->VK->Prop}{Q:VK}(h:tE E (λenv=>(f env).bind op) σ H Q)
  (k:∀ Hs H1 p v,bC Hs H1->Rep Hs p v->aA (op p) (λz=>∀ w Np H',bZ Hs H1 Np H'->Rep Np z w->Q w H') (XW (E σ) Hs H1)->r v H1 Q):MG r (tE E f) σ H Q :=
 yE h λB H₀ Hs H1 env p v sr rp hp=>k Hs H1 p v sr.gr.sub rp hp
def Ih(sp:Sp)(N8:List V)(E:St->XK)(t:TA):TE:=fun σ H Q=>t σ H λvs H1=>sp (vs++N8) H1 Q (E σ)
def Dv(C:Addr)(m:Str)(sp:Sp)(N8:List V)(E:St->XK)(ta:TE)(t:TA):TE:=fun σ H Q=>ta σ H λx H1=>∃ a dx fs,x=.ref a/\H1 a=some (.ins C dx fs)/\fs.lookup m=none ∧
 t σ H1 λvs H2=>sp (x::(vs++N8)) H2 Q (E σ)
def He(C:Addr)(sp:Sp)(N8:List V)(E:St->XK)(t:TA):TE:=fun σ H Q=>t σ H λvs H1=>∀ x dx,H1 x=none->H1 dx=none->dx≠x ->
 sp (.ref x::(vs++N8)) (upd (upd H1 dx (.own x)) x (.ins C dx [])) (λv H2=>v=.cy/\Q (.ref x) H2) (E σ)
variable{N8:List V}
variable{vs:List V}{us:List Value}
variable{pl:Sem Bool}
section
variable{p pos:Pos}
theorem s_{Q:VK}(F:aV X.prog X.w X.K X.mg X.base (bX X.prog X.w) k f fd ps sp)(hr:cQ k X.A)(hb:Binds X.K fd ps ds)(hd:Vals N8 ds)(hx:fF X E)
  (I:Inv X Ni σ H s) (r:Vals vs us) (h:sp (vs++N8) H Q (E σ)):wpAny (model X.prog X.w) X.A (call (.ref f) us) (EP X Ni σ Q) X.xe s:=by
 have r2:Vals (vs++N8) (us++ds):=r.append hd
 have hl:(us++ds).length=ps.length:=by rw[← r2.length];exact F.len _ _ _ _ h
 refine wpAny_call (codeAny_mono (F.run X.A X.stack s H ⟨us,[]⟩ (us++ds) (vs++N8) Q (E σ) hr I.lP (hb s us I.kD hl) r2 h) λr s' hq=>?_)
 cases r with
 | error e=>exact hx.pass Ni σ H s e s' I hq
 | ok fl =>
  cases fl with
  | ret u=>exact I.after hq
  | next=>exact False.elim hq
  | brk=>exact False.elim hq
  | cont=>exact False.elim hq
theorem C_(F:aV X.prog X.w X.K X.mg X.base (bX X.prog X.w) k f fd ps sp)(hr:cQ k X.A)(hg:Gl X x)(hm:X.mg x=some (.ref f))(hk:PySem.W.keepIn X.K (.ref f)=true)(hb:Binds X.K fd ps ds)(hd:Vals N8 ds)(hx:fF X E)
  (ha:PA X (e::es) t) (Oh:autoParam ((x==("__debug__" : Str))=false) aD._auto_1) (he:autoParam (starEach (e::es) X.env=(false,eval e X.env)::starEach es X.env) aR._auto_1) (NO:autoParam ((backTo pos (starEach es X.env)).any (·.1)=false) aR._auto_1) :
  PE X (.Call (.Name x p) (e::es) [] pos) (Ih sp N8 E t):=by
 intro Ni s σ H Q I h
 refine wpAny_Call_Name_kw (l9 I hg hm ?_ Oh)
 refine PySem.W.callWith_K (h₀:=X.base) I.ok.mod.FK hk (dh (ha pos Ni s σ H _ I h) λus s1 ⟨vs,H1,I1,r,q⟩=>⟨I1.kD,?_⟩) he NO
 exact s_ F hr hb hd hx I1 r q
theorem Bf(he:PE X o ta)(c:lp X.K C)(hm:Meth X.K C m f)(F:aV X.prog X.w X.K X.mg X.base (bX X.prog X.w) k f fd ps sp)(hr:cQ k X.A)(hb:Binds X.K fd ps ds)(hd:Vals N8 ds)(hx:fF X E)(ha:PA X (e::es) t)
  (NL:autoParam (starEach (e::es) X.env=(false,eval e X.env)::starEach es X.env) aR._auto_1) (NO:autoParam ((backTo pos (starEach es X.env)).any (·.1)=false) aR._auto_1)
  (ht:autoParam (eval (.Call (.Attribute o m apos) (e::es) [] pos) X.env=(do
   let ov ← eval o X.env
   standAt apos.atName
   let (f,first) ← holding [ov] (getMethod ov m pl)
   callWith pos f first (backTo pos (starEach (e::es) X.env)) (backToKw pos (keywordEach [] X.env)))) aR._auto_1) :
  PE X (.Call (.Attribute o m apos) (e::es) [] pos) (Dv C m sp N8 E ta t):=by
 intro Ni s σ H Q I h
 refine PySem.W.methodCall_KW (pl:=pl) (dh (he Ni s σ H _ I h) λu s1 ⟨x,H1,I1,rx,a,dx,fs,ex,ea,l,q⟩=>?_) ht
 subst ex
 obtain rfl:u=Value.ref a:=rx
 refine pS I1 ea c hm l ?_
 refine PySem.W.callWith_K (first:=[.ref a]) (h₀:=X.base) I.ok.mod.FK hm.kp (dh (ha pos Ni s1 σ H1 _ I1 q) λus s2 ⟨vs,H2,I2,r,q2⟩=>⟨I2.kD,?_⟩) NL NO
 exact s_ (us:=.ref a::us) (vs:=.ref a::vs) F hr hb hd hx I2 (.cons rfl r) q2
theorem yY(he:PE X o ta)(c:lp X.K C)(hm:Meth X.K C m f)(F:aV X.prog X.w X.K X.mg X.base (bX X.prog X.w) k f fd ps sp)(hr:cQ k X.A)(hb:Binds X.K fd ps ds)(hd:Vals N8 ds)(hx:fF X E)
  (ht:autoParam (eval (.Call (.Attribute o m apos) [] [] pos) X.env=(do
   let ov ← eval o X.env
   standAt apos.atName
   let (f,first) ← holding [ov] (getMethod ov m pl)
   callWith pos f first (backTo pos (starEach [] X.env)) (backToKw pos (keywordEach [] X.env)))) aR._auto_1) :
  PE X (.Call (.Attribute o m apos) [] [] pos) (Dv C m sp N8 E ta xH):=by
 intro Ni s σ H Q I h
 refine PySem.W.methodCall_KW (pl:=pl) (dh (he Ni s σ H _ I h) λu s1 ⟨x,H1,I1,rx,a,dx,fs,ex,ea,l,q⟩=>?_) ht
 subst ex
 obtain rfl:u=Value.ref a:=rx
 refine pS I1 ea c hm l ?_
 exact PySem.W.callWith_K0 (first:=[.ref a]) I1.kD hm.kp (s_ (us:=[.ref a]) (vs:=[.ref a]) F hr hb hd hx I1 (.cons rfl .nil) q)
theorem Ab{Q:VK}(M:Mk X.K C f)(F:aV X.prog X.w X.K X.mg X.base (bX X.prog X.w) k f fd ps sp)(hr:cQ (k+1) X.A)(hb:Binds X.K fd ps ds)(hd:Vals N8 ds)
  (hx:fF X E) (I:Inv X Ni σ H s) (r:Vals vs us)
  (h:∀ x dx,H x=none->H dx=none->dx≠x->sp (.ref x::(vs++N8)) (upd (upd H dx (.own x)) x (.ins C dx [])) (λv H2=>v=.cy/\Q (.ref x) H2) (E σ)) :
  wpAny (model X.prog X.w) X.A (call (.ref C) us) (EP X Ni σ Q) X.xe s:=by
 have hq:=h (s.heap.objs.size+1) s.heap.objs.size (I.bT.fresh (Nat.le_succ _)) (I.bT.fresh (Nat.le_refl _)) (Nat.ne_of_lt (Nat.lt_succ_self _))
 have I2:=Inv.made (C:=C) I
 have r2:Vals (V.ref (s.heap.objs.size+1)::(vs++N8)) (Value.ref (s.heap.objs.size+1)::(us++ds)):=.cons rfl (r.append hd)
 have hl:(Value.ref (s.heap.objs.size+1)::us++ds).length=ps.length:=by
  have e:=r2.length
  rw[F.len _ _ _ _ hq] at e
  exact e.symm
 refine wpAny_call (BX (f:=f) I.kD M.makes M.init (beq_iff_eq.mp M.fn) (codeAny_mono (F.run _ X.stack _ _ ⟨Value.ref (s.heap.objs.size+1)::us,[]⟩ (Value.ref (s.heap.objs.size+1)::(us++ds)) _ _ (E σ) (hr.make C us [])
  (I2.lP.make C us []) (hb _ (Value.ref (s.heap.objs.size+1)::us) I2.kD hl) r2 hq) λr s' Pc=>?_))
 cases r with
 | error e=>exact hx.pass Ni σ _ _ e s' I2 Pc
 | ok fl =>
  cases fl with
  | ret u =>
   obtain⟨v,H',I3,rv,ev,q3⟩:=I2.after Pc
   subst ev
   exact⟨rv,⟨V.ref (s.heap.objs.size+1),H',I3,rfl,q3⟩⟩
  | next=>exact False.elim Pc
  | brk=>exact False.elim Pc
  | cont=>exact False.elim Pc
theorem AN(M:Mk X.K C f)(F:aV X.prog X.w X.K X.mg X.base (bX X.prog X.w) k f fd ps sp)(hr:cQ (k+1) X.A)(hg:Gl X x)(hm:X.mg x=some (.ref C))(hb:Binds X.K fd ps ds)(hd:Vals N8 ds)(hx:fF X E)
  (ha:PA X (e::es) t) (Oh:autoParam ((x==("__debug__" : Str))=false) aD._auto_1) (he:autoParam (starEach (e::es) X.env=(false,eval e X.env)::starEach es X.env) aR._auto_1) (NO:autoParam ((backTo pos (starEach es X.env)).any (·.1)=false) aR._auto_1) :
  PE X (.Call (.Name x p) (e::es) [] pos) (He C sp N8 E t):=by
 intro Ni s σ H Q I h
 refine wpAny_Call_Name_kw (l9 I hg hm ?_ Oh)
 refine PySem.W.callWith_K (h₀:=X.base) I.ok.mod.FK M.kp (dh (ha pos Ni s σ H _ I h) λus s1 ⟨vs,H1,I1,r,q⟩=>⟨I1.kD,?_⟩) he NO
 exact Ab M F hr hb hd hx I1 r q
end
abbrev eG(Hs H:Hp)(Q:VK):PV->Prop:=λz=>∀ w Np H',bZ Hs H Np H'->Rep Np z w->Q w H'
variable{p:PV}
theorem eG.flat{Q:VK}(h:eG Hs H Q p)(s:bC Hs H)(r:Rep Hs p v):Q v H:=h v Hs H (.refl s) r
theorem eG.tup{Hs H:Hp}{Q:VK}{xs:List PV}{vs:List V}(h:eG Hs H Q (.tup xs))(s:bC Hs H)(r:a_ Hs xs vs):∀ p,H p=none->Q (.ref p) (upd H p (.tup vs)) :=
 λp n=>h _ (upd Hs p (.tup vs)) _ (bZ.new s n) (.tup az (r.mono (bZ.new s n).st))
theorem eG.lst{Hs H:Hp}{Q:VK}{xs:List PV}{vs:List V}(h:eG Hs H Q (.lst xs))(s:bC Hs H)(r:a_ Hs xs vs):∀ p,H p=none->Q (.ref p) (upd H p (.lst vs)) :=
 λp n=>h _ (upd Hs p (.lst vs)) _ (bZ.new s n) (.lst az (r.mono (bZ.new s n).st))
namespace HT
theorem CM{prog:Program}{w:World}{A:Around}{E:Value->Shared->Prop}{s:Shared}{t b:Addr}{ws:List Value}{Q:Value->Shared->Prop}(ht:IsTup s.heap t #[])(hb:IsTup s.heap b ws.toArray)
  (h1:Q (.ref b) s):wpAny (model prog w) A (binaryOp .Add (.ref t) (.ref b)) Q E s:=by
 obtain⟨⟨cls,dd,data,sl⟩,ho,hc,n,hd⟩:=id ht
 obtain⟨⟨cls2,QS,data2,sl2⟩,Pw,Qf,n2,hd2⟩:=id hb
 simp only at hc hd Qf hd2
 subst hc hd Qf hd2
 exact concat_meets ⟨_,ho,rfl⟩ ⟨_,Pw,rfl⟩ noFill_tuple_add seq_tuple_add PySem.F.slot_tuple_add PySem.F.entry_tuple_add (PySem.F.args_tuple_add_2 _ _)
   (tuple_addW0 t b #[] ws.toArray n n2 dd QS sl sl2 rfl) ⟨ho,Pw,h1⟩
end HT
def Cv(K:PySem.W.Frag):R2:=λx y H Q=>∃ a b ys,x=.ref a/\y=.ref b/\iy K H a []/\iy K H b ys/\Q (.ref b) H
theorem BC:iR X (binaryOp .Add) (Cv X.K):=by
 intro Ni s σ H x y v u Q I rx ry h
 obtain⟨a,b,ys,rfl,rfl,ha,hb,q1⟩:=h
 cases rx
 cases ry
 obtain⟨Nl,r1,p1,_⟩:=I.tuple ha
 obtain⟨O0,r2,p2,_⟩:=I.tuple hb
 have e:Nl=[]:=r1.mv.mpr rfl
 subst e
 exact HT.CM p1 p2 ⟨.ref b,H,I,rfl,q1⟩
def cW(c:Prop)[Decidable c](x:M α):M α:=if c then x else none
theorem aA.cW{α:Type}{c:Prop}[Decidable c]{x:M α}{Q:α->Prop}{E:EX->Prop}(h:aA (L2.cW c x) Q E):c/\aA x Q E:=by
 unfold L2.cW at h
 by_cases hc:c
 ·rw[if_pos hc] at h;exact⟨hc,h⟩
 ·rw[if_neg hc] at h;exact h.elim
def fu(o:Option PV):M PV:=match o with
 | some x=>M.ok x
 | none=>none
theorem aA.opt{o:Option PV}{Q:PV->Prop}{E:EX->Prop}(h:aA (fu o) Q E):∃ x,o=some x/\Q x:=by
 cases o with
 | none=>exact h.elim
 | some x=>exact⟨x,rfl,h⟩
variable{j:Nat}
variable{op:CmpOp}
section
variable{a b:Expr}{pos:Pos}{f g h:af->M PV}
def ae(i:Nat)(env:af):M PV:=match env[i]? with
 | some (some (.sh p))=>M.ok p
 | _=>none
theorem Hr(hN:X.N[i]?=some x)(hv:DA X.env.scope x)(hd:autoParam ((x==("__debug__" : Str))=false) aD._auto_1)(OB:autoParam ((x==("__classdict__" : Str))=false) aD._auto_1):PE X (.Name x pos) (tE E (ae i)):=by
 refine(jS hN hv hd OB).imp fun σ H Q q=>?_
 obtain⟨B,H₀,Hs,env,sr,q⟩:=q
 unfold ae at q
 split at q
 ·rename_i p e
  obtain⟨v,h1,h2⟩:=sr.sh i p e
  exact⟨v,h1,eG.flat q sr.gr.sub h2⟩
 ·exact q.elim
theorem mK(he:PE X e (tC v))(r:∀ H,Rep H p v):PE X e (tE E λ_=>M.ok p):=by
 refine he.imp fun σ H Q q=>?_
 obtain⟨B,H₀,Hs,env,sr,q⟩:=q
 exact eG.flat q sr.gr.sub (r Hs)
theorem A3{i:Int}:PE X (.Constant (.int i) j pos) (tE E λ_=>M.ok (.int i)):=mK Cq λ_=>.int i
theorem Kk{i:Bool}:PE X (.Constant (.bool i) j pos) (tE E λ_=>M.ok (.bl i)):=mK Kl λ_=>.bl i
theorem Je:PE X (.Constant .none j pos) (tE E λ_=>M.ok .cy):=mK HW λ_=>.cy
theorem Gp{i:Str}:PE X (.Constant (.str i) j pos) (tE E λ_=>M.ok (.str i)):=mK Hi λ_=>.str i
def ak(op:PV->PV->M PV)(f g:af->M PV):af->M PV:=λenv=>(f env).bind λp=>(g env).bind λq=>op p q
def nU(E:St->XK)(r:R2)(op:PV->PV->M PV):Prop:=∀ (σ:St) (Hs H:Hp) (p q:PV) (v u:V) (Q:VK),bC Hs H->Rep Hs p v->Rep Hs q u->aA (op p q) (eG Hs H Q) (XW (E σ) Hs H)->r v u H Q
theorem ql{op:Operator}{r:R2}{o:PV->PV->M PV}(ho:iR X (binaryOp op) r)(hv:nU E r o)(ha:PE X a (tE E f))(hb:PE X b (tE E g)):PE X (.BinOp a op b pos) (tE E (ak o f g)) :=
 (F7 ho ha hb).imp fun σ H Q q=>yT q λHs H1 p q v u s rp rq h=>hv σ Hs H1 p q v u Q s rp rq h
theorem kz{r:R2}{o:PV->PV->M PV}(ho:iR X (compareOp op) r)(hv:nU E r o)(ha:PE X a (tE E f))(hb:PE X b (tE E g))(hm:behindInMarks op b=false):PE X (.Compare a [op] [b] pos) (tE E (ak o f g)) :=
 (Fh ho ha hb hm).imp fun σ H Q q=>yT q λHs H1 p q v u s rp rq h=>hv σ Hs H1 p q v u Q s rp rq h
def dM:PV->PV->M PV
 | .int i,.int j=>M.ok (.int (i+j))
 | .str x,.str y=>cW (x.length+y.length<=sizeLine) (M.ok (.str (x++y)))
 | .tup xs,.tup ys=>cW (xs.length+ys.length<=sizeLine) (M.ok (.tup (xs++ys)))
 | .lst xs,.lst ys=>cW (xs.length+ys.length<=sizeLine) (M.ok (.lst (xs++ys)))
 | _,_=>none
def F8(K:PySem.W.Frag):R2:=λx y H Q=>(∃ i j,x=.int i/\y=.int j/\Q (.int (i+j)) H)\/(∃ i j,x=.str i/\y=.str j/\i.length+j.length<=sizeLine/\Q (.str (i++j)) H)\/F0 K x y H Q\/KH x y H Q\/Cv K x y H Q
theorem Eh:iR X (binaryOp .Add) (F8 X.K):=iR.or IG (iR.or wU (iR.or Fj (iR.or G1 BC)))
theorem Hz{K:PySem.W.Frag}:nU E (F8 K) dM:=by
 intro σ Hs H p q v u Q s rp rq h
 cases rp with
 | int i=>cases rq with
  | int j=>exact .inl ⟨i,j,rfl,rfl,eG.flat h s (.int _)⟩
  | _=>exact h.elim
 | str i=>cases rq with
  | str j =>
   obtain⟨hz,h⟩:=aA.cW h
   exact .inr (.inl ⟨i,j,rfl,rfl,hz,eG.flat h s (.str _)⟩)
  | _=>exact h.elim
 | @tup a xs vs ha hx=>cases rq with
  | @tup b ys us hb hy =>
   obtain⟨hz,h⟩:=aA.cW h
   cases hx with
   | nil=>exact .inr (.inr (.inr (.inr ⟨a,b,us,rfl,rfl,iy.of (s _ _ ha),iy.of (s _ _ hb),eG.flat h s (.tup hb hy)⟩)))
   | cons QP Rl =>
    have hx:=a_.cons QP Rl
    refine .inr (.inr (.inl ⟨a,b,_,us,rfl,rfl,iy.of (s _ _ ha),iy.of (s _ _ hb),(λz=>nomatch z),by rw[← hx.length,← hy.length];exact hz,λz=>?_,λz=>eG.tup h s (hx.append hy)⟩))
    have e:ys=[]:=by cases hy with | nil=>rfl | cons _ _=>cases z
    subst e
    rw[List.append_nil] at h
    exact eG.flat h s (.tup ha hx)
  | _=>exact h.elim
 | @lst a xs vs ha hx=>cases rq with
  | @lst b ys us hb hy =>
   obtain⟨hz,h⟩:=aA.cW h
   exact .inr (.inr (.inr (.inl ⟨a,b,vs,us,rfl,rfl,s _ _ ha,s _ _ hb,by rw[← hx.length,← hy.length];exact hz,eG.lst h s (hx.append hy)⟩)))
  | _=>exact h.elim
 | _=>exact h.elim
def BS(c:Int->Int->Bool)(o:Int->Int->Int):PV->PV->M PV
 | .int i,.int j=>cW (c i j=true) (M.ok (.int (o i j)))
 | _,_=>none
theorem B_{C:Int->Int->Prop}{c:Int->Int->Bool}{o:Int->Int->Int}(hc:∀ i j,c i j=true->C i j):nU E (rI C λi j=>.int (o i j)) (BS c o):=by
 intro σ Hs H p q v u Q s rp rq h
 cases rp with
 | int i=>cases rq with
  | int j =>
   obtain⟨hz,h⟩:=aA.cW h
   exact⟨i,j,rfl,rfl,hc i j hz,eG.flat h s (.int _)⟩
  | _=>exact h.elim
 | _=>exact h.elim
def n_:PV->PV->M PV
 | .int i,.int j=>M.ok (.int (i-j))
 | _,_=>none
theorem GF:nU E (w4 λi j=>.int (i-j)) n_:=by
 intro σ Hs H p q v u Q s rp rq h
 cases rp with
 | int i=>cases rq with
  | int j=>exact⟨i,j,rfl,rfl,eG.flat h s (.int _)⟩
  | _=>exact h.elim
 | _=>exact h.elim
def BH(o:Int->Int->Bool):PV->PV->M PV
 | .int i,.int j=>M.ok (.bl (o i j))
 | _,_=>none
theorem tm{o:Int->Int->Bool}:nU E (w4 λi j=>.bl (o i j)) (BH o):=by
 intro σ Hs H p q v u Q s rp rq h
 cases rp with
 | int i=>cases rq with
  | int j=>exact⟨i,j,rfl,rfl,eG.flat h s (.bl _)⟩
  | _=>exact h.elim
 | _=>exact h.elim
def aP:PV->PV->M PV
 | .tup xs,.int i=>fu (uL xs i)
 | .lst xs,.int i=>fu (uL xs i)
 | .j9 xs,.int i=>fu (uL xs i)
 | .str z,.int i=>cW (z.length<=sizeLine) (fu ((uL z.cps.toList i).map λc=>.str ⟨#[c]⟩))
 | _,_=>none
theorem a_.uL{H:Hp}{xs:List PV}{vs:List V}{i:Int}{x:PV}(r:a_ H xs vs)(e:L2.uL xs i=some x):∃ v,L2.uL vs i=some v/\Rep H x v:=by
 unfold L2.uL at e ⊢
 rw[← r.length]
 obtain⟨j,h1,h2⟩:=Option.bind_eq_some_iff.mp e
 obtain⟨v,h3,h4⟩:=r.get h2
 exact⟨v,by rw[h1];exact h3,h4⟩
theorem Hq{K:PySem.W.Frag}:nU E (Mw K) aP:=by
 intro σ Hs H p q v u Q s rp rq h
 cases rp with
 | @tup a xs vs ha hx=>cases rq with
  | int i =>
   obtain⟨x,ex,h⟩:=aA.opt h
   obtain⟨v,h1,h2⟩:=hx.uL ex
   exact .inr (.inl ⟨a,vs,i,v,rfl,rfl,iy.of (s _ _ ha),h1,eG.flat h s h2⟩)
  | _=>exact h.elim
 | @lst a xs vs ha hx=>cases rq with
  | int i =>
   obtain⟨x,ex,h⟩:=aA.opt h
   obtain⟨v,h1,h2⟩:=hx.uL ex
   exact .inl ⟨a,vs,i,v,rfl,rfl,hV.of (s _ _ ha),h1,eG.flat h s h2⟩
  | _=>exact h.elim
 | @j9 a o xs vs ha hx=>cases rq with
  | int i =>
   obtain⟨x,ex,h⟩:=aA.opt h
   obtain⟨v,h1,h2⟩:=hx.uL ex
   exact .inl ⟨a,vs,i,v,rfl,rfl,.inl (.inr ⟨o,s _ _ ha⟩),h1,eG.flat h s h2⟩
  | _=>exact h.elim
 | str z=>cases rq with
  | int i =>
   obtain⟨hz,h⟩:=aA.cW h
   obtain⟨x,ex,h⟩:=aA.opt h
   obtain⟨c,ec,rfl⟩:=Option.map_eq_some_iff.mp ex
   exact .inr (.inr ⟨z,i,c,rfl,rfl,hz,ec,eG.flat h s (.str _)⟩)
  | _=>exact h.elim
 | _=>exact h.elim
theorem H0(ha:PE X a (tE E f))(hb:PE X b (tE E g))(hs:sQ b):PE X (.Subscript a b pos) (tE E (ak aP f g)) :=
 (FZ Dr ha hb hs).imp fun σ H Q q=>yT q λHs H1 p q v u s rp rq h=>Hq σ Hs H1 p q v u Q s rp rq h
end
def tG(E:St->XK)(f:af->M α)(K:Hp->Hp->α->Prop):St->Hp->Prop:=fun σ H=>∃ B H₀ Hs env,SR B H₀ Hs H σ env/\aA (f env) (K Hs H) (XW (E σ) Hs H)
def KG(K:Hp->Hp->α->Prop):Prop:=∀ Hs H Np H' b,K Hs H b->bZ Hs H Np H'->K Np H' b
abbrev KB(Q:Bool->Hp->Prop):Hp->Hp->Bool->Prop:=λHs H k=>∀ Np H',bZ Hs H Np H'->Q k H'
abbrev lu(Q:VK):Hp->Hp->PV->Prop:=λHs H p=>eG Hs H Q p
abbrev KL(Q:List V->Hp->Prop):Hp->Hp->List PV->Prop:=λHs H ps=>∀ vs Np H',bZ Hs H Np H'->a_ Np ps vs->Q vs H'
theorem KB.g{Q:Bool->Hp->Prop}:KG (KB Q):=λHs H Np H' b k g Nx H2 g2=>k Nx H2 (g.trans g2)
theorem lu.g{Q:VK}:KG (lu Q):=λHs H Np H' b k g w Nx H2 g2 r=>k w Nx H2 (g.trans g2) r
theorem KL.g{Q:List V->Hp->Prop}:KG (KL Q):=λHs H Np H' b k g w Nx H2 g2 r=>k w Nx H2 (g.trans g2) r
def tT(E:St->XK)(f:af->M Bool):TT:=fun σ H Q=>tG E f (KB Q) σ H
def tL(E:St->XK)(f:af->M (List PV)):TA:=fun σ H Q=>tG E f (KL Q) σ H
theorem PT.imp{t t':TT}(h:PT X e t)(i:∀ σ H Q,t' σ H Q->t σ H Q):PT X e t':=λNi s σ H Q I q=>h Ni s σ H Q I (i σ H Q q)
theorem PW.imp{t t':TT}(h:PW X e t)(i:∀ σ H Q,t' σ H Q->t σ H Q):PW X e t':=λw Ni s σ H Q I q=>h w Ni s σ H Q I (i σ H Q q)
theorem PA.imp{e:List Expr}{t':TA}(h:PA X e t)(i:∀ σ H Q,t' σ H Q->t σ H Q):PA X e t':=λw Ni s σ H Q I q=>h w Ni s σ H Q I (i σ H Q q)
section
variable{β:Type}{K:Hp->Hp->β->Prop}
theorem cO{f:af->M PV}{g:af->PV->M β}{R:VK}(kg:KG K)(h:tG E (λenv=>(f env).bind (g env)) K σ H)
  (k:∀ B H₀ Hs H1 env p v,SR B H₀ Hs H1 σ env->Rep Hs p v->aA (g env p) (K Hs H1) (XW (E σ) Hs H1)->R v H1):tE E f σ H R:=by
 obtain⟨B,H₀,Hs,env,sr,h⟩:=h
 refine⟨B,H₀,Hs,env,sr,(aA.bind h).imp (λp hp v Np H' g r=>?_) λe he=>he⟩
 exact k B H₀ Np H' env p v (sr.grow g) r (hp.imp (λq hq=>kg _ _ _ _ q hq g) λe he=>he.grow g)
theorem pT{f:af->M Bool}{g:af->Bool->M β}{R:Bool->Hp->Prop}(kg:KG K)(h:tG E (λenv=>(f env).bind (g env)) K σ H)
  (k:∀ B H₀ Hs H1 env p,SR B H₀ Hs H1 σ env->aA (g env p) (K Hs H1) (XW (E σ) Hs H1)->R p H1):tT E f σ H R:=by
 obtain⟨B,H₀,Hs,env,sr,h⟩:=h
 refine⟨B,H₀,Hs,env,sr,(aA.bind h).imp (λp hp Np H' g=>?_) λe he=>he⟩
 exact k B H₀ Np H' env p (sr.grow g) (hp.imp (λq hq=>kg _ _ _ _ q hq g) λe he=>he.grow g)
theorem dH{f:af->M (List PV)}{g:af->List PV->M β}{R:List V->Hp->Prop}(kg:KG K)(h:tG E (λenv=>(f env).bind (g env)) K σ H)
  (k:∀ B H₀ Hs H1 env p v,SR B H₀ Hs H1 σ env->a_ Hs p v->aA (g env p) (K Hs H1) (XW (E σ) Hs H1)->R v H1):tL E f σ H R:=by
 obtain⟨B,H₀,Hs,env,sr,h⟩:=h
 refine⟨B,H₀,Hs,env,sr,(aA.bind h).imp (λp hp v Np H' g r=>?_) λe he=>he⟩
 exact k B H₀ Np H' env p v (sr.grow g) r (hp.imp (λq hq=>kg _ _ _ _ q hq g) λe he=>he.grow g)
end
def xw:PV->M Bool
 | .bl b=>M.ok b
 | _=>none
def ff(f:af->M PV):af->M Bool:=λenv=>(f env).bind xw
theorem aA.K3{Q:Bool->Prop}{E:EX->Prop}(h:aA (xw p) Q E):∃ b,p=.bl b/\Q b:=by
 cases p with
 | bl b=>exact⟨b,rfl,h⟩
 | _=>exact h.elim
variable{r:List V->Hp->VK->Prop}
section
variable{a b:Expr}{pos:Pos}{f g h:af->M PV}{u v:af->M Bool}{rest:List Expr}
theorem vp{Q:Bool->Hp->Prop}(q:tT E (ff f) σ H Q):tB (tE E f) σ H Q:=by
 refine cO KB.g q λB H₀ Hs H1 env p v sr rp hp=>?_
 obtain⟨k,rfl,hp⟩:=aA.K3 hp
 cases rp
 exact⟨k,rfl,hp Hs H1 (.refl sr.gr.sub)⟩
theorem ur(he:PE X e (tE E f))(hw:autoParam (∀ whole,isTrue e X.env whole=(do let v ← whole;standAt e.pos;holding [v] (truthy v))) aI._auto_1):PT X e (tT E (ff f)) :=
 (Hk he hw).imp fun σ H Q q=>vp q
theorem kF{r:R2}{o:PV->PV->M PV}(ho:iR X (compareOp op) r)(hv:nU E r o)(ha:PE X a (tE E f))(hb:PE X b (tE E g))(hm:behindInMarks op b=false):PT X (.Compare a [op] [b] pos) (tT E (ff (ak o f g))):=by
 refine(yK ho ha hb hm).imp fun σ H Q q=>?_
 have q':=vp q
 exact yT q' λHs H1 p q v u s rp rq h=>hv σ Hs H1 p q v u _ s rp rq h
def la(u:af->M Bool):af->M Bool:=λenv=>(u env).bind λb=>M.ok (!b)
def Ml(u v:af->M Bool):af->M Bool:=λenv=>(u env).bind λb=>if b=true then v env else M.ok false
def GG(u v:af->M Bool):af->M Bool:=λenv=>(u env).bind λb=>if b=true then M.ok true else v env
theorem HR(ha:PT X a (tT E u)):PT X (.UnaryOp .Not a pos) (tT E (la u)) :=
 (I0 ha).imp fun σ H Q q=>pT KB.g q λB H₀ Hs H1 env p sr hp=>hp Hs H1 (.refl sr.gr.sub)
theorem uw(ha:PT X a (tT E u)):PW X (.BoolOp .Or [a] pos) (tT E u):=pw_or1 ha
theorem vt(ha:PT X a (tT E u))(hb:PW X (.BoolOp .Or (b::rest) pos) (tT E v)):PW X (.BoolOp .Or (a::b::rest) pos) (tT E (GG u v)):=by
 refine(pw_or ha hb).imp fun σ H Q q=>pT KB.g q λB H₀ Hs H1 env p sr hp=>?_
 cases p with
 | true=>exact hp Hs H1 (.refl sr.gr.sub)
 | false=>exact⟨B,H₀,Hs,env,sr,hp⟩
def G9(f:af->M PV):af->M PV:=λenv=>(f env).bind λp=>(xw p).bind λb=>M.ok (.bl (!b))
def EE(f g:af->M PV):af->M PV:=λenv=>(f env).bind λp=>(xw p).bind λb=>if b=true then g env else M.ok (.bl false)
def Ng(f g:af->M PV):af->M PV:=λenv=>(f env).bind λp=>(xw p).bind λb=>if b=true then M.ok (.bl true) else g env
theorem HS(ha:PE X a (tE E f)):PE X (.UnaryOp .Not a pos) (tE E (G9 f)):=by
 refine(IU ha).imp fun σ H Q q=>cO (K:=lu Q) lu.g q λB H₀ Hs H1 env p v sr rp hp=>?_
 obtain⟨k,rfl,hp⟩:=aA.K3 (aA.bind hp)
 cases rp
 exact⟨k,rfl,eG.flat hp sr.gr.sub (.bl _)⟩
theorem C5(ha:PE X a (tE E f))(hb:PE X (.BoolOp .And (b::rest) pos) (tE E g)):PE X (.BoolOp .And (a::b::rest) pos) (tE E (EE f g)):=by
 refine(Hg ha hb).imp fun σ H Q q=>cO (K:=lu Q) lu.g q λB H₀ Hs H1 env p v sr rp hp=>?_
 obtain⟨k,rfl,hp⟩:=aA.K3 (aA.bind hp)
 cases rp
 refine⟨k,rfl,?_⟩
 cases k with
 | true=>exact⟨B,H₀,Hs,env,sr,hp⟩
 | false=>exact eG.flat hp sr.gr.sub (.bl _)
def Ad(u:af->M Bool)(f g:af->M PV):af->M PV:=λenv=>(u env).bind λb=>if b=true then f env else g env
theorem GB(hc:PT X c (tT E u))(ha:PE X a (tE E f))(hb:PE X b (tE E g)):PE X (.IfExp c a b pos) (tE E (Ad u f g)):=by
 refine(B6 hc ha hb).imp fun σ H Q q=>pT (K:=lu Q) lu.g q λB H₀ Hs H1 env p sr hp=>?_
 cases p with
 | true=>exact⟨B,H₀,Hs,env,sr,hp⟩
 | false=>exact⟨B,H₀,Hs,env,sr,hp⟩
def aj:af->M (List PV):=λ_=>M.ok []
def aa(f:af->M PV)(fs:af->M (List PV)):af->M (List PV):=λenv=>(f env).bind λp=>(fs env).bind λps=>M.ok (p::ps)
variable{fs:af->M (List PV)}
theorem Dg:PA X [] (tL E aj):=by
 refine jg.imp fun σ H Q q=>?_
 obtain⟨B,H₀,Hs,env,sr,q⟩:=q
 exact q [] Hs H (.refl sr.gr.sub) .nil
theorem yc(ha:PE X e (tE E f))(hr:PA X es (tL E fs))(hs:autoParam (starEach (e::es) X.env=(false,eval e X.env)::starEach es X.env) aR._auto_1):PA X (e::es) (tL E (aa f fs)):=by
 refine(dX ha hr hs).imp fun σ H Q q=>cO (K:=KL Q) KL.g q λB H₀ Hs H1 env p v sr rp hp=>?_
 refine⟨B,H₀,Hs,env,sr,(aA.bind hp).imp (λps Rc vs Np H' g r=>?_) λe he=>he⟩
 exact Rc (v::vs) Np H' g (.cons (rp.mono g.st) r)
def lT(fs:af->M (List PV)):af->M PV:=λenv=>(fs env).bind λps=>cW (ps.length<=sizeLine) (M.ok (.tup ps))
def ly(fs:af->M (List PV)):af->M PV:=λenv=>(fs env).bind λps=>cW (ps.length<=sizeLine) (M.ok (.lst ps))
theorem GQ(hr:PA X es (tL E fs)):PE X (.Tuple es x1 pos) (tE E (lT fs)):=by
 refine(Bl hr).imp fun σ H Q q=>dH (K:=lu Q) lu.g q λB H₀ Hs H1 env p v sr rp hp=>?_
 obtain⟨hz,hp⟩:=aA.cW hp
 exact⟨by rw[← rp.length];exact hz,eG.tup hp sr.gr.sub rp⟩
theorem Cu(hr:PA X es (tL E fs)):PE X (.List es pos) (tE E (ly fs)):=by
 refine(p8 hr).imp fun σ H Q q=>dH (K:=lu Q) lu.g q λB H₀ Hs H1 env p v sr rp hp=>?_
 obtain⟨hz,hp⟩:=aA.cW hp
 exact⟨by rw[← rp.length];exact hz,eG.lst hp sr.gr.sub rp⟩
def ai(o:List PV->M PV)(fs:af->M (List PV)):af->M PV:=λenv=>(fs env).bind o
def lG(E:St->XK)(r:List V->Hp->VK->Prop)(o:List PV->M PV):Prop:=∀ (σ:St) (Hs H:Hp) (ps:List PV) (vs:List V) (Q:VK),bC Hs H->a_ Hs ps vs->aA (o ps) (eG Hs H Q) (XW (E σ) Hs H)->r vs H Q
theorem A5{o:List PV->M PV}{Q:VK}(hv:lG E r o)(q:tE E (ai o fs) σ H Q):KQ r (tL E fs) σ H Q :=
 dH (K:=lu Q) lu.g q λB H₀ Hs H1 env p v sr rp hp=>hv σ Hs H1 p v Q sr.gr.sub rp hp
variable{p:Pos}{id T:String}
theorem kn{o:List PV->M PV}(hc:dR X (.builtin id) r)(hv:lG E r o)(hg:Gl X x)(hm:X.mg x=none)(hx:bootBuiltins x=some (.builtin id))(ha:PA X (e::es) (tL E fs))(hn:autoParam (x ≠ "__name__") aD._auto_1)(Oh:autoParam ((x==("__debug__" : Str))=false) aD._auto_1)
  (he:autoParam (starEach (e::es) X.env=(false,eval e X.env)::starEach es X.env) aR._auto_1) (NO:autoParam ((backTo pos (starEach es X.env)).any (·.1)=false) aR._auto_1):PE X (.Call (.Name x p) (e::es) [] pos) (tE E (ai o fs)) :=
 (mJ hc hg hm hx ha hn Oh he NO).imp fun σ H Q q=>A5 hv q
theorem mP{o:List PV->M PV}(hc:dR X (.type T) r)(hv:lG E r o)(hg:Gl X x)(hm:X.mg x=none)(hx:bootBuiltins x=some (.type T))(ha:PA X (e::es) (tL E fs))(hn:autoParam (x ≠ "__name__") aD._auto_1)(Oh:autoParam ((x==("__debug__" : Str))=false) aD._auto_1)
  (he:autoParam (starEach (e::es) X.env=(false,eval e X.env)::starEach es X.env) aR._auto_1) (NO:autoParam ((backTo pos (starEach es X.env)).any (·.1)=false) aR._auto_1):PE X (.Call (.Name x p) (e::es) [] pos) (tE E (ai o fs)) :=
 (zm hc hg hm hx ha hn Oh he NO).imp fun σ H Q q=>A5 hv q
end
variable{xs:List PV}
def cv:PV->Option (List PV)
 | .tup xs=>some xs
 | .lst xs=>some xs
 | .j9 xs=>some xs
 | _=>none
theorem CV{K:PySem.W.Frag}(s:bC Hs H)(r:Rep Hs p v)(e:cv p=some xs):∃ a vs,v=.ref a/\(hV K H a vs\/iy K H a vs)/\a_ Hs xs vs:=by
 cases r with
 | tup h r=>cases e;exact⟨_,_,rfl,.inr (iy.of (s _ _ h)),r⟩
 | lst h r=>cases e;exact⟨_,_,rfl,.inl (hV.of (s _ _ h)),r⟩
 | j9 h r=>cases e;exact⟨_,_,rfl,.inl (.inl (.inr ⟨_,s _ _ h⟩)),r⟩
 | _=>cases e
def tf:PV->M PV
 | .str z=>cW (z.length<=sizeLine) (M.ok (.int z.length))
 | p=>fu ((cv p).map λxs=>.int xs.length)
def eI:List PV->M PV
 | [p]=>tf p
 | _=>none
theorem a_.one(r:a_ H [p] vs):∃ v,vs=[v]/\Rep H p v:=by
 cases r with
 | cons h r=>cases r;exact⟨_,rfl,h⟩
theorem a_.two{q:PV}(r:a_ H [p,q] vs):∃ v u,vs=[v,u]/\Rep H p v/\Rep H q u:=by
 cases r with
 | cons h r=>obtain⟨u,rfl,h2⟩:=r.one;exact⟨_,_,rfl,h,h2⟩
def Cf(K:PySem.W.Frag):List V->Hp->VK->Prop:=λxs H Q=>(∃ p ys,xs=[.ref p]/\(hV K H p ys\/iy K H p ys)/\Q (.int ys.length) H)\/∃ z,xs=[.str z]/\z.length<=sizeLine/\Q (.int z.length) H
theorem sG:dR X (.builtin "len") (Cf X.K):=dR.or uf uA
theorem IT{K:PySem.W.Frag}:lG E (Cf K) eI:=by
 intro σ Hs H ps vs Q s r h
 match ps,r with
 | [],_=>exact h.elim
 | _::_::_,_=>exact h.elim
 | [p],r =>
  obtain⟨v,rfl,rp⟩:=r.one
  cases hp:cv p with
  | none =>
   cases p with
   | str z =>
    cases rp
    obtain⟨hz,h⟩:=aA.cW h
    exact .inr ⟨z,rfl,hz,eG.flat h s (.int _)⟩
   | tup _=>cases hp
   | lst _=>cases hp
   | j9 _=>cases hp
   | _=>exact h.elim
  | some xs =>
   obtain⟨a,us,rfl,hq,hx⟩:=CV (K:=K) s rp hp
   have h':aA (fu ((cv p).map λxs=>PV.int xs.length)) (eG Hs H Q) (XW (E σ) Hs H):=by
    cases p with
    | str z=>cases hp
    | _=>exact h
   rw[hp] at h'
   refine .inl ⟨a,us,rfl,hq,?_⟩
   rw[← hx.length]
   exact eG.flat h' s (.int _)
def sk:List PV->M PV
 | [p]=>fu ((cv p).map .lst)
 | _=>none
theorem Ed{K:PySem.W.Frag}:lG E (λxs H Q=>∃ p ys,xs=[.ref p]/\(hV K H p ys\/iy K H p ys)/\∀ l,H l=none->Q (.ref l) (upd H l (.lst ys))) sk:=by
 intro σ Hs H ps vs Q s r h
 match ps,r with
 | [],_=>exact h.elim
 | _::_::_,_=>exact h.elim
 | [p],r =>
  obtain⟨v,rfl,rp⟩:=r.one
  obtain⟨x,ex,h⟩:=aA.opt h
  obtain⟨xs,hp,rfl⟩:=Option.map_eq_some_iff.mp ex
  obtain⟨a,us,rfl,hq,hx⟩:=CV (K:=K) s rp hp
  exact⟨a,us,rfl,hq,eG.lst h s hx⟩
def cJ:List PV->M PV
 | [p]=>fu ((cv p).map .tup)
 | _=>none
theorem B0{K:PySem.W.Frag}:lG E (λxs H Q=>∃ p ys,xs=[.ref p]/\((hV K H p ys/\∀ l,H l=none->Q (.ref l) (upd H l (.tup ys)))\/(iy K H p ys/\Q (.ref p) H))) cJ:=by
 intro σ Hs H ps vs Q s r h
 match ps,r with
 | [],_=>exact h.elim
 | _::_::_,_=>exact h.elim
 | [p],r =>
  obtain⟨v,rfl,rp⟩:=r.one
  obtain⟨x,ex,h⟩:=aA.opt h
  obtain⟨xs,hp,rfl⟩:=Option.map_eq_some_iff.mp ex
  cases rp with
  | tup ha hx=>cases hp;exact⟨_,_,rfl,.inr ⟨iy.of (s _ _ ha),eG.flat h s (.tup ha hx)⟩⟩
  | lst ha hx=>cases hp;exact⟨_,_,rfl,.inl ⟨hV.of (s _ _ ha),eG.tup h s hx⟩⟩
  | j9 ha hx=>cases hp;exact⟨_,_,rfl,.inl ⟨.inl (.inr ⟨_,s _ _ ha⟩),eG.tup h s hx⟩⟩
  | _=>cases hp
def vB:List PV->Option (List Int)
 | []=>some []
 | .int i::r=>(vB r).map (i::·)
 | _=>none
def CK:List PV->Option (List Bool)
 | []=>some []
 | .bl i::r=>(CK r).map (i::·)
 | _=>none
theorem yF:∀ {ps:List PV} {ns:List Int},vB ps=some ns->ps=ns.map PV.int
 | [],_,e=>by cases e;rfl
 | .int i::r,_,e=>by
  obtain⟨ms,h1,rfl⟩:=Option.map_eq_some_iff.mp e
  rw[yF h1];rfl
theorem BR:∀ {ps:List PV} {ns:List Bool},CK ps=some ns->ps=ns.map PV.bl
 | [],_,e=>by cases e;rfl
 | .bl i::r,_,e=>by
  obtain⟨ms,h1,rfl⟩:=Option.map_eq_some_iff.mp e
  rw[BR h1];rfl
theorem rL:∀ (ns:List Int),vB (ns.map PV.int)=some ns
 | []=>rfl
 | n::r=>by show (vB (r.map PV.int)).map (n::·)=_;rw[rL r];rfl
theorem vK:∀ (ns:List Bool),CK (ns.map PV.bl)=some ns
 | []=>rfl
 | n::r=>by show (CK (r.map PV.bl)).map (n::·)=_;rw[vK r];rfl
def Jp:PV->M PV
 | .lst xs=>fu ((vB xs).map λns=>.int ns.sum)
 | _=>none
def wz:List PV->M PV
 | [p]=>Jp p
 | _=>none
theorem GK{K:PySem.W.Frag}:lG E (λxs H Q=>∃ (a:Addr) (ns:List Int),xs=[.ref a]/\hV K H a (ns.map V.int)/\Q (.int ns.sum) H) wz:=by
 intro σ Hs H ps vs Q s r h
 match ps,r with
 | [],_=>exact h.elim
 | _::_::_,_=>exact h.elim
 | [p],r =>
  obtain⟨v,rfl,rp⟩:=r.one
  cases rp with
  | lst ha hx =>
   obtain⟨x,ex,h⟩:=aA.opt h
   obtain⟨ns,hn,rfl⟩:=Option.map_eq_some_iff.mp ex
   rw[yF hn] at hx
   exact⟨_,ns,rfl,hx.ints▸hV.of (s _ _ ha),eG.flat h s (.int _)⟩
  | _=>exact h.elim
def all1:PV->M PV
 | .lst xs=>fu ((CK xs).map λns=>.bl (ns.all id))
 | _=>none
def tK:List PV->M PV
 | [p]=>all1 p
 | _=>none
theorem IV{K:PySem.W.Frag}:lG E (λxs H Q=>∃ (a:Addr) (bs:List Bool),xs=[.ref a]/\hV K H a (bs.map V.bl)/\Q (.bl (bs.all id)) H) tK:=by
 intro σ Hs H ps vs Q s r h
 match ps,r with
 | [],_=>exact h.elim
 | _::_::_,_=>exact h.elim
 | [p],r =>
  obtain⟨v,rfl,rp⟩:=r.one
  cases rp with
  | lst ha hx =>
   obtain⟨x,ex,h⟩:=aA.opt h
   obtain⟨ns,hn,rfl⟩:=Option.map_eq_some_iff.mp ex
   rw[BR hn] at hx
   exact⟨_,ns,rfl,hx.MM▸hV.of (s _ _ ha),eG.flat h s (.bl _)⟩
  | _=>exact h.elim
def LU(o:Int->Int->Int):PV->PV->M PV
 | .int i,.int j=>M.ok (.int (o i j))
 | _,_=>none
def yi(o:Int->Int->Int):List PV->M PV
 | [p,q]=>LU o p q
 | _=>none
theorem xZ{o:Int->Int->Int}:lG E (λxs H Q=>∃ i j,xs=[.int i,.int j]/\Q (.int (o i j)) H) (yi o):=by
 intro σ Hs H ps vs Q s r h
 match ps,r with
 | [],_=>exact h.elim
 | [_],_=>exact h.elim
 | _::_::_::_,_=>exact h.elim
 | [p,q],r =>
  obtain⟨v,u,rfl,rp,rq⟩:=r.two
  cases rp with
  | int i=>cases rq with
   | int j=>exact⟨i,j,rfl,eG.flat h s (.int _)⟩
   | _=>exact h.elim
  | _=>exact h.elim
def dy(n:Nat)(sem:List PV->M PV):Sp:=λvs H Q E=>vs.length=n/\∃ Hs ps,bC Hs H/\a_ Hs ps vs/\aA (sem ps) (eG Hs H Q) (XW E Hs H)
variable{OZ:List PV}
section
variable{sem:List PV->M PV}{p pos:Pos}{fs:af->M (List PV)}{g:af->M PV}
theorem ED(F:aV X.prog X.w X.K X.mg X.base (bX X.prog X.w) k f fd ps (dy n sem))(hr:cQ k X.A)(hg:Gl X x)(hm:X.mg x=some (.ref f))(hk:PySem.W.keepIn X.K (.ref f)=true)(hb:Binds X.K fd ps ds)(hd:Vals N8 ds)(hdp:∀ H,a_ H OZ N8)(O:fF X E)
  (hl:∀ ps,sem (ps++OZ)≠none->ps.length+OZ.length=n)
  (ha:PA X (e::es) (tL E fs)) (Oh:autoParam ((x==("__debug__" : Str))=false) aD._auto_1) (he:autoParam (starEach (e::es) X.env=(false,eval e X.env)::starEach es X.env) aR._auto_1) (NO:autoParam ((backTo pos (starEach es X.env)).any (·.1)=false) aR._auto_1) :
  PE X (.Call (.Name x p) (e::es) [] pos) (tE E (ai (λps=>sem (ps++OZ)) fs)):=by
 refine(C_ F hr hg hm hk hb hd O ha Oh he NO).imp fun σ H Q q=>dH (K:=lu Q) lu.g q λB H₀ Hs H1 env O1 v sr rp hp=>?_
 have r2:a_ Hs (O1++OZ) (v++N8):=rp.append (hdp Hs)
 have hn:sem (O1++OZ)≠none:=λz=>by rw[z] at hp;exact hp
 refine⟨?_,Hs,O1++OZ,sr.gr.sub,r2,hp⟩
 rw[← r2.length,List.length_append]
 exact hl O1 hn
def c_(ok:Addr->Bool)(f:Str)(g:af->M PV):af->M PV:=λenv=>(g env).bind λp=>match p with
 | .obj C fs=>cW (ok C=true) (fu (fs.lookup f))
 | _=>none
theorem GU{ok:Addr->Bool}{fl:Str}(he:PE X e (tE E g))(bT:∀ C,ok C=true->lp X.K C/\bM X.K C fl)(hb:attributeBase e fl X.env (eval e X.env)=eval e X.env):PE X (.Attribute e fl pos) (tE E (c_ ok fl g)):=by
 refine(HI he hb).imp fun σ H Q q=>cO (K:=lu Q) lu.g q λB H₀ Hs H1 env p v sr rp hp=>?_
 cases rp with
 | obj ha hx =>
  obtain⟨hc,hp⟩:=aA.cW hp
  obtain⟨x,ex,hp⟩:=aA.opt hp
  obtain⟨u,h1,h2⟩:=hx.look ex
  exact⟨_,_,_,_,u,rfl,sr.gr.sub _ _ ha,(bT _ hc).1,(bT _ hc).2,h1,eG.flat hp sr.gr.sub h2⟩
 | _=>exact hp.elim
def bh(C:Addr)(m:Str)(sem:List PV->M PV)(g:af->M PV)(fs:af->M (List PV)):af->M PV:=λenv=>(g env).bind λp=>match p with
 | .obj C' fl=>cW (C'=C/\fl.lookup m=none) ((fs env).bind λps=>sem (.obj C' fl::ps))
 | _=>none
theorem Fv(he:PE X o (tE E g))(c:lp X.K C)(hm:Meth X.K C m f)(F:aV X.prog X.w X.K X.mg X.base (bX X.prog X.w) k f fd ps (dy n sem))(hr:cQ k X.A)(hb:Binds X.K fd ps [])(O:fF X E)(hl:∀ ps,sem ps≠none->ps.length=n)(ha:PA X (e::es) (tL E fs))
  (NL:autoParam (starEach (e::es) X.env=(false,eval e X.env)::starEach es X.env) aR._auto_1) (NO:autoParam ((backTo pos (starEach es X.env)).any (·.1)=false) aR._auto_1)
  (ht:autoParam (eval (.Call (.Attribute o m apos) (e::es) [] pos) X.env=(do
   let ov ← eval o X.env
   standAt apos.atName
   let (f,first) ← holding [ov] (getMethod ov m pl)
   callWith pos f first (backTo pos (starEach (e::es) X.env)) (backToKw pos (keywordEach [] X.env)))) aR._auto_1) :
  PE X (.Call (.Attribute o m apos) (e::es) [] pos) (tE E (bh C m sem g fs)):=by
 refine(Bf he c hm F hr hb .nil O ha NL NO ht).imp fun σ H Q q=>cO (K:=lu Q) lu.g q λB H₀ Hs H1 env p v sr rp hp=>?_
 cases rp with
 | @obj a C' dx fl fvs ho hx =>
  obtain⟨⟨e1,hn⟩,Jo⟩:=aA.cW hp
  subst e1
  refine⟨a,dx,fvs,rfl,sr.gr.sub _ _ ho,hx.none hn,B,H₀,Hs,env,sr,(aA.bind Jo).imp (λO1 Rc vs Np H' g' r=>?_) λe he=>he⟩
  have r2:a_ Np (.obj C' fl::O1) (V.ref a::(vs++[])):=by rw[List.append_nil];exact .cons ((Rep.obj ho hx).mono g'.st) r
  have hn:sem (.obj C' fl::O1)≠none:=λz=>by rw[z] at Rc;exact Rc
  refine⟨by rw[← r2.length];exact hl _ hn,Np,_,g'.sub,r2,Rc.imp (λz hz w Nx H2 g2 r2=>hz w Nx H2 (g'.trans g2) r2) λe he=>he.grow g'⟩
 | _=>exact hp.elim
theorem BL(he:PE X o (tE E g))(c:lp X.K C)(hm:Meth X.K C m f)(F:aV X.prog X.w X.K X.mg X.base (bX X.prog X.w) k f fd ps (dy n sem))(hr:cQ k X.A)(hb:Binds X.K fd ps [])(O:fF X E)(hl:∀ ps,sem ps≠none->ps.length=n)
  (ht:autoParam (eval (.Call (.Attribute o m apos) [] [] pos) X.env=(do
   let ov ← eval o X.env
   standAt apos.atName
   let (f,first) ← holding [ov] (getMethod ov m pl)
   callWith pos f first (backTo pos (starEach [] X.env)) (backToKw pos (keywordEach [] X.env)))) aR._auto_1) :
  PE X (.Call (.Attribute o m apos) [] [] pos) (tE E (bh C m sem g aj)):=by
 refine(yY he c hm F hr hb .nil O ht).imp fun σ H Q q=>cO (K:=lu Q) lu.g q λB H₀ Hs H1 env p v sr rp hp=>?_
 cases rp with
 | @obj a C' dx fl fvs ho hx =>
  obtain⟨⟨e1,hn⟩,Jo⟩:=aA.cW hp
  subst e1
  have r2:a_ Hs [.obj C' fl] [V.ref a]:=.cons (Rep.obj ho hx) .nil
  have hn':sem [.obj C' fl]≠none:=λz=>by
   have Qu:aA (sem [.obj C' fl]) (eG Hs H1 Q) (XW (E σ) Hs H1):=Jo
   rw[z] at Qu;exact Qu
  exact⟨a,dx,fvs,rfl,sr.gr.sub _ _ ho,hx.none hn,by rw[show ([]:List V)++[]=[] from rfl];exact r2.length▸hl _ hn',Hs,_,sr.gr.sub,r2,Jo⟩
 | _=>exact hp.elim
end
inductive Out where
 | nx (env:af) | rt (p:PV) | bk (env:af) | ct (env:af)
def KS(D:Ends)(B H₀:Hp):Out->Prop
 | .nx env=>∀ σ Hs H,SR B H₀ Hs H σ env->D.nx σ H
 | .rt p=>∀ v Hs H,bZ B H₀ Hs H->Rep Hs p v->D.rt v H
 | .bk env=>∀ σ Hs H,SR B H₀ Hs H σ env->D.bk σ H
 | .ct env=>∀ σ Hs H,SR B H₀ Hs H σ env->D.ct σ H
def tS(E:XK)(f:af->M Out):TS:=λD σ H=>∃ B H₀ Hs env,SR B H₀ Hs H σ env/\aA (f env) (KS D B H₀) (XW E B H₀)
theorem PS.imp{st:Stmt}{t t':TS}(h:PS X st t)(i:∀ D σ H,t' D σ H->t D σ H):PS X st t':=λNi s σ H D I q=>h Ni s σ H D I (i D σ H q)
theorem lY.imp{st:List Stmt}{t t':TS}(h:lY X st t)(i:∀ D σ H,t' D σ H->t D σ H):lY X st t':=λNi s σ H D I q=>h Ni s σ H D I (i D σ H q)
def au:af->M Out:=λenv=>M.ok (.nx env)
def yy(g:af->M Out):Out->M Out
 | .nx env=>g env
 | o=>M.ok o
noncomputable def aq(f g:af->M Out):af->M Out:=λenv=>(f env).bind (yy g)
theorem kB{E:XK}{f:af->M PV}{g:af->PV->M Out}{D:Ends}{R:VK}(h:tS E (λenv=>(f env).bind (g env)) D σ H)
  (k:∀ B H₀ Hs H1 env p v,SR B H₀ Hs H1 σ env->Rep Hs p v->aA (g env p) (KS D B H₀) (XW E B H₀)->R v H1):tE (λ_=>E) f σ H R:=by
 obtain⟨B,H₀,Hs,env,sr,h⟩:=h
 refine⟨B,H₀,Hs,env,sr,(aA.bind h).imp (λp hp v Np H' g r=>?_) λe he=>he.grow sr.gr⟩
 exact k B H₀ Np H' env p v (sr.grow g) r hp
theorem CG{E:XK}{f:af->M Bool}{g:af->Bool->M Out}{D:Ends}{R:Bool->Hp->Prop}(h:tS E (λenv=>(f env).bind (g env)) D σ H)
  (k:∀ B H₀ Hs H1 env p,SR B H₀ Hs H1 σ env->aA (g env p) (KS D B H₀) (XW E B H₀)->R p H1):tT (λ_=>E) f σ H R:=by
 obtain⟨B,H₀,Hs,env,sr,h⟩:=h
 refine⟨B,H₀,Hs,env,sr,(aA.bind h).imp (λp hp Np H' g=>?_) λe he=>he.grow sr.gr⟩
 exact k B H₀ Np H' env p (sr.grow g) hp
theorem pO{E:XK}{f:af->M (List PV)}{g:af->List PV->M Out}{D:Ends}{R:List V->Hp->Prop}(h:tS E (λenv=>(f env).bind (g env)) D σ H)
  (k:∀ B H₀ Hs H1 env p v,SR B H₀ Hs H1 σ env->a_ Hs p v->aA (g env p) (KS D B H₀) (XW E B H₀)->R v H1):tL (λ_=>E) f σ H R:=by
 obtain⟨B,H₀,Hs,env,sr,h⟩:=h
 refine⟨B,H₀,Hs,env,sr,(aA.bind h).imp (λp hp v Np H' g r=>?_) λe he=>he.grow sr.gr⟩
 exact k B H₀ Np H' env p v (sr.grow g) r hp
theorem SR.set{B H₀ Hs H:Hp}{σ:St}{env:af}{p:PV}{v:V}{i:Nat}(r:SR B H₀ Hs H σ env)(h:Rep Hs p v):SR B H₀ Hs H (σ.set i (some v)) (env.set i (some (.sh p))) where
 gr:=r.gr
 len:=by rw[List.length_set,List.length_set];exact r.len
 sh:=λj q e=>by
  rw[List.getElem?_set] at e ⊢
  by_cases z:i=j
  ·subst z
   rw[if_pos rfl] at e ⊢
   split at e
   ·cases e
    rw[if_pos (by rw[r.len];assumption)]
    exact⟨v,rfl,h⟩
   ·cases e
  ·rw[if_neg z] at e ⊢
   exact r.sh j q e
 ow:=λj xs e=>by
  rw[List.getElem?_set] at e ⊢
  by_cases z:i=j
  ·subst z
   rw[if_pos rfl] at e
   split at e <;> cases e
  ·rw[if_neg z] at e ⊢
   exact r.ow j xs e
 sep:=λj k xs ys a n e1 e2 e3 e4=>by
  rw[List.getElem?_set] at e1 e2 e3 e4
  by_cases z:i=j
  ·subst z
   rw[if_pos rfl] at e1
   split at e1 <;> cases e1
  ·by_cases z2:i=k
   ·subst z2
    rw[if_pos rfl] at e2
    split at e2 <;> cases e2
   ·rw[if_neg z] at e1 e3
    rw[if_neg z2] at e2 e4
    exact r.sep j k xs ys a n e1 e2 e3 e4
 bd:=λj a C fs e=>by
  rw[List.getElem?_set] at e ⊢
  by_cases z:i=j
  ·subst z
   rw[if_pos rfl] at e
   split at e <;> cases e
  ·rw[if_neg z] at e ⊢
   exact r.bd j a C fs e
 one:=λj k a b C D fs gs e1 e2=>by
  rw[List.getElem?_set] at e1 e2
  by_cases z:i=j
  ·subst z
   rw[if_pos rfl] at e1
   split at e1 <;> cases e1
  ·by_cases z2:i=k
   ·subst z2
    rw[if_pos rfl] at e2
    split at e2 <;> cases e2
   ·rw[if_neg z] at e1
    rw[if_neg z2] at e2
    exact r.one j k _ _ C D fs gs e1 e2
theorem SR.own{B:Hp}{env:af}{p:Addr}(r:SR B H₀ Hs H σ env)(h:a_ Hs xs vs)(n:H p=none):SR B H₀ Hs (upd H p (.lst vs)) (σ.set i (some (.ref p))) (env.set i (some (.ow xs))):=by
 have ne:∀ c u,H c=some u->c≠p:=λc u e z=>by rw[z,n] at e;cases e
 have hs:Hs p=none:=by
  cases q:Hs p with
  | none=>rfl
  | some o=>have:=r.gr.sub _ _ q;rw[n] at this;cases this
 have h0:H₀ p=none:=by
  cases q:H₀ p with
  | none=>rfl
  | some o=>have:=r.gr.al _ _ q;rw[n] at this;cases this
 refine⟨⟨r.gr.st,λc u e=>by rw[ar (ne c u (r.gr.al c u e))];exact r.gr.al c u e,λc u e=>by rw[ar (ne c u (r.gr.sub c u e))];exact r.gr.sub c u e,r.gr.nw⟩,by rw[List.length_set,List.length_set];exact r.len,λj q e=>?_,λj ys e=>?_,λj k ys zs a nj e1 e2 e3 e4=>?_,λj ba C fs e=>?_,λj k _ _ C D fs gs e1 e2=>?_⟩
 ·rw[List.getElem?_set] at e ⊢
  by_cases z:i=j
  ·subst z
   rw[if_pos rfl] at e
   split at e <;> cases e
  ·rw[if_neg z] at e ⊢
   exact r.sh j q e
 ·rw[List.getElem?_set] at e ⊢
  by_cases z:i=j
  ·subst z
   rw[if_pos rfl] at e ⊢
   split at e
   ·cases e
    rw[if_pos (by rw[r.len];assumption)]
    exact⟨p,vs,rfl,az,hs,h0,h⟩
   ·cases e
  ·rw[if_neg z] at e ⊢
   obtain⟨a,us,h1,h2,h3,h4,h5⟩:=r.ow j ys e
   exact⟨a,us,h1,by rw[ar (ne a _ h2)];exact h2,h3,h4,h5⟩
 ·rw[List.getElem?_set] at e1 e2 e3 e4
  by_cases z:i=j
  ·subst z
   rw[if_pos rfl] at e3
   split at e3
   ·cases e3
    rw[if_neg nj] at e2 e4
    obtain⟨a',us,h1,h2,_⟩:=r.ow k zs e2
    rw[e4] at h1;cases h1
    rw[n] at h2;cases h2
   ·cases e3
  ·rw[if_neg z] at e1 e3
   by_cases z2:i=k
   ·subst z2
    rw[if_pos rfl] at e4
    split at e4
    ·cases e4
     obtain⟨a',us,h1,h2,_⟩:=r.ow j ys e1
     rw[e3] at h1;cases h1
     rw[n] at h2;cases h2
    ·cases e4
   ·rw[if_neg z2] at e2 e4
    exact r.sep j k ys zs a nj e1 e2 e3 e4
 ·rw[List.getElem?_set] at e ⊢
  by_cases z:i=j
  ·subst z
   rw[if_pos rfl] at e
   split at e <;> cases e
  ·rw[if_neg z] at e ⊢
   obtain⟨dx,us,h1,h2,h3,h4,h5⟩:=r.bd j ba C fs e
   exact⟨dx,us,h1,by rw[ar (ne ba _ h2)];exact h2,h3,h4,h5⟩
 ·rw[List.getElem?_set] at e1 e2
  by_cases z:i=j
  ·subst z
   rw[if_pos rfl] at e1
   split at e1 <;> cases e1
  ·by_cases z2:i=k
   ·subst z2
    rw[if_pos rfl] at e2
    split at e2 <;> cases e2
   ·rw[if_neg z] at e1
    rw[if_neg z2] at e2
    exact r.one j k _ _ C D fs gs e1 e2
def uB(i:Nat)(env:af):af:=match env[i]? with
 | some (some (.ow xs))=>env.set i (some (.sh (.lst xs)))
 | _=>env
theorem SR.qU{B:Hp}{env:af}(i:Nat)(r:SR B H₀ Hs H σ env):∃ Np,SR B H₀ Np H σ (uB i env)/\bC Hs Np:=by
 unfold uB
 split
 ·rename_i xs e
  obtain⟨a,vs,h1,h2,h3,h4,h5⟩:=r.ow i xs e
  have ne:∀ c u,Hs c=some u->c≠a:=λc u q z=>by rw[z,h3] at q;cases q
  have NL:bC Hs (upd Hs a (.lst vs)):=λc u q=>by rw[ar (ne c u q)];exact q
  refine⟨upd Hs a (.lst vs),⟨⟨λc u q=>NL c u (r.gr.st c u q),r.gr.al,λc u q=>?_,λc u q1 q2=>?_⟩,by rw[List.length_set];exact r.len,λj q ej=>?_,λj ys ej=>?_,λj k ys zs b nj e1 e2 e3 e4=>?_,λj ba C fs ej=>?_,λj k _ _ C D fs gs e1 e2=>?_⟩,NL⟩
  ·by_cases z:c=a
   ·subst z;rw[az] at q;cases q;exact h2
   ·rw[ar z] at q;exact r.gr.sub c u q
  ·have z:c≠a:=λz=>by rw[z,h4] at q2;cases q2
   rw[ar z];exact r.gr.nw c u q1 q2
  ·rw[List.getElem?_set] at ej
   by_cases z:i=j
   ·subst z
    rw[if_pos rfl] at ej
    split at ej
    ·cases ej
     exact⟨.ref a,h1,.lst az (h5.mono NL)⟩
    ·cases ej
   ·rw[if_neg z] at ej
    obtain⟨v,q1,q2⟩:=r.sh j q ej
    exact⟨v,q1,q2.mono NL⟩
  ·rw[List.getElem?_set] at ej
   by_cases z:i=j
   ·subst z
    rw[if_pos rfl] at ej
    split at ej <;> cases ej
   ·rw[if_neg z] at ej
    obtain⟨b,us,q1,q2,q3,q4,q5⟩:=r.ow j ys ej
    have nb:b≠a:=λw=>by subst w;exact r.sep i j xs ys b z e ej h1 q1
    exact⟨b,us,q1,q2,by rw[ar nb];exact q3,q4,q5.mono NL⟩
  ·rw[List.getElem?_set] at e1 e2
   by_cases z:i=j
   ·subst z
    rw[if_pos rfl] at e1
    split at e1 <;> cases e1
   ·by_cases z2:i=k
    ·subst z2
     rw[if_pos rfl] at e2
     split at e2 <;> cases e2
    ·rw[if_neg z] at e1
     rw[if_neg z2] at e2
     exact r.sep j k ys zs b nj e1 e2 e3 e4
  ·rw[List.getElem?_set] at ej
   by_cases z:i=j
   ·subst z
    rw[if_pos rfl] at ej
    split at ej <;> cases ej
   ·rw[if_neg z] at ej
    obtain⟨dx,us,q1,q2,q3,q4,q5⟩:=r.bd j ba C fs ej
    have nb:ba≠a:=λw=>by subst w;rw[h2] at q2;cases q2
    exact⟨dx,us,q1,q2,by rw[ar nb];exact q3,q4,q5.mono NL⟩
  ·rw[List.getElem?_set] at e1 e2
   by_cases z:i=j
   ·subst z
    rw[if_pos rfl] at e1
    split at e1 <;> cases e1
   ·by_cases z2:i=k
    ·subst z2
     rw[if_pos rfl] at e2
     split at e2 <;> cases e2
    ·rw[if_neg z] at e1
     rw[if_neg z2] at e2
     exact r.one j k _ _ C D fs gs e1 e2
 ·exact⟨Hs,r,λ_ _ q=>q⟩
def oq(is:List Nat)(f:af->M Out):af->M Out:=λenv=>f (is.foldl (λe i=>uB i e) env)
theorem SR.mR{B H₀ H:Hp}{σ:St}:∀ {is:List Nat} {Hs:Hp} {env:af},SR B H₀ Hs H σ env->∃ Np,SR B H₀ Np H σ (is.foldl (λe i=>uB i e) env)/\bC Hs Np
 | [],Hs,_,r=>⟨Hs,r,λ_ _ q=>q⟩
 | i::is,_,_,r=>by
  obtain⟨NA,r1,s1⟩:=r.qU i
  obtain⟨Nx,r2,s2⟩:=SR.mR (is:=is) r1
  exact⟨Nx,r2,λc u q=>s2 c u (s1 c u q)⟩
section
variable{E:XK}{pos:Pos}{f:af->M PV}{st:Stmt}{sts rest:List Stmt}{u:af->M Bool}{g h:af->M Out}
theorem Jg(is:List Nat)(hs:PS X st (tS E g)):PS X st (tS E (oq is g)):=hs.imp λD σ H q=>by
 obtain⟨B,H₀,Hs,env,sr,q⟩:=q
 obtain⟨Np,r,_⟩:=sr.mR (is:=is)
 exact⟨B,H₀,Np,_,r,q⟩
theorem FC:lY X [] (tS E au):=oV.imp λD σ H q=>by
 obtain⟨B,H₀,Hs,env,sr,q⟩:=q
 exact q σ Hs H sr
theorem A4(h1:PS X st (tS E g))(h2:lY X rest (tS E h)):lY X (st::rest) (tS E (aq g h)):=by
 refine(jn h1 h2).imp λD σ H q=>?_
 obtain⟨B,H₀,Hs,env,sr,q⟩:=q
 refine⟨B,H₀,Hs,env,sr,(aA.bind q).imp (λo ho=>?_) λe he=>he⟩
 cases o with
 | nx Nm=>exact fun σ' Np H' O6=>⟨B,H₀,Np,Nm,O6,ho⟩
 | rt p=>exact ho
 | bk Nm=>exact ho
 | ct Nm=>exact ho
def br(i:Nat)(f:af->M PV):af->M Out:=λenv=>(f env).bind λp=>M.ok (.nx (env.set i (some (.sh p))))
theorem GZ(hN:X.N.Nodup)(hi:X.N[i]?=some x)(hx:Loc X.env.scope x)(he:PE X e (tE (λ_=>E) f))(hs:autoParam (swapsWith e (some (.Name x pos')) pos.line X.env=pure false) aR._auto_1)(hf:autoParam (X.fn x=true\/X.env.scope.names.lookup x=some .local) aF._auto_1) :
  PS X (.Assign [.Name x pos'] e pos) (tS E (br i f)) :=
 (t6 hN hi hx he hs hf).imp λD σ H q=>kB q λB H₀ Hs H1 env p v sr rp hp=>hp _ Hs H1 (sr.set rp)
def retS(f:af->M PV):af->M Out:=λenv=>(f env).bind λp=>M.ok (.rt p)
theorem Hy(he:PE X e (tE (λ_=>E) f)):PS X (.Return (some e) pos) (tS E (retS f)) :=
 (HX he).imp λD σ H q=>kB q λB H₀ Hs H1 env p v sr rp hp=>hp v Hs H1 sr.gr rp
def jC(f:af->M PV):af->M Out:=λenv=>(f env).bind λ_=>M.ok (.nx env)
theorem DK(he:PE X e (tE (λ_=>E) f))(hs:autoParam (swapsWith e none pos.line X.env=pure false) aR._auto_1):PS X (.Expr e pos) (tS E (jC f)) :=
 (tX he hs).imp λD σ H q=>kB q λB H₀ Hs H1 env p v sr rp hp=>hp σ Hs H1 sr
def lZ(u:af->M Bool)(g h:af->M Out):af->M Out:=λenv=>(u env).bind λb=>if b=true then g env else h env
theorem JI{a b:List Stmt}(hc:PT X c (tT (λ_=>E) u))(ha:lY X a (tS E g))(hb:lY X b (tS E h)):PS X (.If c a b pos) (tS E (lZ u g h)):=by
 refine(F5 hc ha hb).imp λD σ H q=>CG q λB H₀ Hs H1 env p sr hp=>?_
 cases p with
 | true=>exact⟨B,H₀,Hs,env,sr,hp⟩
 | false=>exact⟨B,H₀,Hs,env,sr,hp⟩
end
def ov(Hs H₀:Hp):Hp:=λa=>match Hs a with
 | some o=>some o
 | none=>H₀ a
theorem oY{o:HO}(h:Hs a=some o):ov Hs H₀ a=some o:=by unfold ov;rw[h]
theorem jI(h:Hs a=none):ov Hs H₀ a=H₀ a:=by unfold ov;rw[h]
theorem Fi(s:bC Hs H)(t:bC H₀ H):bC (ov Hs H₀) H:=λa o e=>by
 cases q:Hs a with
 | some o'=>rw[oY q] at e;cases e;exact s _ _ q
 | none=>rw[jI q] at e;exact t _ _ e
theorem SR.rebase{B:Hp}{env:af}(r:SR B H₀ Hs H σ env):SR Hs (ov Hs H₀) Hs H σ env where
 gr:=⟨λ_ _ e=>e,Fi r.gr.sub r.gr.al,r.gr.sub,λ_ _ e _=>e⟩
 len:=r.len
 sh:=r.sh
 ow:=λi xs e=>let ⟨a,vs,h1,h2,h3,h4,h5⟩:=r.ow i xs e;⟨a,vs,h1,h2,h3,by rw[jI h3];exact h4,h5⟩
 sep:=r.sep
 bd:=λi a C fs e=>let ⟨dx,vs,h1,h2,h3,h4,h5⟩:=r.bd i a C fs e;⟨dx,vs,h1,h2,h3,by rw[jI h3];exact h4,h5⟩
 one:=r.one
theorem bZ.lV{B Nx H2:Hp}(g:bZ B H₀ Hs H)(g2:bZ Hs (ov Hs H₀) Nx H2):bZ B H₀ Nx H2 where
 st:=λa o e=>g2.st a o (g.st a o e)
 al:=λa o e=>by
  cases q:Hs a with
  | some o' =>
   have h1:=g.sub a o' q
   have h2:=g.al a o e
   rw[h1] at h2;cases h2
   exact g2.al a _ (oY q)
  | none=>exact g2.al a o (by rw[jI q];exact e)
 sub:=g2.sub
 nw:=λa o e q=>by
  have h1:=g.nw a o e q
  exact g2.nw a o h1 (by rw[jI h1];exact q)
theorem SR.lV{B H₀ Hs H Nx H2:Hp}{σ:St}{env:af}(g:bZ B H₀ Hs H)(r:SR Hs (ov Hs H₀) Nx H2 σ env):SR B H₀ Nx H2 σ env where
 gr:=g.lV r.gr
 len:=r.len
 sh:=r.sh
 ow:=λi xs e=>by
  obtain⟨a,vs,h1,h2,h3,h4,h5⟩:=r.ow i xs e
  refine⟨a,vs,h1,h2,h3,?_,h5⟩
  cases q:Hs a with
  | some o=>rw[oY q] at h4;cases h4
  | none=>rw[jI q] at h4;exact h4
 sep:=r.sep
 bd:=λi a C fs e=>by
  obtain⟨dx,vs,h1,h2,h3,h4,h5⟩:=r.bd i a C fs e
  refine⟨dx,vs,h1,h2,h3,?_,h5⟩
  cases q:Hs a with
  | some o=>rw[oY q] at h4;cases h4
  | none=>rw[jI q] at h4;exact h4
 one:=r.one
theorem XW.rebase{E:XK}{B:Hp}(g:bZ B H₀ Hs H){x:EX}(h:XW E B H₀ x):XW E Hs (ov Hs H₀) x:=λea Nx H2 r q=>h ea Nx H2 (g.lV r) q
def JY(k:af->M Out):Out->M Out
 | .nx env=>k env
 | .ct env=>k env
 | .bk env=>M.ok (.nx env)
 | .rt p=>M.ok (.rt p)
def kE(set:PV->af->M af)(body:af->M Out):List PV->af->M Out
 | [],env=>M.ok (.nx env)
 | x::xs,env=>(set x env).bind λNm=>(body Nm).bind (JY (kE set body xs))
def Dy(E:XK)(g:TG)(set:PV->af->M af):Prop:=∀ (B H₀ Hs H:Hp) (σ:St) (env:af) (p:PV) (v:V) (Q:St->Hp->Prop) (Z:EX->Prop),SR B H₀ Hs H σ env->Rep Hs p v->aA (set p env) (λNm=>∀ σ',SR B H₀ Hs H σ' Nm->Q σ' H) Z->g v σ H Q
def bQ(i:Nat)(p:PV)(env:af):M af:=M.ok (env.set i (some (.sh p)))
theorem bx{E:XK}:Dy E (aH i) (bQ i):=λB H₀ Hs H σ env p v Q Z sr r h=>h _ (sr.set r)
def bA(i j:Nat):PV->af->M af
 | .tup [p,q],env=>M.ok ((env.set i (some (.sh p))).set j (some (.sh q)))
 | _,_=>none
theorem bP{E:XK}{K:PySem.W.Frag}:Dy E (gi K 2 (bj (aH i) (bj (aH j) gk))) (bA i j):=by
 intro B H₀ Hs H σ env p v Q Z sr r h
 cases r with
 | @tup a xs vs ha hx =>
  match xs,hx with
  | [p,q],hx =>
   obtain⟨v,u,rfl,rp,rq⟩:=hx.two
   exact⟨a,[v,u],rfl,iy.of (sr.gr.sub _ _ ha),rfl,v,[u],rfl,u,[],rfl,rfl,h _ ((sr.set rp).set rq)⟩
  | [],_=>exact h.elim
  | [_],_=>exact h.elim
  | _::_::_::_,_=>exact h.elim
 | _=>exact h.elim
section
variable{E:XK}{g:TG}{set:PV->af->M af}{body:af->M Out}{D:Ends}{B:Hp}
def Jv(E:XK)(set:PV->af->M af)(body:af->M Out)(D:Ends)(B H₀ NA:Hp)(xs:List PV)(i:Nat)(σ:St)(H:Hp):Prop:=∃ Hs env,SR B H₀ Hs H σ env/\bC NA Hs/\aA (kE set body (xs.drop i) env) (KS D B H₀) (XW E B H₀)
theorem Jv.done(j:Jv E set body D B H₀ NA xs n σ H)(hn:xs.length<=n):D.nx σ H:=by
 obtain⟨Hs,env,sr,_,h⟩:=j
 rw[List.drop_eq_nil_of_le hn] at h
 exact h σ Hs H sr
theorem Jv.turn{H1 Hx:Hp}{x:PV}(tg:Dy E g set)(hx:xs[i]?=some x){env:af}(sr:SR B H₀ Hs H σ env)(s1:bC NA Hs)(h:aA (kE set body (xs.drop i) env) (KS D B H₀) (XW E B H₀)){Nx H2:Hp}(gr:bZ Hs H Nx H2)(rv:Rep Nx x v) :
  g v σ H2 fun σ2 H3=>tS E body { D with nx:=Jv E set body D B H₀ NA xs (i+1),ct:=Jv E set body D B H₀ NA xs (i+1),bk:=D.nx } σ2 H3:=by
 have Oa:i<xs.length:=(List.getElem?_eq_some_iff.mp hx).1
 have hd:xs.drop i=x::xs.drop (i+1):=by
  rw[List.drop_eq_getElem_cons Oa]
  rw[List.getElem?_eq_getElem Oa] at hx
  rw[Option.some.inj hx]
 rw[hd] at h
 have N0:=sr.grow gr
 refine tg B H₀ Nx H2 σ env x v _ _ N0 rv ((aA.bind h).imp (λNm h' σ' O6=>?_) λ_ z=>z)
 refine⟨Nx,ov Nx H₀,Nx,Nm,O6.rebase,(aA.bind h').imp (λo ho=>?_) λe he=>he.rebase O6.gr⟩
 cases o with
 | nx e2=>exact fun σ3 OO H3 r=>⟨OO,e2,r.lV O6.gr,λa o z=>r.gr.st a o (gr.st a o (s1 a o z)),ho⟩
 | ct e2=>exact fun σ3 OO H3 r=>⟨OO,e2,r.lV O6.gr,λa o z=>r.gr.st a o (gr.st a o (s1 a o z)),ho⟩
 | bk e2=>exact fun σ3 OO H3 r=>ho σ3 OO H3 (r.lV O6.gr)
 | rt p=>exact λv3 OO H3 r q=>ho v3 OO H3 (O6.gr.lV r) q
end
def g8(it:af->M (List PV))(set:PV->af->M af)(body:af->M Out):af->M Out:=λenv=>(it env).bind λxs=>kE set body xs env
def itemsOf(f:af->M PV):af->M (List PV):=λenv=>(f env).bind λp=>match cv p with | some xs=>M.ok xs | none=>none
theorem kY{K:PySem.W.Frag}(s:bC Hs H)(r:Rep Hs p v)(e:cv p=some xs):∃ b a vs,v=.ref a/\(∀ Np H',bC Hs Np->bC Np H'->k_ K H' b a vs)/\a_ Hs xs vs:=by
 cases r with
 | tup h r=>cases e;exact⟨false,_,_,rfl,λNp H' s1 s2=>iy.of (s2 _ _ (s1 _ _ h)),r⟩
 | lst h r=>cases e;exact⟨true,_,_,rfl,λNp H' s1 s2=>hV.of (s2 _ _ (s1 _ _ h)),r⟩
 | j9 h r=>cases e;exact⟨true,_,_,rfl,λNp H' s1 s2=>.inl (.inr ⟨_,s2 _ _ (s1 _ _ h)⟩),r⟩
 | _=>cases e
section
variable{E:XK}{pos p:Pos}{f f2:af->M PV}{g:TG}{set:PV->af->M af}{body:af->M Out}{bd:List Stmt}
end
def LS:PV->M (List PV)
 | .int n=>cW (-(2^62)<=n/\n<2^62) (M.ok ((List.range n.toNat).map λ(i:Nat)=>.int (0+(i:Int))))
 | _=>none
def LQ:PV->PV->M (List PV)
 | .int a,.int b=>cW (-(2^62)<=a/\a<2^62/\-(2^62)<=b/\b<2^62) (M.ok ((List.range (b-a).toNat).map λ(i:Nat)=>.int (a+(i:Int))))
 | _,_=>none
def pN:List PV->M (List PV)
 | [p]=>LS p
 | _=>none
def zo:List PV->M (List PV)
 | [p,q]=>LQ p q
 | _=>none
variable{Z:EX->Prop}
theorem zr{ps:List PV}{k:List PV->M α}{Q:α->Prop}(h:aA ((pN ps).bind k) Q Z):∃ n:Int,ps=[.int n]/\-(2^62)<=n/\n<2^62/\aA (k ((List.range n.toNat).map λ(i:Nat)=>.int (0+(i:Int)))) Q Z:=by
 match ps with
 | []=>exact h.elim
 | _::_::_=>exact h.elim
 | [p] =>
  cases p with
  | int n =>
   obtain⟨hc,h⟩:=aA.cW (aA.bind h)
   exact⟨n,rfl,hc.1,hc.2,h⟩
  | _=>exact h.elim
theorem zY{ps:List PV}{k:List PV->M α}{Q:α->Prop}(h:aA ((zo ps).bind k) Q Z):∃ a b:Int,ps=[.int a,.int b]/\(-(2^62)<=a/\a<2^62/\-(2^62)<=b/\b<2^62)/\aA (k ((List.range (b-a).toNat).map λ(i:Nat)=>.int (a+(i:Int)))) Q Z:=by
 match ps with
 | []=>exact h.elim
 | [_]=>exact h.elim
 | _::_::_::_=>exact h.elim
 | [p,q] =>
  cases p with
  | int a=>cases q with
   | int b =>
    obtain⟨hc,h⟩:=aA.cW (aA.bind h)
    exact⟨a,b,rfl,hc,h⟩
   | _=>exact h.elim
  | _=>exact h.elim
def zip2:List PV->M (List PV)
 | [p,q]=>match cv p,cv q with
  | some xs,some ys=>M.ok (List.zipWith (λa b=>.tup [a,b]) xs ys)
  | _,_=>none
 | _=>none
theorem zL{ps:List PV}{k:List PV->M α}{Q:α->Prop}(h:aA ((zip2 ps).bind k) Q Z):∃ p q xs ys,ps=[p,q]/\cv p=some xs/\cv q=some ys/\aA (k (List.zipWith (λa b=>.tup [a,b]) xs ys)) Q Z:=by
 match ps with
 | []=>exact h.elim
 | [_]=>exact h.elim
 | _::_::_::_=>exact h.elim
 | [p,q] =>
  unfold zip2 at h
  dsimp only at h
  cases e1:cv p with
  | none=>rw[e1] at h;exact h.elim
  | some xs =>
   cases e2:cv q with
   | none=>rw[e1,e2] at h;exact h.elim
   | some ys=>rw[e1,e2] at h;exact⟨p,q,xs,ys,rfl,e1,e2,h⟩
theorem zH{f:Nat->PV}(h:i<n):((List.range n).map f)[i]?=some (f i):=by
 rw[List.getElem?_map,List.getElem?_range h];rfl
section
variable{E:XK}{a b l l1 l2:Expr}{pos p tp:Pos}{fs:af->M (List PV)}{g:TG}{set:PV->af->M af}{body:af->M Out}{bd:List Stmt}
end
def KO(Q:VK):Hp->Hp->List PV->Prop:=λHs H ps=>∀ vs p Np H',bZ Hs H Np H'->a_ Np ps vs->H' p=none->Q (.ref p) (upd H' p (.lst vs))
def tO(E:St->XK)(f:af->M (List PV)):TE:=fun σ H Q=>tG E f (KO Q) σ H
variable{px:Pos}
section
variable{E:XK}{pos:Pos}{fs:af->M (List PV)}{f:af->M PV}
def oH(i:Nat)(f:af->M (List PV)):af->M Out:=λenv=>(f env).bind λps=>M.ok (.nx (env.set i (some (.ow ps))))
theorem DN(hN:X.N.Nodup)(hi:X.N[i]?=some x)(hx:Loc X.env.scope x)(he:PE X e (tO (λ_=>E) fs))(hs:autoParam (swapsWith e (some (.Name x pos')) pos.line X.env=pure false) aR._auto_1)(hf:autoParam (X.fn x=true\/X.env.scope.names.lookup x=some .local) aF._auto_1) :
  PS X (.Assign [.Name x pos'] e pos) (tS E (oH i fs)):=by
 refine(t6 hN hi hx he hs hf).imp λD σ H q=>?_
 obtain⟨B,H₀,Hs,env,sr,q⟩:=q
 refine⟨B,H₀,Hs,env,sr,(aA.bind q).imp (λps hp vs p Np H' g r n=>?_) λe he=>he.grow sr.gr⟩
 exact hp _ Np _ ((sr.grow g).own r n)
def j7(fs:af->M (List PV)):af->M (List PV):=λenv=>(fs env).bind λps=>if ps.length<=sizeLine then M.ok ps else none
theorem Hu{E:St->XK}(hr:PA X es (tL E fs)):PE X (.List es pos) (tO E (j7 fs)):=by
 refine(p8 hr).imp fun σ H Q q=>?_
 obtain⟨B,H₀,Hs,env,sr,q⟩:=q
 refine⟨B,H₀,Hs,env,sr,(aA.bind q).imp (λps hp vs Np H' g r=>?_) λe he=>he⟩
 by_cases hz:ps.length<=sizeLine
 ·rw[if_pos hz] at hp
  exact⟨by rw[← r.length];exact hz,λp n=>hp vs p Np H' g r n⟩
 ·rw[if_neg hz] at hp;exact hp.elim
def lX(i:Nat)(f:af->M PV):af->M Out:=λenv=>match env[i]? with
 | some (some (.ow xs))=>(f env).bind λp=>if xs.length<sizeLine then M.ok (.nx (env.set i (some (.ow (xs++[p]))))) else none
 | _=>none
theorem SR.put{B:Hp}{env:af}{ys:List PV}{us:List V}(r:SR B H₀ Hs H σ env)(e:env[i]?=some (some (.ow xs)))(hi:σ[i]?=some (some (.ref a)))(h:a_ Hs ys us):SR B H₀ Hs (upd H a (.lst us)) σ (env.set i (some (.ow ys))):=by
 obtain⟨a',vs,h1,h2,h3,h4,h5⟩:=r.ow i xs e
 rw[hi] at h1;cases h1
 have nS:∀ c u,Hs c=some u->c≠a:=λc u q z=>by rw[z,h3] at q;cases q
 have n0:∀ c u,H₀ c=some u->c≠a:=λc u q z=>by rw[z,h4] at q;cases q
 refine⟨⟨r.gr.st,λc u q=>by rw[ar (n0 c u q)];exact r.gr.al c u q,λc u q=>by rw[ar (nS c u q)];exact r.gr.sub c u q,r.gr.nw⟩,by rw[List.length_set];exact r.len,λj q ej=>?_,λj zs ej=>?_,λj k y1 y2 b nj e1 e2 e3 e4=>?_,λj ba C fs ej=>?_,λj k _ _ C D fs gs e1 e2=>?_⟩
 ·rw[List.getElem?_set] at ej
  by_cases z:i=j
  ·subst z
   rw[if_pos rfl] at ej
   split at ej <;> cases ej
  ·rw[if_neg z] at ej;exact r.sh j q ej
 ·rw[List.getElem?_set] at ej
  by_cases z:i=j
  ·subst z
   rw[if_pos rfl] at ej
   split at ej
   ·cases ej;exact⟨a,us,hi,az,h3,h4,h⟩
   ·cases ej
  ·rw[if_neg z] at ej
   obtain⟨b,ws,q1,q2,q3,q4,q5⟩:=r.ow j zs ej
   have nb:b≠a:=λw=>by subst w;exact r.sep i j xs zs b z e ej hi q1
   exact⟨b,ws,q1,by rw[ar nb];exact q2,q3,q4,q5⟩
 ·have o1:∃ w,env[j]?=some (some (.ow w)):=by
   rw[List.getElem?_set] at e1
   by_cases z:i=j
   ·subst z;exact⟨xs,e⟩
   ·rw[if_neg z] at e1;exact⟨_,e1⟩
  have o2:∃ w,env[k]?=some (some (.ow w)):=by
   rw[List.getElem?_set] at e2
   by_cases z:i=k
   ·subst z;exact⟨xs,e⟩
   ·rw[if_neg z] at e2;exact⟨_,e2⟩
  obtain⟨w1,o1⟩:=o1
  obtain⟨w2,o2⟩:=o2
  exact r.sep j k w1 w2 b nj o1 o2 e3 e4
 ·rw[List.getElem?_set] at ej
  by_cases z:i=j
  ·subst z
   rw[if_pos rfl] at ej
   split at ej <;> cases ej
  ·rw[if_neg z] at ej
   obtain⟨dx,ws,q1,q2,q3,q4,q5⟩:=r.bd j ba C fs ej
   have nb:ba≠a:=λw=>by subst w;rw[h2] at q2;cases q2
   exact⟨dx,ws,q1,by rw[ar nb];exact q2,q3,q4,q5⟩
 ·rw[List.getElem?_set] at e1 e2
  by_cases z:i=j
  ·subst z
   rw[if_pos rfl] at e1
   split at e1 <;> cases e1
  ·by_cases z2:i=k
   ·subst z2
    rw[if_pos rfl] at e2
    split at e2 <;> cases e2
   ·rw[if_neg z] at e1
    rw[if_neg z2] at e2
    exact r.one j k _ _ C D fs gs e1 e2
theorem zR(hi:X.N[i]?=some x)(hv:DA X.env.scope x)(he:PE X e (tE (λ_=>E) f))(hd:autoParam ((x==("__debug__" : Str))=false) aD._auto_1)(OB:autoParam ((x==("__classdict__" : Str))=false) aD._auto_1)
  (PC:autoParam (attributeBase (.Name x px) "append" X.env (eval (.Name x px) X.env)=eval (.Name x px) X.env) aR._auto_1)
  (Qx:autoParam (((backTo NJ (starEach [e] X.env)).all (λx=>!x.1)&&(backToKw NJ (keywordEach [] X.env)).all (λx=>x.1.isSome)
   && decide (([e]:List Expr).length+([]:List Keyword).length+(if ([]:List Keyword).isEmpty then 0 else 1)<30))=true) aR._auto_1)
  (PM:autoParam ((apos.endLine==NJ.line)=true) aR._auto_1) (NL:autoParam (starEach [e] X.env=(false,eval e X.env)::starEach [] X.env) aR._auto_1) (Pb:autoParam ((backTo NJ (starEach [] X.env)).any (·.1)=false) aR._auto_1)
  (hs:autoParam (swapsWith (.Call (.Attribute (.Name x px) "append" apos) [e] [] NJ) none pos.line X.env=pure false) aR._auto_1) :
  PS X (.Expr (.Call (.Attribute (.Name x px) "append" apos) [e] [] NJ) pos) (tS E (lX i f)):=by
 refine(tX (F4 PySem.F.plainAttrs_list PySem.F.slot_list_append PySem.F.type_list_append nI (jS hi hv hd OB) (dX he jg NL) PC Qx PM NL Pb) hs).imp λD σ H q=>?_
 obtain⟨B,H₀,Hs,env,sr,q⟩:=q
 unfold lX at q
 split at q
 ·rename_i xs ex
  obtain⟨a,vs,h1,h2,h3,h4,h5⟩:=sr.ow i xs ex
  refine⟨.ref a,h1,.inl ⟨rfl,vs,hV.of h2⟩,B,H₀,Hs,env,sr,(aA.bind q).imp (λp hp v Np H' g r=>?_) λe he=>he.grow sr.gr⟩
  by_cases hz:xs.length<sizeLine
  ·rw[if_pos hz] at hp
   have O6:=sr.grow g
   have r5:a_ Np (xs++[p]) (vs++[v]):=(h5.mono g.st).snoc r
   exact⟨a,vs,v,rfl,rfl,g.al _ _ h2,by rw[← h5.length];exact hz,hp σ Np _ (O6.put ex h1 r5)⟩
  ·rw[if_neg hz] at hp;exact hp.elim
 ·exact q.elim
end
def Gy:Out->M PV
 | .rt p=>M.ok p
 | .nx _=>M.ok .cy
 | _=>none
def lP(m:Nat)(ps:List PV):af:=ps.map (λp=>some (.sh p))++List.replicate (m-ps.length) none
def aw(m:Nat)(g:af->M Out)(ps:List PV):M PV:=(g (lP m ps)).bind Gy
theorem SR.start{Hs H:Hp}{N:List Str}{ps:List PV}{vs:List V}(s:bC Hs H)(r:a_ Hs ps vs):SR Hs H Hs H (start N vs) (lP N.length ps) where
 gr:=.refl s
 len:=by unfold L2.start lP;simp[r.length]
 sh:=λi p e=>by
  unfold lP at e
  unfold L2.start
  by_cases hi:i<ps.length
  ·rw[List.getElem?_append_left (by simpa using hi),List.getElem?_map,List.getElem?_eq_getElem hi] at e
   cases e
   obtain⟨v,h1,h2⟩:=r.get (List.getElem?_eq_getElem hi)
   exact⟨v,by rw[List.getElem?_append_left (by simpa using (r.length▸hi)),List.getElem?_map,h1];rfl,h2⟩
  ·rw[List.getElem?_append_right (by simpa using hi),List.getElem?_replicate] at e
   split at e <;> cases e
 ow:=λi xs e=>by
  unfold lP at e
  by_cases hi:i<ps.length
  ·rw[List.getElem?_append_left (by simpa using hi),List.getElem?_map,List.getElem?_eq_getElem hi] at e
   cases e
  ·rw[List.getElem?_append_right (by simpa using hi),List.getElem?_replicate] at e
   split at e <;> cases e
 sep:=λi j xs ys a _ e=>by
  unfold lP at e
  by_cases hi:i<ps.length
  ·rw[List.getElem?_append_left (by simpa using hi),List.getElem?_map,List.getElem?_eq_getElem hi] at e
   cases e
  ·rw[List.getElem?_append_right (by simpa using hi),List.getElem?_replicate] at e
   split at e <;> cases e
 bd:=λi a C fs e=>by
  unfold lP at e
  by_cases hi:i<ps.length
  ·rw[List.getElem?_append_left (by simpa using hi),List.getElem?_map,List.getElem?_eq_getElem hi] at e
   cases e
  ·rw[List.getElem?_append_right (by simpa using hi),List.getElem?_replicate] at e
   split at e <;> cases e
 one:=λi j a b C D fs gs e=>by
  unfold lP at e
  by_cases hi:i<ps.length
  ·rw[List.getElem?_append_left (by simpa using hi),List.getElem?_map,List.getElem?_eq_getElem hi] at e
   cases e
  ·rw[List.getElem?_append_right (by simpa using hi),List.getElem?_replicate] at e
   split at e <;> cases e
theorem HA{K:PySem.W.Frag}{dV kV doc pm NF ct oc:Value}{an:Option Addr}{g:af->M Out}(lk:K.lookup f=some ⟨oc,od,.func (PySem.W.fnOf name qual params body scope dV kV doc pm an NF ct),P5⟩)(OB:PySem.W.codeIn K NF qual=true)(S:cL N ps scope)
  (hb:∀ (A:Around) (outer:List Env) (s:Shared) (H:Hp) (E:XK),cQ k (A.deeper (envOfC qual scope s.heap.objs.size f NF))->lY ((my (bX P w) P w K mg base N qual scope f NF A outer s H E).out λ_=>E) body (tS E g)) :
  aV P w K mg base (bX P w) (k+1) f (PySem.W.fnOf name qual params body scope dV kV doc pm an NF ct) ps (dy ps.length (aw N.length g)):=by
 refine wV lk OB S (λvs H Q E h=>h.1) λA outer s H vs Q E hr hs=>⟨_,hb A outer s H E hr,?_⟩
 obtain⟨_,Hs,O1,sm,r,h⟩:=hs
 refine⟨Hs,H,Hs,_,SR.start sm r,(aA.bind h).imp (λo ho=>?_) λe he=>he⟩
 cases o with
 | rt p=>exact λv Np H' gr rv=>ho v Np H' gr rv
 | nx env=>exact fun σ Np H' sr=>ho .cy Np H' sr.gr .cy
 | bk env=>exact ho.elim
 | ct env=>exact ho.elim
section
variable{E:XK}{pos p:Pos}{fs:af->M (List PV)}
def lU(C:Addr)(fs:af->M (List PV)):af->M Out:=λenv=>(fs env).bind λps=>cW (ps.length<=sizeLine) (some (.error (C,none)))
theorem Ai(O:fF X λ_=>E)(Nv:X.calm=true)(hc:PySem.W.excIn X.K C fz "ValueError.__new__" = true)(c:jb X.K C)(ht:PySem.W.typeIn X.K (.ref C)=some (.type "type"))(kp:PySem.W.keepIn X.K (.ref C)=true)(hg:Gl X x)(hm:X.mg x=some (.ref C))(ha:PA X (e::es) (tL (λ_=>E) fs))
  (Oh:autoParam ((x==("__debug__" : Str))=false) aD._auto_1) (he:autoParam (starEach (e::es) X.env=(false,eval e X.env)::starEach es X.env) aR._auto_1) (NO:autoParam ((backTo NJ (starEach es X.env)).any (·.1)=false) aR._auto_1) :
  PS X (.Raise (some (.Call (.Name x p) (e::es) [] NJ)) none pos) (tS E (lU C fs)):=by
 refine(vv O Nv (E_ hc kp hg hm ha Oh he NO)).imp λD σ H q=>pO q λB H₀ Hs H1 env O1 v sr rp hp=>?_
 obtain⟨hz,hp⟩:=aA.cW hp
 refine⟨by rw[← rp.length];exact hz,λa n=>⟨a,C,none,rfl,az,c,ht,?_⟩⟩
 rw[yD]
 exact hp a (upd Hs a (jV C none a)) _ (sr.gr.trans (bZ.new sr.gr.sub n)) (.Ae az)
def xi(K:PySem.W.Frag)(C:Addr)(fl:Str):Sp:=λvs H Q _=>∃ a y,vs=[.ref a,y]/\H a=some (lh C none a)/\∀ d,H d=none->d≠a->Q .cy (upd (upd H d (.xd [(fl,y)])) a (lh C (some d) a))
def ja(C:Addr)(fl:Str)(fs:af->M (List PV)):af->M Out:=λenv=>(fs env).bind λps=>match ps with
 | [p]=>some (.error (C,some [(fl,p)]))
 | _=>none
theorem zU{fl:Str}(O:fF X λ_=>E)(Nv:X.calm=true)(hc:pj X.K C "ValueError.__new__" f=true)(hf:PySem.W.isFn X.K (.ref f)=true)(c:jb X.K C)(ht:PySem.W.typeIn X.K (.ref C)=some (.type "type"))(kp:PySem.W.keepIn X.K (.ref C)=true)(F:aV X.prog X.w X.K X.mg X.base (bX X.prog X.w) k f fd ps (xi X.K C fl))(hr:cQ (k+1) X.A)(hb:Binds X.K fd ps [])
  (hg:Gl X x) (hm:X.mg x=some (.ref C)) (ha:PA X [e] (tL (λ_=>E) fs))
  (Oh:autoParam ((x==("__debug__" : Str))=false) aD._auto_1) (he:autoParam (starEach [e] X.env=(false,eval e X.env)::starEach [] X.env) aR._auto_1) (NO:autoParam ((backTo NJ (starEach [] X.env)).any (·.1)=false) aR._auto_1) :
  PS X (.Raise (some (.Call (.Name x p) [e] [] NJ)) none pos) (tS E (ja C fl fs)):=by
 refine(vv O Nv (Bh hc hf kp F hr hb hg hm ha Oh he NO)).imp λD σ H q=>pO q λB H₀ Hs H1 env O1 v sr rp hp=>?_
 match O1,rp,hp with
 | [],_,hp=>exact hp.elim
 | _::_::_,_,hp=>exact hp.elim
 | [y],rp,hp =>
  obtain⟨v,rfl,ry⟩:=rp.one
  refine⟨by show 1<=sizeLine;decide,λa n=>⟨a,v,rfl,az,λd hd hda=>⟨rfl,a,C,some d,rfl,az,c,ht,?_⟩⟩⟩
  rw[yD]
  have hd1:H1 d=none:=by rw[ar hda] at hd;exact hd
  have g1:=bZ.new (o:=.xd [(fl,v)]) sr.gr.sub hd1
  have Qj:upd H1 d (.xd [(fl,v)]) a=none:=by rw[ar (Ne.symm hda)];exact n
  have g2:=bZ.new (o:=jV C (some d) a) g1.sub Qj
  have hH:upd (upd (upd H1 a (lh C none a)) d (.xd [(fl,v)])) a (jV C (some d) a)=upd (upd H1 d (.xd [(fl,v)])) a (jV C (some d) a):=by
   funext b
   by_cases z:b=a
   ·subst z;rw[az,az]
   ·rw[ar z,ar z]
    by_cases z2:b=d
    ·subst z2;rw[az,az]
    ·rw[ar z2,ar z2,ar z]
  rw[hH]
  refine hp a (upd (upd Hs d (.xd [(fl,v)])) a (jV C (some d) a)) _ ((sr.gr.trans g1).trans g2) ?_
  exact .zC az (by rw[ar hda];exact az) (.cons ((ry.mono g1.st).mono g2.st) .nil)
theorem mB{K:PySem.W.Frag}{dV kV doc pm NF ct oc:Value}{an:Option Addr}{n0 n1 fl:Str}{p0 p1 p2 p3:Pos}(lk:K.lookup f=some ⟨oc,od,.func (PySem.W.fnOf name qual params [.Assign [.Attribute (.Name n0 p0) fl p1] (.Name n1 p2) p3] scope dV kV doc pm an NF ct),P5⟩)(OB:PySem.W.codeIn K NF qual=true)(S:cL [n0,n1] [n0,n1] scope)
  (c:jb K C) (ho:((PySem.W.clsIn K C).any λcd=>fX cd.mro)=true) (na:bM K C fl) (v0:DA scope n0) (v1:DA scope n1) (d0:(n0==("__debug__" : Str))=false) (d1:(n1==("__debug__" : Str))=false) (c0:(n0==("__classdict__" : Str))=false) (c1:(n1==("__classdict__" : Str))=false)
  (hs:∀ env,swapsWith (.Name n1 p2) (some (.Attribute (.Name n0 p0) fl p1)) p3.line env=pure false) :
  aV P w K mg base (bX P w) 1 f (PySem.W.fnOf name qual params [.Assign [.Attribute (.Name n0 p0) fl p1] (.Name n1 p2) p3] scope dV kV doc pm an NF ct) [n0,n1] (xi K C fl):=by
 refine wV (k:=0) lk OB S (λvs H Q E h=>by obtain⟨a,y,rfl,_⟩:=h;rfl) λA outer s H vs Q E hr h=>?_
 obtain⟨a,y,rfl,ha,hq⟩:=h
 refine⟨_,DI (Cd (jS (i:=0) rfl v0 d0 c0) (jS (i:=1) rfl v1 d1 c1) (hs _)),?_⟩
 exact⟨y,rfl,.ref a,rfl,a,C,rfl,ha,c,ho,na,hq⟩
end
structure ki (J:It) (NA:Hp) (xs:List PV):Prop where
 stop:∀ (i:Nat) (Hs H:Hp),bC NA Hs->bC Hs H->xs.length<=i->J.stop i H
 go:∀ (i:Nat) (Hs H:Hp),bC NA Hs->bC Hs H->i<xs.length->J.go i H
 uK:∀ (i:Nat) (Hs H:Hp) (x:V) (H2:Hp),bC NA Hs->bC Hs H->i<xs.length->J.uK i H x H2->∃ p Nx,xs[i]?=some p/\bZ Hs H Nx H2/\Rep Nx p x
def KI(R:It->Hp->Prop):Hp->Hp->List PV->Prop:=λHs H xs=>∀ J Np H',bZ Hs H Np H'->ki J Np xs->R J H'
def yL(E:St->XK)(wi:TI)(it:af->M (List PV)):Prop:=∀ (σ:St) (H:Hp) (R:It->Hp->Prop),tG E it (KI R) σ H->wi σ H R
theorem KI.g{R:It->Hp->Prop}:KG (KI R):=λHs H Np H' b k g J Nx H2 g2 o=>k J Nx H2 (g.trans g2) o
section
variable{K:PySem.W.Frag}{f:af->M PV}{fs:af->M (List PV)}
theorem Ce(hq:∀ Np H',bC NA Np->bC Np H'->k_ K H' b a vs)(hr:a_ NA xs vs):ki (Ln K b a) NA xs where
 stop:=λi Hs H s1 s2 hi=>by
  have q:=hq Hs H s1 s2
  cases b with
  | true=>exact⟨vs,q,by rw[← hr.length];exact hi⟩
  | false=>exact⟨vs,q,by rw[← hr.length];exact hi⟩
 go:=λi Hs H s1 s2 hi=>by
  have q:=hq Hs H s1 s2
  obtain⟨v,e,_⟩:=hr.get (List.getElem?_eq_getElem hi)
  cases b with
  | true=>exact⟨vs,v,q,e⟩
  | false=>exact⟨vs,v,q,e⟩
 uK:=λi Hs H x H2 s1 s2 hi y=>by
  have q:=hq Hs H s1 s2
  obtain⟨v,e,r⟩:=hr.get (List.getElem?_eq_getElem hi)
  have z:H2=H/\vs[i]?=some x:=by
   cases b with
   | true=>exact⟨y.1,y.2 vs q⟩
   | false=>exact⟨y.1,y.2 vs q⟩
  obtain⟨rfl,z⟩:=z
  rw[e] at z;cases z
  exact⟨xs[i],Hs,List.getElem?_eq_getElem hi,.refl s2,r.mono s1⟩
theorem cn:yL E (J5 K (tE E f)) (itemsOf f):=by
 intro σ H R q
 refine cO (K:=KI R) KI.g q λB H₀ Hs H1 env p v sr rp hp=>?_
 cases e:cv p with
 | none=>rw[e] at hp;exact hp.elim
 | some xs =>
  rw[e] at hp
  obtain⟨b,a,vs,rfl,hq,hr⟩:=kY (K:=K) sr.gr.sub rp e
  exact⟨b,a,rfl,⟨vs,hq Hs H1 (λ_ _ z=>z) sr.gr.sub⟩,hp (Ln K b a) Hs H1 (.refl sr.gr.sub) (Ce hq hr)⟩
def jh(o:List PV->M (List PV))(fs:af->M (List PV)):af->M (List PV):=λenv=>(fs env).bind o
theorem wq{lo:Int}:ki (Jz lo n) NA ((List.range n).map λ(i:Nat)=>PV.int (lo+(i:Int))) where
 stop:=λi Hs H s1 s2 hi=>show n<=i by simpa using hi
 go:=λi Hs H s1 s2 hi=>show i<n by simpa using hi
 uK:=λi Hs H x H2 s1 s2 hi y=>by
  obtain⟨rfl,rfl⟩:=y
  exact⟨_,Hs,zH (by simpa using hi),.refl s2,.int _⟩
theorem aL(x:M α):x.bind M.ok=x:=by
 cases x with
 | none=>rfl
 | some x=>cases x <;> rfl
theorem iu:yL E (FX (tL E fs)) (jh pN fs):=by
 intro σ H R q
 refine dH (K:=KI R) KI.g q λB H₀ Hs H1 env ps v sr rp hp=>?_
 rw[← aL (pN ps)] at hp
 obtain⟨n,rfl,h1,h2,hp⟩:=zr hp
 obtain⟨w,rfl,OX⟩:=rp.one
 cases OX
 exact⟨n,rfl,h1,h2,hp _ Hs H1 (.refl sr.gr.sub) wq⟩
theorem CN:yL E (FP (tL E fs)) (jh zo fs):=by
 intro σ H R q
 refine dH (K:=KI R) KI.g q λB H₀ Hs H1 env ps v sr rp hp=>?_
 rw[← aL (zo ps)] at hp
 obtain⟨n,m,rfl,h1,hp⟩:=zY hp
 obtain⟨w,u,rfl,OX,ru⟩:=rp.two
 cases OX
 cases ru
 exact⟨n,m,rfl,h1,hp _ Hs H1 (.refl sr.gr.sub) wq⟩
theorem Bq{ys:List PV}(h1:i<xs.length)(h2:i<ys.length):(List.zipWith (λa b=>PV.tup [a,b]) xs ys)[i]?=some (.tup [xs[i],ys[i]]):=by
 rw[List.getElem?_zipWith,List.getElem?_eq_getElem h1,List.getElem?_eq_getElem h2]
theorem Bs{b1 b2:Bool}{a1 a2:Addr}{ys:List PV}{us:List V}(N2:∀ Np H',bC NA Np->bC Np H'->k_ K H' b1 a1 vs)(PN:a_ NA xs vs)(NU:∀ Np H',bC NA Np->bC Np H'->k_ K H' b2 a2 us)(PQ:a_ NA ys us) :
  ki (Lk K b1 b2 a1 a2) NA (List.zipWith (λa b=>PV.tup [a,b]) xs ys) where
 stop:=λi Hs H s1 s2 hi=>by
  rw[List.length_zipWith,PN.length,PQ.length] at hi
  exact⟨vs,us,N2 Hs H s1 s2,NU Hs H s1 s2,by omega⟩
 go:=λi Hs H s1 s2 hi=>by
  rw[List.length_zipWith] at hi
  obtain⟨v,e,_⟩:=PN.get (List.getElem?_eq_getElem (show i<xs.length by omega))
  obtain⟨u,e',_⟩:=PQ.get (List.getElem?_eq_getElem (show i<ys.length by omega))
  exact⟨vs,us,v,u,N2 Hs H s1 s2,NU Hs H s1 s2,e,e'⟩
 uK:=λi Hs H x H2 s1 s2 hi y=>by
  rw[List.length_zipWith] at hi
  have l1:i<xs.length:=by omega
  have l2:i<ys.length:=by omega
  obtain⟨v,e,r⟩:=PN.get (List.getElem?_eq_getElem l1)
  obtain⟨u,e',r'⟩:=PQ.get (List.getElem?_eq_getElem l2)
  obtain⟨pa,v',u',hn,rfl,rfl,y1,y2⟩:=y
  have z1:=y1 vs (N2 Hs H s1 s2)
  have z2:=y2 us (NU Hs H s1 s2)
  rw[e] at z1;cases z1
  rw[e'] at z2;cases z2
  have gr:=bZ.new (o:=.tup [v,u]) s2 hn
  exact⟨_,_,Bq l1 l2,gr,.tup az (.cons ((r.mono s1).mono gr.st) (.cons ((r'.mono s1).mono gr.st) .nil))⟩
theorem fW:yL E (JW K (tL E fs)) (jh zip2 fs):=by
 intro σ H R q
 refine dH (K:=KI R) KI.g q λB H₀ Hs H1 env ps v sr rp hp=>?_
 rw[← aL (zip2 ps)] at hp
 obtain⟨p,q,xs,ys,rfl,e1,e2,hp⟩:=zL hp
 obtain⟨w,u,rfl,OX,ru⟩:=rp.two
 obtain⟨b1,a1,vs,rfl,N2,PN⟩:=kY (K:=K) sr.gr.sub OX e1
 obtain⟨b2,a2,us,rfl,NU,PQ⟩:=kY (K:=K) sr.gr.sub ru e2
 exact⟨b1,b2,a1,a2,rfl,⟨vs,N2 Hs H1 (λ_ _ z=>z) sr.gr.sub⟩,⟨us,NU Hs H1 (λ_ _ z=>z) sr.gr.sub⟩,hp _ Hs H1 (.refl sr.gr.sub) (Bs N2 PN NU PQ)⟩
end
theorem bO{E:XK}{pos:Pos}{g:TG}{set:PV->af->M af}{body:af->M Out}{bd:List Stmt}{wi:TI}{it:af->M (List PV)}(O:fF X λ_=>E)(hc:X.calm=true)(hi:PI X tg iter wi)(hv:yL (λ_=>E) wi it)(hg:PG X tg g)(P8:Dy E g set)(hb:lY X bd (tS E body))(hs:autoParam (∀ x,foldedSetIterable iter X.env x=pure x) aI._auto_1) :
  PS X (.For tg iter bd [] pos) (tS E (g8 it set body)):=by
 refine(BM O.own hc hi hg hb hs).imp λD σ H q=>hv σ H _ ?_
 obtain⟨B,H₀,Hs,env,sr,q⟩:=q
 refine⟨B,H₀,Hs,env,sr,(aA.bind q).imp (λxs hp J Np H' gr ok=>?_) λe he=>he.grow sr.gr⟩
 have O6:=sr.grow gr
 refine⟨λi m σ H=>m=xs.length-i/\i<=xs.length/\Jv E set body D B H₀ Np xs i σ H,⟨xs.length,by simp,Nat.zero_le _,Np,env,O6,λ_ _ z=>z,hp⟩,?_⟩
 rintro i m σ' H2 ⟨rfl,hi,Nx,env2,N0,s2,h2⟩
 by_cases Oa:i<xs.length
 ·refine .inr ⟨ok.go i Nx H2 s2 N0.gr.sub Oa,Jv E set body D B H₀ Np xs (i+1),fun σ3 H3 j=>⟨xs.length-(i+1),by omega,rfl,Oa,j⟩,λx H3 y=>?_⟩
  obtain⟨p,OO,ep,g3,r3⟩:=ok.uK i Nx H2 x H3 s2 N0.gr.sub Oa y
  exact Jv.turn (Hx:=H2) (H1:=H2) P8 ep N0 s2 h2 g3 r3
 ·have e:i=xs.length:=by omega
  refine .inl ⟨ok.stop i Nx H2 s2 N0.gr.sub (by omega),?_⟩
  exact Jv.done (E:=E) (set:=set) (body:=body) (xs:=xs) (B:=B) (H₀:=H₀) (NA:=Np) (n:=i) ⟨Nx,env2,N0,s2,h2⟩ (by omega)
abbrev EF:St->XK:=λ_ _ _ _=>False
def j_(env:af):Prop:=∀ (i:Nat) (x:SV),env[i]?=some (some x)->∃ p,x=.sh p
theorem j_.ow{env:af}(n:j_ env){i:Nat}{xs:List PV}(e:env[i]?=some (some (.ow xs))):False:=by obtain⟨p,z⟩:=n i _ e;cases z
theorem j_.bd{env:af}(n:j_ env){i:Nat}{a C:Addr}{fs:List (Str×PV)}(e:env[i]?=some (some (.bd a C fs))):False:=by obtain⟨p,z⟩:=n i _ e;cases z
def Ji:M α->M α
 | some (.ok a)=>some (.ok a)
 | _=>none
theorem aA.Ji{α:Type}{x:M α}{Q:α->Prop}{E:EX->Prop}(h:aA (L2.Ji x) Q E):aA x Q (λ_=>False):=by
 cases x with
 | none=>exact h
 | some x=>cases x with
  | ok a=>exact h
  | error e=>exact h
def lQ(n:Nat)(js:List Nat)(env:af):af:=List.replicate n none++js.map λj=>match env[j]? with
 | some (some (.sh p))=>some (.sh p)
 | _=>none
theorem sD{env:af}{x:SV}(h:(lQ n js env)[i]?=some (some x)):∃ j p,n<=i/\js[i-n]?=some j/\env[j]?=some (some (.sh p))/\x=.sh p:=by
 unfold lQ at h
 by_cases hi:i<n
 ·rw[List.getElem?_append_left (by simpa using hi),List.getElem?_replicate] at h
  split at h <;> cases h
 ·rw[List.getElem?_append_right (by simpa using hi),List.getElem?_map,List.length_replicate] at h
  cases hj:js[i-n]? with
  | none=>rw[hj] at h;cases h
  | some j =>
   rw[hj] at h
   have h':(match env[j]? with | some (some (.sh p))=>some (SV.sh p) | _=>none)=some x:=Option.some.inj h
   split at h'
   ·rename_i p e
    cases h'
    exact⟨j,p,by omega,rfl,e,rfl⟩
   ·cases h'
theorem fE{env:af}:j_ (lQ n js env):=λi xs e=>by
 obtain⟨_,p,_,_,_,z⟩:=sD e
 exact⟨p,z⟩
variable{D:Addr}
theorem SR.block{B:Hp}{env:af}(r:SR B H₀ Hs H σ env)(hD:H D=none):SR Hs H Hs (upd H D (.lst [])) (fJ ts js σ) (lQ ts.length js env) where
 gr:=by
  have ne:∀ c u,H c=some u->c≠D:=λc u q z=>by rw[z,hD] at q;cases q
  exact⟨λ_ _ e=>e,λc u e=>by rw[ar (ne c u e)];exact e,λc u e=>by rw[ar (ne c u (r.gr.sub c u e))];exact r.gr.sub c u e,λ_ _ e _=>e⟩
 len:=by unfold fJ lQ;simp
 sh:=λi p e=>by
  obtain⟨j,q,hn,hj,he,z⟩:=sD e
  cases z
  obtain⟨v,h1,h2⟩:=r.sh j p he
  refine⟨v,?_,h2⟩
  unfold fJ
  rw[List.getElem?_append_right (by simpa using hn),List.getElem?_map,List.length_map,hj]
  show some (σ[j]?).join=_
  rw[h1];rfl
 ow:=λi xs e=>(fE.ow e).elim
 sep:=λi j xs ys a _ e=>(fE.ow e).elim
 bd:=λi a C fs e=>(fE.bd e).elim
 one:=λi j a b C D fs gs e=>(fE.bd e).elim
theorem SR.mS{B:Hp}{env:af}{o:HO}(r:SR B H₀ Hs H σ env)(n:j_ env)(h1:Hs D=none)(h2:H₀ D=none):SR B H₀ Hs (upd H D o) σ env where
 gr:=⟨r.gr.st,λc u q=>by rw[ar (λz=>by rw[z,h2] at q;cases q)];exact r.gr.al c u q,λc u q=>by rw[ar (λz=>by rw[z,h1] at q;cases q)];exact r.gr.sub c u q,r.gr.nw⟩
 len:=r.len
 sh:=r.sh
 ow:=λi xs e=>(n.ow e).elim
 sep:=λi j xs ys a _ e=>(n.ow e).elim
 bd:=λi a C fs e=>(n.bd e).elim
 one:=λi j a b C D fs gs e=>(n.bd e).elim
def bI(set:PV->af->M af)(t:Option (af->M Bool))(f:af->M PV):List PV->af->M (List PV)
 | [],_=>M.ok []
 | x::xs,env=>(set x env).bind λe=>match t with
  | none=>(f e).bind λy=>(bI set t f xs e).bind λys=>M.ok (y::ys)
  | some t'=>(t' e).bind λb=>if b=true then (f e).bind λy=>(bI set t f xs e).bind λys=>M.ok (y::ys) else bI set t f xs e
def bR(it:af->M (List PV))(set:PV->af->M af)(t:Option (af->M Bool))(f:af->M PV)(n:Nat)(js:List Nat):af->M (List PV):=λenv=>(it env).bind λxs=>cW (xs.length<=sizeLine) (Ji (bI set t f xs (lQ n js env)))
def nY(set:PV->af->M af):Prop:=∀ p env e,set p env=some (.ok e)->j_ env->j_ e
theorem jF{env:af}(n:j_ env):j_ (env.set i (some (.sh p))):=λj xs e=>by
 rw[List.getElem?_set] at e
 by_cases z:i=j
 ·rw[if_pos z] at e
  split at e
  ·cases e;exact⟨p,rfl⟩
  ·cases e
 ·rw[if_neg z] at e;exact n j xs e
theorem bH:nY (bQ i):=λp env e h n=>by
 cases h
 exact jF n
theorem bW:nY (bA i j):=λp env e h n=>by
 unfold bA at h
 split at h
 ·cases h;exact jF (jF n)
 ·cases h
section
variable{set:PV->af->M af}{t:Option (af->M Bool)}{f:af->M PV}{Q:VK}{H1:Hp}
def Jc(set:PV->af->M af)(t:Option (af->M Bool))(f:af->M PV)(Q:VK)(NA H1:Hp)(D:Addr)(xs:List PV)(i:Nat)(σ:St)(H:Hp):Prop:=∃ Hs env ys vs,SR NA H1 Hs H σ env/\j_ env/\H D=some (.lst vs)/\Hs D=none/\a_ Hs ys vs/\ys.length<=i ∧
 aA (bI set t f (xs.drop i) env) (λzs=>KO Q NA H1 (ys++zs)) (λ_=>False)
def rem(H:Hp)(D:Addr):Hp:=λa=>if a=D then none else H a
theorem A7:rem H D D=none:=by unfold rem;rw[if_pos rfl]
theorem xG(n:a≠D):rem H D a=H a:=by unfold rem;rw[if_neg n]
theorem EJ{o:HO}(h:H D=some o):upd (rem H D) D o=H:=by
 funext a
 by_cases z:a=D
 ·subst z;rw[az,h]
 ·rw[ar z,xG z]
theorem Jc.done(hD:H1 D=none)(j:Jc set t f Q NA H1 D xs i σ H)(hi:xs.length<=i):Q (.ref D) H:=by
 obtain⟨Hs,env,ys,vs,sr,n,h1,h2,r,_,h⟩:=j
 rw[List.drop_eq_nil_of_le hi] at h
 have h':KO Q NA H1 (ys++[]):=h
 rw[List.append_nil] at h'
 have gr:bZ NA H1 Hs (rem H D):=by
  refine⟨sr.gr.st,λc u q=>?_,λc u q=>?_,sr.gr.nw⟩
  ·rw[xG (λz=>by rw[z,hD] at q;cases q)];exact sr.gr.al c u q
  ·rw[xG (λz=>by rw[z,h2] at q;cases q)];exact sr.gr.sub c u q
 have:=h' vs D Hs (rem H D) gr r A7
 rw[EJ h1] at this
 exact this
theorem Jc.put{env:af}{ys:List PV}{y:PV}(hD:H1 D=none)(sr:SR NA H1 Hs H σ env)(n:j_ env)(h1:H D=some (.lst vs))(h2:Hs D=none)(r:a_ Hs ys vs)(hy:ys.length<=i)(hi:i<sizeLine)(rv:Rep Hs y v)
  (h:aA ((bI set t f (xs.drop (i+1)) env).bind λzs=>M.ok (y::zs)) (λzs=>KO Q NA H1 (ys++zs)) (λ_=>False)) :
  ∃ us,H D=some (.lst us)/\us.length<sizeLine/\Jc set t f Q NA H1 D xs (i+1) σ (upd H D (.lst (us++[v]))):=by
 refine⟨vs,h1,by rw[← r.length];omega,Hs,env,ys++[y],vs++[v],sr.mS n h2 hD,n,az,h2,r.snoc rv,by rw[List.length_append];show ys.length+1<=i+1;omega,(aA.bind h).imp (λzs hz=>?_) λ_ z=>z⟩
 have Px:KO Q NA H1 (ys++(y::zs)):=hz
 rw[List.append_assoc]
 exact Px
end
section
variable{cl:List (Str×Addr)}{pos:Pos}{wi:TI}{it:af->M (List PV)}{g:TG}{set:PV->af->M af}{f:af->M PV}{u:af->M Bool}{fs:List Str}
theorem yR{s₀:Shared}{ex:List Addr}:fF (qE X scope cl N C s₀ H₀ ex Ni) EF where
 pass:=λ_ _ _ _ _ _ _ h=>by
  obtain⟨_,_,_,_,_,_,_,_,_,_,_,_,_,z⟩:=h
  exact z.elim
 new:=λ_ _ _ _ _ _ _ _ _ z=>z.elim
 own:=PassesOwn.never
theorem vR{Q:VK}(hv:yL E wi it)(P8:∀ E,Dy E g set)(so:nY set)(q:tO E (bR it set none f ts.length js) σ H Q):wX wi g (tE EF f) ts js σ H Q:=by
 refine hv σ H _ ?_
 obtain⟨B,H₀,Hs,env,sr,q⟩:=q
 refine⟨B,H₀,Hs,env,sr,(aA.bind q).imp (λxs hp J NA H1 gr ok D hD=>?_) λe he=>he⟩
 obtain⟨hz,hp⟩:=aA.cW hp
 have hp:=aA.Ji hp
 have QI:=sr.grow gr
 refine⟨λi m σ H=>m=xs.length-i/\i<=xs.length/\Jc set none f Q NA H1 D xs i σ H,⟨xs.length,by simp,Nat.zero_le _,NA,_,[],[],QI.block hD,fE,az,?_,.nil,Nat.le_refl _,hp.imp (λzs hz vs p Nx H2 g2 r n=>hz vs p Nx H2 (gr.trans g2) r n) λ_ z=>z⟩,?_⟩
 ·cases z:NA D with
  | none=>rfl
  | some o=>have:=gr.sub _ _ z;rw[hD] at this;cases this
 rintro i m σ' H2 ⟨rfl,hi,Nx,env2,ys,vs,N0,n2,d1,d2,r2,l2,h2⟩
 by_cases Oa:i<xs.length
 ·refine .inr ⟨ok.go i Nx H2 N0.gr.st N0.gr.sub Oa,Jc set none f Q NA H1 D xs (i+1),fun σ3 H3 j=>⟨xs.length-(i+1),by omega,rfl,Oa,j⟩,λx H3 y=>?_⟩
  obtain⟨p,OO,ep,g3,r3⟩:=ok.uK i Nx H2 x H3 N0.gr.st N0.gr.sub Oa y
  have hd:xs.drop i=p::xs.drop (i+1):=by
   rw[List.drop_eq_getElem_cons Oa]
   rw[List.getElem?_eq_getElem Oa] at ep
   rw[Option.some.inj ep]
  rw[hd] at h2
  have h3:=aA.bind h2
  have Pf:=N0.grow g3
  refine P8 (λ_ _ _=>False) NA H1 OO H3 σ' env2 p x _ (λ_=>False) Pf r3 ?_
  cases hset:set p env2 with
  | none=>rw[hset] at h3;exact h3
  | some z=>cases z with
   | error e=>rw[hset] at h3;exact h3
   | ok e3 =>
    rw[hset] at h3
    intro σ4 sr4
    have n4:=so p env2 e3 hset n2
    refine⟨NA,H1,OO,e3,sr4,(aA.bind h3).imp (λy hy v Py H5 g5 r5=>?_) λ_ z=>z.elim⟩
    exact Jc.put (set:=set) (t:=none) (f:=f) hD (sr4.grow g5) n4 (g5.al _ _ (g3.al _ _ d1)) (g5.nw _ _ (g3.nw _ _ d2 d1) (g3.al _ _ d1)) ((r2.mono g3.st).mono g5.st) l2 (by omega) r5 hy
 ·refine .inl ⟨ok.stop i Nx H2 N0.gr.st N0.gr.sub (by omega),?_⟩
  exact Jc.done (set:=set) (t:=none) (f:=f) (xs:=xs) (NA:=NA) (H1:=H1) (i:=i) hD ⟨Nx,env2,ys,vs,N0,n2,d1,d2,r2,l2,h2⟩ (by omega)
theorem Bm{Q:VK}(hv:yL E wi it)(P8:∀ E,Dy E g set)(so:nY set)(q:tO E (bR it set (some u) f ts.length js) σ H Q):Ca wi g (tT EF u) (tE EF f) ts js σ H Q:=by
 refine hv σ H _ ?_
 obtain⟨B,H₀,Hs,env,sr,q⟩:=q
 refine⟨B,H₀,Hs,env,sr,(aA.bind q).imp (λxs hp J NA H1 gr ok D hD=>?_) λe he=>he⟩
 obtain⟨hz,hp⟩:=aA.cW hp
 have hp:=aA.Ji hp
 have QI:=sr.grow gr
 refine⟨λi m σ H=>m=xs.length-i/\i<=xs.length/\Jc set (some u) f Q NA H1 D xs i σ H,⟨xs.length,by simp,Nat.zero_le _,NA,_,[],[],QI.block hD,fE,az,?_,.nil,Nat.le_refl _,hp.imp (λzs hz vs p Nx H2 g2 r n=>hz vs p Nx H2 (gr.trans g2) r n) λ_ z=>z⟩,?_⟩
 ·cases z:NA D with
  | none=>rfl
  | some o=>have:=gr.sub _ _ z;rw[hD] at this;cases this
 rintro i m σ' H2 ⟨rfl,hi,Nx,env2,ys,vs,N0,n2,d1,d2,r2,l2,h2⟩
 by_cases Oa:i<xs.length
 ·refine .inr ⟨ok.go i Nx H2 N0.gr.st N0.gr.sub Oa,Jc set (some u) f Q NA H1 D xs (i+1),fun σ3 H3 j=>⟨xs.length-(i+1),by omega,rfl,Oa,j⟩,λx H3 y=>?_⟩
  obtain⟨p,OO,ep,g3,r3⟩:=ok.uK i Nx H2 x H3 N0.gr.st N0.gr.sub Oa y
  have hd:xs.drop i=p::xs.drop (i+1):=by
   rw[List.drop_eq_getElem_cons Oa]
   rw[List.getElem?_eq_getElem Oa] at ep
   rw[Option.some.inj ep]
  rw[hd] at h2
  have h3:=aA.bind h2
  have Pf:=N0.grow g3
  refine P8 (λ_ _ _=>False) NA H1 OO H3 σ' env2 p x _ (λ_=>False) Pf r3 ?_
  cases hset:set p env2 with
  | none=>rw[hset] at h3;exact h3
  | some z=>cases z with
   | error e=>rw[hset] at h3;exact h3
   | ok e3 =>
    rw[hset] at h3
    intro σ4 sr4
    have n4:=so p env2 e3 hset n2
    refine⟨NA,H1,OO,e3,sr4,(aA.bind h3).imp (λb hb Py H5 g5=>?_) λ_ z=>z.elim⟩
    have d5:=g5.al _ _ (g3.al _ _ d1)
    have e5:=g5.nw _ _ (g3.nw _ _ d2 d1) (g3.al _ _ d1)
    cases b with
    | true =>
     refine⟨NA,H1,Py,e3,sr4.grow g5,(aA.bind hb).imp (λy hy v Hs6 H6 g6 r6=>?_) λ_ z=>z.elim⟩
     exact Jc.put (set:=set) (t:=some u) (f:=f) hD ((sr4.grow g5).grow g6) n4 (g6.al _ _ d5) (g6.nw _ _ e5 d5) (((r2.mono g3.st).mono g5.st).mono g6.st) l2 (by omega) r6 hy
    | false=>exact⟨Py,e3,ys,vs,sr4.grow g5,n4,d5,e5,(r2.mono g3.st).mono g5.st,by omega,hb⟩
 ·refine .inl ⟨ok.stop i Nx H2 N0.gr.st N0.gr.sub (by omega),?_⟩
  exact Jc.done (set:=set) (t:=some u) (f:=f) (xs:=xs) (NA:=NA) (H1:=H1) (i:=i) hD ⟨Nx,env2,ys,vs,N0,n2,d1,d2,r2,l2,h2⟩ (by omega)
theorem bG(Nv:X.calm=true)
  (NM:closureFor scope X.env=pure cl) (hk:scope.kind=.function) (nc:gz scope.names=true) (lo:iI scope.names=true) (fh:iT cl scope.names=true) (ag:eV X cl) (fr:jj X scope cl fs js)
  (hi:PI X tg iter wi) (hv:yL E wi it) (hg:∀ C s₀ H₀ ex Ni,PG (qE X scope cl (ts++fs) C s₀ H₀ ex Ni) tg g) (P8:∀ E,Dy E g set) (so:nY set) (he:∀ C s₀ H₀ ex Ni,PE (qE X scope cl (ts++fs) C s₀ H₀ ex Ni) elt (tE EF f))
  (hs:autoParam (∀ x,foldedSetIterable iter X.env x=pure x) aI._auto_1):PE X (.ListComp elt [⟨tg,iter,[],0⟩] scope pos) (tO E (bR it set none f ts.length js)):=by
 exact(B8 Nv NM hk nc lo fh ag fr hi hg he hs).imp fun σ H Q q=>vR hv P8 so q
theorem A8(Nv:X.calm=true)
  (NM:closureFor scope X.env=pure cl) (hk:scope.kind=.function) (nc:gz scope.names=true) (lo:iI scope.names=true) (fh:iT cl scope.names=true) (ag:eV X cl) (fr:jj X scope cl fs js)
  (hi:PI X tg iter wi) (hv:yL E wi it) (hg:∀ C s₀ H₀ ex Ni,PG (qE X scope cl (ts++fs) C s₀ H₀ ex Ni) tg g) (P8:∀ E,Dy E g set) (so:nY set) (ht:∀ C s₀ H₀ ex Ni,PT (qE X scope cl (ts++fs) C s₀ H₀ ex Ni) c (tT EF u)) (he:∀ C s₀ H₀ ex Ni,PE (qE X scope cl (ts++fs) C s₀ H₀ ex Ni) elt (tE EF f))
  (hs:autoParam (∀ x,foldedSetIterable iter X.env x=pure x) aI._auto_1):PE X (.ListComp elt [⟨tg,iter,[c],0⟩] scope pos) (tO E (bR it set (some u) f ts.length js)):=by
 exact(Bu Nv NM hk nc lo fh ag fr hi hg ht he hs).imp fun σ H Q q=>Bm hv P8 so q
def ck(fo:af->M (List PV)):af->M PV:=λenv=>(fo env).bind λps=>M.ok (.lst ps)
theorem cH{fo:af->M (List PV)}(he:PE X e (tO E fo)):PE X e (tE E (ck fo)):=he.imp fun σ H Q q=>by
 obtain⟨B,H₀,Hs,env,sr,q⟩:=q
 refine⟨B,H₀,Hs,env,sr,(aA.bind q).imp (λps hp vs p Np H' g r n=>?_) λe he=>he⟩
 have gn:=bZ.new (o:=.lst vs) g.sub n
 exact hp _ _ _ (g.trans gn) (.lst az (r.mono gn.st))
end
def ue(f:Str)(v:PV):List (Str×PV)->List (Str×PV)
 | []=>[(f,v)]
 | (g,x)::r=>if g=f then (g,v)::r else (g,x)::ue f v r
theorem ji.put{H:Hp}{f:Str}{p:PV}{v:V}(h:Rep H p v):∀ {fs:List (Str×PV)} {vs:List (Str×V)},ji H fs vs->ji H (ue f p fs) (kc f v vs)
 | _,_,.nil=>.cons h .nil
 | (g,x)::r,_,.cons hx hr=>by
  unfold ue kc
  by_cases z:g=f
  ·rw[if_pos z,if_pos z];exact .cons h hr
  ·rw[if_neg z,if_neg z];exact .cons hx (hr.put h)
theorem ji.length{H:Hp}:∀ {fs:List (Str×PV)} {vs:List (Str×V)},ji H fs vs->fs.length=vs.length
 | _,_,.nil=>rfl
 | _,_,.cons _ r=>by simp[r.length]
theorem SR.L9{B:Hp}{env:af}{dx:Addr}{fs gs:List (Str×PV)}{us:List (Str×V)}(r:SR B H₀ Hs H σ env)(e:env[i]?=some (some (.bd a C fs)))(h:ji Hs gs us):SR B H₀ Hs (upd H a (.ins C dx us)) σ (env.set i (some (.bd a C gs))):=by
 obtain⟨dx0,vs,h1,h2,h3,h4,h5⟩:=r.bd i a C fs e
 have nS:∀ c u,Hs c=some u->c≠a:=λc u q z=>by rw[z,h3] at q;cases q
 have n0:∀ c u,H₀ c=some u->c≠a:=λc u q z=>by rw[z,h4] at q;cases q
 refine⟨⟨r.gr.st,λc u q=>by rw[ar (n0 c u q)];exact r.gr.al c u q,λc u q=>by rw[ar (nS c u q)];exact r.gr.sub c u q,r.gr.nw⟩,by rw[List.length_set];exact r.len,λj q ej=>?_,λj zs ej=>?_,λj k y1 y2 b nj e1 e2 e3 e4=>?_,λj ba D Qq ej=>?_,λj k _ _ C' D Qq gs' e1 e2=>?_⟩
 ·rw[List.getElem?_set] at ej
  by_cases z:i=j
  ·subst z
   rw[if_pos rfl] at ej
   split at ej <;> cases ej
  ·rw[if_neg z] at ej;exact r.sh j q ej
 ·rw[List.getElem?_set] at ej
  by_cases z:i=j
  ·subst z
   rw[if_pos rfl] at ej
   split at ej <;> cases ej
  ·rw[if_neg z] at ej
   obtain⟨b,ws,q1,q2,q3,q4,q5⟩:=r.ow j zs ej
   have nb:b≠a:=λw=>by subst w;rw[h2] at q2;cases q2
   exact⟨b,ws,q1,by rw[ar nb];exact q2,q3,q4,q5⟩
 ·rw[List.getElem?_set] at e1 e2
  by_cases z:i=j
  ·subst z
   rw[if_pos rfl] at e1
   split at e1 <;> cases e1
  ·by_cases z2:i=k
   ·subst z2
    rw[if_pos rfl] at e2
    split at e2 <;> cases e2
   ·rw[if_neg z] at e1
    rw[if_neg z2] at e2
    exact r.sep j k y1 y2 b nj e1 e2 e3 e4
 ·rw[List.getElem?_set] at ej
  by_cases z:i=j
  ·subst z
   rw[if_pos rfl] at ej
   split at ej
   ·cases ej;exact⟨dx,us,h1,az,h3,h4,h⟩
   ·cases ej
  ·rw[if_neg z] at ej
   exact absurd (r.one i j _ _ _ _ _ _ e ej) z
 ·have o1:∃ b D w,env[j]?=some (some (.bd b D w)):=by
   rw[List.getElem?_set] at e1
   by_cases z:i=j
   ·subst z;exact⟨_,_,_,e⟩
   ·rw[if_neg z] at e1;exact⟨_,_,_,e1⟩
  have o2:∃ b D w,env[k]?=some (some (.bd b D w)):=by
   rw[List.getElem?_set] at e2
   by_cases z:i=k
   ·subst z;exact⟨_,_,_,e⟩
   ·rw[if_neg z] at e2;exact⟨_,_,_,e2⟩
  obtain⟨_,_,w1,o1⟩:=o1
  obtain⟨_,_,w2,o2⟩:=o2
  exact r.one j k _ _ _ _ _ _ o1 o2
def B5(i:Nat)(C:Addr)(f:Str)(p:PV)(env:af):M Out:=match env[i]? with
 | some (some (.bd a C' fs))=>cW (C'=C/\fs.length<1000) (M.ok (.nx (env.set i (some (.bd a C (ue f p fs))))))
 | _=>none
def i7(i:Nat)(C:Addr)(fl:Str)(f:af->M PV):af->M Out:=λenv=>(f env).bind λp=>B5 i C fl p env
section
variable{E:XK}{pos:Pos}{f:af->M PV}{fl:Str}
theorem jd(hi:X.N[i]?=some x)(hv:DA X.env.scope x)(c:lp X.K C)(na:bM X.K C fl)(he:PE X e (tE (λ_=>E) f))(hd:autoParam ((x==("__debug__" : Str))=false) aD._auto_1)(OB:autoParam ((x==("__classdict__" : Str))=false) aD._auto_1)
  (hs:autoParam (swapsWith e (some (.Attribute (.Name x px) fl pos')) pos.line X.env=pure false) aR._auto_1):PS X (.Assign [.Attribute (.Name x px) fl pos'] e pos) (tS E (i7 i C fl f)):=by
 refine(Hv (jS hi hv hd OB) he hs).imp λD σ H q=>kB q λB H₀ Hs H1 env p v sr rp hp=>?_
 unfold B5 at hp
 split at hp
 ·rename_i a C' fs ex
  obtain⟨⟨rfl,hz⟩,hp⟩:=aA.cW hp
  obtain⟨dx,vs,h1,h2,h3,h4,h5⟩:=sr.bd i a _ fs ex
  exact⟨.ref a,h1,a,_,dx,vs,rfl,h2,c,na,by rw[← h5.length];exact hz,hp σ Hs _ (sr.L9 ex (h5.put rp))⟩
 ·exact hp.elim
end
def xr(m:Nat)(a C:Addr)(ps:List PV):af:=some (.bd a C [])::lP (m-1) ps
def BJ(a C:Addr)(env:af):M (List (Str×PV)):=match (env[0]?:Option (Option SV)) with
 | some (some (.bd b D fs))=>cW (b=a/\D=C) (M.ok fs)
 | _=>none
def outI(a C:Addr):Out->M (List (Str×PV))
 | .nx env=>BJ a C env
 | _=>none
def vH(m:Nat)(g:af->M Out)(C a:Addr)(ps:List PV):M (List (Str×PV)):=(g (xr m a C ps)).bind (outI a C)
def Ip(s:Addr->M α):M α:=open Classical in if h:∃ r,∀ a,s a=r then h.choose else none
theorem xP{s:Addr->M α}{r:M α}(h:∀ a,s a=r):Ip s=r:=by
 have hx:∃ r,∀ a,s a=r:=⟨r,h⟩
 unfold Ip
 rw[dif_pos hx,← hx.choose_spec 0,h 0]
theorem aA.Ip{α:Type}{s:Addr->M α}{Q:α->Prop}{E:EX->Prop}(h:aA (L2.Ip s) Q E)(a:Addr):aA (s a) Q E:=by
 unfold L2.Ip at h
 split at h
 ·rename_i hx
  rw[hx.choose_spec a];exact h
 ·exact h.elim
def DR(n:Nat)(C:Addr)(sem:Addr->List PV->M (List (Str×PV))):Sp:=λvs H Q E=>vs.length=n/\∃ a dx us Hs H1 ps,vs=.ref a::us/\H1 a=none/\H1 dx=none/\dx≠a/\H=upd (upd H1 dx (.own a)) a (.ins C dx [])/\bC Hs H1/\a_ Hs ps us ∧
 aA (sem a ps) (λfs=>∀ QM ws Np H',bZ Hs H1 Np H'->H' a=some (.ins C QM ws)->Np a=none->ji Np fs ws->Q .cy H') (XW E Hs H1)
theorem SR.Ia{dx:Addr}{ps:List PV}(s:bC Hs H₀)(hN:0<N.length)(ha:H₀ a=none)(r:a_ Hs ps vs)(hH:H=upd H₀ a (.ins C dx [])):SR Hs H₀ Hs H (L2.start N (.ref a::vs)) (xr N.length a C ps):=by
 have hs:Hs a=none:=by
  cases q:Hs a with
  | none=>rfl
  | some o=>have:=s _ _ q;rw[ha] at this;cases this
 have ne:∀ c u,H₀ c=some u->c≠a:=λc u e z=>by rw[z,ha] at e;cases e
 have s0:=SR.start (N:=N.tail) s r
 have e1:L2.start N (.ref a::vs)=some (.ref a)::L2.start N.tail vs:=by
  unfold L2.start
  simp only[List.map_cons,List.cons_append,List.length_cons,List.length_tail]
  rw[Nat.sub_sub,Nat.add_comm]
 have e2:xr N.length a C ps=some (.bd a C [])::lP N.tail.length ps:=by unfold xr;rw[List.length_tail]
 have al:bC H₀ H:=λc u q=>by rw[hH,ar (ne c u q)];exact q
 rw[e1,e2]
 refine⟨⟨λ_ _ e=>e,al,λc u q=>al c u (s c u q),λc u q _=>q⟩,by simp[s0.len],λj q ej=>?_,λj zs ej=>?_,λj k y1 y2 b nj e1 e2 e3 e4=>?_,λj ba D Qq ej=>?_,λj k a1 a2 C' D Qq gs' e1 e2=>?_⟩
 ·cases j with
  | zero=>cases ej
  | succ j=>exact s0.sh j q (by simpa using ej)
 ·cases j with
  | zero=>cases ej
  | succ j=>exact absurd (s0.ow j zs (by simpa using ej)) (λ⟨b,ws,q1,q2,q3,q4,q5⟩=>by rw[q4] at q2;cases q2)
 ·cases j with
  | zero=>cases e1
  | succ j=>exact absurd (s0.ow j y1 (by simpa using e1)) (λ⟨b,ws,q1,q2,q3,q4,q5⟩=>by rw[q4] at q2;cases q2)
 ·cases j with
  | zero=>cases ej;exact⟨dx,[],rfl,by rw[hH];exact az,hs,ha,.nil⟩
  | succ j=>exact absurd (s0.bd j ba D Qq (by simpa using ej)) (λ⟨b,ws,q1,q2,q3,q4,q5⟩=>by rw[q4] at q2;cases q2)
 ·cases j with
  | zero=>cases k with
   | zero=>rfl
   | succ k=>exact absurd (s0.bd k a2 D gs' (by simpa using e2)) (λ⟨b,ws,q1,q2,q3,q4,q5⟩=>by rw[q4] at q2;cases q2)
  | succ j=>exact absurd (s0.bd j a1 C' Qq (by simpa using e1)) (λ⟨b,ws,q1,q2,q3,q4,q5⟩=>by rw[q4] at q2;cases q2)
theorem E2{K:PySem.W.Frag}{dV kV doc pm NF ct oc:Value}{an:Option Addr}{g:af->M Out}(lk:K.lookup f=some ⟨oc,od,.func (PySem.W.fnOf name qual params body scope dV kV doc pm an NF ct),P5⟩)(OB:PySem.W.codeIn K NF qual=true)(S:cL N ps scope)(hN:0<N.length)
  (hb:∀ (A:Around) (outer:List Env) (s:Shared) (H:Hp) (E:XK),cQ k (A.deeper (envOfC qual scope s.heap.objs.size f NF))->lY ((my (bX P w) P w K mg base N qual scope f NF A outer s H E).out λ_=>E) body (tS E g)) :
  aV P w K mg base (bX P w) (k+1) f (PySem.W.fnOf name qual params body scope dV kV doc pm an NF ct) ps (DR ps.length C (vH N.length g C)):=by
 refine wV lk OB S (λvs H Q E h=>h.1) λA outer s H vs Q E hr hs=>⟨_,hb A outer s H E hr,?_⟩
 obtain⟨_,a,dx,us,Hs,H1,O1,rfl,ha,hdx,Pm,hH,sm,r,h⟩:=hs
 have ne:∀ c u,H1 c=some u->c≠dx:=λc u e z=>by rw[z,hdx] at e;cases e
 have s0:bC H1 (upd H1 dx (.own a)):=λc u q=>by rw[ar (ne c u q)];exact q
 have g0:bZ Hs H1 Hs (upd H1 dx (.own a)):=⟨λ_ _ e=>e,s0,λc u q=>s0 c u (sm c u q),λ_ _ e _=>e⟩
 refine⟨Hs,_,Hs,_,SR.Ia (dx:=dx) g0.sub hN (by rw[ar (Ne.symm Pm)];exact ha) r hH,(aA.bind h).imp (λo ho=>?_) λe he=>he.grow g0⟩
 cases o with
 | rt p=>exact ho.elim
 | bk env=>exact ho.elim
 | ct env=>exact ho.elim
 | nx env =>
  intro σ Np H' sr
  have O9:aA (BJ a C env) _ _:=ho
  unfold BJ at O9
  split at O9
  ·rename_i b D fs ex
   obtain⟨⟨rfl,rfl⟩,hp⟩:=aA.cW O9
   obtain⟨QM,ws,h1,h2,h3,h4,h5⟩:=sr.bd 0 _ _ fs ex
   exact hp QM ws Np H' (g0.trans sr.gr) h2 h3 h5
  ·exact O9.elim
def bY(C:Addr)(sem:Addr->List PV->M (List (Str×PV)))(OZ:List PV)(ps:List PV):M PV:=(Ip λa=>sem a (ps++OZ)).bind λfs=>M.ok (.obj C fs)
section
variable{ns:List Str}{sem:Addr->List PV->M (List (Str×PV))}{p pos:Pos}{fs:af->M (List PV)}
theorem DS(Mk:Mk X.K C f)(F:aV X.prog X.w X.K X.mg X.base (bX X.prog X.w) k f fd ns (DR n C sem))(hr:cQ (k+1) X.A)(hg:Gl X x)(hm:X.mg x=some (.ref C))(hb:Binds X.K fd ns ds)(hd:Vals N8 ds)(hdp:∀ H,a_ H OZ N8)(O:fF X E)
  (hl:∀ a ps,sem a (ps++OZ)≠none->ps.length+OZ.length+1=n)
  (ha:PA X (e::es) (tL E fs)) (Oh:autoParam ((x==("__debug__" : Str))=false) aD._auto_1) (he:autoParam (starEach (e::es) X.env=(false,eval e X.env)::starEach es X.env) aR._auto_1) (NO:autoParam ((backTo pos (starEach es X.env)).any (·.1)=false) aR._auto_1) :
  PE X (.Call (.Name x p) (e::es) [] pos) (tE E (ai (bY C sem OZ) fs)):=by
 refine(AN Mk F hr hg hm hb hd O ha Oh he NO).imp fun σ H Q q=>dH (K:=lu Q) lu.g q λB H₀ Hs H1 env O1 v sr rp hp=>?_
 intro a dx ha hdx Pm
 have r2:a_ Hs (O1++OZ) (v++N8):=rp.append (hdp Hs)
 have Qu:=(aA.bind hp).Ip a
 have hn:sem a (O1++OZ)≠none:=λz=>by
  rw[z] at Qu;exact Qu
 refine⟨?_,a,dx,v++N8,Hs,H1,O1++OZ,rfl,ha,hdx,Pm,rfl,sr.gr.sub,r2,Qu.imp (λfl hfl QM ws Np H' g hw Ri OX=>⟨rfl,?_⟩) λe he=>he⟩
 ·show (v++N8).length+1=n
  rw[← r2.length,List.length_append]
  exact hl a O1 hn
 ·have ne:∀ c u,Np c=some u->c≠a:=λc u q z=>by rw[z,Ri] at q;cases q
  have NL:bC Np (upd Np a (.ins C QM ws)):=λc u q=>by rw[ar (ne c u q)];exact q
  refine hfl (.ref a) (upd Np a (.ins C QM ws)) H' ⟨λc u q=>NL c u (g.st c u q),g.al,λc u q=>?_,λc u q1 q2=>?_⟩ (.obj az (OX.mono NL))
  ·by_cases z:c=a
   ·subst z;rw[az] at q;cases q;exact hw
   ·rw[ar z] at q;exact g.sub c u q
  ·have z:c≠a:=λz=>by rw[z,ha] at q2;cases q2
   rw[ar z];exact g.nw c u q1 q2
end
section
variable{a b:Expr}{pos:Pos}{f g h:af->M PV}
theorem nN{m:Nat}(h:n.log2<m):n<2^m:=by
 by_cases z:n=0
 ·subst z;exact Nat.two_pow_pos m
 ·exact(Nat.log2_lt z).mp h
theorem a_.rep{H:Hp}{xs:List PV}{vs:List V}(r:a_ H xs vs):∀ k:Nat,a_ H (List.replicate k xs).flatten (List.replicate k vs).flatten
 | 0=>.nil
 | k+1=>by rw[List.replicate_succ,List.replicate_succ,List.flatten_cons,List.flatten_cons];exact r.append (r.rep k)
def b_:PV->PV->M PV
 | .int i,.int j=>cW (i.natAbs.log2<67108864/\j.natAbs.log2<67108864) (M.ok (.int (i*j)))
 | .tup xs,.int k=>cW (xs.isEmpty=false/\-(2^63)<=k/\k<2^63/\xs.length*k.toNat<=sizeLine) (M.ok (.tup (List.replicate k.toNat xs).flatten))
 | .lst xs,.int k=>cW (-(2^63)<=k/\k<2^63/\xs.length*k.toNat<=sizeLine) (M.ok (.lst (List.replicate k.toNat xs).flatten))
 | _,_=>none
def Gh(K:PySem.W.Frag):R2:=λx y H Q=>(rI (λi j=>IntMulOk i j) λi j=>.int (i*j)) x y H Q\/F1 K x y H Q\/Kv x y H Q
theorem EZ:iR X (binaryOp .Mult) (Gh X.K):=iR.or Ea (iR.or EC BU)
theorem IM{K:PySem.W.Frag}:nU E (Gh K) b_:=by
 intro σ Hs H p q v u Q s rp rq h
 cases rp with
 | int i=>cases rq with
  | int j =>
   obtain⟨hz,h⟩:=aA.cW h
   exact .inl ⟨i,j,rfl,rfl,Cg (nN hz.1) (nN hz.2) (Nat.le_refl _),eG.flat h s (.int _)⟩
  | _=>exact h.elim
 | @tup a xs vs ha hx=>cases rq with
  | int k =>
   obtain⟨⟨h0,h1,h2,h3⟩,h⟩:=aA.cW h
   have n1:vs≠[]:=λz=>by
    have:=hx.length
    rw[z] at this
    cases xs with
    | nil=>cases h0
    | cons _ _=>cases this
   refine .inr (.inl ⟨a,k,vs,rfl,rfl,iy.of (s _ _ ha),n1,h1,h2,by rw[← hx.length];exact h3,λz=>?_,λz=>eG.tup h s (hx.rep _)⟩)
   subst z
   rw[show (1:Int).toNat=1 from rfl,List.replicate_succ,List.replicate_zero,List.flatten_cons,List.flatten_nil,List.append_nil] at h
   exact eG.flat h s (.tup ha hx)
  | _=>exact h.elim
 | @lst a xs vs ha hx=>cases rq with
  | int k =>
   obtain⟨⟨h1,h2,h3⟩,h⟩:=aA.cW h
   exact .inr (.inr ⟨a,k,vs,rfl,rfl,s _ _ ha,h1,h2,by rw[← hx.length];exact h3,eG.lst h s (hx.rep _)⟩)
  | _=>exact h.elim
 | _=>exact h.elim
theorem Eg:nU E (rI C4 λi j=>.int (i.fdiv j)) (BS (λ_ j=>decide (j≠0/\j.natAbs.log2<9000)) λi j=>i.fdiv j):=B_ λi j z=>(of_decide_eq_true z:j≠0/\j.natAbs.log2<9000)
theorem GI:nU E (rI (λ_ j=>j≠0) λi j=>.int (i.fmod j)) (BS (λ_ j=>decide (j≠0)) λi j=>i.fmod j):=B_ λi j z=>of_decide_eq_true z
def Jq:PV->M PV
 | .int i=>M.ok (.int (-i))
 | _=>none
def lr(f:af->M PV):af->M PV:=λenv=>(f env).bind Jq
theorem GO(ha:PE X a (tE E f)):PE X (.UnaryOp .USub a pos) (tE E (lr f)) :=
 (Ki GP ha).imp fun σ H Q q=>J6 q λHs H1 p v s rp h=>by
  cases rp with
  | int i=>exact⟨i,rfl,eG.flat h s (.int _)⟩
  | _=>exact h.elim
def rH:PV->Bool
 | .cy=>true
 | _=>false
theorem wB(r:Rep H p v):decide (v=.cy)=rH p:=by
 cases r <;> rfl
def Dp:PV->PV->M PV
 | p,.cy=>M.ok (.bl (rH p))
 | _,_=>none
def k9:PV->PV->M PV
 | p,.cy=>M.ok (.bl (!rH p))
 | _,_=>none
theorem AV:nU E (λx y H Q=>y=.cy/\Q (.bl (decide (x=.cy))) H) Dp:=by
 intro σ Hs H p q v u Q s rp rq h
 cases rq with
 | cy =>
  have h':aA (M.ok (PV.bl (rH p))) (eG Hs H Q) (XW (E σ) Hs H):=by cases p <;> exact h
  exact⟨rfl,by rw[wB rp];exact eG.flat h' s (.bl _)⟩
 | _=>cases p <;> exact h.elim
theorem yu:nU E (λx y H Q=>y=.cy/\Q (.bl (!decide (x=.cy))) H) k9:=by
 intro σ Hs H p q v u Q s rp rq h
 cases rq with
 | cy =>
  have h':aA (M.ok (PV.bl (!rH p))) (eG Hs H Q) (XW (E σ) Hs H):=by cases p <;> exact h
  exact⟨rfl,by rw[wB rp];exact eG.flat h' s (.bl _)⟩
 | _=>cases p <;> exact h.elim
def lW(o o':PV->PV->M PV)(f g h:af->M PV):af->M PV:=λenv=>(f env).bind λp=>(g env).bind λq=>(o p q).bind λz=>(xw z).bind λk=>if k=true then (h env).bind λr=>o' q r else M.ok (.bl false)
theorem AY{r r':R2}{o o':PV->PV->M PV}(hv:nU E r o)(Rj:nU E r' o'){Q:VK}(q:tE E (lW o o' f g h) σ H Q):BO r r' (tE E f) (tE E g) (tE E h) σ H Q:=by
 refine cO (K:=lu Q) lu.g q λB H₀ Hs H1 env p v sr rp hp=>?_
 refine⟨B,H₀,Hs,env,sr,(aA.bind hp).imp (λq hq u Nx H2 g2 ru=>?_) λe he=>he⟩
 have N0:=sr.grow g2
 refine hv σ Nx H2 p q v u _ N0.gr.sub (rp.mono g2.st) ru ((aA.bind hq).imp (λz hz w OO H3 g3 OX=>?_) λe he=>he.grow g2)
 obtain⟨k,ek,hk⟩:=aA.K3 (aA.bind hz)
 subst ek
 cases OX
 refine⟨k,rfl,?_⟩
 have Pf:=N0.grow g3
 cases k with
 | false=>exact hk _ _ _ (g2.trans g3) (.bl _)
 | true =>
  have Qt:aA ((h env).bind λr=>o' q r) (lu Q Hs H1) (XW (E σ) Hs H1):=hk
  refine⟨B,H₀,OO,env,Pf,(aA.bind Qt).imp (λr hr w P_ H4 g4 rw4=>?_) λe he=>he.grow (g2.trans g3)⟩
  exact Rj σ P_ H4 q r u w Q (Pf.grow g4).gr.sub ((ru.mono g3.st).mono g4.st) rw4 (hr.imp (λz hz w' Py H5 g5 r5=>hz w' Py H5 ((g2.trans g3).trans (g4.trans g5)) r5) λe he=>he.grow ((g2.trans g3).trans g4))
theorem wa{QG:CmpOp}{r r':R2}{o o':PV->PV->M PV}(ho:iR X (compareOp op) r)(hv:nU E r o)(O9:iR X (compareOp QG) r')(Rj:nU E r' o')(ha:PE X a (tE E f))(hb:PE X b (tE E g))(hc:PE X c (tE E h))
  (hm:autoParam (lastMarks [op,QG] [b,c]=false) aU._auto_1):PE X (.Compare a [op,QG] [b,c] pos) (tE E (lW o o' f g h)) :=
 (AD ho O9 ha hb hc hm).imp fun σ H Q q=>AY hv Rj q
def cX(u:af->M Bool)(b:af->M Out):Nat->af->M Out
 | 0,_=>none
 | n+1,env=>(u env).bind λt=>if t=true then (b env).bind λo=>match o with
   | .nx Nm=>cX u b n Nm
   | .ct Nm=>cX u b n Nm
   | .bk Nm=>M.ok (.nx Nm)
   | .rt p=>M.ok (.rt p)
  else M.ok (.nx env)
theorem zJ{E:XK}{u:af->M Bool}{g:af->M Out}(n:af->Nat)(O:fF X λ_=>E)(hc:PT X c (tT (λ_=>E) u))(hb:lY X body (tS E g)):PS X (.While c body [] pos) (tS E λenv=>cX u g (n env) env):=by
 refine(AB O.own hc hb).imp λD σ H q=>?_
 obtain⟨B,H₀,Hs,env,sr,q⟩:=q
 refine⟨λm σ H=>∃ Hs env,SR B H₀ Hs H σ env/\aA (cX u g m env) (KS D B H₀) (XW E B H₀),⟨n env,Hs,env,sr,q⟩,?_⟩
 rintro m σ1 H1 ⟨NA,env1,QI,q1⟩
 cases m with
 | zero=>exact q1.elim
 | succ m =>
  refine⟨B,H₀,NA,env1,QI,(aA.bind q1).imp (λt ht Nx H2 g2=>?_) λe he=>he.grow QI.gr⟩
  have N0:=QI.grow g2
  cases t with
  | false=>exact ht σ1 Nx H2 N0
  | true =>
   refine⟨fun σ' H'=>∃ Np Nm,SR B H₀ Np H' σ' Nm/\aA (cX u g m Nm) (KS D B H₀) (XW E B H₀),fun σ' H' z=>⟨m,Nat.lt_succ_self m,z⟩,B,H₀,Nx,env1,N0,(aA.bind ht).imp (λo ho=>?_) λe he=>he⟩
   cases o with
   | nx Nm=>exact fun σ' Np H' O6=>⟨Np,Nm,O6,ho⟩
   | ct Nm=>exact fun σ' Np H' O6=>⟨Np,Nm,O6,ho⟩
   | bk Nm=>exact ho
   | rt p=>exact ho
theorem jD{u:af->M Bool}{g:af->M Out}:∀ (n k:Nat) (env:af),cX u g n env≠none->cX u g (n+k) env=cX u g n env
 | 0,_,_,h=>(h rfl).elim
 | n+1,k,env,h=>by
  rw[show n+1+k=(n+k)+1 by omega]
  unfold cX at h ⊢
  cases hu:u env with
  | none=>rfl
  | some z =>
   cases z with
   | error e=>rfl
   | ok t =>
    rw[hu] at h
    cases t with
    | false=>rfl
    | true =>
     show M.bind (g env) _=M.bind (g env) _
     have h':M.bind (g env) (λo=>match o with
      | .nx Nm=>cX u g n Nm
      | .ct Nm=>cX u g n Nm
      | .bk Nm=>M.ok (.nx Nm)
      | .rt p=>M.ok (.rt p))≠none:=h
     cases hg:g env with
     | none=>rfl
     | some z =>
      cases z with
      | error e=>rfl
      | ok o =>
       rw[hg] at h'
       cases o with
       | nx Nm=>exact jD n k Nm h'
       | ct Nm=>exact jD n k Nm h'
       | bk Nm=>rfl
       | rt p=>rfl
def lM(u:af->M Bool)(b:af->M Out)(env:af):M Out:=open Classical in cX u b (if h:∃ n,cX u b n env≠none then h.choose else 0) env
theorem zV{u:af->M Bool}{b:af->M Out}{env:af}(h:cX u b n env≠none):lM u b env=cX u b n env:=by
 have hx:∃ n,cX u b n env≠none:=⟨n,h⟩
 unfold lM
 rw[dif_pos hx]
 have h1:=hx.choose_spec
 rw[← jD _ n env h1,← jD n hx.choose env h,Nat.add_comm]
theorem uO{E:XK}{u:af->M Bool}{g:af->M Out}(O:fF X λ_=>E)(hc:PT X c (tT (λ_=>E) u))(hb:lY X body (tS E g)):PS X (.While c body [] pos) (tS E (lM u g)) :=
 zJ (λenv=>open Classical in if h:∃ n,cX u g n env≠none then h.choose else 0) O hc hb
end
def JK:PV->Option String
 | .cy=>some "NoneType"
 | .bl _=>some "bool"
 | .int _=>some "int"
 | .str _=>some "str"
 | .lst _=>some "list"
 | .j9 _=>some "list"
 | .tup _=>some "tuple"
 | .emp=>some "dict"
 | _=>none
def qI(a t:String):Bool:=a==t||(a == "bool" && t == "int")
theorem oj(K:PySem.W.Frag):PySem.W.kitOne K (.type "NoneType") (.type "int")=some false:=by with_unfolding_all kernel_rfl
theorem vi(K:PySem.W.Frag):PySem.W.kitOne K (.type "bool") (.type "int")=some true:=by with_unfolding_all kernel_rfl
def tys:List String:=["int", "bool", "str", "list", "tuple"]
theorem Js(K:PySem.W.Frag){a t:String}(ha:JK p=some a)(ht:t∈tys):PySem.W.kitOne K (.type a) (.type t)=some (qI a t):=by
 have ht2:t = "int" \/ t = "bool" \/ t = "str" \/ t = "list" \/ t = "tuple" := by simpa [tys] using ht
 cases p <;> cases ha <;> rcases ht2 with rfl | rfl | rfl | rfl | rfl <;> first
  | exact oj K
  | exact kt_NoneType_bool K
  | exact kt_NoneType_str K
  | exact kt_NoneType_list K
  | exact kt_NoneType_tuple K
  | exact vi K
  | exact kt_bool_bool K
  | exact kt_bool_str K
  | exact kt_bool_list K
  | exact kt_bool_tuple K
  | exact kt_int_int K
  | exact kt_int_bool K
  | exact kt_int_str K
  | exact kt_int_list K
  | exact kt_int_tuple K
  | exact kt_str_int K
  | exact kt_str_bool K
  | exact kt_str_str K
  | exact kt_str_list K
  | exact kt_str_tuple K
  | exact kt_list_int K
  | exact kt_list_bool K
  | exact kt_list_str K
  | exact kt_list_list K
  | exact kt_list_tuple K
  | exact kt_tuple_int K
  | exact kt_tuple_bool K
  | exact kt_tuple_str K
  | exact kt_tuple_list K
  | exact kt_tuple_tuple K
  | exact kt_dict_int K
  | exact kt_dict_bool K
  | exact kt_dict_str K
  | exact kt_dict_list K
  | exact kt_dict_tuple K
theorem CD{K:PySem.W.Frag}{a:String}(s:bC Hs H)(r:Rep Hs p v)(ha:JK p=some a):kH K H v (.type a):=by
 cases r with
 | cy=>cases ha;exact .cy
 | bl b=>cases ha;exact .bl b
 | int i=>cases ha;exact .int i
 | str x=>cases ha;exact .str x
 | tup h _=>cases ha;exact .tup (s _ _ h)
 | lst h _=>cases ha;exact .lst (s _ _ h)
 | j9 h _=>cases ha;exact .qU (s _ _ h)
 | emp h=>cases ha;exact .dK (s _ _ h)
 | _=>cases ha
theorem yr(K:PySem.W.Frag){p:PV}{a:String}(ha:JK p=some a):∀ {Ts:List String},(∀ t∈Ts,t∈tys)->PySem.W.kitAny K (.type a) (Ts.map Value.type)=some (Ts.any λt=>qI a t)
 | [],_=>rfl
 | t::r,h=>by
  have h1:=Js K ha (h t List.mem_cons_self)
  have h2:=yr K ha (Ts:=r) λt q=>h t (List.mem_cons_of_mem _ q)
  simp only[List.map_cons,PySem.W.kitAny,h1,List.any_cons]
  cases qI a t with
  | true=>rfl
  | false=>exact h2
structure GC (K:PySem.W.Frag) (C:Addr):Prop where
 cls:lp K C
 ha:PySem.W.findIn K (.ref C) "__class__" = some (some (.builtin "object.__class__"))
 hn:PySem.W.specialIn K (.builtin "object.__class__") "__get__" = some (some (.builtin "getset_descriptor.__get__"))
 Jk:PySem.W.takesIn K (.builtin "object.__class__")=some true
 hm:PySem.W.mroIn K C (.type "object")=some true
def Bj(b:String->Bool)(ob oe:Addr->Option Bool):PV->M PV
 | .obj C _=>fu ((ob C).map .bl)
 | .exc C _=>fu ((oe C).map .bl)
 | p=>fu ((JK p).map λa=>.bl (b a))
section
variable{pos p pt:Pos}{f:af->M PV}{T:String}{ob oe:Addr->Option Bool}
theorem IS{fo:Option (List (Str×PV))}(s:bC Hs H)(r:Rep Hs (.exc C fo) v):∃ a fo',v=.ref a/\ExcAt H a C fo':=by
 cases r with
 | @Ae a _ h=>exact⟨a,none,rfl,s _ _ h⟩
 | @zC a _ d _ vs h h2 _=>exact⟨a,some vs,rfl,d,s _ _ h,s _ _ h2⟩
def FL(b:String->Bool)(ob oe:Addr->Option Bool)(f:af->M PV):af->M PV:=λenv=>(f env).bind (Bj b ob oe)
theorem vP{b:String->Bool}{p:PV}{Q:PV->Prop}{F:EX->Prop}(h:aA (Bj b ob oe p) Q F):(∃ a,JK p=some a/\Q (.bl (b a)))\/(∃ C fs k,p=.obj C fs/\ob C=some k/\Q (.bl k))\/∃ C fo k,p=.exc C fo/\oe C=some k/\Q (.bl k):=by
 cases p with
 | obj C fs =>
  obtain⟨z,e,q⟩:=aA.opt h
  obtain⟨k,e2,rfl⟩:=Option.map_eq_some_iff.mp e
  exact .inr (.inl ⟨C,fs,k,rfl,e2,q⟩)
 | exc C fo =>
  obtain⟨z,e,q⟩:=aA.opt h
  obtain⟨k,e2,rfl⟩:=Option.map_eq_some_iff.mp e
  exact .inr (.inr ⟨C,fo,k,rfl,e2,q⟩)
 | cy=>exact .inl ⟨_,rfl,h⟩
 | bl _=>exact .inl ⟨_,rfl,h⟩
 | int _=>exact .inl ⟨_,rfl,h⟩
 | str _=>exact .inl ⟨_,rfl,h⟩
 | tup _=>exact .inl ⟨_,rfl,h⟩
 | lst _=>exact .inl ⟨_,rfl,h⟩
 | j9 _=>exact .inl ⟨_,rfl,h⟩
 | emp=>exact .inl ⟨_,rfl,h⟩
theorem Cz{K:PySem.W.Frag}{fs:List (Str×PV)}(s:bC Hs H)(r:Rep Hs (.obj C fs) v)(c:GC K C):kH K H v (.ref C):=by
 cases r with
 | obj h _=>exact .ins (s _ _ h) c.cls c.ha c.hn c.Jk c.hm
theorem wN(hg:Gl X "isinstance")(hm:X.mg "isinstance" = none)(hT:PE X (.Name x pt) (tC (.ty T)))(ht:T∈tys)(Rb:∀ C b,ob C=some b->GC X.K C/\PySem.W.kitOne X.K (.ref C) (.type T)=some b)(OY:∀ C b,oe C=some b->jb X.K C/\PySem.W.kitOne X.K (.ref C) (.type T)=some b)(he:PE X e (tE E f))
  (h1:autoParam (starEach [e,.Name x pt] X.env=(false,eval e X.env)::starEach [.Name x pt] X.env) aR._auto_1) (h2:autoParam (starEach [.Name x pt] X.env=(false,eval (.Name x pt) X.env)::starEach [] X.env) aR._auto_1) (NO:autoParam ((backTo pos (starEach [.Name x pt] X.env)).any (·.1)=false) aR._auto_1) :
  PE X (.Call (.Name "isinstance" p) [e,.Name x pt] [] pos) (tE E (FL (λa=>qI a T) ob oe f)):=by
 refine(mJ (dR.or Bn Dk) hg hm CJ (dX he (dX hT jg h2) h1) (by decide) (by decide) h1 NO).imp fun σ H Q q=>cO (K:=lu Q) lu.g q λB H₀ Hs H1 env p v sr rp hp=>?_
 rcases vP hp with ⟨a,ha,q⟩ | ⟨C,fs,k,rfl,e,q⟩ | ⟨C,fo,k,rfl,e,q⟩
 ·exact .inl ⟨v,T,_,_,rfl,CD sr.gr.sub rp ha,Js X.K ha ht,eG.flat q sr.gr.sub (.bl _)⟩
 ·exact .inl ⟨v,T,_,_,rfl,Cz sr.gr.sub rp (Rb C k e).1,(Rb C k e).2,eG.flat q sr.gr.sub (.bl _)⟩
 ·obtain⟨a,fo',rfl,hx⟩:=IS sr.gr.sub rp
  exact .inr ⟨a,C,fo',k,(OY C k e).1,hx,.inl ⟨T,rfl,(OY C k e).2⟩,eG.flat q sr.gr.sub (.bl _)⟩
theorem DH{e2:Expr}{t2:TE}{Ts:List String}(hg:Gl X "isinstance")(hm:X.mg "isinstance" = none)(hT:PE X e2 t2)(ht2:∀ σ H R,(∀ p,H p=none->R (.ref p) (upd H p (.tup (Ts.map V.ty))))->t2 σ H R)(ht:∀ t∈Ts,t∈tys)(Rb:∀ C b,ob C=some b->GC X.K C/\PySem.W.kitAny X.K (.ref C) (Ts.map Value.type)=some b)(he:PE X e (tE E f))
  (h1:autoParam (starEach [e,e2] X.env=(false,eval e X.env)::starEach [e2] X.env) aR._auto_1) (h2:autoParam (starEach [e2] X.env=(false,eval e2 X.env)::starEach [] X.env) aR._auto_1) (NO:autoParam ((backTo pos (starEach [e2] X.env)).any (·.1)=false) aR._auto_1) :
  PE X (.Call (.Name "isinstance" p) [e,e2] [] pos) (tE E (FL (λa=>Ts.any λt=>qI a t) ob (λ_=>none) f)):=by
 refine(mJ Af hg hm CJ (dX he (dX hT jg h2) h1) (by decide) (by decide) h1 NO).imp fun σ H Q q=>cO (K:=lu Q) lu.g q λB H₀ Hs H1 env p v sr rp hp=>?_
 refine ht2 σ H1 _ λtp hn=>?_
 have g:=bZ.new (o:=.tup (Ts.map V.ty)) sr.gr.sub hn
 rcases vP hp with ⟨a,ha,q⟩ | ⟨C,fs,k,rfl,e,q⟩ | ⟨C,fo,k,rfl,e,q⟩
 ·exact⟨v,tp,Ts,_,_,rfl,az,CD g.sub (rp.mono g.st) ha,yr X.K ha ht,q _ _ _ g (.bl _)⟩
 ·exact⟨v,tp,Ts,_,_,rfl,az,Cz g.sub (rp.mono g.st) (Rb C k e).1,(Rb C k e).2,q _ _ _ g (.bl _)⟩
 ·cases e
end
section
open PySem.SeqAt (shaped noMix noMixAll)
mutual
def dat:PV->Option PyData
 | .cy=>some .none
 | .bl b=>some (.bool b)
 | .int i=>some (.int i)
 | .str x=>some (.str x)
 | .tup xs=>(qg xs).map .tuple
 | .lst xs=>(qg xs).map .list
 | .j9 xs=>(qg xs).map .list
 | .obj _ _=>none
 | .exc _ _=>none
 | .emp=>none
def qg:List PV->Option (List PyData)
 | []=>some []
 | p::r=>(dat p).bind λd=>(qg r).map (d::·)
end
mutual
theorem Rep.reads{Hs:Hp}(I:Inv X Ni σ H s)(sm:bC Hs H):∀ {p:PV} {v:V} {u:Value} {d:PyData},Rep Hs p v->RelV v u->dat p=some d->∃ as,Reads s.heap u d as
 | _,_,u,d,.cy,r,e=>by
  cases e;cases (show u=Value.none from r);exact⟨_,.none⟩
 | _,_,u,d,.bl b,r,e=>by
  cases e;cases (show u=Value.bool b from r);exact⟨_,.bool b⟩
 | _,_,u,d,.int i,r,e=>by
  cases e;obtain⟨t,rfl⟩:=(show ∃ t,u=Value.int i t from r);exact⟨_,.int i t⟩
 | _,_,u,d,.str i,r,e=>by
  cases e;obtain⟨t,rfl⟩:=(show ∃ t,u=Value.str i t from r);exact⟨_,.str i t⟩
 | _,_,u,d,.tup (a:=a) ha hx,r,e=>by
  obtain⟨ds,e2,rfl⟩:=Option.map_eq_some_iff.mp (show (qg _).map PyData.tuple=some d from e)
  cases (show u=Value.ref a from r)
  obtain⟨Nl,r1,⟨o,ho,hc,n,hd⟩,_⟩:=I.tuple (iy.of (sm _ _ ha))
  obtain⟨as,ra⟩:=a_.reads I sm hx r1 e2
  exact⟨_,.tuple ho hc hd (by simpa using ra)⟩
 | _,_,u,d,.lst (a:=a) ha hx,r,e=>by
  obtain⟨ds,e2,rfl⟩:=Option.map_eq_some_iff.mp (show (qg _).map PyData.list=some d from e)
  cases (show u=Value.ref a from r)
  obtain⟨Nl,r1,⟨o,n,ho,hc,_,hd⟩,_⟩:=I.list (hV.of (sm _ _ ha))
  obtain⟨as,ra⟩:=a_.reads I sm hx r1 e2
  exact⟨_,.list ho hc hd (by simpa using ra)⟩
 | _,_,u,d,.j9 (a:=a) (o:=ob) ha hx,r,e=>by
  obtain⟨ds,e2,rfl⟩:=Option.map_eq_some_iff.mp (show (qg _).map PyData.list=some d from e)
  cases (show u=Value.ref a from r)
  obtain⟨Nl,r1,⟨o,n,ho,hc,_,hd⟩,_⟩:=I.list (.inl (.inr ⟨ob,sm _ _ ha⟩))
  obtain⟨as,ra⟩:=a_.reads I sm hx r1 e2
  exact⟨_,.list ho hc hd (by simpa using ra)⟩
 | _,_,u,d,.obj _ _,r,e=>by cases e
 | _,_,u,d,.Ae _,r,e=>by cases e
 | _,_,u,d,.zC _ _ _,r,e=>by cases e
 | _,_,u,d,.emp _,r,e=>by cases e
theorem a_.reads{Hs:Hp}(I:Inv X Ni σ H s)(sm:bC Hs H):∀ {p:List PV} {v:List V} {u:List Value} {d:List PyData},a_ Hs p v->Vals v u->qg p=some d->∃ as,ReadsAll s.heap u d as
 | _,_,_,_,.nil,.nil,e=>by cases e;exact⟨_,.nil⟩
 | _,_,_,d,.cons (p:=p) (ps:=ps) h hr,.cons r rr,e=>by
  obtain⟨d1,e1,e2⟩:=Option.bind_eq_some_iff.mp (show (dat p).bind (λd=>(qg ps).map (d::·))=some d from e)
  obtain⟨ds,e3,rfl⟩:=Option.map_eq_some_iff.mp e2
  obtain⟨as,ra⟩:=Rep.reads I sm h r e1
  obtain⟨bs,rb⟩:=a_.reads I sm hr rr e3
  exact⟨_,.cons ra rb⟩
end
def Jh(d e:PyData):M Bool:=cW (shaped d=true/\shaped e=true/\noMix d e=true) (M.ok (same d e))
def ub(o:Bool->PV)(p q:PV):M PV:=match dat p,dat q with
 | some d,some e=>(Jh d e).bind λb=>M.ok (o b)
 | _,_=>none
def uc:PV->PV->M PV:=ub λb=>.bl b
def uJ:PV->PV->M PV:=ub λb=>.bl (!b)
def CU(o:Bool->Bool):R2:=λx y H Q=>∃ Hs p q d e,bC Hs H/\Rep Hs p x/\Rep Hs q y/\dat p=some d/\dat q=some e/\shaped d=true/\shaped e=true/\noMix d e=true/\Q (.bl (o (same d e))) H
theorem CW(hu:X.A.units+64<cLine):iR X (compareOp .Eq) (CU id):=by
 intro Ni s σ H x y v u Q I rx ry h
 obtain⟨Hs,p,q,d,e,sm,rp,rq,hd,he,h1,h2,h3,hq⟩:=h
 obtain⟨as,ra⟩:=Rep.reads I sm rp rx hd
 obtain⟨bs,rb⟩:=Rep.reads I sm rq ry he
 exact eq_dataH_same ra rb h1 h2 hu h3 (uH I hq rfl)
theorem Ct(hu:X.A.units+64<cLine):iR X (compareOp .NotEq) (CU not):=by
 intro Ni s σ H x y v u Q I rx ry h
 obtain⟨Hs,p,q,d,e,sm,rp,rq,hd,he,h1,h2,h3,hq⟩:=h
 obtain⟨as,ra⟩:=Rep.reads I sm rp rx hd
 obtain⟨bs,rb⟩:=Rep.reads I sm rq ry he
 exact ne_dataH_same ra rb h1 h2 hu h3 (uH I hq rfl)
theorem AF{o:Bool->Bool}:nU E (CU o) (ub λb=>.bl (o b)):=by
 intro σ Hs H p q v u Q s rp rq h
 unfold ub at h
 split at h
 ·rename_i d e hd he
  have h':=aA.bind h
  obtain⟨⟨h1,h2,h3⟩,h⟩:=aA.cW h'
  exact⟨Hs,p,q,d,e,s,rp,rq,hd,he,h1,h2,h3,eG.flat h s (.bl _)⟩
 ·exact h.elim
theorem Gg:nU E (CU id) uc:=AF
theorem FN:nU E (CU not) uJ:=AF
def qR(xs:List PV)(lo hi:Option Int):List PV:=(xs.drop (HT.dI xs.length 0 lo)).take (HT.dI xs.length xs.length hi-HT.dI xs.length 0 lo)
theorem a_.cut(r:a_ H xs vs)(lo hi:Option Int):a_ H (qR xs lo hi) (vT vs lo hi):=by
 unfold qR vT
 rw[r.length]
 exact(r.drop _).take _
abbrev Km(Q:Option Int->Hp->Prop):Hp->Hp->Option Int->Prop:=λHs H k=>∀ Np H',bZ Hs H Np H'->Q k H'
def LW(E:St->XK)(g:af->M (Option Int)):TO:=fun σ H Q=>tG E g (Km Q) σ H
theorem PO.imp{e:Option Expr}{t t':TO}(h:PO X e t)(i:∀ σ H Q,t' σ H Q->t σ H Q):PO X e t':=λNi s σ H Q I q=>h Ni s σ H Q I (i σ H Q q)
def Hj:PV->M (Option Int)
 | .int i=>M.ok (some i)
 | _=>none
def lO(f:af->M PV):af->M (Option Int):=λenv=>(f env).bind Hj
section
variable{lo hi:Option Expr}{pos p2:Pos}{f:af->M PV}{gl gh:af->M (Option Int)}
theorem Km.g{Q:Option Int->Hp->Prop}:KG (Km Q):=λHs H Np H' b k g Nx H2 g2=>k Nx H2 (g.trans g2)
theorem oU(he:PE X e (tE E f)):PO X (some e) (LW E (lO f)):=(Ez he).imp fun σ H Q q=>cO (K:=Km Q) Km.g q λB H₀ Hs H1 env p v sr rp hp=>by
 cases rp with
 | int i=>exact⟨i,rfl,hp Hs H1 (.refl sr.gr.sub)⟩
 | _=>exact hp.elim
end
def i5(xs:List PV):List PV:=xs.mapIdx λi x=>.tup [.int (i:Nat),x]
section
variable{K:PySem.W.Frag}{fs:af->M (List PV)}
theorem rZ(hq:∀ Np H',bC NA Np->bC Np H'->hV K H' a vs)(hr:a_ NA xs vs):ki (HE K a) NA (i5 xs) where
 stop:=λi Hs H s1 s2 hi=>by
  unfold i5 at hi
  rw[List.length_mapIdx,hr.length] at hi
  exact⟨vs,hq Hs H s1 s2,hi⟩
 go:=λi Hs H s1 s2 hi=>by
  unfold i5 at hi
  rw[List.length_mapIdx] at hi
  obtain⟨v,e,_⟩:=hr.get (List.getElem?_eq_getElem hi)
  exact⟨vs,v,hq Hs H s1 s2,e⟩
 uK:=λi Hs H x H2 s1 s2 hi y=>by
  unfold i5 at hi
  rw[List.length_mapIdx] at hi
  obtain⟨v,e,r⟩:=hr.get (List.getElem?_eq_getElem hi)
  obtain⟨pa,v',hn,rfl,rfl,y1⟩:=y
  have z1:=y1 vs (hq Hs H s1 s2)
  rw[e] at z1;cases z1
  have gr:=bZ.new (o:=.tup [.int (i:Nat),v]) s2 hn
  refine⟨.tup [.int (i:Nat),xs[i]],_,?_,gr,.tup az (.cons (.int _) (.cons ((r.mono s1).mono gr.st) .nil))⟩
  unfold i5
  rw[List.getElem?_mapIdx,List.getElem?_eq_getElem hi]
  rfl
end
end
def Ej(lo st:Int)(n:Nat):It:=⟨λi _=>i<n,λi H x H'=>H'=H/\x=.int (lo+(i:Nat)*st),λi _=>n<=i⟩
theorem uW{K:PySem.W.Frag}(it:Addr)(lo st:Int)(n:Nat):Turn P w K tg (Ej lo st n) [it] it (λi h=>IsRangeIter h it (lo+(i:Nat)*st) ((n:Int)-(i:Nat)) st) where
 mem:=by simp
 obj:=λi h st b hb=>by
  have e:b=it:=by simpa using hb
  subst e
  exact⟨_,st,λv z=>by
   have z':Data.fields _=Data.cell v:=z
   cases z'⟩
 keep:=λi h h' st k=>k it (by simp) _ st
 item:=by
  intro X hP hw hK hc i Ni s σ H E I hf Oi hg
  subst hP hw hK
  obtain⟨f0,f1,f2,f3,f4,f5⟩:=hf it (by simp)
  have W:=Walks.range (prog:=X.prog) (w:=X.w) (I.ok.hd hc) it lo st n
  refine W.item i s _ _ hg Oi λv h' tk hv Ru kk=>?_
  obtain⟨t,rfl⟩:=hv
  have I1:Inv X Ni σ H { s with heap:=h',toks:=tk }:=I.turned (λb o hb e=>kk b o (by simpa using hb) e) f0 f1 f3 f4 f5
  exact⟨_,rfl,yk (s:={ s with heap:=h',toks:=tk }) (n := "range_iterator") Ru rfl rfl (by decide) ⟨.int (lo+(i:Nat)*st),H,I1,⟨t,rfl⟩,⟨rfl,rfl⟩,Ru,λb hb=>(hf b hb).1⟩⟩
 done:=by
  intro X hP hw hK hc i Ni s σ H E I hf Oi hg
  subst hP hw hK
  obtain⟨f0,f1,f2,f3,f4,f5⟩:=hf it (by simp)
  exact wpAny_pyNext_range_end (I.ok.hd hc) Oi (by have:n<=i:=hg;omega) λh' eb=>⟨rfl,I.turned (t':=s.toks) (λb o hb e=>eb b o hb e) f0 f1 f3 f4 f5⟩
 self:=λ_ _ _ _ _ st h=>wpAny_pyIter_rangeiter st h
theorem tD(a b c:Int):0<=Builtin.Range.rangeSize a b c:=by
 unfold Builtin.Range.rangeSize
 split
 ·split
  ·have:=Int.ediv_nonneg (a:=b-a-1) (b:=c) (by omega) (by omega);omega
  ·omega
 ·split
  ·have:=Int.ediv_nonneg (a:=a-b-1) (b:=-c) (by omega) (by omega);omega
  ·omega
theorem Aj{R:It->Hp->Prop}{E:Value->Shared->Prop}{lo hi st:Int}{t u v:Tok}{tk:Nat}(I:Inv X Ni σ H s)(hsm:Builtin.Range.small lo hi st=true)
  (q:R (Ej lo st (Builtin.Range.rangeSize lo hi st).toNat) H):wpAny (model X.prog X.w) X.A (pyIter (.ref s.heap.objs.size)) (Mh X Ni σ tg R) E { s with heap:=s.heap.push { cls:=.type "range", data:=.fields #[.int lo t,.int hi u,.int st v] },toks:=tk }:=by
 refine wpAny_pyIter_range (IsRange.new ..) hsm ?_
 have I1:Inv X Ni σ H { s with heap:=s.heap.push { cls:=.type "range", data:=.fields #[.int lo t,.int hi u,.int st v] },toks:=tk }:=I.kept λb o e=>Heap.get?_push_of_some _ e
 refine⟨(s.heap.push { cls:=.type "range", data:=.fields #[.int lo t,.int hi u,.int st v] }).objs.size,[(s.heap.push { cls:=.type "range", data:=.fields #[.int lo t,.int hi u,.int st v] }).objs.size],_,_,H,rfl,
  I1.kept (t':=tk) λb o e=>Heap.get?_push_of_some _ e,uW _ lo st (Builtin.Range.rangeSize lo hi st).toNat,?_,λb hb=>?_,q⟩
 ·have e1:lo+((0:Nat):Int)*st=lo:=by simp
  have e2:(((Builtin.Range.rangeSize lo hi st).toNat:Nat):Int)-((0:Nat):Int)=Builtin.Range.rangeSize lo hi st:=by have:=tD lo hi st;omega
  show IsRangeIter _ _ (lo+((0:Nat):Int)*st) ((((Builtin.Range.rangeSize lo hi st).toNat:Nat):Int)-((0:Nat):Int)) st
  rw[e1,e2]
  exact Heap.get?_push_size _ rfl
 ·have e:b=(s.heap.push { cls:=.type "range", data:=.fields #[.int lo t,.int hi u,.int st v] }).objs.size:=by simpa using hb
  subst e
  exact I1.sZ (Nat.le_refl _) (I1.bT.fresh (Nat.le_refl _))
def C3(i j k:Int):Bool:=decide (k≠0)&&decide (k.natAbs<1073741824)&&Builtin.Range.small i j k
def FW(ta:TA):TI:=fun σ H R=>ta σ H λvs H1=>∃ i j k:Int,vs=[.int i,.int j,.int k]/\C3 i j k=true/\R (Ej i k (Builtin.Range.rangeSize i j k).toNat) H1
theorem sv{a b:Expr}{ta:TA}{p pos:Pos}(hg:Gl X "range")(hm:X.mg "range" = none)(ha:PA X [a,b,c] ta)(hs:autoParam (starEach [a,b,c] X.env=[(false,eval a X.env),(false,eval b X.env),(false,eval c X.env)]) aR._auto_1)(OK:autoParam (starEach [b,c] X.env=[(false,eval b X.env),(false,eval c X.env)]) aR._auto_1) :
  PI X tg (.Call (.Name "range" p) [a,b,c] [] pos) (FW ta):=by
 intro Ni s σ H R I h
 refine Call_ (jY I hg hm boot_range (PyProof.Rows.callWith_type1 (dh (ha pos Ni s σ H _ I h) λus s1 ⟨vs,H1,I1,r1,q1⟩=>?_) (by rw[hs,OK]) (by rw[OK];rfl)))
 obtain⟨i,j,k,e,hc,q⟩:=q1
 subst e
 cases r1 with
 | cons r rr =>
  cases rr with
  | cons r' rr =>
   cases rr with
   | cons Rt rr =>
    cases rr
    obtain⟨t,rfl⟩:=r
    obtain⟨t',rfl⟩:=r'
    obtain⟨t'',rfl⟩:=Rt
    unfold C3 at hc
    rw[Bool.and_eq_true,Bool.and_eq_true] at hc
    exact call_range_3 (of_decide_eq_true hc.1.1) (Aj I1 hc.2 q) (.inl (PyProof.noPylong_small (of_decide_eq_true hc.1.2)))
def Am:List PV->M (List PV)
 | [.int i,.int j,.int k]=>cW (C3 i j k=true) (M.ok ((List.range (Builtin.Range.rangeSize i j k).toNat).map λ(n:Nat)=>.int (i+n*k)))
 | _=>none
section
variable{K:PySem.W.Frag}{fs:af->M (List PV)}
theorem zO{lo st:Int}:ki (Ej lo st n) NA ((List.range n).map λ(i:Nat)=>PV.int (lo+(i:Int)*st)) where
 stop:=λi Hs H s1 s2 hi=>show n<=i by simpa using hi
 go:=λi Hs H s1 s2 hi=>show i<n by simpa using hi
 uK:=λi Hs H x H2 s1 s2 hi y=>by
  obtain⟨rfl,rfl⟩:=y
  have Qh:i<n:=by simpa using hi
  exact⟨.int (lo+(i:Int)*st),Hs,by simp[Qh],.refl s2,.int _⟩
theorem z9{ps:List PV}{Q:List PV->Prop}{F:EX->Prop}(h:aA (Am ps) Q F):∃ i j k,ps=[.int i,.int j,.int k]/\C3 i j k=true/\Q ((List.range (Builtin.Range.rangeSize i j k).toNat).map λ(n:Nat)=>.int (i+n*k)):=by
 unfold Am at h
 split at h
 ·obtain⟨hc,h⟩:=aA.cW h
  exact⟨_,_,_,rfl,hc,h⟩
 ·exact h.elim
theorem a_.three{q r:PV}(h:a_ H [p,q,r] vs):∃ v u w,vs=[v,u,w]/\Rep H p v/\Rep H q u/\Rep H r w:=by
 cases h with
 | cons h r=>obtain⟨u,w,rfl,h2,h3⟩:=r.two;exact⟨_,_,_,rfl,h,h2,h3⟩
theorem vh:yL E (FW (tL E fs)) (jh Am fs):=by
 intro σ H R q
 refine dH (K:=KI R) KI.g q λB H₀ Hs H1 env ps v sr rp hp=>?_
 obtain⟨i,j,k,rfl,hc,hp⟩:=z9 hp
 obtain⟨w,u,z,rfl,OX,ru,rz⟩:=rp.three
 cases OX
 cases ru
 cases rz
 exact⟨i,j,k,rfl,hc,hp _ Hs H1 (.refl sr.gr.sub) zO⟩
end
def j4:List PV->List PV->List PV->List PV
 | x::xs,y::ys,z::zs=>.tup [x,y,z]::j4 xs ys zs
 | _,_,_=>[]
theorem rS:∀ {xs ys zs:List PV} {i:Nat} (h1:i<xs.length) (h2:i<ys.length) (h3:i<zs.length),(j4 xs ys zs)[i]?=some (.tup [xs[i],ys[i],zs[i]])
 | x::xs,y::ys,z::zs,0,_,_,_=>rfl
 | x::xs,y::ys,z::zs,i+1,h1,h2,h3=>by
  show (j4 xs ys zs)[i]?=_
  exact rS (xs:=xs) (ys:=ys) (zs:=zs) (i:=i) (by simpa using h1) (by simpa using h2) (by simpa using h3)
 | [],_,_,_,h1,_,_=>by simp at h1
 | _::_,[],_,_,_,h2,_=>by simp at h2
 | _::_,_::_,[],_,_,_,h3=>by simp at h3
theorem kX:∀ {xs ys zs:List PV},(j4 xs ys zs).length=min xs.length (min ys.length zs.length)
 | x::xs,y::ys,z::zs=>by
  show (j4 xs ys zs).length+1=_
  rw[kX]
  simp only[List.length_cons]
  omega
 | [],_,_=>by simp[j4]
 | _::_,[],_=>by simp[j4]
 | _::_,_::_,[]=>by simp[j4]
def wZ:List PV->M (List PV)
 | [p,q,r]=>match cv p,cv q,cv r with
  | some xs,some ys,some zs=>M.ok (j4 xs ys zs)
  | _,_,_=>none
 | _=>none
section
variable{K:PySem.W.Frag}{fs:af->M (List PV)}
theorem zA{b1 b2 b3:Bool}{a1 a2 a3:Addr}{ys zs:List PV}{us ws:List V}(N2:∀ Np H',bC NA Np->bC Np H'->k_ K H' b1 a1 vs)(PN:a_ NA xs vs)(NU:∀ Np H',bC NA Np->bC Np H'->k_ K H' b2 a2 us)(PQ:a_ NA ys us)
  (Pd:∀ Np H',bC NA Np->bC Np H'->k_ K H' b3 a3 ws) (Rf:a_ NA zs ws):ki (Lx K b1 b2 b3 a1 a2 a3) NA (j4 xs ys zs) where
 stop:=λi Hs H s1 s2 hi=>by
  rw[kX,PN.length,PQ.length,Rf.length] at hi
  exact⟨vs,us,ws,N2 Hs H s1 s2,NU Hs H s1 s2,Pd Hs H s1 s2,by omega⟩
 go:=λi Hs H s1 s2 hi=>by
  rw[kX] at hi
  obtain⟨v,e,_⟩:=PN.get (List.getElem?_eq_getElem (show i<xs.length by omega))
  obtain⟨u,e',_⟩:=PQ.get (List.getElem?_eq_getElem (show i<ys.length by omega))
  obtain⟨w,e'',_⟩:=Rf.get (List.getElem?_eq_getElem (show i<zs.length by omega))
  exact⟨vs,us,ws,v,u,w,N2 Hs H s1 s2,NU Hs H s1 s2,Pd Hs H s1 s2,e,e',e''⟩
 uK:=λi Hs H x H2 s1 s2 hi y=>by
  rw[kX] at hi
  have l1:i<xs.length:=by omega
  have l2:i<ys.length:=by omega
  have l3:i<zs.length:=by omega
  obtain⟨v,e,r⟩:=PN.get (List.getElem?_eq_getElem l1)
  obtain⟨u,e',r'⟩:=PQ.get (List.getElem?_eq_getElem l2)
  obtain⟨w,e'',Rt⟩:=Rf.get (List.getElem?_eq_getElem l3)
  obtain⟨pa,v',u',w',hn,rfl,rfl,y1,y2,y3⟩:=y
  have z1:=y1 vs (N2 Hs H s1 s2)
  have z2:=y2 us (NU Hs H s1 s2)
  have z3:=y3 ws (Pd Hs H s1 s2)
  rw[e] at z1;cases z1
  rw[e'] at z2;cases z2
  rw[e''] at z3;cases z3
  have gr:=bZ.new (o:=.tup [v,u,w]) s2 hn
  exact⟨_,_,rS l1 l2 l3,gr,.tup az (.cons ((r.mono s1).mono gr.st) (.cons ((r'.mono s1).mono gr.st) (.cons ((Rt.mono s1).mono gr.st) .nil)))⟩
theorem Al{ps:List PV}{Q:List PV->Prop}{F:EX->Prop}(h:aA (wZ ps) Q F):∃ p q r xs ys zs,ps=[p,q,r]/\cv p=some xs/\cv q=some ys/\cv r=some zs/\Q (j4 xs ys zs):=by
 unfold wZ at h
 split at h
 ·split at h
  ·exact⟨_,_,_,_,_,_,rfl,by assumption,by assumption,by assumption,h⟩
  ·exact h.elim
 ·exact h.elim
theorem A_:yL E (FJ K (tL E fs)) (jh wZ fs):=by
 intro σ H R q
 refine dH (K:=KI R) KI.g q λB H₀ Hs H1 env ps v sr rp hp=>?_
 obtain⟨p,q,r,xs,ys,zs,rfl,e1,e2,e3,hp⟩:=Al hp
 obtain⟨w,u,z,rfl,OX,ru,rz⟩:=rp.three
 obtain⟨b1,a1,vs,rfl,N2,PN⟩:=kY (K:=K) sr.gr.sub OX e1
 obtain⟨b2,a2,us,rfl,NU,PQ⟩:=kY (K:=K) sr.gr.sub ru e2
 obtain⟨b3,a3,ws,rfl,Pd,Rf⟩:=kY (K:=K) sr.gr.sub rz e3
 exact⟨b1,b2,b3,a1,a2,a3,rfl,⟨vs,N2 Hs H1 (λ_ _ z=>z) sr.gr.sub⟩,⟨us,NU Hs H1 (λ_ _ z=>z) sr.gr.sub⟩,⟨ws,Pd Hs H1 (λ_ _ z=>z) sr.gr.sub⟩,hp _ Hs H1 (.refl sr.gr.sub) (zA N2 PN NU PQ Pd Rf)⟩
end
def p7(i j k:Nat):PV->af->M af
 | .tup [p,q,r],env=>M.ok (((env.set i (some (.sh p))).set j (some (.sh q))).set k (some (.sh r)))
 | _,_=>none
theorem EA{E:XK}{K:PySem.W.Frag}:Dy E (gi K 3 (bj (aH i) (bj (aH j) (bj (aH k) gk)))) (p7 i j k):=by
 intro B H₀ Hs H σ env p v Q Z sr r h
 cases r with
 | @tup a xs vs ha hx =>
  match xs,hx with
  | [p,q,r],hx =>
   obtain⟨v,u,w,rfl,rp,rq,rr⟩:=hx.three
   exact⟨a,[v,u,w],rfl,iy.of (sr.gr.sub _ _ ha),rfl,v,[u,w],rfl,u,[w],rfl,w,[],rfl,rfl,h _ (((sr.set rp).set rq).set rr)⟩
  | [],_=>exact h.elim
  | [_],_=>exact h.elim
  | [_,_],_=>exact h.elim
  | _::_::_::_::_,_=>exact h.elim
 | _=>exact h.elim
theorem xh:nY (p7 i j k):=λp env e h n=>by
 unfold p7 at h
 split at h
 ·cases h;exact jF (jF (jF n))
 ·cases h
section
variable{E:XK}{pos:Pos}{fs:af->M (List PV)}{f h:af->M PV}
def ownAt(i:Nat)(env:af):M (List PV):=match env[i]? with
 | some (some (.ow xs))=>M.ok xs
 | _=>none
theorem aA.own{env:af}{Q:List PV->Prop}{F:EX->Prop}(h:aA (ownAt i env) Q F):∃ xs,env[i]?=some (some (.ow xs))/\Q xs:=by
 unfold ownAt at h
 split at h
 ·exact⟨_,by assumption,h⟩
 ·exact h.elim
def FQ(i:Nat)(xs:List PV)(p:PV)(env:af):PV->M Out
 | .int n=>match Av xs.length n with
  | some j=>M.ok (.nx (env.set i (some (.ow (xs.set j p)))))
  | none=>none
 | _=>none
def Kr(i:Nat)(g f:af->M PV):af->M Out:=λenv=>(f env).bind λp=>(ownAt i env).bind λxs=>(g env).bind (FQ i xs p env)
theorem F9{ie:Expr}(hi:X.N[i]?=some x)(hv:DA X.env.scope x)(hk:PE X ie (tE (λ_=>E) h))(he:PE X e (tE (λ_=>E) f))(hd:autoParam ((x==("__debug__" : Str))=false) aD._auto_1)(OB:autoParam ((x==("__classdict__" : Str))=false) aD._auto_1)
  (ha:autoParam (∀ v,assign (.Subscript (.Name x px) ie pos') X.env v=(do
   let ov ← holding [v] (eval (.Name x px) X.env)
   let iv ← holding [v,ov] (eval ie X.env)
   standAt pos'
   holding [v,ov,iv] (setItem ov iv v)
   release [v,ov,iv] [])) aI._auto_1)
  (hs:autoParam (swapsWithSole [.Subscript (.Name x px) ie pos'] e pos.line X.env=pure false) aR._auto_1) (hw:autoParam (swappedStores [.Subscript (.Name x px) ie pos'] e X.env=pure none) aR._auto_1)
  (h1:autoParam ((assignEach [.Subscript (.Name x px) ie pos'] X.env).map (·.2)=[assign (.Subscript (.Name x px) ie pos') X.env]) aR._auto_1):PS X (.Assign [.Subscript (.Name x px) ie pos'] e pos) (tS E (Kr i h f)):=by
 refine(HF he (HU (jS hi hv hd OB) hk set_list ha) hs hw h1).imp λD σ H q=>kB q λB H₀ Hs H1 env p v sr rp hp=>?_
 obtain⟨xs,ex,hp⟩:=aA.own (aA.bind hp)
 obtain⟨a,vs,h1,h2,h3,h4,h5⟩:=sr.ow i xs ex
 refine⟨.ref a,h1,B,H₀,Hs,env,sr,(aA.bind hp).imp (λk hk w Nx H2 g2 rk=>?_) λe he=>he.grow sr.gr⟩
 have N0:=sr.grow g2
 cases rk with
 | int n =>
  have Qt:aA (match Av xs.length n with | some j=>M.ok (Out.nx (env.set i (some (.ow (xs.set j p))))) | none=>none) (KS D B H₀) (XW E B H₀):=hk
  split at Qt
  ·rename_i j ej
   exact⟨a,vs,n,j,rfl,rfl,g2.al _ _ h2,by rw[← h5.length];exact ej,Qt σ Nx _ (N0.put ex h1 ((h5.mono g2.st).set (rp.mono g2.st) j))⟩
  ·exact Qt.elim
 | _=>exact hk.elim
end
theorem KO.gr{Q:VK}:KG (KO Q):=λHs H Np H' b k g vs p Nx H2 g2 r n=>k vs p Nx H2 (g.trans g2) r n
section
variable{sem:List PV->M (List PV)}{p pos:Pos}{fs:af->M (List PV)}{g:af->M PV}
end
mutual
def pK:PV->Bool
 | .cy=>true
 | .bl _=>true
 | .int _=>true
 | .str _=>true
 | .tup xs=>nF xs
 | _=>false
def nF:List PV->Bool
 | []=>true
 | p::r=>pK p&&nF r
end
mutual
theorem Rep.away{Hs:Hp}{a:Addr}{ws:List V}(ha:Hs a=some (.lst ws)):∀ {p:PV} {v:V},Rep Hs p v->pK p=true->Rep (rem Hs a) p v
 | _,_,.cy,_=>.cy
 | _,_,.bl b,_=>.bl b
 | _,_,.int b,_=>.int b
 | _,_,.str b,_=>.str b
 | _,_,.tup (a:=c) h r,n=>by
  have nc:c≠a:=λz=>by subst z;rw[ha] at h;cases h
  exact .tup (by unfold rem;rw[if_neg nc];exact h) (r.away ha n)
 | _,_,.lst _ _,n=>by cases n
 | _,_,.j9 _ _,n=>by cases n
 | _,_,.obj _ _,n=>by cases n
 | _,_,.Ae _,n=>by cases n
 | _,_,.zC _ _ _,n=>by cases n
theorem a_.away{Hs:Hp}{a:Addr}{ws:List V}(ha:Hs a=some (.lst ws)):∀ {p:List PV} {v:List V},a_ Hs p v->nF p=true->a_ (rem Hs a) p v
 | _,_,.nil,_=>.nil
 | _,_,.cons h r,n=>by
  have n':=Bool.and_eq_true_iff.mp (show (pK _&&nF _)=true from n)
  exact .cons (h.away ha n'.1) (r.away ha n'.2)
end
def Ds:M PV->M PV
 | some (.ok p)=>cW (pK p=true) (M.ok p)
 | _=>none
theorem aA.Ds{r:M PV}{Q:PV->Prop}{E:EX->Prop}(h:aA (L2.Ds r) Q E):aA r (λp=>pK p=true/\Q p) (λ_=>False):=by
 cases r with
 | none=>exact h
 | some r=>cases r with
  | error e=>exact h
  | ok p =>
   obtain⟨n,h⟩:=aA.cW h
   exact⟨n,h⟩
theorem bZ.back{Np H':Hp}{ws:List V}(h1:Hs a=none)(hH:H a=some (.lst ws))(s:bC Hs H)(g:bZ (upd Hs a (.lst ws)) H Np H'):bZ Hs H (rem Np a) H'/\Np a=some (.lst ws):=by
 have e:Np a=some (.lst ws):=g.st _ _ az
 refine⟨⟨λc u q=>?_,g.al,λc u q=>?_,λc u q1 q2=>?_⟩,e⟩
 ·have nc:c≠a:=λz=>by subst z;rw[h1] at q;cases q
  unfold rem;rw[if_neg nc]
  exact g.st c u (by rw[ar nc];exact q)
 ·unfold rem at q
  split at q
  ·cases q
  ·exact g.sub c u q
 ·unfold rem
  by_cases nc:c=a
  ·rw[if_pos nc]
  ·rw[if_neg nc]
   exact g.nw c u (by rw[ar nc];exact q1) q2
theorem SR.lend{B:Hp}{env:af}(r:SR B H₀ Hs H σ env)(e:env[i]?=some (some (.ow xs))):∃ a vs,Hs a=none/\H a=some (.lst vs)/\SR B H₀ (upd Hs a (.lst vs)) H σ (uB i env):=by
 obtain⟨a,vs,h1,h2,h3,h4,h5⟩:=r.ow i xs e
 refine⟨a,vs,h3,h2,?_⟩
 have ne:∀ c u,Hs c=some u->c≠a:=λc u q z=>by rw[z,h3] at q;cases q
 have NL:bC Hs (upd Hs a (.lst vs)):=λc u q=>by rw[ar (ne c u q)];exact q
 unfold uB
 rw[e]
 refine⟨⟨λc u q=>NL c u (r.gr.st c u q),r.gr.al,λc u q=>?_,λc u q1 q2=>?_⟩,by rw[List.length_set];exact r.len,λj q ej=>?_,λj ys ej=>?_,λj k ys zs b nj e1 e2 e3 e4=>?_,λj ba C fs ej=>?_,λj k _ _ C D fs gs e1 e2=>?_⟩
 ·by_cases z:c=a
  ·subst z;rw[az] at q;cases q;exact h2
  ·rw[ar z] at q;exact r.gr.sub c u q
 ·have z:c≠a:=λz=>by rw[z,h4] at q2;cases q2
  rw[ar z];exact r.gr.nw c u q1 q2
 ·rw[List.getElem?_set] at ej
  by_cases z:i=j
  ·subst z
   rw[if_pos rfl] at ej
   split at ej
   ·cases ej
    exact⟨.ref a,h1,.lst az (h5.mono NL)⟩
   ·cases ej
  ·rw[if_neg z] at ej
   obtain⟨v,q1,q2⟩:=r.sh j q ej
   exact⟨v,q1,q2.mono NL⟩
 ·rw[List.getElem?_set] at ej
  by_cases z:i=j
  ·subst z
   rw[if_pos rfl] at ej
   split at ej <;> cases ej
  ·rw[if_neg z] at ej
   obtain⟨b,us,q1,q2,q3,q4,q5⟩:=r.ow j ys ej
   have nb:b≠a:=λw=>by subst w;exact r.sep i j xs ys b z e ej h1 q1
   exact⟨b,us,q1,q2,by rw[ar nb];exact q3,q4,q5.mono NL⟩
 ·rw[List.getElem?_set] at e1 e2
  by_cases z:i=j
  ·subst z
   rw[if_pos rfl] at e1
   split at e1 <;> cases e1
  ·by_cases z2:i=k
   ·subst z2
    rw[if_pos rfl] at e2
    split at e2 <;> cases e2
   ·rw[if_neg z] at e1
    rw[if_neg z2] at e2
    exact r.sep j k ys zs b nj e1 e2 e3 e4
 ·rw[List.getElem?_set] at ej
  by_cases z:i=j
  ·subst z
   rw[if_pos rfl] at ej
   split at ej <;> cases ej
  ·rw[if_neg z] at ej
   obtain⟨dx,us,q1,q2,q3,q4,q5⟩:=r.bd j ba C fs ej
   have nb:ba≠a:=λw=>by subst w;rw[h2] at q2;cases q2
   exact⟨dx,us,q1,q2,by rw[ar nb];exact q3,q4,q5.mono NL⟩
 ·rw[List.getElem?_set] at e1 e2
  by_cases z:i=j
  ·subst z
   rw[if_pos rfl] at e1
   split at e1 <;> cases e1
  ·by_cases z2:i=k
   ·subst z2
    rw[if_pos rfl] at e2
    split at e2 <;> cases e2
   ·rw[if_neg z] at e1
    rw[if_neg z2] at e2
    exact r.one j k _ _ C D fs gs e1 e2
def wo(i:Nat)(f:af->M PV):af->M PV:=λenv=>(ownAt i env).bind λ_=>Ds (f (uB i env))
section
variable{f:af->M PV}{u:af->M Bool}
theorem yA(i:Nat)(he:PE X e (tE E f)):PE X e (tE E (wo i f)):=he.imp fun σ H Q q=>by
 obtain⟨B,H₀,Hs,env,sr,q⟩:=q
 obtain⟨xs,ex,q⟩:=aA.own (aA.bind q)
 obtain⟨a,vs,h3,h2,N0⟩:=sr.lend ex
 refine⟨B,H₀,_,_,N0,(aA.Ds q).imp (λp hp v Np H' g r=>?_) λ_ z=>z.elim⟩
 obtain⟨g2,ea⟩:=bZ.back h3 h2 sr.gr.sub g
 exact hp.2 v _ _ g2 (r.away ea hp.1)
end
def bF:PV->PV->M PV:=BS (λ_ j=>decide (j≠0/\j.natAbs.log2<9000)) λi j=>i.fdiv j
def cA:PV->PV->M PV:=BS (λ_ j=>decide (j≠0)) λi j=>i.fmod j
def DZ:PV->PV->M PV:=BH λi j=>decide (i<j)
def E7:PV->PV->M PV:=BH λi j=>decide (i<=j)
def EG:PV->PV->M PV:=BH λi j=>decide (j<i)
def Ge:PV->PV->M PV:=BH λi j=>decide (j<=i)
theorem Cm:nU E (rI C4 λi j=>.int (i.fdiv j)) bF:=Eg
theorem D9:nU E (rI (λ_ j=>j≠0) λi j=>.int (i.fmod j)) cA:=GI
theorem xn:nU E (w4 λi j=>.bl (decide (i<j))) DZ:=tm
theorem qw:nU E (w4 λi j=>.bl (decide (i<=j))) E7:=tm
theorem BE:nU E (w4 λi j=>.bl (decide (j<i))) EG:=tm
theorem A6:nU E (w4 λi j=>.bl (decide (j<=i))) Ge:=tm
def bu(n:Nat)(s:List PV->M PV):List PV->M PV:=λps=>cW (ps.length=n) (s ps)
theorem qC{s:List PV->M PV}{ps:List PV}(h:bu n s ps≠none):ps.length=n:=by
 unfold bu cW at h
 split at h
 ·assumption
 ·exact(h rfl).elim
variable{dv:Value}
section
variable{K:PySem.W.Frag}
theorem C8{s:List PV->M PV}(F:aV P w K mg base (bX P w) k f fd ps (dy n s)):aV P w K mg base (bX P w) k f fd ps (dy n (bu n s)) where
 len:=λvs H Q E h=>by
  obtain⟨h0,Hs,qs,sm,r,h⟩:=h
  exact F.len vs H Q E ⟨h0,Hs,qs,sm,r,(aA.cW h).2⟩
 run:=λA outer s H args us vs Q E hr e hb rv h=>by
  obtain⟨h0,Hs,qs,sm,r,h⟩:=h
  exact F.run A outer s H args us vs Q E hr e hb rv ⟨h0,Hs,qs,sm,r,(aA.cW h).2⟩
structure cV (P:Program) (w:World) (K:PySem.W.Frag) (mg:Str->Option Value) (base:Heap) (n:Nat) (x:Str) (m:Nat) (sem:List PV->M PV):Prop where
 ex:∃ (f:Addr) (fd:FuncData) (ps:List Str),mg x=some (.ref f)/\PySem.W.keepIn K (.ref f)=true/\ps.length=m/\Binds K fd ps []/\aV P w K mg base (bX P w) n f fd ps (dy m (bu m sem))
theorem bo.M8{st:Stmt}{g:af->M Out}(F:bo K x qual st dv f fd)(S:cL N ps (bf st))
  (hb:∀ (NF:Value) (A:Around) (outer:List Env) (s:Shared) (H:Hp) (E:XK),cQ k (A.deeper (envOfC qual (bf st) s.heap.objs.size f NF))->fF ((my (bX P w) P w K mg base N qual (bf st) f NF A outer s H E).out λ_=>E) (λ_=>E)->lY ((my (bX P w) P w K mg base N qual (bf st) f NF A outer s H E).out λ_=>E) (eP st) (tS E g)) :
  aV P w K mg base (bX P w) (k+1) f fd ps (dy ps.length (bu ps.length (aw N.length g))):=by
 obtain⟨oc,od,kV,doc,pm,an,NF,ct,P5,rfl,lk,OB⟩:=F.ex
 exact C8 (HA lk OB S λA outer s H E hr=>hb NF A outer s H E hr (Gm rfl rfl))
end
section
variable{m:Nat}{sem:List PV->M PV}{fs:af->M (List PV)}{p pos:Pos}
theorem cV.call(F:cV X.prog X.w X.K X.mg X.base n x m sem)(hr:cQ k X.A)(hn:n<=k)(hg:Gl X x)(O:fF X E)(ha:PA X (e::es) (tL E fs))(Oh:autoParam ((x==("__debug__" : Str))=false) aD._auto_1)(he:autoParam (starEach (e::es) X.env=(false,eval e X.env)::starEach es X.env) aR._auto_1)(NO:autoParam ((backTo pos (starEach es X.env)).any (·.1)=false) aR._auto_1) :
  PE X (.Call (.Name x p) (e::es) [] pos) (tE E (ai (bu m sem) fs)):=by
 obtain⟨f,fd,ps,h1,h2,h3,h4,h5⟩:=F.ex
 have:=ED (p:=p) (OZ:=[]) h5 (hr.mono hn) hg h1 h2 h4 .nil (λ_=>.nil) O (λO1 hp=>by rw[List.append_nil] at hp;exact qC hp) ha Oh he NO
 refine this.imp fun σ H Q q=>?_
 have e:(λps=>bu m sem (ps++[]))=bu m sem:=by funext ps;rw[List.append_nil]
 rw[e];exact q
structure jK (P:Program) (w:World) (K:PySem.W.Frag) (mg:Str->Option Value) (base:Heap) (C:Addr) (n:Nat) (x:Str) (m:Nat) (sem:List PV->M PV):Prop where
 ex:∃ (f:Addr) (fd:FuncData) (ps:List Str),lp K C/\Meth K C x f/\Binds K fd ps []/\aV P w K mg base (bX P w) n f fd ps (dy m (bu m sem))
theorem jK.call{g:af->M PV}(F:jK X.prog X.w X.K X.mg X.base C n x m sem)(hr:cQ k X.A)(hn:n<=k)(O:fF X E)(ho:PE X o (tE E g))(ha:PA X (e::es) (tL E fs))
  (NL:autoParam (starEach (e::es) X.env=(false,eval e X.env)::starEach es X.env) aR._auto_1) (NO:autoParam ((backTo pos (starEach es X.env)).any (·.1)=false) aR._auto_1)
  (ht:autoParam (eval (.Call (.Attribute o x apos) (e::es) [] pos) X.env=(do
   let ov ← eval o X.env
   standAt apos.atName
   let (f,first) ← holding [ov] (getMethod ov x pl)
   callWith pos f first (backTo pos (starEach (e::es) X.env)) (backToKw pos (keywordEach [] X.env)))) aR._auto_1) :
  PE X (.Call (.Attribute o x apos) (e::es) [] pos) (tE E (bh C x (bu m sem) g fs)):=by
 obtain⟨f,fd,ps,h1,h2,h3,h4⟩:=F.ex
 exact Fv ho h1 h2 h4 (hr.mono hn) h3 O (λO1 hp=>qC hp) ha NL NO ht
theorem jK.JQ{g:af->M PV}(F:jK X.prog X.w X.K X.mg X.base C n x m sem)(hr:cQ k X.A)(hn:n<=k)(O:fF X E)(ho:PE X o (tE E g))
  (ht:autoParam (eval (.Call (.Attribute o x apos) [] [] pos) X.env=(do
   let ov ← eval o X.env
   standAt apos.atName
   let (f,first) ← holding [ov] (getMethod ov x pl)
   callWith pos f first (backTo pos (starEach [] X.env)) (backToKw pos (keywordEach [] X.env)))) aR._auto_1) :
  PE X (.Call (.Attribute o x apos) [] [] pos) (tE E (bh C x (bu m sem) g aj)):=by
 obtain⟨f,fd,ps,h1,h2,h3,h4⟩:=F.ex
 exact BL ho h1 h2 h4 (hr.mono hn) h3 O (λO1 hp=>qC hp) ht
end
structure r_ (P:Program) (w:World) (K:PySem.W.Frag) (mg:Str->Option Value) (base:Heap) (C:Addr) (n:Nat) (x:Str) (m:Nat) (OZ:List PV) (sem:Addr->List PV->M (List (Str×PV))):Prop where
 ex:∃ (f:Addr) (fd:FuncData) (ps:List Str) (ds:List Value) (N8:List V),mg x=some (.ref C)/\Mk K C f/\Binds K fd ps ds/\Vals N8 ds/\(∀ H,a_ H OZ N8)/\aV P w K mg base (bX P w) n f fd ps (DR m C sem)
def pk(m:Nat)(sem:Addr->List PV->M (List (Str×PV))):Addr->List PV->M (List (Str×PV)):=λa ps=>cW (ps.length+1=m) (sem a ps)
theorem zX{K:PySem.W.Frag}{s:Addr->List PV->M (List (Str×PV))}(F:aV P w K mg base (bX P w) k f fd ps (DR n C s)):aV P w K mg base (bX P w) k f fd ps (DR n C (pk n s)) where
 len:=λvs H Q E h=>by
  obtain⟨h0,a,dx,us,Hs,H1,qs,e1,e2,e3,e4,e5,sm,r,h⟩:=h
  exact F.len vs H Q E ⟨h0,a,dx,us,Hs,H1,qs,e1,e2,e3,e4,e5,sm,r,(aA.cW h).2⟩
 run:=λA outer s H args us vs Q E hr e hb rv h=>by
  obtain⟨h0,a,dx,us',Hs,H1,qs,e1,e2,e3,e4,e5,sm,r,h⟩:=h
  exact F.run A outer s H args us vs Q E hr e hb rv ⟨h0,a,dx,us',Hs,H1,qs,e1,e2,e3,e4,e5,sm,r,(aA.cW h).2⟩
theorem bo.K9{K:PySem.W.Frag}{st:Stmt}{g:af->M Out}(F:bo K x qual st dv f fd)(S:cL N ps (bf st))(hN:0<N.length)
  (hb:∀ (NF:Value) (A:Around) (outer:List Env) (s:Shared) (H:Hp) (E:XK),cQ k (A.deeper (envOfC qual (bf st) s.heap.objs.size f NF))->fF ((my (bX P w) P w K mg base N qual (bf st) f NF A outer s H E).out λ_=>E) (λ_=>E)->lY ((my (bX P w) P w K mg base N qual (bf st) f NF A outer s H E).out λ_=>E) (eP st) (tS E g)) :
  aV P w K mg base (bX P w) (k+1) f fd ps (DR ps.length C (pk ps.length (vH N.length g C))):=by
 obtain⟨oc,od,kV,doc,pm,an,NF,ct,P5,rfl,lk,OB⟩:=F.ex
 exact zX <| E2 lk OB S hN λA outer s H E hr=>hb NF A outer s H E hr (Gm rfl rfl)
section
variable{m:Nat}{fs:af->M (List PV)}{p pos:Pos}
theorem r_.make{sem:Addr->List PV->M (List (Str×PV))}(F:r_ X.prog X.w X.K X.mg X.base C n x m OZ (pk m sem))(hr:cQ k X.A)(hn:n+1<=k)(hg:Gl X x)(O:fF X E)(ha:PA X (e::es) (tL E fs))(Oh:autoParam ((x==("__debug__" : Str))=false) aD._auto_1)(he:autoParam (starEach (e::es) X.env=(false,eval e X.env)::starEach es X.env) aR._auto_1)(NO:autoParam ((backTo pos (starEach es X.env)).any (·.1)=false) aR._auto_1) :
  PE X (.Call (.Name x p) (e::es) [] pos) (tE E (ai (bY C (pk m sem) OZ) fs)):=by
 obtain⟨f,fd,ps,ds,N8,h1,h2,h4,h5,h6,h7⟩:=F.ex
 refine DS (p:=p) h2 h7 (hr.mono hn) hg h1 h4 h5 h6 O (λa O1 hp=>?_) ha Oh he NO
 unfold pk cW at hp
 split at hp
 ·rename_i h;rwa [List.length_append] at h
 ·exact(hp rfl).elim
end
def xE:Addr->Option Bool:=λ_=>none
theorem xt{P:Addr->Bool->Prop}:∀ C b,xE C=some b->P C b:=λ_ _ h=>by cases h
theorem vr{pos:Pos}(i:Nat)(hN:autoParam (X.N[i]?=some x) aR._auto_1)(hv:DA X.env.scope x:=by first | exact .inl rfl | exact .inr (.inl rfl) | exact .inr (.inr rfl))(hd:autoParam ((x==("__debug__" : Str))=false) aD._auto_1)(OB:autoParam ((x==("__classdict__" : Str))=false) aD._auto_1):PE X (.Name x pos) (tE E (ae i)):=Hr hN hv hd OB
theorem F2{env:Env}(h:(match e with | .Starred ..=>true | _=>false)=false):starEach (e::es) env=(false,eval e env)::starEach es env:=by
 cases e <;> first | rfl | cases h
def k4:List Expr->Option (List Int)
 | []=>some []
 | .Constant (.int i) _ _::r=>(k4 r).map (i::·)
 | _=>none
section
variable{pos:Pos}
theorem yx:∀ {es:List Expr} {ns:List Int},k4 es=some ns->PA X es (tL E λ_=>M.ok (ns.map PV.int))
 | [],_,h=>by cases h;exact Dg
 | .Constant (.int i) j p::r,ns,h=>by
  obtain⟨ms,h1,rfl⟩:=Option.map_eq_some_iff.mp (show (k4 r).map (i::·)=some ns from h)
  exact yc A3 (yx h1) (F2 rfl)
theorem oQ(ns:List Int)(h:autoParam (k4 es=some ns) aR._auto_1)(hz:autoParam (ns.length<=1000) aD._auto_1):PE X (.List es pos) (tE E λ_=>M.ok (.lst (ns.map PV.int))):=by
 refine(Cu (E:=E) (yx h)).imp fun σ H Q q=>?_
 have e:(ly λ_=>M.ok (ns.map PV.int))=λ_=>M.ok (.lst (ns.map PV.int)):=by
  funext env
  show cW _ _=_
  unfold cW
  rw[if_pos (by rw[List.length_map];exact Nat.le_trans hz (by decide))]
 rw[e];exact q
end
def BP:PV->PV->M (List PV)
 | .lst xs,.int k=>cW (-(2^63)<=k/\k<2^63/\xs.length*k.toNat<=sizeLine) (M.ok (List.replicate k.toNat xs).flatten)
 | _,_=>none
def HZ(f g:af->M PV):af->M (List PV):=λenv=>(f env).bind λp=>(g env).bind λq=>BP p q
section
variable{a b:Expr}{pos:Pos}{f g:af->M PV}
theorem Hf(ha:PE X a (tE E f))(hb:PE X b (tE E g)):PE X (.BinOp a .Mult b pos) (tO E (HZ f g)):=by
 refine(F7 BU ha hb).imp fun σ H Q q=>cO (K:=KO Q) KO.gr q λB H₀ Hs H1 env p v sr rp hp=>?_
 refine⟨B,H₀,Hs,env,sr,(aA.bind hp).imp (λq hq u Np H' g' ru=>?_) λe he=>he⟩
 have O6:=sr.grow g'
 have rp':=rp.mono g'.st
 cases rp' with
 | @lst l xs vs ha hx=>cases ru with
  | int k =>
   obtain⟨⟨h1,h2,h3⟩,h⟩:=aA.cW hq
   exact⟨l,k,vs,rfl,rfl,O6.gr.sub _ _ ha,h1,h2,by rw[← hx.length];exact h3,λp n=>h _ p Np H' g' (hx.rep _) n⟩
  | _=>exact hq.elim
 | _=>exact hq.elim
end
structure zK (K:PySem.W.Frag) (mg:Str->Option Value) (C:Addr) (x:Str):Prop where
 hc:PySem.W.excIn K C fz "ValueError.__new__" = true
 c:jb K C
 ht:PySem.W.typeIn K (.ref C)=some (.type "type")
 kp:PySem.W.keepIn K (.ref C)=true
 m:mg x=some (.ref C)
structure oC (P:Program) (w:World) (K:PySem.W.Frag) (mg:Str->Option Value) (base:Heap) (C:Addr) (x fl:Str):Prop where
 ex:∃ (f:Addr) (fd:FuncData) (ps:List Str),pj K C "ValueError.__new__" f=true/\PySem.W.isFn K (.ref f)=true/\aV P w K mg base (bX P w) 1 f fd ps (xi K C fl)/\Binds K fd ps []
 c:jb K C
 ht:PySem.W.typeIn K (.ref C)=some (.type "type")
 kp:PySem.W.keepIn K (.ref C)=true
 m:mg x=some (.ref C)
section
variable{E:XK}{pos p:Pos}{fl:Str}{fs:af->M (List PV)}
theorem zK.raise(F:zK X.K X.mg C x)(O:fF X λ_=>E)(Nv:X.calm=true)(hg:Gl X x)(ha:PA X (e::es) (tL (λ_=>E) fs))
  (Oh:autoParam ((x==("__debug__" : Str))=false) aD._auto_1) (he:autoParam (starEach (e::es) X.env=(false,eval e X.env)::starEach es X.env) aR._auto_1) (NO:autoParam ((backTo NJ (starEach es X.env)).any (·.1)=false) aR._auto_1) :
  PS X (.Raise (some (.Call (.Name x p) (e::es) [] NJ)) none pos) (tS E (lU C fs)):=Ai O Nv F.hc F.c F.ht F.kp hg F.m ha Oh he NO
theorem oC.raise(F:oC X.prog X.w X.K X.mg X.base C x fl)(hr:cQ k X.A)(hn:2<=k)(O:fF X λ_=>E)(Nv:X.calm=true)(hg:Gl X x)(ha:PA X [e] (tL (λ_=>E) fs))
  (Oh:autoParam ((x==("__debug__" : Str))=false) aD._auto_1) (he:autoParam (starEach [e] X.env=(false,eval e X.env)::starEach [] X.env) aR._auto_1) (NO:autoParam ((backTo NJ (starEach [] X.env)).any (·.1)=false) aR._auto_1) :
  PS X (.Raise (some (.Call (.Name x p) [e] [] NJ)) none pos) (tS E (ja C fl fs)):=by
 obtain⟨f,fd,ps,h1,h2,h3,h4⟩:=F.ex
 exact zU O Nv h1 h2 F.c F.ht F.kp h3 (hr.mono hn) h4 hg F.m ha Oh he NO
end
def J3(i j:Nat)(env:af):List PV->M Out
 | [p,q]=>M.ok (.nx ((env.set i (some (.sh p))).set j (some (.sh q))))
 | _=>none
def IF(i j:Nat)(fs:af->M (List PV)):af->M Out:=λenv=>(fs env).bind (J3 i j env)
theorem Gv{E:XK}{a b:Expr}{fs:af->M (List PV)}{py pt pos:Pos}{kt:Nat}{QH:Pos}(hc:X.calm=true)(hN:X.N.Nodup)(hi:X.N[i]?=some x)(hj:X.N[j]?=some y)(hij:i≠j)
  (hx:X.env.scope.names.lookup x=some .local) (hy:X.env.scope.names.lookup y=some .local) (ha:PA X [a,b] (tL (λ_=>E) fs))
  (hw:swappedStores [.Tuple [.Name x px,.Name y py] kt pt] (.Tuple [a,b] k2 QH) X.env=pure (some [x,y]))
  (hs:autoParam (swapsWithSole [.Tuple [.Name x px,.Name y py] kt pt] (.Tuple [a,b] k2 QH) pos.line X.env=pure false) aR._auto_1) :
  PS X (.Assign [.Tuple [.Name x px,.Name y py] kt pt] (.Tuple [a,b] k2 QH) pos) (tS E (IF i j fs)):=by
 refine(Hd hc hN hi hj hij hx hy ha hw hs).imp λD σ H q=>pO q λB H₀ Hs H1 env ps v sr rp hp=>?_
 match ps,rp,hp with
 | [],_,hp=>exact hp.elim
 | [_],_,hp=>exact hp.elim
 | _::_::_::_,_,hp=>exact hp.elim
 | [p,q],rp,hp =>
  obtain⟨v,u,rfl,r1,r2⟩:=rp.two
  exact⟨v,u,rfl,hp _ Hs H1 ((sr.set r1).set r2)⟩
section
variable{pos:Pos}
end
section
variable{cl:List (Str×Addr)}{pos:Pos}{wi:TI}{it:af->M (List PV)}{g:TG}{set:PV->af->M af}{f:af->M PV}{fs:List Str}
variable{E:XK}{py Pe:Pos}
theorem jR(Nv:X.calm=true)
  (NM:closureFor scope X.env=pure cl) (hk:scope.kind=.function) (nc:gz scope.names=true) (lo:iI scope.names=true) (fh:iT cl scope.names=true) (ag:eV X cl) (fr:jj X scope cl fs js)
  (hi:PI X tg iter wi) (hv:yL (λ_=>E) wi it) (hg:∀ C s₀ H₀ ex Ni,PG (qE X scope cl (ts++fs) C s₀ H₀ ex Ni) tg g) (P8:∀ E,Dy E g set) (so:nY set) (he:∀ C s₀ H₀ ex Ni,PE (qE X scope cl (ts++fs) C s₀ H₀ ex Ni) elt (tE EF f))
  (hN:X.N.Nodup) (hiy:X.N[i]?=some y) (hy:Loc X.env.scope y)
  (hs:autoParam (∀ x,foldedSetIterable iter X.env x=pure x) aI._auto_1) (Ri:autoParam (swapsWith (.ListComp elt [⟨tg,iter,[],0⟩] scope pos) (some (.Name y py)) Pe.line X.env=pure true) aR._auto_1)
  (hf:autoParam (X.fn y=true\/X.env.scope.names.lookup y=some .local) aF._auto_1) :
  PS X (.Assign [.Name y py] (.ListComp elt [⟨tg,iter,[],0⟩] scope pos) Pe) (tS E (br i (ck (bR it set none f ts.length js)))):=by
 refine(DW hN hiy hy Nv NM hk nc lo fh ag fr hi hg he hs Ri hf).imp λD σ H q=>?_
 refine vR hv P8 so ?_
 obtain⟨B,H₀,Hs,env,sr,q⟩:=q
 refine⟨B,H₀,Hs,env,sr,(aA.bind (aA.bind q)).imp (λps hp vs p Np H' g r n=>?_) λe he=>he.grow sr.gr⟩
 have gn:=bZ.new (o:=.lst vs) g.sub n
 exact hp _ _ _ ((sr.grow (g.trans gn)).set (.lst az (r.mono gn.st)))
end
section
variable{a:Expr}{ta:TA}{p pos:Pos}
end
section
variable{fs:af->M (List PV)}{a:Expr}{p p2 pos pos2:Pos}
end
section
open AutoSeq1 (wpAny_loadPart')
theorem Au(l:Addr)(items:Array Value)(n:Nat)(dct:Option Addr)(sl:Array (Option Value)) :
  Meets (Builtin.«enumerate.__new__» ⟨[.type "enumerate", .ref l],[]⟩) (λ_ R s=>s.heap.get? l=some { cls:=.type "tuple", dict:=dct,data:=.seq items n,slots:=sl } ∧
   R (.ok (.ret (.ref (s.heap.push { cls:=.type "tuple_iterator", data:=.fields #[.ref l,.int 0 0] }).objs.size)))
    { s with heap:=(s.heap.push { cls:=.type "tuple_iterator", data:=.fields #[.ref l,.int 0 0] }).push { cls:=.type "enumerate", data:=.fields #[.none,.bool false,.ref s.heap.objs.size,rawInt 0,.none,.none] } }) :=
 .of_wp λprog w A R s h=>by
  obtain⟨hp,g,d,tk,os⟩:=s;obtain⟨hl,h⟩:=h
  have Rh:=sub_enumerate
  have hL:Heap.IsTuple (Shared.heap ⟨hp,g,d,tk,os⟩) l items:=⟨_,hl,rfl,n,rfl⟩
  wp_walk using wpAny_loadPart' hl
  refine wpAny_stack_any λst=>wpAny_pure ?_
  split
  ·rename_i c _ _ _ _ _
   cases (c==Value.type "enumerate")
   ·wp_walk using wpAny_loadPart' hl,wpAny_pyIter_tuple hL
    exact⟨_,rfl,h⟩
   ·wp_walk using wpAny_loadPart' hl,wpAny_pyIter_tuple hL
    exact⟨_,rfl,h⟩
  ·wp_walk using wpAny_loadPart' hl,wpAny_pyIter_tuple hL
   exact⟨_,rfl,h⟩
section
variable{E:Value->Shared->Prop}
theorem wQ(hL:s.heap.IsTuple l items)
  (h:∀ h',IsEnum h' (s.heap.objs.size+1) s.heap.objs.size 0 .none->h'.IsTupleIter s.heap.objs.size l 0->h'.objs.size=s.heap.objs.size+2 ->
   (∀ b o,s.heap.get? b=some o->h'.get? b=some o)->Q (.ref (s.heap.objs.size+1)) { s with heap:=h' }) :
  wpAny (model prog w) A (call (.type "enumerate") [.ref l]) Q E s:=by
 obtain⟨⟨c,dct,dt,sl⟩,hl,hc,n,hd⟩:=hL
 replace hc:c=.type "tuple" := hc
 replace hd:dt=.seq items n:=hd
 subst hc hd
 refine callType_new F.called_enumerate (by decide) (F.typeCall_enumerate_1 _) (F.newCall_enumerate_1 _) (λobj=>F.args_object_init_2 obj _) F.entry_enumerate_new
  (Au l items n dct sl) ⟨hl,?_⟩
 have hz:(s.heap.push { cls:=.type "tuple_iterator", data:=.fields #[.ref l,.int 0 0] }).objs.size=s.heap.objs.size+1:=Heap.size_push ..
 show _/\_
 rw[hz]
 have he:IsEnum ((s.heap.push { cls:=.type "tuple_iterator", data:=.fields #[.ref l,.int 0 0] }).push
   { cls:=.type "enumerate", data:=.fields #[.none,.bool false,.ref s.heap.objs.size,rawInt 0,.none,.none] }) (s.heap.objs.size+1) s.heap.objs.size 0 .none:=by
  have:=Heap.get?_push_size (s.heap.push { cls:=.type "tuple_iterator", data:=.fields #[.ref l,.int 0 0] })
   (o:={ cls:=.type "enumerate", data:=.fields #[.none,.bool false,.ref s.heap.objs.size,rawInt 0,.none,.none] }) rfl
  rw[hz] at this;exact this
 refine⟨⟨_,he,rfl⟩,h _ he ⟨_,Heap.get?_push_of_some _ (Heap.get?_push_size _ rfl),rfl,rfl⟩ (by rw[Heap.size_push,hz]) λb o x=>Heap.get?_push_of_some _ (Heap.get?_push_of_some _ x)⟩
end
theorem IX(hh:A.handled=none)(it t:Addr)(items:Array Value) :
  Draws prog w A it [it,t] items.size (λi v=>items[i]?=some v) (λi h=>h.IsTupleIter it t i/\h.IsTuple t items) where
 live:=λ_ _ st=>let ⟨⟨o,ho,_⟩,_⟩:=st;⟨o,ho⟩
 frame:=λ_ _ _ st hk=>by
  obtain⟨⟨o,ho,r⟩,⟨o2,Pw,r2⟩⟩:=st
  exact⟨⟨o,hk it (by simp) o ho,r⟩,⟨o2,hk t (by simp) o2 Pw,r2⟩⟩
 item:=λi s Q E hi st hQ=>by
  obtain⟨st,tt⟩:=st
  refine iN st tt (x:=items[i]) (by simp[hi]) λh' Qz QO=>?_
  refine hQ _ h' s.toks (by simp[hi]) ⟨Qz,?_⟩ QO
  obtain⟨o,ho,c1,_⟩:=st
  obtain⟨o2,Pw,c2,r2⟩:=tt
  refine⟨o2,(QO.2 t λz=>?_).trans Pw,c2,r2⟩
  rw[z,ho] at Pw;cases Pw
  rw[c1] at c2;exact absurd c2 (by decide)
 done:=λs Q E st hE=>fj hh st.1 st.2 (by simp) hE
def Ho (K : PySem.W.Frag) (a : Addr) : It :=
  ⟨λi H => ∃ xs x, iy K H a xs /\ xs[i]? = some x,
   λi H y H' => ∃ p x, H p = none /\ y = .ref p /\ H' = upd H p (.tup [.int i, x]) /\ ∀ xs, iy K H a xs -> xs[i]? = some x,
   λi H => ∃ xs, iy K H a xs /\ xs.length <= i⟩
theorem xD{K:PySem.W.Frag}{tp:Pos}(a e it:Addr)(Pm:e≠it):Turn P w K (.Tuple elts x1 tp) (Ho K a) [e,it] e (λi h=>(∃ old,IsEnum h e it i old)/\h.IsTupleIter it a i) where
 mem:=by simp
 obj:=λi h st b hb=>by
  obtain⟨⟨old,he⟩,⟨o,e1,c,d⟩⟩:=st
  rcases List.mem_cons.mp hb with z | z
  ·subst z
   exact⟨_,he,λv z=>by cases z⟩
  ·have z':b=it:=by simpa using z
   subst z'
   exact⟨o,e1,λv z=>by rw[d] at z;cases z⟩
 keep:=λi h h' st k=>by
  obtain⟨⟨old,he⟩,⟨o,ho,r⟩⟩:=st
  exact⟨⟨old,k e (by simp) _ he⟩,⟨o,k it (by simp) o ho,r⟩⟩
 item:=by
  intro X hP hw hK hc i Ni s σ H E I hf st hg
  subst hP hw hK
  obtain⟨xs,x,hq,hx⟩:=hg
  obtain⟨Nl,rv,p,hz⟩:=I.tuple hq
  obtain⟨u,hu,ru⟩:=rv.get hx
  obtain⟨⟨old,he⟩,hit⟩:=st
  have PJ:e<s.heap.objs.size:=Heap.lt_size he
  have Qy:it<s.heap.objs.size:=by obtain⟨_,z,_⟩:=hit;exact Heap.lt_size z
  have hea:e ∉ [it,a]:=λz=>by
   rcases List.mem_cons.mp z with z | z
   ·exact Pm z
   ·obtain⟨o,ho,c,_⟩:=p
    rw[← List.mem_singleton.mp z,he] at ho
    cases ho;exact absurd (show Value.type "enumerate" = Value.type "tuple" from c) (by decide)
  have Qh:i<Nl.toArray.size:=by
   have:=(List.getElem?_eq_some_iff.mp hu).1
   simpa using this
  refine wpAny_pyNext_enum_itemD (IX (A:=X.A.in1) (I.ok.hd hc) it a Nl.toArray) he ⟨hit,p⟩ Qh Pm hea λu' h' tk hu' ho NL hT OQ hk=>⟨_,rfl,?_⟩
  have eu:u'=u:=by
   rw[List.getElem?_toArray,hu] at hu';exact(Option.some.inj hu').symm
  subst eu
  refine wpAny_letOwnedTupleGo_enum (s:={ s with heap:=h',toks:=tk+1 }) ho λh2 he2 OK=>?_
  have PX:∀ b o,b ∉ [e,it]->s.heap.get? b=some o->h2.get? b=some o:=λb o hb q=>by
   have n1:b≠e:=λz=>hb (by simp[z])
   have n2:b≠it:=λz=>hb (by simp[z])
   exact(OK.2 b n1).trans (hk b o n1 n2 q)
  have Qb:h2.get? s.heap.objs.size=some { cls:=.type "tuple", data:=.seq #[.int i tk,u'] }:=(OK.2 _ (Nat.ne_of_gt PJ)).trans hT
  have I2:Inv X Ni σ (upd H s.heap.objs.size (.tup [.int i,x])) { s with heap:=h2,toks:=tk+1 } :=
   I.kP (ch:=[e,it]) PX hf (Nat.le_refl _) (λb hb=>by
    rcases List.mem_cons.mp hb with z | z
    ·subst z;exact⟨_,he⟩
    ·have z':b=it:=by simpa using z
     subst z'
     obtain⟨o,z,_⟩:=hit
     exact⟨o,z⟩)
    ⟨by show 2<=sizeLine;decide,[.int i tk,u'],.cons ⟨_,rfl⟩ (.cons ru .nil),⟨_,Qb,rfl,_,rfl⟩⟩
  have OJ:H s.heap.objs.size=none:=I.bT.fresh (Nat.le_refl _)
  obtain⟨oi,hoi,ri⟩:=NL.1
  refine⟨.ref s.heap.objs.size,_,I2,rfl,⟨_,x,OJ,rfl,rfl,λys hy=>by rw[I.nv hy hq];exact hx⟩,⟨⟨u',by simpa using he2⟩,⟨oi,(OK.2 it (Ne.symm Pm)).trans hoi,ri⟩⟩,λb hb=>?_⟩
  have nb:b≠s.heap.objs.size:=by
   rcases List.mem_cons.mp hb with z | z
   ·rw[z];exact Nat.ne_of_lt PJ
   ·have z':b=it:=by simpa using z
    rw[z'];exact Nat.ne_of_lt Qy
  rw[ar nb]
  exact(hf b hb).1
 done:=by
  intro X hP hw hK hc i Ni s σ H E I hf st hg
  subst hP hw hK
  obtain⟨xs,hq,hx⟩:=hg
  obtain⟨Nl,rv,p,hz⟩:=I.tuple hq
  have hl:=rv.length
  obtain⟨⟨old,he⟩,hit⟩:=st
  obtain⟨f0,f1,f2,f3,f4,f5⟩:=hf it (by simp)
  have hT:s.TypeIs (.ref e) "enumerate" := ⟨_,he,rfl⟩
  unfold pyNext
  refine wpAny_bind (wpAny_attempt (wpAny_callSpecial?_slot (name:=Str.ofString "__next__") hT F.slot_enumerate_next
   (wpAny_call_entry F.slot_enumerate_next hT F.entry_enumerate_next ?_ (F.args_enumerate_next_1 _))))
  show wpAny _ _ (field (.ref e) 2 >>= _) _ _ _
  refine wpAny_bind (wpAny_field he rfl (x:=.ref it) rfl ?_)
  refine wpAny_bind (fj (I.ok.hd hc) hit p (by simp;omega) λh' x he' Rk=>?_)
  obtain⟨o,ho,Qd⟩:=Rk
  refine wpAny_bind (wpAny_isInstance (T := "StopIteration") (b:=true) ⟨o,ho,Qd⟩ isSubtype_stop ?_)
  exact wpAny_pure ⟨rfl,I.turned (t':=s.toks) (λb o hb e=>he' b o hb e) f0 f1 f3 f4 f5⟩
 self:=λ_ _ _ _ _ st h=>by
  obtain⟨⟨old,he⟩,_⟩:=st
  exact wpAny_pyIter_enum he h
def Kd(K:PySem.W.Frag)(tl:TA):TI:=fun σ H R=>tl σ H λvs H1=>∃ a,vs=[.ref a]/\(((∃ xs,hV K H1 a xs)/\R (HE K a) H1)\/((∃ xs,iy K H1 a xs)/\R (Ho K a) H1))
theorem gB{tp:Pos}{l:Expr}{p pos:Pos}(hg:Gl X "enumerate")(hm:X.mg "enumerate" = none)(hl:PA X [l] tl)(hs:autoParam (starEach [l] X.env=[(false,eval l X.env)]) aR._auto_1) :
  PI X (.Tuple elts x1 tp) (.Call (.Name "enumerate" p) [l] [] pos) (Kd X.K tl):=by
 intro Ni s σ H R I h
 refine Call_ (jY I hg hm PyProof.Rows.boot_enumerate (PyProof.Rows.callWith_type1 (dh (hl pos Ni s σ H _ I h) λus s1 ⟨vs,H1,I1,r1,q1⟩=>?_) hs rfl))
 obtain⟨a,e,q⟩:=q1
 subst e
 cases r1 with
 | cons r rr =>
  cases rr
  cases (show _=Value.ref a from r)
  have fp:∀ b∈[s1.heap.objs.size+1,s1.heap.objs.size],mz X Ni H1 b:=λb hb=>by
   rcases List.mem_cons.mp hb with z | z
   ·subst z
    exact I1.sZ (Nat.le_succ _) (I1.bT.fresh (Nat.le_succ _))
   ·have z':b=s1.heap.objs.size:=by simpa using z
    subst z'
    exact I1.sZ (Nat.le_refl _) (I1.bT.fresh (Nat.le_refl _))
  rcases q with ⟨⟨xs,hq⟩,q⟩ | ⟨⟨xs,hq⟩,q⟩
  ·obtain⟨Nl,rv,pl,hz⟩:=I1.list hq
   refine call_enumerate_list pl.isList λh' he hit OQ hk=>?_
   refine wpAny_pyIter_enum (s:={ s1 with heap:=h' }) he ?_
   exact⟨s1.heap.objs.size+1,[s1.heap.objs.size+1,s1.heap.objs.size],_,_,H1,rfl,I1.kept (t':=s1.toks) hk,zt a _ _ (Nat.succ_ne_self _),⟨⟨_,he⟩,hit⟩,fp,q⟩
  ·obtain⟨Nl,rv,pl,hz⟩:=I1.tuple hq
   refine wQ pl λh' he hit OQ hk=>?_
   refine wpAny_pyIter_enum (s:={ s1 with heap:=h' }) he ?_
   exact⟨s1.heap.objs.size+1,[s1.heap.objs.size+1,s1.heap.objs.size],_,_,H1,rfl,I1.kept (t':=s1.toks) hk,xD a _ _ (Nat.succ_ne_self _),⟨⟨_,he⟩,hit⟩,fp,q⟩
def Lo(p:PV):M (List PV):=match cv p with
 | some xs=>M.ok (i5 xs)
 | none=>none
def wt:List PV->M (List PV)
 | [p]=>Lo p
 | _=>none
section
variable{K:PySem.W.Frag}{fs:af->M (List PV)}
theorem BB(hq:∀ Np H',bC NA Np->bC Np H'->iy K H' a vs)(hr:a_ NA xs vs):ki (Ho K a) NA (i5 xs) where
 stop:=λi Hs H s1 s2 hi=>by
  unfold i5 at hi
  rw[List.length_mapIdx,hr.length] at hi
  exact⟨vs,hq Hs H s1 s2,hi⟩
 go:=λi Hs H s1 s2 hi=>by
  unfold i5 at hi
  rw[List.length_mapIdx] at hi
  obtain⟨v,e,_⟩:=hr.get (List.getElem?_eq_getElem hi)
  exact⟨vs,v,hq Hs H s1 s2,e⟩
 uK:=λi Hs H x H2 s1 s2 hi y=>by
  unfold i5 at hi
  rw[List.length_mapIdx] at hi
  obtain⟨v,e,r⟩:=hr.get (List.getElem?_eq_getElem hi)
  obtain⟨pa,v',hn,rfl,rfl,y1⟩:=y
  have z1:=y1 vs (hq Hs H s1 s2)
  rw[e] at z1;cases z1
  have gr:=bZ.new (o:=.tup [.int (i:Nat),v]) s2 hn
  refine⟨.tup [.int (i:Nat),xs[i]],_,?_,gr,.tup az (.cons (.int _) (.cons ((r.mono s1).mono gr.st) .nil))⟩
  unfold i5
  rw[List.getElem?_mapIdx,List.getElem?_eq_getElem hi]
  rfl
theorem dW:yL E (Kd K (tL E fs)) (jh wt fs):=by
 intro σ H R q
 refine dH (K:=KI R) KI.g q λB H₀ Hs H1 env ps v sr rp hp=>?_
 match ps,rp,hp with
 | [],_,hp=>exact hp.elim
 | _::_::_,_,hp=>exact hp.elim
 | [p],rp,hp =>
  obtain⟨w,rfl,OX⟩:=rp.one
  cases OX with
  | lst ha hx=>exact⟨_,rfl,.inl ⟨⟨_,hV.of (sr.gr.sub _ _ ha)⟩,hp _ Hs H1 (.refl sr.gr.sub) (rZ (λNp H' s1 s2=>hV.of (s2 _ _ (s1 _ _ ha))) hx)⟩⟩
  | j9 ha hx=>exact⟨_,rfl,.inl ⟨⟨_,.inl (.inr ⟨_,sr.gr.sub _ _ ha⟩)⟩,hp _ Hs H1 (.refl sr.gr.sub) (rZ (λNp H' s1 s2=>.inl (.inr ⟨_,s2 _ _ (s1 _ _ ha)⟩)) hx)⟩⟩
  | tup ha hx=>exact⟨_,rfl,.inr ⟨⟨_,iy.of (sr.gr.sub _ _ ha)⟩,hp _ Hs H1 (.refl sr.gr.sub) (BB (λNp H' s1 s2=>iy.of (s2 _ _ (s1 _ _ ha))) hx)⟩⟩
  | _=>exact hp.elim
end
end
section
variable{pos:Pos}{f:af->M PV}
end
section
variable{pos:Pos}{f:af->M PV}
end
section
variable{P6:List (Addr×Obj)}{ea:Addr}
end
section
variable{B:Hp}{ea:Addr}{E:XK}{env:af}{fo:Option (List (Str×PV))}{D:Ends}{F:Value->Shared->Prop}
end
section
variable{pos p pt:Pos}{f:af->M PV}{ys ns yo no:List Addr}
end
section
variable{pos:Pos}{f g:af->M PV}
def F6:List V->Hp->VK->Prop:=λxs H Q=>∃ b,xs=[.bl b]/\Q (.int (if b then 1 else 0)) H
theorem za:dR X (.type "int") F6:=by
 intro Ni s σ H xs us Q I r h
 obtain⟨b,rfl,q⟩:=h
 obtain⟨u,rfl,rx⟩:=vals1 r
 cases rx
 exact call_int_bool ⟨.int _,H,I.kept (t':=s.toks+1) λ_ _ z=>z,⟨_,rfl⟩,q⟩
def Ku:PV->M PV
 | .bl b=>M.ok (.int (if b then 1 else 0))
 | _=>none
def rO:List PV->M PV
 | [p]=>Ku p
 | _=>none
theorem Fu:lG E F6 rO:=by
 intro σ Hs H ps vs Q s rp h
 match ps,rp,h with
 | [],_,h=>exact h.elim
 | _::_::_,_,h=>exact h.elim
 | [p],rp,h =>
  obtain⟨w,rfl,OX⟩:=rp.one
  cases OX with
  | bl b=>exact⟨b,rfl,eG.flat h s (.int _)⟩
  | _=>exact h.elim
end
section
open PySem PySem.Spec PyProof.Rows _root_.HT
section
variable{E:Value->Shared->Prop}
theorem mD{t sl:Addr}{vl vu:Value}{lo hi:Option Int}(ht:IsTup s.heap t items)(hs:s.heap.IsSliceOf sl vl vu .none)(pl:IsPart vl lo)(pu:IsPart vu hi)
  (hw:dI items.size 0 lo=0/\dI items.size items.size hi=items.size) (h:Q (.ref t) s):wpAny (model prog w) A (getItem (.ref t) (.ref sl)) Q E s:=by
 obtain⟨os,QD,hcs,Q5⟩:=id hs
 have hTs:s.TypeIs (.ref sl) "slice" := ⟨os,QD,hcs⟩
 unfold getItem
 try with_reducible refine wpAny_holding ?_
 first | refine wpAny_bind (wpAny_pure ?_) | skip
 refine wpAny_bind (wpAny_sequenceKey ht.typeIs (by decide) ?_)
 refine wpAny_bind (wpAny_callSpecial?_slot (name:=Str.ofString "__getitem__") ht.typeIs PyProof.Rows.slot_tuple_getitem
  (wpAny_call_entry PyProof.Rows.slot_tuple_getitem ht.typeIs entry_tuple_getitem ?_ (args_tuple_getitem _ _)))
 show wpAny _ _ (Builtin.Tuple.tupleItemsOf (.ref t) >>= _) _ _ s
 refine wpAny_bind (tupleItemsOf_ ht ?_)
 refine wpAny_bind (wpAny_typeOf hTs ?_)
 rw[if_pos (by decide)]
 refine wpAny_bind (jA hs pl pu ?_)
 have hyes:(((dI items.size 0 lo:Nat):Int)==0&&(1:Int)==1&&(dI items.size items.size hi-dI items.size 0 lo)==items.size)=true:=by
  rw[hw.1,hw.2];simp
 show wpAny _ _ (if (((dI items.size 0 lo:Nat):Int)==0&&(1:Int)==1&&(dI items.size items.size hi-dI items.size 0 lo)==items.size)=true then _ else _) _ _ s
 rw[if_pos hyes]
 unfold Builtin.Tuple.tupleIsExact
 refine wpAny_bind (wpAny_bind (wpAny_typeOf ht.typeIs (wpAny_pure ?_)))
 rw[if_pos (show ((Value.type "tuple" == Value.type "tuple")=true) from beq_self_eq_true _)]
 refine wpAny_bind (wpAny_rule ?_)
 first
  | exact wpAny_bind (wpAny_pure (wpAny_pure ⟨_,rfl,wpAny_pure h⟩))
  | exact wpAny_bind (wpAny_pure ⟨_,rfl,wpAny_pure h⟩)
  | exact wpAny_pure ⟨_,rfl,wpAny_pure h⟩
end
section
variable{lo hi:Option Expr}{pos p2:Pos}{f:af->M PV}{gl gh:af->M (Option Int)}
def Mo(K:PySem.W.Frag):V->Option Int->Option Int->Hp->VK->Prop:=λx lo hi H Q=>∃ a xs,x=.ref a/\iy K H a xs/\(dI xs.length 0 lo=0/\dI xs.length xs.length hi=xs.length)/\Q (.ref a) H
theorem EW:Dz X (Mo X.K):=by
 intro Ni s σ H x v vl vu lo hi sl Q I rx hs pl pu h
 obtain⟨a,xs,rfl,hx,hw,q⟩:=h
 cases rx
 obtain⟨Nl,r,ht,hz⟩:=I.tuple hx
 have hlen:Nl.toArray.size=xs.length:=by rw[List.size_toArray];exact r.length.symm
 refine⟨"tuple", _,PyProof.Rows.slot_tuple_getitem.lookup,ht.typeIs,?_⟩
 exact mD ht hs pl pu (by rw[hlen];exact hw) ⟨.ref a,H,I,rfl,q⟩
def JL(p:PV)(lo hi:Option Int):M PV:=match p with
 | .tup xs=>M.ok (.tup (qR xs lo hi))
 | .lst xs=>M.ok (.lst (qR xs lo hi))
 | .j9 xs=>M.ok (.lst (qR xs lo hi))
 | _=>none
def qA(f:af->M PV)(lo hi:af->M (Option Int)):af->M PV:=λenv=>(f env).bind λp=>(lo env).bind λl=>(hi env).bind λh=>JL p l h
theorem rJ(he:PE X e (tE E f))(hl:PO X lo (LW E gl))(hh:PO X hi (LW E gh)):PE X (.Subscript e (.Slice lo hi none p2) pos) (tE E (qA f gl gh)):=by
 refine(AR (Dz.or Ie (Dz.or EW Ey)) he hl hh).imp fun σ H Q q=>cO (K:=lu Q) lu.g q λB H₀ Hs H1 env p v sr rp hp=>?_
 refine⟨B,H₀,Hs,env,sr,(aA.bind hp).imp (λl hl Nx H2 g2=>?_) λe he=>he⟩
 have N0:=sr.grow g2
 refine⟨B,H₀,Nx,env,N0,(aA.bind hl).imp (λh hh OO H3 g3=>?_) λe he=>he.grow g2⟩
 have Pf:=N0.grow g3
 have hz:aA (JL p l h) (eG OO H3 Q) (λ_=>True):=hh.imp (λz hz w P_ H4 g4 r=>hz w P_ H4 ((g2.trans g3).trans g4) r) λ_ _=>trivial
 have rp3:=(rp.mono g2.st).mono g3.st
 cases rp3 with
 | @tup a xs vs ha hx =>
  by_cases hn:dI xs.length 0 l=0/\dI xs.length xs.length h=xs.length
  ·refine .inr (.inl ⟨_,_,rfl,iy.of (Pf.gr.sub _ _ ha),by rw[← hx.length];exact hn,?_⟩)
   have e:qR xs l h=xs:=by
    unfold qR;rw[hn.1,hn.2,List.drop_zero,Nat.sub_zero,List.take_length]
   have Px:eG OO H3 Q (.tup xs):=by
    have z:eG OO H3 Q (.tup (qR xs l h)):=hz
    rw[e] at z;exact z
   exact eG.flat Px Pf.gr.sub (.tup ha hx)
  ·exact .inl ⟨_,_,rfl,iy.of (Pf.gr.sub _ _ ha),by rw[← hx.length];exact hn,eG.tup hz Pf.gr.sub (hx.cut l h)⟩
 | lst ha hx=>exact .inr (.inr ⟨_,_,rfl,hV.of (Pf.gr.sub _ _ ha),eG.lst hz Pf.gr.sub (hx.cut l h)⟩)
 | j9 ha hx=>exact .inr (.inr ⟨_,_,rfl,.inl (.inr ⟨_,Pf.gr.sub _ _ ha⟩),eG.lst hz Pf.gr.sub (hx.cut l h)⟩)
 | _=>exact hz.elim
end
end
section
variable{pos:Pos}{g:af->M PV}{fs:af->M (List PV)}{L:List (Addr×(List PV->M PV))}{K:PySem.W.Frag}
end
section
open PySem.SeqAt (shaped EqAt RcAt RcNeAt)
section
variable{b:Addr}
end
end
end L2
namespace HT
open PySem PyProof.Rows
variable{E:Value->Shared->Prop}{A:Around}{w:World}{prog:Program}
section
variable{a b v:Value}{k:Bool}{I S ax:Addr}{t:Shared}{n:Nat}{R:Result->Shared->Prop}
end
section
open PySem.SeqAt
open PySem.AutoSeq1 (wpAny_loadPart')
open PySem.MeetsSeq PySem.MeetsSeq2 PySem.MeetsSeq3
end
section
variable{s:Shared}
end
end HT
namespace L2
open PySem PySem.Spec PyProof.Rows
variable{X:Cx}
section
variable{E:St->XK}
end
variable{js:List Nat}{f:af->M PV}{it:af->M (List PV)}{wi:TI}{scope:Scope}
variable{y:Str}{i:Nat}{E:XK}
section
variable{tg elt iter c:Expr}{cl:List (Str×Addr)}{pos:Pos}{g:TG}{set:PV->af->M af}{ts fs:List Str}
variable{py Pe:Pos}
end
variable{u:af->M Bool}
section
variable{tg elt iter c:Expr}{cl:List (Str×Addr)}{pos:Pos}{g:TG}{set:PV->af->M af}{ts fs:List Str}
variable{py Pe:Pos}
end
variable{α β γ:Type}
theorem EI(x:M α)(f:α->M β)(g:β->M γ):(x.bind f).bind g=x.bind λa=>(f a).bind g:=by
 cases x with
 | none=>rfl
 | some y=>cases y <;> rfl
variable{σ:St}
theorem SR.forget{B H₀ Hs H:Hp}{env:af}(r:SR B H₀ Hs H σ env):SR B H₀ Hs H σ (env.set i none):=by
 have key:∀ (j:Nat) (q:SV),(env.set i none)[j]?=some (some q)->env[j]?=some (some q):=λj q e=>by
  rw[List.getElem?_set] at e
  by_cases z:i=j
  ·rw[if_pos z] at e
   split at e <;> cases e
  ·rw[if_neg z] at e;exact e
 exact⟨r.gr,by rw[List.length_set];exact r.len,λj q e=>r.sh j q (key j _ e),λj xs e=>r.ow j xs (key j _ e),λj k xs ys a n e1 e2=>r.sep j k xs ys a n (key j _ e1) (key k _ e2),λj a C fs e=>r.bd j a C fs (key j _ e),λj k a b C D fs gs e1 e2=>r.one j k a b C D fs gs (key j _ e1) (key k _ e2)⟩
variable{w:Option V}
theorem SR.over{B H₀ Hs H:Hp}{env:af}(r:SR B H₀ Hs H σ env)(n:env[i]?=some none):SR B H₀ Hs H (σ.set i w) env:=by
 have old:∀ (j:Nat) (q:SV),env[j]?=some (some q)->(σ.set i w)[j]?=σ[j]?:=λj q e=>by
  rw[List.getElem?_set,if_neg]
  intro z
  rw[← z,n] at e
  cases e
 refine⟨r.gr,by rw[List.length_set];exact r.len,λj q e=>?_,λj xs e=>?_,λj k xs ys a n' e1 e2=>?_,λj a C fs e=>?_,r.one⟩
 ·rw[old j _ e];exact r.sh j q e
 ·rw[old j _ e];exact r.ow j xs e
 ·rw[old j _ e1,old k _ e2];exact r.sep j k xs ys a n' e1 e2
 ·rw[old j _ e];exact r.bd j a C fs e
variable{a:Addr}
theorem SR.lay{B H₀ Hs H:Hp}{env:af}{o:HO}(r:SR B H₀ Hs H σ env)(n:j_ env)(h:H a=some o)(h1:Hs a=none)(h2:H₀ a=none):SR B H₀ (upd Hs a o) H σ env:=by
 have st:bC Hs (upd Hs a o):=λc u q=>by rw[ar (λz=>by rw[z,h1] at q;cases q)];exact q
 refine⟨⟨λc u q=>st c u (r.gr.st c u q),r.gr.al,λc u q=>?_,λc u q1 q2=>?_⟩,r.len,λj q e=>?_,λj xs e=>(n.ow e).elim,λj k xs ys a _ e=>(n.ow e).elim,λj a C fs e=>(n.bd e).elim,λj k a b C D fs gs e=>(n.bd e).elim⟩
 ·by_cases z:c=a
  ·subst z;rw[az] at q;rw[h,q]
  ·rw[ar z] at q;exact r.gr.sub c u q
 ·rw[ar (λz=>by rw[z,h2] at q2;cases q2)];exact r.gr.nw c u q1 q2
 ·obtain⟨v,e1,e2⟩:=r.sh j q e
  exact⟨v,e1,e2.mono st⟩
def C0(env:af):Bool:=env.all λo=>match o with
 | some (.ow _)=>false
 | some (.bd _ _ _)=>false
 | _=>true
theorem B9{env:af}(h:C0 env=true):j_ env:=λi x e=>by
 have:=List.all_eq_true.mp h (some x) (List.mem_of_getElem? e)
 cases x with
 | sh p=>exact⟨p,rfl⟩
 | ow xs=>cases this
 | bd a C fs=>cases this
theorem vZ{env:af}(n:j_ env):j_ (env.set i none):=λj x e=>by
 rw[List.getElem?_set] at e
 by_cases z:i=j
 ·rw[if_pos z] at e
  split at e <;> cases e
 ·rw[if_neg z] at e;exact n j x e
def D4(fi fv:af->M PV)(e:af)(xs ys:List PV):M (List PV×List PV):=(fi e).bind λk=>match k with
 | .int 0=>if xs.length<8 then (fv e).bind λv=>M.ok (xs++[v],ys) else M.ok (xs,ys)
 | .int 1=>if ys.length<8 then (fv e).bind λv=>M.ok (xs,ys++[v]) else M.ok (xs,ys)
 | _=>none
def xJ(ic:Nat)(fi fv:af->M PV):List PV->af->List PV->List PV->M (af×List PV×List PV)
 | [],e,xs,ys=>M.ok (e,xs,ys)
 | p::r,e,xs,ys=>(D4 fi fv (e.set ic (some (.sh p))) xs ys).bind λz=>xJ ic fi fv r (e.set ic (some (.sh p))) z.1 z.2
def Hh(iL:Nat)(z:af×List PV×List PV):M Out:=M.ok (.nx (z.1.set iL (some (.sh (.lst [.lst z.2.1,.lst z.2.2])))))
def JD(iL iS ic:Nat)(it:af->M (List PV))(fi fv:af->M PV)(env:af):M Out :=
 cW (C0 env=true/\iL<env.length/\iS<env.length) ((it ((env.set iL none).set iS none)).bind λxs=>(xJ ic fi fv xs ((env.set iL none).set iS none) [] []).bind (Hh iL))
def Iv(iL iS ic:Nat)(it:af->M (List PV))(fi fv:af->M PV)(g:af->M Out):af->M Out:=aq (JD iL iS ic it fi fv) g
structure Tw (iL iS:Nat) (a b0 b1:Addr) (B H₀ Hs H:Hp) (σ:St) (env:af) (xs ys:List PV) (vs ws:List V):Prop where
 sr:SR B H₀ Hs H σ env
 no:j_ env
 sl:σ[iL]?=some (some (.ref a))
 nL:env[iL]?=some none
 nS:env[iS]?=some none
 ha:H a=some (.lst [.ref b0,.ref b1])
 h0:H b0=some (.lst vs)
 h1:H b1=some (.lst ws)
 sa:Hs a=none
 s0:Hs b0=none
 s1:Hs b1=none
 oa:H₀ a=none
 o0:H₀ b0=none
 o1:H₀ b1=none
 d0:a≠b0
 d1:a≠b1
 d2:b0≠b1
 rx:a_ Hs xs vs
 ry:a_ Hs ys ws
variable{xs:List PV}
variable{v:V}{p:PV}
section
variable{iL iS ic:Nat}{b0 b1:Addr}{B H₀ Hs H:Hp}{env:af}{ys:List PV}{vs ws:List V}
theorem Tw.grow{Np H':Hp}(t:Tw iL iS a b0 b1 B H₀ Hs H σ env xs ys vs ws)(g:bZ Hs H Np H'):Tw iL iS a b0 b1 B H₀ Np H' σ env xs ys vs ws :=
 ⟨t.sr.grow g,t.no,t.sl,t.nL,t.nS,g.al _ _ t.ha,g.al _ _ t.h0,g.al _ _ t.h1,g.nw _ _ t.sa t.ha,g.nw _ _ t.s0 t.h0,g.nw _ _ t.s1 t.h1,t.oa,t.o0,t.o1,t.d0,t.d1,t.d2,t.rx.mono g.st,t.ry.mono g.st⟩
theorem Tw.item(t:Tw iL iS a b0 b1 B H₀ Hs H σ env xs ys vs ws)(r:Rep Hs p v)(n1:ic≠iL)(n2:ic≠iS):Tw iL iS a b0 b1 B H₀ Hs H (σ.set ic (some v)) (env.set ic (some (.sh p))) xs ys vs ws :=
 ⟨t.sr.set r,jF t.no,by rw[List.getElem?_set,if_neg n1];exact t.sl,by rw[List.getElem?_set,if_neg n1];exact t.nL,by rw[List.getElem?_set,if_neg n2];exact t.nS,t.ha,t.h0,t.h1,t.sa,t.s0,t.s1,t.oa,t.o0,t.o1,t.d0,t.d1,t.d2,t.rx,t.ry⟩
theorem Tw.pick(t:Tw iL iS a b0 b1 B H₀ Hs H σ env xs ys vs ws)(n:iS≠iL):Tw iL iS a b0 b1 B H₀ Hs H (σ.set iS w) env xs ys vs ws :=
 ⟨t.sr.over t.nS,t.no,by rw[List.getElem?_set,if_neg n];exact t.sl,t.nL,t.nS,t.ha,t.h0,t.h1,t.sa,t.s0,t.s1,t.oa,t.o0,t.o1,t.d0,t.d1,t.d2,t.rx,t.ry⟩
theorem Tw.Mr(t:Tw iL iS a b0 b1 B H₀ Hs H σ env xs ys vs ws)(r:Rep Hs p v):Tw iL iS a b0 b1 B H₀ Hs (upd H b0 (.lst (vs++[v]))) σ env (xs++[p]) ys (vs++[v]) ws :=
 ⟨t.sr.mS t.no t.s0 t.o0,t.no,t.sl,t.nL,t.nS,by rw[ar t.d0];exact t.ha,az,by rw[ar t.d2.symm];exact t.h1,t.sa,t.s0,t.s1,t.oa,t.o0,t.o1,t.d0,t.d1,t.d2,t.rx.snoc r,t.ry⟩
theorem Tw.LO(t:Tw iL iS a b0 b1 B H₀ Hs H σ env xs ys vs ws)(r:Rep Hs p v):Tw iL iS a b0 b1 B H₀ Hs (upd H b1 (.lst (ws++[v]))) σ env xs (ys++[p]) vs (ws++[v]) :=
 ⟨t.sr.mS t.no t.s1 t.o1,t.no,t.sl,t.nL,t.nS,by rw[ar t.d1];exact t.ha,by rw[ar t.d2];exact t.h0,az,t.sa,t.s0,t.s1,t.oa,t.o0,t.o1,t.d0,t.d1,t.d2,t.rx,t.ry.snoc r⟩
theorem Tw.fin(t:Tw iL iS a b0 b1 B H₀ Hs H σ env xs ys vs ws):∃ Np,SR B H₀ Np H σ (env.set iL (some (.sh (.lst [.lst xs,.lst ys])))):=by
 have r0:=t.sr.lay t.no t.h0 t.s0 t.o0
 have r1:=r0.lay t.no t.h1 (by rw[ar t.d2.symm];exact t.s1) t.o1
 have r2:=r1.lay t.no t.ha (by rw[ar t.d1,ar t.d0];exact t.sa) t.oa
 have m0:bC Hs (upd Hs b0 (.lst vs)):=λc u q=>by rw[ar (λz=>by rw[z,t.s0] at q;cases q)];exact q
 have m1:bC (upd Hs b0 (.lst vs)) (upd (upd Hs b0 (.lst vs)) b1 (.lst ws)):=λc u q=>by rw[ar (λz=>by rw[z,ar t.d2.symm,t.s1] at q;cases q)];exact q
 have m2:bC (upd (upd Hs b0 (.lst vs)) b1 (.lst ws)) (upd (upd (upd Hs b0 (.lst vs)) b1 (.lst ws)) a (.lst [.ref b0,.ref b1])):=λc u q=>by rw[ar (λz=>by rw[z,ar t.d1,ar t.d0,t.sa] at q;cases q)];exact q
 have rep:Rep (upd (upd (upd Hs b0 (.lst vs)) b1 (.lst ws)) a (.lst [.ref b0,.ref b1])) (.lst [.lst xs,.lst ys]) (.ref a) :=
  .lst az (.cons (.lst (by rw[ar t.d0.symm,ar t.d2,az]) (((t.rx.mono m0).mono m1).mono m2)) (.cons (.lst (by rw[ar t.d1.symm,az]) (((t.ry.mono m0).mono m1).mono m2)) .nil))
 have:=r2.set (i:=iL) rep
 have e:σ.set iL (some (.ref a))=σ:=by
  refine List.ext_getElem? λj=>?_
  rw[List.getElem?_set]
  split
  ·rename_i z;subst z
   rw[t.sl]
   split
   ·rfl
   ·rename_i h
    have:=List.getElem?_eq_none (Nat.le_of_not_lt h)
    rw[t.sl] at this;cases this
  ·rfl
 rw[e] at this
 exact⟨_,this⟩
end
def LY(K:PySem.W.Frag)(iL iS:Nat)(ti tv:TE):TS:=E9 (Bp (Iu (Mw K) (DP iL) ti) (aH iS)) (E9 (J1 (FT (Iu (w4 λi j=>.bl (decide (i<j))) (KQ (Cf K) (uQ (DP iS) xH)) (tC (.int 8)))) (E9 (FR (MI K "list" yM (DP iS) (uQ tv xH))) yS) yS) yS)
section
variable{st1 P7:Stmt}{rest:List Stmt}{iL iS ic:Nat}{fi fv:af->M PV}{g:af->M Out}
theorem EL(h1:PS X st1 (Bp (Eo (uQ (Eo xH) (uQ (Eo xH) xH))) (aH iL)))(h2:PS X P7 (Jy wi (aH ic) (LY X.K iL iS (tE (λ_=>E) fi) (tE (λ_=>E) fv))))(hv:yL (λ_=>E) wi it)(n1:ic≠iL)(n2:ic≠iS)(n3:iS≠iL)(h3:lY X rest (tS E g)):lY X (st1::P7::rest) (tS E (Iv iL iS ic it fi fv g)):=by
 refine(jn h1 (jn h2 h3)).imp λD σ H q=>?_
 obtain⟨B,H₀,Hs,env,sr,q⟩:=q
 have q:=aA.bind q
 obtain⟨⟨no,lL,lS⟩,q⟩:=aA.cW q
 have no:=B9 no
 have q:=aA.bind q
 refine⟨Nat.zero_le _,λb0 e0=>⟨Nat.zero_le _,λb1 e1=>⟨by show 2<=sizeLine;decide,λa ea=>?_⟩⟩⟩
 have z:∀ c:Addr,H c=none->Hs c=none/\H₀ c=none:=λc h=>by
  constructor
  ·cases y:Hs c with
   | none=>rfl
   | some o =>
    have:=sr.gr.sub _ _ y
    rw[h] at this
    cases this
  ·cases y:H₀ c with
   | none=>rfl
   | some o =>
    have:=sr.gr.al _ _ y
    rw[h] at this
    cases this
 have d2:b0≠b1:=λy=>by rw[← y,az] at e1;cases e1
 have Qa:H b1=none:=by rw[ar d2.symm] at e1;exact e1
 have d1:a≠b1:=λy=>by rw[y,az] at ea;cases ea
 rw[ar d1] at ea
 have d0:a≠b0:=λy=>by rw[y,az] at ea;cases ea
 rw[ar d0] at ea
 have t0:Tw iL iS a b0 b1 B H₀ Hs (upd (upd (upd H b0 (.lst [])) b1 (.lst [])) a (.lst [.ref b0,.ref b1])) (σ.set iL (some (.ref a))) ((env.set iL none).set iS none) [] [] [] []:=by
  have nn:j_ ((env.set iL none).set iS none):=vZ (vZ no)
  have gL:((env.set iL none).set iS none)[iL]?=some none:=by rw[List.getElem?_set,if_neg n3,List.getElem?_set,if_pos rfl,if_pos (by simpa using lL)]
  have gS:((env.set iL none).set iS none)[iS]?=some none:=by rw[List.getElem?_set,if_pos rfl,if_pos (by simpa using lS)]
  exact⟨(((((sr.forget (i:=iL)).forget (i:=iS)).over gL).mS nn (z b0 e0).1 (z b0 e0).2).mS nn (z b1 Qa).1 (z b1 Qa).2).mS nn (z a ea).1 (z a ea).2,nn,by rw[List.getElem?_set,if_pos rfl,if_pos (by rw[sr.len];exact lL)],gL,gS,az,by rw[ar d0.symm,ar d2,az],by rw[ar d1.symm,az],(z a ea).1,(z b0 e0).1,(z b1 Qa).1,(z a ea).2,(z b0 e0).2,(z b1 Qa).2,d0,d1,d2,.nil,.nil⟩
 refine hv _ _ _ ⟨B,H₀,Hs,_,t0.sr,q.imp (λitems hp J Np H' gr ok=>?_) λe he=>he.grow t0.sr.gr⟩
 let Jt:Nat->St->Hp->Prop:=λi σ H=>∃ Hs env xs ys vs ws,Tw iL iS a b0 b1 B H₀ Hs H σ env xs ys vs ws/\bC Np Hs/\aA ((xJ ic fi fv (items.drop i) env xs ys).bind (Hh iL)) (λo=>aA (yy g o) (KS D B H₀) (XW E B H₀)) (XW E B H₀)
 refine⟨λi m σ H=>m=items.length-i/\i<=items.length/\Jt i σ H,⟨items.length,by simp,Nat.zero_le _,Np,_,[],[],[],[],t0.grow gr,λ_ _ z=>z,hp⟩,?_⟩
 rintro i m σ' H2 ⟨rfl,hi,Nx,env2,xs,ys,vs,ws,t2,s2,h2⟩
 by_cases Oa:i<items.length
 ·refine .inr ⟨ok.go i Nx H2 s2 t2.sr.gr.sub Oa,Jt (i+1),fun σ3 H3 j=>⟨items.length-(i+1),by omega,rfl,Oa,j⟩,λx H3 y=>?_⟩
  obtain⟨p,OO,ep,g3,r3⟩:=ok.uK i Nx H2 x H3 s2 t2.sr.gr.sub Oa y
  have hd:items.drop i=p::items.drop (i+1):=by
   rw[List.drop_eq_getElem_cons Oa]
   rw[List.getElem?_eq_getElem Oa] at ep
   rw[Option.some.inj ep]
  rw[hd,xJ,EI] at h2
  have h2:=aA.bind h2
  have t3:=(t2.grow g3).item (ic:=ic) r3 n1 n2
  have s3:bC Np OO:=λc u e=>g3.st c u (s2 c u e)
  refine⟨.ref a,t3.sl,B,H₀,OO,_,t3.sr,(aA.bind h2).imp (λk hk v P_ H4 g4 r4=>?_) λe he=>he.grow t3.sr.gr⟩
  have t4:=t3.grow g4
  have s4:bC Np P_:=λc u e=>g4.st c u (s3 c u e)
  have len:iS<(σ'.set ic (some x)).length:=by
   rw[t4.sr.len]
   exact(List.getElem?_eq_some_iff.mp t4.nS).1
  cases r4 with
  | int j =>
   by_cases j0:j=0
   ·subst j0
    refine .inl ⟨a,[.ref b0,.ref b1],0,.ref b0,rfl,rfl,hV.of t4.ha,rfl,?_⟩
    have t5:=t4.pick (w:=some (.ref b0)) n3
    have gs:((σ'.set ic (some x)).set iS (some (.ref b0)))[iS]?=some (some (.ref b0)):=by rw[List.getElem?_set,if_pos rfl,if_pos len]
    refine⟨.ref b0,gs,.inl ⟨b0,vs,rfl,.inl (hV.of t5.h0),vs.length,8,rfl,rfl,_,rfl,?_⟩⟩
    have el:xs.length=vs.length:=t5.rx.length
    by_cases hz:xs.length<8
    ·have hk:=(if_pos hz▸hk:aA ((fv _).bind λv=>M.ok _) _ _)
     rw[decide_eq_true (show (vs.length:Int)<8 by omega)]
     show ite (true=true) _ _
     rw[if_pos rfl]
     refine⟨.ref b0,gs,.inl ⟨rfl,vs,hV.of t5.h0⟩,B,H₀,P_,_,t5.sr,(aA.bind hk).imp (λp hp v Py H5 g5 r5=>?_) λe he=>he.grow t5.sr.gr⟩
     exact⟨b0,vs,v,rfl,rfl,(t5.grow g5).h0,Nat.lt_of_lt_of_le (show vs.length<8 by omega) (by decide),Py,_,_,_,_,_,(t5.grow g5).Mr r5,λc u e=>g5.st c u (s4 c u e),hp⟩
    ·have hk:=(if_neg hz▸hk:aA (M.ok _) _ _)
     rw[decide_eq_false (show ¬ (vs.length:Int)<8 by omega)]
     show ite (false=true) _ _
     rw[if_neg (by decide)]
     exact⟨P_,_,_,_,_,_,t5,s4,hk⟩
   by_cases j1:j=1
   ·subst j1
    refine .inl ⟨a,[.ref b0,.ref b1],1,.ref b1,rfl,rfl,hV.of t4.ha,rfl,?_⟩
    have t5:=t4.pick (w:=some (.ref b1)) n3
    have gs:((σ'.set ic (some x)).set iS (some (.ref b1)))[iS]?=some (some (.ref b1)):=by rw[List.getElem?_set,if_pos rfl,if_pos len]
    refine⟨.ref b1,gs,.inl ⟨b1,ws,rfl,.inl (hV.of t5.h1),ws.length,8,rfl,rfl,_,rfl,?_⟩⟩
    have el:ys.length=ws.length:=t5.ry.length
    by_cases hz:ys.length<8
    ·have hk:=(if_pos hz▸hk:aA ((fv _).bind λv=>M.ok _) _ _)
     rw[decide_eq_true (show (ws.length:Int)<8 by omega)]
     show ite (true=true) _ _
     rw[if_pos rfl]
     refine⟨.ref b1,gs,.inl ⟨rfl,ws,hV.of t5.h1⟩,B,H₀,P_,_,t5.sr,(aA.bind hk).imp (λp hp v Py H5 g5 r5=>?_) λe he=>he.grow t5.sr.gr⟩
     exact⟨b1,ws,v,rfl,rfl,(t5.grow g5).h1,Nat.lt_of_lt_of_le (show ws.length<8 by omega) (by decide),Py,_,_,_,_,_,(t5.grow g5).LO r5,λc u e=>g5.st c u (s4 c u e),hp⟩
    ·have hk:=(if_neg hz▸hk:aA (M.ok _) _ _)
     rw[decide_eq_false (show ¬ (ws.length:Int)<8 by omega)]
     show ite (false=true) _ _
     rw[if_neg (by decide)]
     exact⟨P_,_,_,_,_,_,t5,s4,hk⟩
   ·split at hk
    ·rename_i e;cases e;exact(j0 rfl).elim
    ·rename_i e;cases e;exact(j1 rfl).elim
    ·exact hk.elim
  | _=>exact hk.elim
 ·refine .inl ⟨ok.stop i Nx H2 s2 t2.sr.gr.sub (by omega),?_⟩
  rw[List.drop_eq_nil_of_le (by omega)] at h2
  obtain⟨Py,sr5⟩:=t2.fin
  exact⟨B,H₀,Py,_,sr5,h2⟩
end
variable{x0:Option SV}
variable{b:af->M Out}
variable{k:Nat}
variable{j:Int}
variable{body:af->M Out}
variable{n:Nat}
section
open PySem.SeqAt (shaped noMix noMixAll)
theorem M.aL(a:α)(f:α->M β):M.bind (M.ok a) f=f a:=Eq.trans rfl rfl
theorem M.AG(e:EX)(f:α->M β):M.bind (some (Except.error e)) f=some (.error e):=Eq.trans rfl rfl
theorem M.bind_none(f:α->M β):M.bind none f=none:=Eq.trans rfl rfl
theorem M.bind_some(a:α)(f:α->M β):M.bind (some (Except.ok a)) f=f a:=Eq.trans rfl rfl
theorem M.bind_assoc(x:M α)(f:α->M β)(g:β->M γ):M.bind (M.bind x f) g=M.bind x λa=>M.bind (f a) g:=by
 cases x with
 | none=>rfl
 | some x=>cases x <;> rfl
theorem av{c:Prop}[Decidable c]{x:M α}(h:c):cW c x=x:=if_pos h
theorem HK(a:α):Ji (M.ok a)=M.ok a:=Eq.trans rfl rfl
theorem zv(x:PV):fu (some x)=M.ok x:=Eq.trans rfl rfl
theorem va(g:af->M Out)(env:af):yy g (.nx env)=g env:=Eq.trans rfl rfl
theorem vz(g:af->M Out)(p:PV):yy g (.rt p)=M.ok (.rt p):=Eq.trans rfl rfl
theorem Ef(b:Bool):xw (.bl b)=M.ok b:=Eq.trans rfl rfl
theorem E3(p:PV):Gy (.rt p)=M.ok p:=Eq.trans rfl rfl
theorem FA(e:af):Gy (.nx e)=M.ok .cy:=Eq.trans rfl rfl
def tI(xs:List Int):PV:=.tup (xs.map PV.int)
def lI(xs:List Int):PV:=.lst (xs.map PV.int)
theorem E6(xs:List Int):cv (tI xs)=some (xs.map PV.int):=Eq.trans rfl rfl
theorem Et(xs:List Int):cv (lI xs)=some (xs.map PV.int):=Eq.trans rfl rfl
theorem BK(xs:List PV):cv (.tup xs)=some xs:=Eq.trans rfl rfl
theorem u4(xs:List PV):cv (.lst xs)=some xs:=Eq.trans rfl rfl
theorem Di(xs:List PV):cv (.j9 xs)=some xs:=Eq.trans rfl rfl
theorem Ft(xs:List Int):tf (tI xs)=M.ok (.int xs.length):=by simp[tf,tI,cv,fu]
theorem ET(xs:List Int):tf (lI xs)=M.ok (.int xs.length):=by simp[tf,lI,cv,fu]
theorem Bc(xs:List PV):tf (.tup xs)=M.ok (.int xs.length):=Eq.trans rfl rfl
theorem Be(xs:List PV):tf (.lst xs)=M.ok (.int xs.length):=Eq.trans rfl rfl
theorem Bv(xs:List PV):tf (.j9 xs)=M.ok (.int xs.length):=Eq.trans rfl rfl
theorem uN(xs:List Int):wz [.lst (xs.map PV.int)]=M.ok (.int xs.sum):=by simp[wz,Jp,rL,fu]
theorem wb(xs:List Bool):tK [.lst (xs.map PV.bl)]=M.ok (.bl (xs.all id)):=by simp[tK,all1,vK,fu]
theorem dZ{inj h:α->PV}{rest:af}(xs:List α)(H:∀ a∈xs,f (some (.sh (inj a))::rest)=M.ok (h a)):bI (bQ 0) none f (xs.map inj) (x0::rest)=M.ok (xs.map h):=by
 induction xs generalizing x0 with
 | nil=>rfl
 | cons a r ih =>
  rw[List.map_cons,bI]
  show M.bind (M.ok ((x0::rest).set 0 (some (.sh (inj a))))) _=_
  rw[M.aL,List.set_cons_zero]
  show M.bind (f _) _=_
  rw[H a List.mem_cons_self,M.aL,ih λb hb=>H b (List.mem_cons_of_mem _ hb)]
  rfl
theorem eO{p q h:α->PV}{rest:af}{x1:Option SV}(xs:List α)(H:∀ a∈xs,f (some (.sh (p a))::some (.sh (q a))::rest)=M.ok (h a)):bI (bA 0 1) none f (xs.map λa=>.tup [p a,q a]) (x0::x1::rest)=M.ok (xs.map h):=by
 induction xs generalizing x0 x1 with
 | nil=>rfl
 | cons a r ih =>
  rw[List.map_cons,bI]
  show M.bind (M.ok (((x0::x1::rest).set 0 (some (.sh (p a)))).set 1 (some (.sh (q a))))) _=_
  rw[M.aL,List.set_cons_zero,List.set_cons_succ,List.set_cons_zero]
  show M.bind (f _) _=_
  rw[H a List.mem_cons_self,M.aL,ih λb hb=>H b (List.mem_cons_of_mem _ hb)]
  rfl
theorem ID{p q s h:α->PV}{rest:af}{x1 x2:Option SV}(xs:List α)(H:∀ a∈xs,f (some (.sh (p a))::some (.sh (q a))::some (.sh (s a))::rest)=M.ok (h a)):bI (p7 0 1 2) none f (xs.map λa=>.tup [p a,q a,s a]) (x0::x1::x2::rest)=M.ok (xs.map h):=by
 induction xs generalizing x0 x1 x2 with
 | nil=>rfl
 | cons a r ih =>
  rw[List.map_cons,bI]
  show M.bind (M.ok ((((x0::x1::x2::rest).set 0 (some (.sh (p a)))).set 1 (some (.sh (q a)))).set 2 (some (.sh (s a))))) _=_
  rw[M.aL,List.set_cons_zero,List.set_cons_succ,List.set_cons_zero,List.set_cons_succ,List.set_cons_succ,List.set_cons_zero]
  show M.bind (f _) _=_
  rw[H a List.mem_cons_self,M.aL,ih λb hb=>H b (List.mem_cons_of_mem _ hb)]
  rfl
theorem dF{f:α->PV}{g:β->PV}{q:PV}(xs:List α)(ys:List β)(hp:cv p=some (xs.map f))(hq:cv q=some (ys.map g)):zip2 [p,q]=M.ok ((xs.zip ys).map λz=>.tup [f z.1,g z.2]):=by
 simp only[zip2,hp,hq]
 congr 2
 rw[List.zipWith_map,List.zip_eq_zipWith,List.map_zipWith]
theorem Cr{f:α->PV}{g:β->PV}{h:γ->PV}{q r:PV}(xs:List α)(ys:List β)(zs:List γ)(hp:cv p=some (xs.map f))(hq:cv q=some (ys.map g))(hr:cv r=some (zs.map h)):wZ [p,q,r]=M.ok ((xs.zip (ys.zip zs)).map λz=>.tup [f z.1,g z.2.1,h z.2.2]):=by
 simp only[wZ,hp,hq,hr]
 congr 2
 clear hp hq hr
 induction xs generalizing ys zs with
 | nil=>cases ys <;> cases zs <;> rfl
 | cons a r ih =>
  cases ys with
  | nil=>rfl
  | cons b s =>
   cases zs with
   | nil=>rfl
   | cons c t=>simp only[List.map_cons,j4,List.zip_cons_cons,ih]
theorem zc{f:α->PV}(xs:List α):i5 (xs.map f)=(xs.zipIdx).map λz=>.tup [.int (z.2:Int),f z.1]:=by
 unfold i5
 rw[List.mapIdx_eq_zipIdx_map,List.zipIdx_map,List.map_map]
 rfl
theorem vX{set:PV->af->M af}{body:af->M Out}{α:Type}{inj:α->PV}(J:List α->af->Prop)
  (H:∀ a r env,J (a::r) env->∃ e' Nm,set (inj a) env=M.ok e'/\body e'=M.ok (.nx Nm)/\J r Nm):∀ (xs:List α) (env:af),J xs env->∃ Nm,kE set body (xs.map inj) env=M.ok (.nx Nm)/\J [] Nm
 | [],env,h=>⟨env,rfl,h⟩
 | a::r,env,h=>by
  obtain⟨e',Nm,h1,h2,h3⟩:=H a r env h
  obtain⟨Pz,h4,h5⟩:=vX J H r Nm h3
  refine⟨Pz,?_,h5⟩
  rw[List.map_cons,kE,h1,M.aL,h2,M.aL]
  exact h4
theorem sE(J:af->Prop)(m:af->Nat)
  (H:∀ env,J env->(u env=M.ok false)\/(u env=M.ok true/\∃ Nm,b env=M.ok (.nx Nm)/\J Nm/\m Nm<m env)) (env:af) (h:J env):∃ Nm,lM u b env=M.ok (.nx Nm)/\J Nm/\u Nm=M.ok false:=by
 have key:∀ (n:Nat) (env:af),J env->m env<n->∃ Nm,cX u b n env=M.ok (.nx Nm)/\J Nm/\u Nm=M.ok false:=by
  intro n
  induction n with
  | zero=>intro env _ hn;omega
  | succ n ih =>
   intro env h hn
   rcases H env h with hu | ⟨hu,Nm,hb,hj,hm⟩
   ·exact⟨env,by rw[cX,hu,M.aL];rfl,h,hu⟩
   ·obtain⟨Pz,h1,h2,h3⟩:=ih Nm hj (by omega)
    exact⟨Pz,by rw[cX,hu,M.aL,if_pos rfl,hb,M.aL];exact h1,h2,h3⟩
 obtain⟨Nm,h1,h2,h3⟩:=key (m env+1) env h (Nat.lt_succ_self _)
 refine⟨Nm,?_,h2,h3⟩
 rw[zV (n:=m env+1) (by rw[h1];exact λz=>nomatch z),h1]
theorem log2_small{i:Int}(h:i.natAbs<2^k)(hk:k<=9000):i.natAbs.log2<67108864:=by
 by_cases z:i.natAbs=0
 ·rw[z];decide
 ·have:=(Nat.log2_lt z).mpr h
  omega
theorem bg{i:Int}{l:Nat}(hi:i.natAbs<2^k)(hj:j.natAbs<2^l)(hk:autoParam (k<=9000) aD._auto_1)(hl:autoParam (l<=9000) aD._auto_1):b_ (.int i) (.int j)=M.ok (.int (i*j)):=by
 rw[b_,av ⟨log2_small hi hk,log2_small hj hl⟩]
theorem sH{i:Int}(h0:j≠0)(h:j.natAbs<2^9000):bF (.int i) (.int j)=M.ok (.int (i.fdiv j)):=by
 show cW _ _=_
 refine av (decide_eq_true ⟨h0,(Nat.log2_lt (by omega)).mpr h⟩)
theorem CP{i:Int}(h0:j≠0):cA (.int i) (.int j)=M.ok (.int (i.fmod j)):=by
 show cW _ _=_
 exact av (decide_eq_true h0)
theorem aW{i:Int}(h0:0<j)(h:j<2^64):bF (.int i) (.int j)=M.ok (.int (i/j)):=by
 rw[sH (by omega) (Nat.lt_of_lt_of_le (show j.natAbs<2^64 by omega) (Nat.pow_le_pow_right (by decide) (by decide))),Int.fdiv_eq_ediv_of_nonneg _ (by omega)]
theorem aS{i:Int}(h0:0<j):cA (.int i) (.int j)=M.ok (.int (i%j)):=by
 rw[CP (by omega),Int.fmod_eq_emod_of_nonneg _ (by omega)]
theorem bD{j:Nat}{x:PV}(hs:cv p=some xs)(h:xs[j]?=some x):aP p (.int (j:Int))=M.ok x:=by
 cases p with
 | tup ys=>cases hs;simp only[aP,ui h,fu]
 | lst ys=>cases hs;simp only[aP,ui h,fu]
 | j9 ys=>cases hs;simp only[aP,ui h,fu]
 | _=>cases hs
section
variable{b:String->Bool}{ob oe:Addr->Option Bool}
theorem G7(xs:List Int):Bj b ob oe (tI xs)=M.ok (.bl (b "tuple")):=Eq.trans rfl rfl
theorem IW(xs:List Int):Bj b ob oe (lI xs)=M.ok (.bl (b "list")):=Eq.trans rfl rfl
theorem DM(xs:List PV):Bj b ob oe (.tup xs)=M.ok (.bl (b "tuple")):=Eq.trans rfl rfl
theorem Fp(xs:List PV):Bj b ob oe (.lst xs)=M.ok (.bl (b "list")):=Eq.trans rfl rfl
theorem D8(i:Int):Bj b ob oe (.int i)=M.ok (.bl (b "int")):=Eq.trans rfl rfl
theorem Iq(i:Bool):Bj b ob oe (.bl i)=M.ok (.bl (b "bool")):=Eq.trans rfl rfl
theorem E5:Bj b ob oe .cy=M.ok (.bl (b "NoneType")):=Eq.trans rfl rfl
theorem D6(x:Str):Bj b ob oe (.str x)=M.ok (.bl (b "str")):=Eq.trans rfl rfl
theorem Fq:Bj b ob oe .emp=M.ok (.bl (b "dict")):=Eq.trans rfl rfl
end
theorem EN(i j:Int):uJ (.int i) (.int j)=M.ok (.bl (!decide (i=j))):=by
 simp only[uJ,ub,dat,Jh,shaped,PyData.canLay0,PyData.depth,noMix]
 rw[av ⟨rfl,rfl,trivial⟩]
 unfold same
 rw[M.aL];congr
theorem Fl(i j:Int):uc (.int i) (.int j)=M.ok (.bl (decide (i=j))):=by
 simp only[uc,ub,dat,Jh,shaped,PyData.canLay0,PyData.depth,noMix]
 rw[av ⟨rfl,rfl,trivial⟩]
 unfold same
 rw[M.aL];congr
theorem Gz(i j:Bool):uJ (.bl i) (.bl j)=M.ok (.bl (!decide (i=j))):=by
 simp only[uJ,ub,dat,Jh,shaped,PyData.canLay0,PyData.depth,noMix]
 rw[av ⟨rfl,rfl,trivial⟩]
 unfold same
 rw[M.aL];congr
theorem IP(i j:Bool):uc (.bl i) (.bl j)=M.ok (.bl (decide (i=j))):=by
 simp only[uc,ub,dat,Jh,shaped,PyData.canLay0,PyData.depth,noMix]
 rw[av ⟨rfl,rfl,trivial⟩]
 unfold same
 rw[M.aL];congr
theorem zN(xs:List Int):qg (xs.map PV.int)=some (xs.map PyData.int):=by
 induction xs with
 | nil=>rfl
 | cons a r ih=>simp[qg,dat,ih]
theorem vJ(xs:List Int):PyData.canLayAll0 (xs.map PyData.int)=true:=by
 induction xs with
 | nil=>rfl
 | cons a r ih=>simp[PyData.canLayAll0,PyData.canLay0,ih]
theorem xq(xs:List Int):PyData.depthAll (xs.map PyData.int)=0:=by
 induction xs with
 | nil=>rfl
 | cons a r ih=>simp[PyData.depthAll,PyData.depth,ih]
theorem noMix_ints:∀ (xs ys:List Int),noMixAll (xs.map PyData.int) (ys.map PyData.int)=true
 | [],[]=>by simp[noMixAll]
 | [],_::_=>by simp[noMixAll]
 | _::_,[]=>by simp[noMixAll]
 | a::r,b::s=>by simp[noMixAll,noMix,noMix_ints r s]
theorem same_ints:∀ (xs ys:List Int),sameAll (xs.map PyData.int) (ys.map PyData.int)=decide (xs=ys)
 | [],[]=>by simp[sameAll]
 | [],_::_=>by simp[sameAll]
 | _::_,[]=>by simp[sameAll]
 | a::r,b::s=>by
  simp only[List.map_cons,sameAll,same_ints r s]
  unfold same
  rw[Bool.eq_iff_iff];simp
theorem um(xs ys:List Int):uJ (tI xs) (tI ys)=M.ok (.bl (!decide (xs=ys))):=by
 simp only[uJ,ub,dat,tI,zN,Option.map_some,Jh]
 rw[av (by simp[shaped,PyData.canLay0,PyData.depth,vJ,xq,noMix,noMix_ints])]
 unfold same
 rw[same_ints];rfl
theorem FD(i j:Int):DZ (.int i) (.int j)=M.ok (.bl (decide (i<j))):=Eq.trans rfl rfl
theorem Er(i j:Int):E7 (.int i) (.int j)=M.ok (.bl (decide (i<=j))):=Eq.trans rfl rfl
theorem EY(i j:Int):EG (.int i) (.int j)=M.ok (.bl (decide (j<i))):=Eq.trans rfl rfl
theorem E8(i j:Int):Ge (.int i) (.int j)=M.ok (.bl (decide (j<=i))):=Eq.trans rfl rfl
theorem AJ(i j:Int):dM (.int i) (.int j)=M.ok (.int (i+j)):=Eq.trans rfl rfl
theorem AU(i j:Int):n_ (.int i) (.int j)=M.ok (.int (i-j)):=Eq.trans rfl rfl
theorem jv{n:Int}(h:0<=n)(h2:n<2^62):pN [.int n]=M.ok ((List.range n.toNat).map λ(i:Nat)=>.int (i:Int)):=by
 show cW (-(2^62)<=n/\n<2^62) _=_
 rw[av (by omega)]
 simp
theorem fk{set:PV->af->M af}{inj:α->PV}{k:Out->M β}{r:M β}(xs:List α)(J:List α->af->Prop){env:af}(h:J xs env)
  (H:∀ a r env,J (a::r) env->∃ e' Nm,set (inj a) env=M.ok e'/\body e'=M.ok (.nx Nm)/\J r Nm) (hk:∀ Nm,J [] Nm->k (.nx Nm)=r):M.bind (kE set body (xs.map inj) env) k=r:=by
 obtain⟨Nm,e,h'⟩:=vX J H xs env h
 rw[e,M.aL];exact hk Nm h'
theorem xx{k:Out->M β}{r:M β}(J:af->Prop)(m:af->Nat){env:af}(h:J env)
  (H:∀ env,J env->(u env=M.ok false)\/(u env=M.ok true/\∃ Nm,b env=M.ok (.nx Nm)/\J Nm/\m Nm<m env)) (hk:∀ Nm,J Nm->u Nm=M.ok false->k (.nx Nm)=r):M.bind (lM u b env) k=r:=by
 obtain⟨Nm,e,h',h2⟩:=sE J m H env h
 rw[e,M.aL];exact hk Nm h' h2
theorem aO(h:n<=1000):n<=sizeLine:=Nat.le_of_lt (nq h)
def tupK(ps:List PV):M PV:=cW (ps.length<=sizeLine) (M.ok (.tup ps))
def lstK(ps:List PV):M PV:=cW (ps.length<=sizeLine) (M.ok (.lst ps))
theorem Ek(fs:af->M (List PV))(env:af):lT fs env=(fs env).bind tupK:=rfl
theorem EO(fs:af->M (List PV))(env:af):ly fs env=(fs env).bind lstK:=rfl
theorem Iy:tupK []=M.ok (.tup []):=av (aO (show 0<=1000 by decide))
theorem Gx:lstK []=M.ok (.lst []):=av (aO (show 0<=1000 by decide))
theorem IJ(a:PV):tupK [a]=M.ok (.tup [a]):=av (aO (show 1<=1000 by decide))
theorem IA(a:PV):lstK [a]=M.ok (.lst [a]):=av (aO (show 1<=1000 by decide))
theorem G0(a b:PV):tupK [a,b]=M.ok (.tup [a,b]):=av (aO (show 2<=1000 by decide))
theorem Ii(a b:PV):lstK [a,b]=M.ok (.lst [a,b]):=av (aO (show 2<=1000 by decide))
theorem G5(a b c:PV):tupK [a,b,c]=M.ok (.tup [a,b,c]):=av (aO (show 3<=1000 by decide))
theorem Ja(a b c:PV):lstK [a,b,c]=M.ok (.lst [a,b,c]):=av (aO (show 3<=1000 by decide))
theorem Gn(a b c d:PV):tupK [a,b,c,d]=M.ok (.tup [a,b,c,d]):=av (aO (show 4<=1000 by decide))
theorem I_(a b c d:PV):lstK [a,b,c,d]=M.ok (.lst [a,b,c,d]):=av (aO (show 4<=1000 by decide))
theorem Hb(a b c d e:PV):tupK [a,b,c,d,e]=M.ok (.tup [a,b,c,d,e]):=av (aO (show 5<=1000 by decide))
theorem IL(a b c d e:PV):lstK [a,b,c,d,e]=M.ok (.lst [a,b,c,d,e]):=av (aO (show 5<=1000 by decide))
theorem Il(a b c d e f:PV):tupK [a,b,c,d,e,f]=M.ok (.tup [a,b,c,d,e,f]):=av (aO (show 6<=1000 by decide))
theorem GS(a b c d e f:PV):lstK [a,b,c,d,e,f]=M.ok (.lst [a,b,c,d,e,f]):=av (aO (show 6<=1000 by decide))
end
def jx(m:M α)(Q:α->Prop):Prop:=∃ a,m=M.ok a/\Q a
section
variable{Q Q':α->Prop}{m:M α}
theorem jx.eq{a:α}(h:jx m λx=>x=a):m=M.ok a:=by obtain⟨b,e,rfl⟩:=h;exact e
def Tn(J:af->Prop)(B:af->Prop)(R:PV->Prop):Out->Prop
 | .nx e=>J e
 | .ct e=>J e
 | .bk e=>B e
 | .rt p=>R p
theorem jx.CI{set:PV->af->M af}{body:af->M Out}{inj:γ->PV}{B:af->Prop}{R:PV->Prop}(J:List γ->af->Prop)
  (H:∀ a r env,J (a::r) env->jx (M.bind (set (inj a) env) body) (Tn (J r) B R)):∀ (xs:List γ) (env:af),J xs env->jx (kE set body (xs.map inj) env) λo=>(∃ e,o=.nx e/\(J [] e\/B e))\/∃ p,o=.rt p/\R p
 | [],env,h=>⟨_,rfl,.inl ⟨_,rfl,.inl h⟩⟩
 | a::r,env,h=>by
  obtain⟨o,e,q⟩:=H a r env h
  rw[List.map_cons,kE,← M.bind_assoc,e,M.aL]
  cases o with
  | nx e'=>exact jx.CI J H r e' q
  | ct e'=>exact jx.CI J H r e' q
  | bk e'=>exact⟨_,rfl,.inl ⟨_,rfl,.inr q⟩⟩
  | rt p=>exact⟨_,rfl,.inr ⟨_,rfl,q⟩⟩
theorem jx.loop{R:β->Prop}{set:PV->af->M af}{inj:γ->PV}{k:Out->M β}{xs:List γ}{env:af}(J:List γ->af->Prop)(h:J xs env)
  (H:∀ a r env,J (a::r) env->jx (M.bind (set (inj a) env) body) (Tn (J r) (λ_=>False) λ_=>False)) (hk:∀ Nm,J [] Nm->jx (k (.nx Nm)) R):jx (M.bind (kE set body (xs.map inj) env) k) R:=by
 obtain⟨o,e,q⟩:=jx.CI J H xs env h
 rw[e,M.aL]
 rcases q with ⟨e',rfl,q | q⟩ | ⟨p,_,q⟩
 ·exact hk e' q
 ·exact q.elim
 ·exact q.elim
end
def J_(i:Nat)(env:af)(xs:List PV)(p:PV):M Out:=if xs.length<sizeLine then M.ok (.nx (env.set i (some (.ow (xs++[p]))))) else none
theorem kR(i:Nat)(f:af->M PV)(env:af):lX i f env=(ownAt i env).bind λxs=>(f env).bind λp=>J_ i env xs p:=by
 unfold lX ownAt
 rcases env[i]? with _ | _ | (_ | _ | _) <;> rfl
theorem kU{env:af}(h:xs.length<1000):J_ i env xs p=M.ok (.nx (env.set i (some (.ow (xs++[p]))))):=if_pos (nq (Nat.le_of_lt h))
def pC(C:Addr)(m:Str)(sem:List PV->M PV)(p:PV)(x:M (List PV)):M PV:=match p with
 | .obj C' fl=>cW (C'=C/\fl.lookup m=none) (x.bind λps=>sem (.obj C' fl::ps))
 | _=>none
theorem bK(C:Addr)(m:Str)(sem:List PV->M PV)(g:af->M PV)(fs:af->M (List PV))(env:af):bh C m sem g fs env=(g env).bind λp=>pC C m sem p (fs env):=rfl
variable{sem:List PV->M PV}{C:Addr}
theorem jr{m:Str}{fl:List (Str×PV)}{x:M (List PV)}(h:fl.lookup m=none):pC C m sem (.obj C fl) x=x.bind λps=>sem (.obj C fl::ps):=av ⟨rfl,h⟩
def vD(ok:Addr->Bool)(f:Str)(p:PV):M PV:=match p with
 | .obj C fs=>cW (ok C=true) (fu (fs.lookup f))
 | _=>none
theorem e7(ok:Addr->Bool)(f:Str)(g:af->M PV)(env:af):c_ ok f g env=(g env).bind (vD ok f):=rfl
theorem jB{ok:Addr->Bool}{f:Str}{fs:List (Str×PV)}{x:PV}(h:ok C=true)(hl:fs.lookup f=some x):vD ok f (.obj C fs)=M.ok x:=by
 show cW _ _=_
 rw[av h,hl];rfl
theorem jy(xs:List Int)(x:Int):xs.map PV.int++[.int x]=(xs++[x]).map PV.int:=by simp
theorem oO{f:α->PV}(xs:List α)(h:cv p=some (xs.map f)):wt [p]=M.ok (xs.zipIdx.map λz=>.tup [.int (z.2:Int),f z.1]):=by
 show Lo p=_
 unfold Lo
 rw[h]
 show M.ok (i5 _)=_
 rw[zc]
theorem ny(xs:List Int):wt [lI xs]=M.ok (xs.zipIdx.map λz=>.tup [.int (z.2:Int),.int z.1]):=oO xs rfl
theorem HN(xs:List Int):wt [tI xs]=M.ok (xs.zipIdx.map λz=>.tup [.int (z.2:Int),.int z.1]):=oO xs rfl
theorem kS{f:α->PV}(xs:List α):wt [.lst (xs.map f)]=M.ok (xs.zipIdx.map λz=>.tup [.int (z.2:Int),f z.1]):=oO xs rfl
theorem M0{us:List α}(h:us.length=1):∃ a,us=[a]:=by
 cases us with
 | nil=>cases h
 | cons a t=>cases t with
  | nil=>exact⟨a,rfl⟩
  | cons b t=>cases h
theorem ln2{us:List α}(h:us.length=2):∃ a b,us=[a,b]:=by
 cases us with
 | nil=>cases h
 | cons a t=>obtain⟨b,rfl⟩:=M0 (Nat.succ.inj h);exact⟨a,b,rfl⟩
theorem MH{us:List α}(h:us.length=3):∃ a b c,us=[a,b,c]:=by
 cases us with
 | nil=>cases h
 | cons a t=>obtain⟨b,c,rfl⟩:=ln2 (Nat.succ.inj h);exact⟨a,b,c,rfl⟩
theorem M_{us:List α}(h:us.length=4):∃ a b c d,us=[a,b,c,d]:=by
 cases us with
 | nil=>cases h
 | cons a t=>obtain⟨b,c,d,rfl⟩:=MH (Nat.succ.inj h);exact⟨a,b,c,d,rfl⟩
def yl(K:PySem.W.Frag):Bool:=K.all λp=>match p.2.cls with
 | .type t=>t != "list"
 | _=>true
theorem CA{K:PySem.W.Frag}(h:yl K=true){o:Obj}(e:K.lookup a=some o):o.cls≠.type "list" := by
 induction K with
 | nil=>cases e
 | cons p r ih =>
  obtain⟨b,u⟩:=p
  rw[yl,List.all_cons,Bool.and_eq_true] at h
  rw[List.lookup_cons] at e
  cases q:a==b with
  | true =>
   rw[q] at e;cases e
   intro z
   have h1:=h.1
   simp only[z] at h1
   exact absurd h1 (by decide)
  | false=>rw[q] at e;exact ih h.2 e
theorem rE{H:Hp}:∀ ns:List Int,a_ H (ns.map PV.int) (ns.map V.int)
 | []=>.nil
 | i::r=>.cons (.int i) (rE r)
variable{x:Str}
theorem xA{l:PySem.W.OpenLaw}{q:Program}{loose:List Str}{XP:(Str->Option Value)->Heap->Prop}{YP:World->Heap->Prop}{d:DefRec}{K:Params->PySem.W.Frag}
  (hn:l.most=some n) (Qj:n<=sizeLine) (hdf:d.params.defaults=[]) (hr:cQ k callerA)
  (hY:∀ (w:World) (h:Heap),YP w h->(K w.params).In h)
  (hK:∀ w:World,yl (K w.params)=true)
  (F:∀ (w:World) (mg:Str->Option Value) (fa:Addr) (h:Heap),(K w.params).In h->h.Ns mainGlobals mg->mg d.name=some (.ref fa) ->
   ∃ fd:FuncData,(∀ (s:Shared) (u:Value),BindsTo s fd ⟨[u],[]⟩ [(x,u)]) ∧
    ∀ base:Heap,(K w.params).In base->base.Ns mainGlobals mg->aV l.prog w (K w.params) mg base (bX l.prog w) k fa fd [x] (dy 1 sem))
  (QE:∀ ns:List Int,ns.length<=n->(∀ i∈ns,Builtin.Int.intBits i<=1048576)->sem [.j9 (ns.map PV.int)]=M.ok (.bl true)) :
  PySem.W.WalkO q loose XP YP l.row.toRowW d [] (λf vs=>PySem.call f vs):=by
 intro w s₀ s₁ mg mb G Y fa o pm cd doc dV kV ho hd OB hD hmg hg args vals as z7 hlay hrd hwl hlo
 obtain rfl:dV=.none:=PySem.W.Dflts.none hD hdf
 obtain rfl:kV=.none:=PySem.W.Dflts.noKw hD
 obtain⟨a,vs,ns,rfl,rfl,hobj,hints,hlen⟩:=Att.Ar hn z7 hwl
 have QZ:∀ i∈ns,Builtin.Int.intBits i<=1048576:=λi hi=>by
  have h1:=PySem.W.layableW_arg hlay _ (List.mem_singleton.mpr rfl)
  have h2:=PySem.W.layableW_item h1 (.int i) (List.mem_map.mpr ⟨i,hi,rfl⟩)
  exact intBits_le_of_layable h2
 have KX:=hY w _ Y
 obtain⟨fd,hb,hF⟩:=F w mg fa _ KX G.T.g hmg
 have hs:=QE ns hlen QZ
 refine PySem.W.enter_call (codeAny_mono (A1 KX G.T.g G.T.b G.T.builtins G.T.nolimit hg hobj hints (Nat.le_trans hlen Qj) hr hF hb (λH hO hS=>⟨rfl,H,[.j9 (ns.map PV.int)],λ_ _ e=>e,?_,?_⟩) λH e s' z=>?_) λr s' hq=>?_)
 ·rcases hS with (hS | ⟨ob,hS⟩) | ⟨ob,Nl,m,e1,e2,_⟩
  ·rcases hO a with z | ⟨ob,xs,z⟩
   ·rw[z] at hS;cases hS
   ·rw[z] at hS;cases hS
  ·exact .cons (.j9 hS (rE ns)) .nil
  ·exact absurd e2 (CA (hK w) e1)
 ·rw[hs]
  intro v Np H' g r
  cases r;rfl
 ·obtain⟨ea,T,C,dd,Hc,_,_,_,_,_,_,_,_,z⟩:=z;exact z
 ·obtain⟨rfl,h2,h3,h4⟩:=hq
  exact⟨.inl ⟨.bool true,.bool true,[],rfl,λ_=>rfl,.bool true,Att.ze l _,λ_=>⟨List.Pairwise.nil,λ_ hm=>(nomatch hm)⟩⟩,h2,h3,h4⟩
abbrev wH(x q:Str)(t:Stmt)(s:Value)(c:Addr):FuncData:=PySem.W.fnOf x q (iW t) (eP t) (bf t) .none .none .none s none (.ref c) .none
variable{t:Stmt}
theorem bo.of{K:PySem.W.Frag}{q:Str}{dv kV doc pm:Value}{an:Option Addr}{NF ct:Value}{f:Addr}(h1:K.lookup f=some ⟨.type "function", none,.func (PySem.W.fnOf x q (iW t) (eP t) (bf t) dv kV doc pm an NF ct),⟨[]⟩⟩)(h2:PySem.W.codeIn K NF q=true)(h3:PySem.W.keepIn K (.ref f)=true):bo K x q t dv f (PySem.W.fnOf x q (iW t) (eP t) (bf t) dv kV doc pm an NF ct):=⟨⟨_,_,_,_,_,_,_,_,_,rfl,h1,h2⟩,h3⟩
section
variable{P:List α->Prop}
theorem Kq(h:∀ a b,P [a,b]):∀ us,us.length=2->P us:=λus hl=>by obtain⟨a,b,rfl⟩:=ln2 hl;exact h a b
theorem Nf(h:∀ a b c d,P [a,b,c,d]):∀ us,us.length=4->P us:=λus hl=>by obtain⟨a,b,c,d,rfl⟩:=M_ hl;exact h a b c d
end
theorem cL.of{N P:List Str}{sc:Scope}(h1:autoParam (sc.kind=.function) aR._auto_1)(h2:autoParam (sc.isCoroutine=false) aR._auto_1)(h3:autoParam (sc.isGenerator=false) aR._auto_1)(h4:autoParam (N.Nodup) aN._auto_1)(h5:autoParam (N.take P.length=P) aR._auto_1)(h6:autoParam (∀ x∈P,sc.names.lookup x=some .local\/sc.names.lookup x=some .cell) aN._auto_1)(h7:autoParam (∀ y∈sc.names,y.2≠.free) aN._auto_1):cL N P sc:=⟨h1,h2,h3,h4,h5,h6,h7⟩
theorem aM{pos:Pos}(hN:X.N.Nodup)(hi:autoParam (X.N[i]?=some x) aR._auto_1)(hx:autoParam (Loc X.env.scope x) aG._auto_1)(hf:autoParam (X.fn x=true\/X.env.scope.names.lookup x=some .local) aG._auto_1):PG X (.Name x pos) (aH i):=Fz hN hi hx hf
def Fy:Nat->(List Value->Prop)->Prop
 | 0,P=>P []
 | n+1,P=>∀ a,Fy n λl=>P (a::l)
theorem sM:∀ {n:Nat} {P:List Value->Prop},Fy n P->∀ us:List Value,us.length=n->P us
 | 0,_,h,[],_=>h
 | n+1,_,h,a::r,e=>sM (h a) r (Nat.succ.inj e)
variable{ps:List Str}{mg:Str->Option Value}
section
variable{K:PySem.W.Frag}{h:Heap}{q:Str}{m:Nat}{tO:List PV->M (List PV)}
theorem gC(P:Program)(w:World)(base:Heap)(X:K.In h)(G:h.Ns mainGlobals mg)(a c:Addr)(s:Value)(ok:bo K x q t .none a (wH x q t s c)->aV P w K mg base (bX P w) n a (wH x q t s c) ps (dy m (bu m sem)))
  (h1:autoParam (K.lookup a=some ⟨.type "function", none,.func (wH x q t s c),⟨[]⟩⟩) aK._auto_1) (h2:autoParam (PySem.W.codeIn K (.ref c) q=true) aK._auto_1) (h3:autoParam (PySem.W.keepIn K (.ref a)=true) aK._auto_1) (h4:autoParam (PySem.W.nsIn K mainGlobals x=some (some (.ref a))) aK._auto_1)
  (h5:autoParam (ps.length=m) aR._auto_1) (h6:Fy ps.length λus=>bindArgs (wH x q t s c) ⟨us,[]⟩=pure (ps.zip us):=by (repeat intro _);rfl):cV P w K mg base n x m sem :=
 ⟨⟨a,_,ps,PySem.W.mg_of X G h4,h3,h5,.all (sM h6),ok (.of h1 h2 h3)⟩⟩
theorem Dx(P:Program)(w:World)(base:Heap)(cc:lp K C)(a c:Addr)(s:Value)(ok:bo K x q t .none a (wH x q t s c)->aV P w K mg base (bX P w) n a (wH x q t s c) ps (dy m (bu m sem)))
  (h1:autoParam (K.lookup a=some ⟨.type "function", none,.func (wH x q t s c),⟨[]⟩⟩) aK._auto_1) (h2:autoParam (PySem.W.codeIn K (.ref c) q=true) aK._auto_1) (h3:autoParam (PySem.W.keepIn K (.ref a)=true) aK._auto_1) (h4:autoParam (PySem.W.findIn K (.ref C) x=some (some (.ref a))) aK._auto_1) (h5:autoParam (PySem.W.isFn K (.ref a)=true) aK._auto_1)
  (h6:Fy ps.length λus=>bindArgs (wH x q t s c) ⟨us,[]⟩=pure (ps.zip us):=by (repeat intro _);rfl):jK P w K mg base C n x m sem :=
 ⟨⟨a,_,ps,cc,⟨h4,h5,h3⟩,.all (sM h6),ok (.of h1 h2 h3)⟩⟩
end
theorem bo.eJ{P:Program}{w:World}{K:PySem.W.Frag}{base:Heap}{qual:Str}{st:Stmt}{dv:Value}{f:Addr}{fd:FuncData}{g:af->M Out}(F:bo K x qual st dv f fd)(N:List Str)
  (hb:N.Nodup->∀ (NF:Value) (A:Around) (outer:List Env) (s:Shared) (H:Hp) (E:XK),cQ k (A.deeper (envOfC qual (bf st) s.heap.objs.size f NF))->fF ((my (bX P w) P w K mg base N qual (bf st) f NF A outer s H E).out λ_=>E) (λ_=>E)->lY ((my (bX P w) P w K mg base N qual (bf st) f NF A outer s H E).out λ_=>E) (eP st) (tS E g))
  (S:cL N ps (bf st):=by exact .of):aV P w K mg base (bX P w) (k+1) f fd ps (dy ps.length (bu ps.length (aw N.length g))):=F.M8 S (hb S.nd)
end L2
namespace HD
open PySem PySem.W L2
abbrev pw:Program:=PySem.Challenge.pw_dialvault_k56_whole_great_gears
noncomputable section
noncomputable def st(s:String)(t:Nat):Value:=.str (Str.ofString s) t
def en(P:Params)(s:String)(t:Nat)(v:Value):DictEntry:=⟨PyData.keyHash P (Str.ofString s),st s t,v⟩
def tu(xs:List Value):Obj:=⟨.type "tuple", none,.seq ⟨xs⟩ 0,⟨[]⟩⟩
def di(n:Nat)(es:List DictEntry):Obj:=⟨.type "dict", none,.dict ⟨es⟩ n,⟨[]⟩⟩
def tp(i:Nat):Stmt:=pw.main.body.getD i (.Pass ⟨0,0,0,0⟩)
def mp(i j:Nat):Stmt:=inClass (tp i) j
def co(a b:String)(t:Nat)(l n:Int)(x1 x2 x3 x4 x5:Nat)(u:Nat):Obj:=⟨.type "code", none,.fields ⟨[st a t,st b (t+1),st "/claim/cut.py" (t+2),.int l 0,.int n 0,.int 0 0,.int 0 0,.int 3 0,.ref x1,.bool true,.int 181 0,.ref x2,.none,.ref x3,.ref x4,.ref x5,.int u 0,.int l 0,st "/claim/cut.py" (u+1)]⟩,⟨[]⟩⟩
def ft(a b:String)(s:Stmt):Obj:=⟨.none,none,.func ⟨Str.ofString a,Str.ofString b,iW s,.stmts (eP s),bf s,0,[],.none,.none,.none,.none,none,.none,.none,0⟩,⟨[]⟩⟩
def fo(a b:String)(s:Stmt)(df pm:Value)(cd:Nat):Obj:=⟨.type "function", none,.func ⟨Str.ofString a,Str.ofString b,iW s,.stmts (eP s),bf s,3,[],df,.none,.none,pm,none,.ref cd,.none,0⟩,⟨[]⟩⟩
def G_:List Obj->List Obj
 | []=>[]
 | [a]=>[a]
 | a::_::r=>a::G_ r
def bt:Nat->List Obj->BT
 | 0,_=>.nil
 | _+1,[]=>.nil
 | n+1,a::r=>.node a (bt n (G_ r)) (bt n (G_ (r.drop 1)))
def S(L:Params->List Obj)(n k:Nat)(w:World)(os:OsState):SharedT:=⟨bt 14 (L w.params),n,{},⟨[]⟩,⟨0,0,0,0⟩,k,os⟩
def F(L:Params->List Obj)(k:Nat)(w:World)(os:OsState):Shared:=⟨⟨⟨L w.params⟩,{}⟩,⟨[]⟩,⟨0,0,0,0⟩,k,os⟩
def cc(a:String)(t:Nat)(l:Int)(x y u:Nat):Obj:=⟨.type "code", none,.fields ⟨[st a t,st a (t+1),st "/claim/cut.py" (t+2),.int l 0,.int 0 0,.int 0 0,.int 0 0,.int 0 0,.ref x,.bool false,.int 181 0,.ref y,.none,.none,.none,.none,.int u 0,.int l 0,st "/claim/cut.py" (u+1)]⟩,⟨[]⟩⟩
def fr(a b:Nat)(s:String)(t:Nat):Obj:=⟨.type "frame", none,.plain,⟨[some (.ref a),some (.ref 3),some (.ref b),none,some (st s t),none,some (.ref 0)]⟩⟩
def su(a:Nat):Obj:=⟨.type "super", none,.fields ⟨[.ref a,.ref a,.ref a]⟩,⟨[]⟩⟩
def ii(a:Nat):Obj:=⟨.type "builtin_function_or_method", none,.fields ⟨[.builtin "object.__init_subclass__", .ref a]⟩,⟨[]⟩⟩
def uM:List Nat->List Value
 | a::b::c::r=>.int a 0::.int b 0::.ref c::uM r
 | _=>[]
def fi(xs:List Nat):Obj:=⟨.none,none,.fields ⟨uM xs⟩,⟨[]⟩⟩
def cl(n:Str)(bs ms:List Value)(k:Nat)(ss:List Value)(sl:List (Option Value)):Obj:=⟨.type "type", none,.cls ⟨n,bs,ms,k,n,true,[],ss,false,none,false⟩,⟨sl⟩⟩
def pt(L:List Obj)(us:List (Nat×Obj))(ns:List Obj):List Obj:=us.foldl (λl u=>l.set u.1 u.2) L++ns
abbrev b0:=boot_o_0
abbrev b1:=boot_o_1
abbrev b2:=boot_o_2
abbrev b3:=boot_o_3
abbrev b4:=boot_o_4
abbrev b5:=boot_o_5
abbrev b6:=boot_o_6
abbrev b7:=boot_o_7
abbrev b8:=boot_o_8
abbrev b9:=boot_o_9
abbrev Nh:=boot_o_10
def m0:Value:=st "__main__" 164
def m1:Value:=st "dialvault.errors" 194
def m2:Value:=st "dialvault.wholes" 418
def m3:Value:=st "dialvault.vault" 487
def m4:Value:=st "dialvault.papers" 631
def m5:Value:=st "dialvault.rungs" 639
def m6:Value:=st "dialvault.classes" 805
def m7:Value:=st "dialvault.stills" 814
def m8:Value:=st "dialvault.gears" 838
def m9:Value:=st "dialvault.pairs" 911
def yP:Value:=st "law_dialvault_k56_whole_great_gears" 929
def nl:List String->Nat->List Value
 | [],_=>[]
 | x::r,t=>st x t::nl r (t+1)
def fA(P:Params)(a t:Nat)(x q:String)(s:Stmt)(l n:Int)(vs:List String)(df pm:Value):List Obj:=[b7 P,b8 P,tu (nl vs (t+3)),b7 P,ft x q s,co x q t l n a (a+1) (a+2) (a+3) (a+4) (t+3+vs.length),fo x q s df pm (a+5)]
def fT(P:Params)(a t:Nat)(x:String)(s:Stmt)(l n:Int)(vs:List String)(pm:Value):List Obj:=fA P a t x x s l n vs .none pm
def fB(P:Params)(a t:Nat)(x q:String)(s:Stmt)(l n:Int)(df pm:Value):List Obj:=[b7 P,b8 P,ft x q s,⟨.type "code", none,.fields ⟨[st x t,st q (t+1),st "/claim/cut.py" (t+2),.int l 0,.int n 0,.int 0 0,.int 0 0,.int 3 0,.ref a,.bool true,.int 181 0,.ref (a+1),.none,.none,.none,.ref (a+2),.int (t+3) 0,.int l 0,st "/claim/cut.py" (t+4)]⟩,⟨[]⟩⟩,fo x q s df pm (a+3)]
def dB(P:Params)(n t:Nat)(m:Value)(l:Int)(r:List DictEntry):Obj:=di n (en P "__module__" t m::en P "__firstlineno__" (t+4) (.int l (t+3))::r)
def dA(P:Params)(n t:Nat)(m:Value)(x:String)(l:Int)(r:List DictEntry):Obj:=di n (en P "__module__" t m::en P "__qualname__" (t+2) (st x (t+1))::en P "__firstlineno__" (t+4) (.int l (t+3))::r)
def gw(t a:Nat):Obj:=⟨.type "getset_descriptor", none,.fields ⟨[st "__weakref__" t,.ref a,.builtin "ExceptionGroup.__weakref__", .none]⟩,⟨[]⟩⟩
def gd(t a:Nat):Obj:=⟨.type "getset_descriptor", none,.fields ⟨[st "__dict__" t,.ref a,.builtin "function.__dict__", .builtin "function.__dict__#set"]⟩,⟨[]⟩⟩
def ce(x:String)(b a k:Nat)(ss:List Value)(d t u:Nat):Obj:=cl x [.ref b] [.ref a,.ref b,.type "ValueError", .type "Exception", .type "BaseException", .type "object"] k ss [some (.ref d),none,some (st x t),some (st x u),some (.builtin "ValueError.__new__"),some (.bool true)]
def gl P:=[en P "__doc__" 166 .none,en P "__package__" 167 .none,en P "__loader__" 168 (.builtin "__main__.__loader__#opaque"),en P "__spec__" 169 .none,en P "__annotations__" 170 (.ref 6),en P "__builtins__" 171 (.ref 4),en P "__file__" 173 (st "/claim/cut.py" 172),en P "__cached__" 174 .none,en P "_wall" 193 (.ref 21),en P "VaultError" 220 (.ref 38),en P "NoDial" 252 (.ref 65),en P "NoLever" 284 (.ref 91),en P "NoPrice" 316 (.ref 117),en P "NoSetting" 339 (.ref 136),en P "TooMany" 362 (.ref 155),en P "Unlike" 385 (.ref 174),en P "NoGear" 417 (.ref 200),en P "is_whole" 426 (.ref 209),en P "is_row" 432 (.ref 214),en P "common" 444 (.ref 221),en P "multiple_of" 453 (.ref 228),en P "product_of" 462 (.ref 235),en P "unit_row" 468 (.ref 240),en P "column" 474 (.ref 245),en P "rest_sum" 480 (.ref 250),en P "rest_sums" 486 (.ref 255),en P "MOST_DIALS" 490 (.int 6 489),en P "LEAST_SIZE" 492 (.int 2 491),en P "MOST_SIZE" 494 (.int 360 493),en P "MOST_LEVERS" 496 (.int 8 495),en P "LEAST_PRICE" 498 (.int 1 497),en P "MOST_PRICE" 500 (.int 1000 499),en P "Vault" 558 (.ref 299),en P "is_within" 567 (.ref 310),en P "need_sizes" 576 (.ref 317),en P "need_same_sizes" 584 (.ref 324),en P "need_levers" 594 (.ref 331),en P "prices_for" 603 (.ref 338),en P "rests" 609 (.ref 343),en P "nought" 616 (.ref 350),en P "is_setting" 622 (.ref 355),en P "need_setting" 630 (.ref 362),en P "weigh" 638 (.ref 367),en P "mixed" 646 (.ref 372),en P "mixed_made" 658 (.ref 379),en P "unpulled" 666 (.ref 386),en P "pulled_once" 675 (.ref 393),en P "step_size" 685 (.ref 400),en P "taken_in" 700 (.ref 407),en P "lowered" 712 (.ref 414),en P "in_spans" 722 (.ref 421),en P "Rungs" 804 (.ref 482),en P "together_count" 813 (.ref 493),en P "clear" 821 (.ref 498),en P "clear_of" 831 (.ref 505),en P "stills" 837 (.ref 510),en P "Gear" 876 (.ref 532),en P "is_tooth_row" 882 (.ref 541),en P "need_teeth" 892 (.ref 548),en P "image" 898 (.ref 553),en P "weights_ahead" 904 (.ref 558),en P "led_into" 910 (.ref 563),en P "together" 920 (.ref 570),en P "both" 928 (.ref 577),en P "_law_cell" 938 (.ref 584),en P "_law_mix" 947 (.ref 591),en P "_law_digits" 957 (.ref 598),en P "_law_size" 964 (.ref 605),en P "_law_sizes" 970 (.ref 610),en P "_law_lever" 983 (.ref 617),en P "_law_divisor" 991 (.ref 624),en P "_law_teeth" 1007 (.ref 631),en P "_law_led" 1013 (.ref 636),en P "_law_does" 1021 (.ref 643),en P "_law_setting" 1027 (.ref 648),en P "_law_image" 1043 (.ref 655),en P "law" 1049 (.ref 660)]
def LA(P:Params):List Obj:=[b0 P,b1 P,b2 P,b3 P,b4 P,b5 P,b6 P,b7 P,b8 P,b9 P,Nh P,b7 P,b8 P,cc "<module>" 182 1 11 12 185,fr 13 3 "__main__" 164]
def o9:Obj:=⟨.type "builtin_function_or_method", none,(.fields ⟨[.builtin "type.__prepare__", .type "type"]⟩),⟨[]⟩⟩
def Nc:Obj:=gw 216 38
def IZ:=tu [.ref 38]
def L0 P:=pt (LA P) [(3,di 15 (en P "__name__" 165 m1::(gl P).take 14)),(12,fi [1,0,20,5,0,27,9,0,47,16,0,73,23,0,99,30,0,125])] (fT P 15 187 "_wall" (tp 0) 1 1 ["k"] m0++([tu [.type "ValueError"],o9,dA P 5 203 m1 "VaultError" 5 [en P "word" 214 (.ref 35),en P "__static_attributes__" 215 (.ref 36)],b7 P,fi [7,4,34],cc "VaultError" 198 5 25 26 201,fr 27 24 "dialvault.errors" 194]++(fA P 29 208 "word" "VaultError.word" (mp 2 0) 7 1 ["self"] .none m1++([b7 P,dB P 3 203 m1 5 [en P "word" 214 (.ref 35),en P "__static_attributes__" 215 (.ref 36),en P "__weakref__" 217 (.ref 39),en P "__doc__" 218 .none],cl "VaultError" [.type "ValueError"] [.ref 38,.type "ValueError", .type "Exception", .type "BaseException", .type "object"] 37 [.ref 65,.ref 91,.ref 117,.ref 136] [some (.ref 22),none,some (st "VaultError" 196),some (st "VaultError" 204),some (.builtin "ValueError.__new__"),some (.bool true)],Nc,su 38,ii 38,IZ,o9,dA P 6 228 m1 "NoDial" 9 [en P "__init__" 240 (.ref 55),en P "word" 247 (.ref 62),en P "__static_attributes__" 249 (.ref 63)],b7 P,fi [11,4,54,14,4,61],cc "NoDial" 223 9 45 46 226,fr 47 44 "dialvault.errors" 194]++(fA P 49 233 "__init__" "NoDial.__init__" (mp 3 0) 11 2 ["self", "dial"] .none m1++(fA P 56 241 "word" "NoDial.word" (mp 3 1) 14 1 ["self"] .none m1++([tu [st "dial" 248],dB P 2 228 m1 9 [en P "__init__" 240 (.ref 55),en P "word" 247 (.ref 62),en P "__static_attributes__" 249 (.ref 63),en P "__doc__" 250 .none],ce "NoDial" 38 65 64 [] 42 221 229,su 65,ii 65,IZ,o9,dA P 6 260 m1 "NoLever" 16 [en P "__init__" 272 (.ref 81),en P "word" 279 (.ref 88),en P "__static_attributes__" 281 (.ref 89)],b7 P,fi [18,4,80,21,4,87],cc "NoLever" 255 16 71 72 258,fr 73 70 "dialvault.errors" 194]++(fA P 75 265 "__init__" "NoLever.__init__" (mp 4 0) 18 2 ["self", "lever"] .none m1++(fA P 82 273 "word" "NoLever.word" (mp 4 1) 21 1 ["self"] .none m1++([tu [st "lever" 280],dB P 2 260 m1 16 [en P "__init__" 272 (.ref 81),en P "word" 279 (.ref 88),en P "__static_attributes__" 281 (.ref 89),en P "__doc__" 282 .none],ce "NoLever" 38 91 90 [] 68 253 261,su 91,ii 91,IZ,o9,dA P 6 292 m1 "NoPrice" 23 [en P "__init__" 304 (.ref 107),en P "word" 311 (.ref 114),en P "__static_attributes__" 313 (.ref 115)],b7 P,fi [25,4,106,28,4,113],cc "NoPrice" 287 23 97 98 290,fr 99 96 "dialvault.errors" 194]++(fA P 101 297 "__init__" "NoPrice.__init__" (mp 5 0) 25 2 ["self", "lever"] .none m1++(fA P 108 305 "word" "NoPrice.word" (mp 5 1) 28 1 ["self"] .none m1++([tu [st "lever" 312],dB P 2 292 m1 23 [en P "__init__" 304 (.ref 107),en P "word" 311 (.ref 114),en P "__static_attributes__" 313 (.ref 115),en P "__doc__" 314 .none],ce "NoPrice" 38 117 116 [] 94 285 293,su 117,ii 117,IZ,o9,dA P 5 324 m1 "NoSetting" 30 [en P "word" 335 (.ref 133),en P "__static_attributes__" 336 (.ref 134)],b7 P,fi [32,4,132],cc "NoSetting" 319 30 123 124 322,fr 125 122 "dialvault.errors" 194]++(fA P 127 329 "word" "NoSetting.word" (mp 6 0) 32 1 ["self"] .none m1++([b7 P,dB P 2 324 m1 30 [en P "word" 335 (.ref 133),en P "__static_attributes__" 336 (.ref 134),en P "__doc__" 337 .none],ce "NoSetting" 38 136 135 [] 120 317 325,su 136,ii 136])))))))))))))))
def Lr:Obj:=gd 552 299
def L4:Obj:=gw 554 299
def L1 P:=pt (L0 P) [(3,di 36 (en P "__name__" 165 m3::(gl P).take 35)),(12,fi [1,0,20,5,0,27,9,0,47,16,0,73,23,0,99,30,0,125,34,0,144,38,0,163,42,0,182,50,0,208,52,0,213,56,0,220,67,0,227,72,0,234,77,0,239,79,0,244,81,0,249,83,0,254,92,0,261,113,0,309,115,0,316]),(38,cl "VaultError" [.type "ValueError"] [.ref 38,.type "ValueError", .type "Exception", .type "BaseException", .type "object"] 37 [.ref 65,.ref 91,.ref 117,.ref 136,.ref 155,.ref 174,.ref 200] [some (.ref 22),none,some (st "VaultError" 196),some (st "VaultError" 204),some (.builtin "ValueError.__new__"),some (.bool true)])] ([IZ,o9,dA P 5 347 m1 "TooMany" 34 [en P "word" 358 (.ref 152),en P "__static_attributes__" 359 (.ref 153)],b7 P,fi [36,4,151],cc "TooMany" 342 34 142 143 345,fr 144 141 "dialvault.errors" 194]++(fA P 146 352 "word" "TooMany.word" (mp 7 0) 36 1 ["self"] .none m1++([b7 P,dB P 2 347 m1 34 [en P "word" 358 (.ref 152),en P "__static_attributes__" 359 (.ref 153),en P "__doc__" 360 .none],ce "TooMany" 38 155 154 [] 139 340 348,su 155,ii 155,IZ,o9,dA P 5 370 m1 "Unlike" 38 [en P "word" 381 (.ref 171),en P "__static_attributes__" 382 (.ref 172)],b7 P,fi [40,4,170],cc "Unlike" 365 38 161 162 368,fr 163 160 "dialvault.errors" 194]++(fA P 165 375 "word" "Unlike.word" (mp 8 0) 40 1 ["self"] .none m1++([b7 P,dB P 2 370 m1 38 [en P "word" 381 (.ref 171),en P "__static_attributes__" 382 (.ref 172),en P "__doc__" 383 .none],ce "Unlike" 38 174 173 [] 158 363 371,su 174,ii 174,IZ,o9,dA P 6 393 m1 "NoGear" 42 [en P "__init__" 405 (.ref 190),en P "word" 412 (.ref 197),en P "__static_attributes__" 414 (.ref 198)],b7 P,fi [44,4,189,47,4,196],cc "NoGear" 388 42 180 181 391,fr 182 179 "dialvault.errors" 194]++(fA P 184 398 "__init__" "NoGear.__init__" (mp 9 0) 44 2 ["self", "dial"] .none m1++(fA P 191 406 "word" "NoGear.word" (mp 9 1) 47 1 ["self"] .none m1++([tu [st "dial" 413],dB P 2 393 m1 42 [en P "__init__" 405 (.ref 190),en P "word" 412 (.ref 197),en P "__static_attributes__" 414 (.ref 198),en P "__doc__" 415 .none],ce "NoGear" 38 200 199 [] 177 386 394,su 200,ii 200]++(fT P 203 420 "is_whole" (tp 11) 50 1 ["thing"] m2++(fB P 210 427 "is_row" "is_row" (tp 12) 52 2 .none m2++(fT P 215 433 "common" (tp 13) 56 2 ["one", "other", "row", "behind", "times", "rest"] m2++(fT P 222 445 "multiple_of" (tp 14) 67 1 ["numbers", "multiple", "number"] m2++(fT P 229 454 "product_of" (tp 15) 72 1 ["numbers", "product", "number"] m2++(fB P 236 463 "unit_row" "unit_row" (tp 16) 77 2 .none m2++(fB P 241 469 "column" "column" (tp 17) 79 2 .none m2++(fB P 246 475 "rest_sum" "rest_sum" (tp 18) 81 3 .none m2++(fB P 251 481 "rest_sums" "rest_sums" (tp 19) 83 3 .none m2++([b7 P,o9,dA P 9 508 m3 "Vault" 92 [en P "__init__" 518 (.ref 268),en P "sizes" 525 (.ref 275),en P "levers" 532 (.ref 282),en P "prices" 539 (.ref 289),en P "around" 546 (.ref 296),en P "__static_attributes__" 551 (.ref 297)],b7 P,fi [94,4,267,102,4,274,105,4,281,108,4,288,111,4,295],cc "Vault" 503 92 259 260 506,fr 261 258 "dialvault.vault" 487,tu [.none]]++(fB P 264 513 "__init__" "Vault.__init__" (mp 27 0) 94 4 (.ref 263) m3++(fA P 269 519 "sizes" "Vault.sizes" (mp 27 1) 102 1 ["self"] .none m3++(fA P 276 526 "levers" "Vault.levers" (mp 27 2) 105 1 ["self"] .none m3++(fA P 283 533 "prices" "Vault.prices" (mp 27 3) 108 1 ["self"] .none m3++(fA P 290 540 "around" "Vault.around" (mp 27 4) 111 1 ["self"] .none m3++([tu [st "dial_sizes" 547,st "least_round" 548,st "lever_prices" 549,st "lever_settings" 550],dB P 4 508 m3 92 [en P "__init__" 518 (.ref 268),en P "sizes" 525 (.ref 275),en P "levers" 532 (.ref 282),en P "prices" 539 (.ref 289),en P "around" 546 (.ref 296),en P "__static_attributes__" 551 (.ref 297),en P "__dict__" 553 (.ref 300),en P "__weakref__" 555 (.ref 301),en P "__doc__" 556 .none],cl "Vault" [.type "object"] [.ref 299,.type "object"] 298 [] [none,none,some (st "Vault" 501),some (st "Vault" 509),some (.builtin "object.__new__"),some (.bool true)],Lr,L4,su 299,ii 299]++(fT P 304 559 "is_within" (tp 28) 113 3 ["thing", "least", "most"] m3++(fT P 311 568 "need_sizes" (tp 29) 115 1 ["sizes", "dial", "size"] m3))))))))))))))))))))))))))
def Mc:Obj:=gd 798 482
def Lb:Obj:=gw 800 482
def LN:Obj:=gd 870 532
def Mb:Obj:=gw 872 532
def L2 P:=pt (L1 P) [(3,di 63 (en P "__name__" 165 m9::(gl P).take 62)),(12,fi [1,0,20,5,0,27,9,0,47,16,0,73,23,0,99,30,0,125,34,0,144,38,0,163,42,0,182,50,0,208,52,0,213,56,0,220,67,0,227,72,0,234,77,0,239,79,0,244,81,0,249,83,0,254,92,0,261,113,0,309,115,0,316,123,0,323,126,0,330,132,0,337,141,0,342,143,0,349,145,0,354,150,0,361,154,0,366,161,0,371,163,0,378,166,0,385,168,0,392,171,0,399,174,0,406,183,0,413,188,0,420,193,0,427,246,0,492,249,0,497,252,0,504,257,0,509,262,0,516,273,0,540,277,0,547,281,0,552,284,0,557,292,0,562])] (fT P 318 577 "need_same_sizes" (tp 30) 123 2 ["sizes", "others"] m3++(fT P 325 585 "need_levers" (tp 31) 126 2 ["levers", "dials", "place", "lever"] m3++(fT P 332 595 "prices_for" (tp 32) 132 2 ["levers", "prices", "place"] m3++(fB P 339 604 "rests" "rests" (tp 33) 141 2 .none m3++(fT P 344 610 "nought" (tp 34) 143 1 ["vault"] m3++(fB P 351 617 "is_setting" "is_setting" (tp 35) 145 2 .none m3++(fT P 356 623 "need_setting" (tp 36) 150 2 ["vault", "thing"] m3++(fB P 363 633 "weigh" "weigh" (tp 38) 154 3 .none m4++(fB P 368 641 "mixed" "mixed" (tp 40) 161 4 .none m5++(fT P 373 647 "mixed_made" (tp 41) 163 5 ["sizes", "made", "times", "other", "others", "doing"] m5++(fT P 380 659 "unpulled" (tp 42) 166 2 ["vault", "setting"] m5++(fT P 387 667 "pulled_once" (tp 43) 168 2 ["vault", "lever", "levers"] m5++(fT P 394 676 "step_size" (tp 44) 171 3 ["sizes", "made_rows", "dial", "notch"] m5++(fT P 401 686 "taken_in" (tp 45) 174 3 ["sizes", "made_rows", "left", "wider", "dial", "made", "step", "notch", "found"] m5++(fT P 408 701 "lowered" (tp 46) 183 4 ["sizes", "made_rows", "made", "first", "dial", "times"] m5++(fT P 415 713 "in_spans" (tp 47) 188 2 ["pulls", "idle_rows", "lever", "row"] m5++([b7 P,o9,dA P 13 730 m5 "Rungs" 193 [en P "__init__" 740 (.ref 433),en P "steps" 746 (.ref 438),en P "rows" 752 (.ref 443),en P "spans" 758 (.ref 448),en P "idle" 765 (.ref 455),en P "brought_down" 773 (.ref 462),en P "least" 781 (.ref 469),en P "pulls_to" 787 (.ref 474),en P "weights_at" 793 (.ref 479),en P "__static_attributes__" 797 (.ref 480)],b7 P,fi [195,4,432,207,4,437,211,4,442,214,4,447,217,4,454,220,4,461,224,4,468,227,4,473,233,4,478],cc "Rungs" 725 193 425 426 728,fr 427 424 "dialvault.rungs" 639]++(fB P 429 735 "__init__" "Rungs.__init__" (mp 48 0) 195 2 .none m5++(fB P 434 741 "steps" "Rungs.steps" (mp 48 1) 207 1 .none m5++(fB P 439 747 "rows" "Rungs.rows" (mp 48 2) 211 1 .none m5++(fB P 444 753 "spans" "Rungs.spans" (mp 48 3) 214 1 .none m5++(fA P 449 759 "idle" "Rungs.idle" (mp 48 4) 217 1 ["self"] .none m5++(fA P 456 766 "brought_down" "Rungs.brought_down" (mp 48 5) 220 2 ["self", "setting"] .none m5++(fA P 463 774 "least" "Rungs.least" (mp 48 6) 224 2 ["self", "setting"] .none m5++(fB P 470 782 "pulls_to" "Rungs.pulls_to" (mp 48 7) 227 2 .none m5++(fB P 475 788 "weights_at" "Rungs.weights_at" (mp 48 8) 233 2 .none m5++([tu [st "idle_rows" 794,st "made_rows" 795,st "vault" 796],dB P 4 730 m5 193 [en P "__init__" 740 (.ref 433),en P "steps" 746 (.ref 438),en P "rows" 752 (.ref 443),en P "spans" 758 (.ref 448),en P "idle" 765 (.ref 455),en P "brought_down" 773 (.ref 462),en P "least" 781 (.ref 469),en P "pulls_to" 787 (.ref 474),en P "weights_at" 793 (.ref 479),en P "__static_attributes__" 797 (.ref 480),en P "__dict__" 799 (.ref 483),en P "__weakref__" 801 (.ref 484),en P "__doc__" 802 .none],cl "Rungs" [.type "object"] [.ref 482,.type "object"] 481 [] [none,none,some (st "Rungs" 723),some (st "Rungs" 731),some (.builtin "object.__new__"),some (.bool true)],Mc,Lb,su 482,ii 482]++(fT P 487 807 "together_count" (tp 50) 246 1 ["vault"] m6++(fB P 494 816 "clear" "clear" (tp 52) 249 1 .none m7++(fT P 499 822 "clear_of" (tp 53) 252 2 ["sizes", "doings", "cleared", "doing"] m7++(fB P 506 832 "stills" "stills" (tp 54) 257 1 .none m7++([b7 P,o9,dA P 6 847 m8 "Gear" 262 [en P "__init__" 857 (.ref 522),en P "led" 865 (.ref 529),en P "__static_attributes__" 869 (.ref 530)],b7 P,fi [264,4,521,270,4,528],cc "Gear" 842 262 514 515 845,fr 516 513 "dialvault.gears" 838]++(fB P 518 852 "__init__" "Gear.__init__" (mp 56 0) 264 4 .none m8++(fA P 523 858 "led" "Gear.led" (mp 56 1) 270 2 ["self", "setting"] .none m8++([tu [st "front_dials" 866,st "rear_dials" 867,st "tooth_rows" 868],dB P 4 847 m8 262 [en P "__init__" 857 (.ref 522),en P "led" 865 (.ref 529),en P "__static_attributes__" 869 (.ref 530),en P "__dict__" 871 (.ref 533),en P "__weakref__" 873 (.ref 534),en P "__doc__" 874 .none],cl "Gear" [.type "object"] [.ref 532,.type "object"] 531 [] [none,none,some (st "Gear" 840),some (st "Gear" 848),some (.builtin "object.__new__"),some (.bool true)],LN,Mb,su 532,ii 532]++(fB P 537 877 "is_tooth_row" "is_tooth_row" (tp 57) 273 3 .none m8++(fT P 542 883 "need_teeth" (tp 58) 277 3 ["front", "rear", "teeth", "dial"] m8++(fB P 549 893 "image" "image" (tp 59) 281 2 .none m8++(fB P 554 899 "weights_ahead" "weights_ahead" (tp 60) 284 2 .none m8++(fB P 559 905 "led_into" "led_into" (tp 61) 292 2 .none m8))))))))))))))))))))))))))))))))))))))))
def L3 P:=pt (L2 P) [(3,di 78 (en P "__name__" 165 yP::gl P)),(12,fi [1,0,20,5,0,27,9,0,47,16,0,73,23,0,99,30,0,125,34,0,144,38,0,163,42,0,182,50,0,208,52,0,213,56,0,220,67,0,227,72,0,234,77,0,239,79,0,244,81,0,249,83,0,254,92,0,261,113,0,309,115,0,316,123,0,323,126,0,330,132,0,337,141,0,342,143,0,349,145,0,354,150,0,361,154,0,366,161,0,371,163,0,378,166,0,385,168,0,392,171,0,399,174,0,406,183,0,413,188,0,420,193,0,427,246,0,492,249,0,497,252,0,504,257,0,509,262,0,516,273,0,540,277,0,547,281,0,552,284,0,557,292,0,562,297,0,569,300,0,576,303,0,583,307,0,590,311,0,597,317,0,604,321,0,609,326,0,616,335,0,623,339,0,630,348,0,635,353,0,642,355,0,647,364,0,654,376,0,659])] (fT P 564 913 "together" (tp 63) 297 2 ["one", "other"] m9++(fT P 571 921 "both" (tp 64) 300 2 ["one", "other"] m9++(fT P 578 931 "_law_cell" (tp 66) 303 2 ["_law_script", "_law_k"] yP++(fT P 585 939 "_law_mix" (tp 67) 307 2 ["_law_cell_here", "_law_k", "_law_number"] yP++(fT P 592 948 "_law_digits" (tp 68) 311 2 ["_law_cell_here", "_law_sizes_here", "_law_row", "_law_size_here"] yP++(fT P 599 958 "_law_size" (tp 69) 317 1 ["_law_number"] yP++(fB P 606 965 "_law_sizes" "_law_sizes" (tp 70) 321 1 .none yP++(fT P 611 971 "_law_lever" (tp 71) 326 2 ["_law_cell_here", "_law_sizes_here", "_law_factor", "_law_row", "_law_k", "_law_size_here", "_law_number"] yP++(fT P 618 984 "_law_divisor" (tp 72) 335 2 ["_law_one", "_law_other"] yP++(fT P 625 992 "_law_teeth" (tp 73) 339 3 ["_law_cell_here", "_law_front", "_law_rear", "_law_teeth_here", "_law_dial", "_law_size_here", "_law_row", "_law_place", "_law_other", "_law_number"] yP++(fB P 632 1008 "_law_led" "_law_led" (tp 74) 348 3 .none yP++(fT P 637 1014 "_law_does" (tp 75) 353 2 ["_law_rungs", "_law_setting_here"] yP++(fB P 644 1022 "_law_setting" "_law_setting" (tp 76) 355 3 .none yP++(fT P 649 1028 "_law_image" (tp 77) 364 4 ["_law_gear", "_law_vault", "_law_ends", "_law_rear", "_law_found", "_law_here", "_law_there", "_law_lever_here", "_law_end", "_law_meet"] yP++(fB P 656 1044 "law" "law" (tp 78) 376 1 .none yP)))))))))))))))
def LF(P:Params):=L3 P
def bE:List Stmt:=behindTheImports pw
def env:Env:={ scope:=pw.main.scope,locals:=mainNs,globals:=mainNs,cells:=[],code:=.ref 13,frame:=some 14 }
def cE:Code:=.body bE env
abbrev B:List Frame:=[topFrame ⟨0,0,0,0⟩]
abbrev ann:Option Value:=(some (.ref 6))
def Ib:List Stmt:=(bE.drop 0).take 7
def IY:List Stmt:=(bE.drop 7).take 23
def GJ:List Stmt:=(bE.drop 30).take 33
def Hw:List Stmt:=(bE.drop 63).take 16
end
theorem z7:∀ w:World,(λos=>topGo treeTable pw w 11 ann 12 ⟨boot_heap w.params,⟨[]⟩,boot_drawn,boot_toks,os⟩ (topStub pw))=λos=>some (F LA 187 w os,⟨denote treeTable cE,cE,⟨0,0,0,0⟩,B⟩):=λw=>by
 rw[PySem.W.Fast.te15667345088766844465,PySem.W.Fast.te14364793385576792824,PySem.W.Fast.te11892475500146522536]
 kernel_rfl
theorem L_:∀ w:World,(λos=>segRun treeTable pw w 11 ann 1 1 (F LA 187 w os) (blockOf bE env cE ⟨0,0,0,0⟩ B))=λos=>some (Flow.next,(S LA 15 187 w os).abs,cE,⟨0,0,0,0⟩):=λw=>by
 rw[PySem.W.Fast.te14374325043358763698,PySem.W.Fast.te14364793385576792824]
 kernel_rfl
theorem MZ:∀ w:World,(λos=>segRunT treeTable pw w 11 ann 1 1326 (S LA 15 187 w os) (piecesOf Ib env cE ⟨0,0,0,0⟩ B))=λos=>some (Flow.next,S L0 139 340 w os,cE,⟨30,0,33,16⟩):=λw=>by
 rw[PySem.W.Fast.te10110043849684766642,PySem.W.Fast.te14364793385576792824]
 kernel_rfl
theorem M5:∀ w:World,(λos=>segRunT treeTable pw w 11 ann 1 1498 (S L0 139 340 w os) (piecesOf IY env cE ⟨30,0,33,16⟩ B))=λos=>some (Flow.next,S L1 318 577 w os,cE,⟨115,0,122,30⟩):=λw=>by
 rw[PySem.W.Fast.te10110043849684766642,PySem.W.Fast.te14364793385576792824]
 kernel_rfl
theorem Jo:∀ w:World,(λos=>segRunT treeTable pw w 11 ann 1 1497 (S L1 318 577 w os) (piecesOf GJ env cE ⟨115,0,122,30⟩ B))=λos=>some (Flow.next,S L2 564 913 w os,cE,⟨296,0,296,8⟩):=λw=>by
 rw[PySem.W.Fast.te10110043849684766642,PySem.W.Fast.te14364793385576792824]
 kernel_rfl
theorem Na:∀ w:World,(λos=>segRunT treeTable pw w 11 ann 1 467 (S L2 564 913 w os) (piecesOf Hw env cE ⟨296,0,296,8⟩ B))=λos=>some (Flow.next,S L3 661 1050 w os,cE,⟨376,0,396,15⟩):=λw=>by
 rw[PySem.W.Fast.te10110043849684766642,PySem.W.Fast.te14364793385576792824]
 kernel_rfl
theorem Iw:∀ w:World,(λos=>topRun treeTable pw w 11 ann 2 (S L3 661 1050 w os).abs ⟨doneF .next,cE,⟨376,0,396,15⟩,B⟩)=λos=>some (F LF 1050 w os):=λw=>by
 rw[PySem.W.Fast.te14082659384304107361,PySem.W.Fast.te14364793385576792824]
 kernel_rfl
theorem M6:bE=(Ib++(IY++(GJ++(Hw++[])))):=by kernel_rfl
theorem BV(w:World)(os:OsState):topRun treeTable pw w 11 ann (1326+(1498+(1497+(467+2)))) (S LA 15 187 w os).abs (restOf bE env cE ⟨0,0,0,0⟩ B)=some (F LF 1050 w os):=by
 rw[show restOf bE env cE ⟨0,0,0,0⟩ B=restOf (Ib++(IY++(GJ++(Hw++[])))) env cE ⟨0,0,0,0⟩ B from congrArg (λb=>restOf b env cE ⟨0,0,0,0⟩ B) M6]
 exact piece_app (segRun_of (congrFun (MZ w) os)) (piece_app (segRun_of (congrFun (M5 w) os)) (piece_app (segRun_of (congrFun (Jo w) os)) (piece_app (segRun_of (congrFun (Na w) os)) (piece_nil (congrFun (Iw w) os)))))
theorem LZ(w:World)(os:OsState):topRun treeTable pw w 11 ann (12+(1+(1326+(1498+(1497+(467+2)))))) ⟨boot_heap w.params,⟨[]⟩,boot_drawn,boot_toks,os⟩ (topStub pw)=some (F LF 1050 w os) :=
 go_top (congrFun (z7 w) os) (piece_block (congrFun (L_ w) os) (BV w os))
end HD
namespace HD
open PySem PySem.W L2
noncomputable section
def vw:Program:=PySem.W.view pw [0,2,3,4,5,6,7,8,9,11,12,13,14,15,16,17,18,19,21,22,23,24,25,26,27,28,29,30,31,32,33,34,35,36,38,40,41,42,43,44,45,46,47,48,50,52,53,54,56,57,58,59,60,61,63,64,66,67,68,69,70,71,72,73,74,75,76,77,78]
def loose:List Str:=[]
noncomputable def as:List Addr:=[2,3,15,17,18,20,21,22,29,31,32,34,35,36,37,38,39,42,49,51,52,54,55,56,58,59,61,62,63,64,65,68,75,77,78,80,81,82,84,85,87,88,89,90,91,94,101,103,104,106,107,108,110,111,113,114,115,116,117,120,127,129,130,132,133,134,135,136,139,146,148,149,151,152,153,154,155,158,165,167,168,170,171,172,173,174,177,184,186,187,189,190,191,193,194,196,197,198,199,200,203,205,206,208,209,210,213,214,215,217,218,220,221,222,224,225,227,228,229,231,232,234,235,236,239,240,241,244,245,246,249,250,251,254,255,263,264,267,268,269,271,272,274,275,276,278,279,281,282,283,285,286,288,289,290,292,293,295,296,297,298,299,300,301,304,306,307,309,310,311,313,314,316,317,318,320,321,323,324,325,327,328,330,331,332,334,335,337,338,339,342,343,344,346,347,349,350,351,354,355,356,358,359,361,362,363,366,367,368,371,372,373,375,376,378,379,380,382,383,385,386,387,389,390,392,393,394,396,397,399,400,401,403,404,406,407,408,410,411,413,414,415,417,418,420,421,429,432,433,434,437,438,439,442,443,444,447,448,449,451,452,454,455,456,458,459,461,462,463,465,466,468,469,470,473,474,475,478,479,480,481,482,483,484,487,489,490,492,493,494,497,498,499,501,502,504,505,506,509,510,518,521,522,523,525,526,528,529,530,531,532,533,534,537,540,541,542,544,545,547,548,549,552,553,554,557,558,559,562,563,564,566,567,569,570,571,573,574,576,577,578,580,581,583,584,585,587,588,590,591,592,594,595,597,598,599,601,602,604,605,606,609,610,611,613,614,616,617,618,620,621,623,624,625,627,628,630,631,632,635,636,637,639,640,642,643,644,647,648,649,651,652,654,655,656,659,660]
def K(P:Params):Frag:=as.map λa=>(a,(LF P).getD a (su 0))
def hook:Hook:=kHook K as (λ_=>by kernel_rfl)
abbrev rr:RowW:=(PySem.Challenge.rw_dialvault_k56_whole_great_gears.row).toRowW
def Xt:Shared->Bool:=λs=>xlAt vw [] s&&recOk (RowW.records rr) s
def H1(P:Params):Heap:=⟨⟨LF P⟩,{}⟩
end
theorem J0:∀ w:World,((boot_heap w.params).isNs mainGlobals&&(Array.mk []:Array GenState).size==0,(boot_heap w.params).objs.size,(boot_heap w.params).nsMap mainGlobals "__annotations__")=(true,11,ann):=λw=>by
 rw[PySem.W.Fast.te8920871248978507458]
 kernel_rfl
theorem MR(w:World):staticsOk (importedModules pw.main.body) (boot_heap w.params) (H1 w.params)=true:=by
 first | (rw[PySem.W.Fast.te4187177175401517315,PySem.W.Fast.te5923862056798008813];kernel_rfl) | (rw[PySem.W.Fast.te4187177175401517315];kernel_rfl) | (rw[PySem.W.Fast.te5923862056798008813];kernel_rfl) | (kernel_rfl)
theorem M9(w:World):namesBound pw (H1 w.params)=true:=by
 first | (rw[PySem.W.Fast.te4187177175401517315,PySem.W.Fast.te5923862056798008813];kernel_rfl) | (rw[PySem.W.Fast.te4187177175401517315];kernel_rfl) | (rw[PySem.W.Fast.te5923862056798008813];kernel_rfl) | (kernel_rfl)
theorem MS(w:World)(os:_):gensDone ⟨H1 w.params,⟨[]⟩,⟨0,0,0,0⟩,1050,os⟩=true:=by
 first | (rw[PySem.W.Fast.te4187177175401517315,PySem.W.Fast.te5923862056798008813];kernel_rfl) | (rw[PySem.W.Fast.te4187177175401517315];kernel_rfl) | (rw[PySem.W.Fast.te5923862056798008813];kernel_rfl) | (kernel_rfl)
theorem Nd(w:World):laidKept (boot_heap w.params) (H1 w.params)=true:=by
 first | (rw[PySem.W.Fast.te4187177175401517315,PySem.W.Fast.te5923862056798008813];kernel_rfl) | (rw[PySem.W.Fast.te4187177175401517315];kernel_rfl) | (rw[PySem.W.Fast.te5923862056798008813];kernel_rfl) | (kernel_rfl)
theorem MW(w:World)(os:_):openSeen vw loose (importedModules pw.main.body) Xt true ⟨H1 w.params,⟨[]⟩,⟨0,0,0,0⟩,1050,os⟩=openGood vw loose:=by
 first | (rw[PySem.W.Fast.te4187177175401517315,PySem.W.Fast.te5923862056798008813];kernel_rfl) | (rw[PySem.W.Fast.te4187177175401517315];kernel_rfl) | (rw[PySem.W.Fast.te5923862056798008813];kernel_rfl) | (kernel_rfl)
theorem MY(w:World)(os:_):Hook.obs hook ⟨H1 w.params,⟨[]⟩,⟨0,0,0,0⟩,1050,os⟩=Hook.val hook w:=by
 first | (rw[PySem.W.Fast.te4187177175401517315,PySem.W.Fast.te5923862056798008813];kernel_rfl) | (rw[PySem.W.Fast.te4187177175401517315];kernel_rfl) | (rw[PySem.W.Fast.te5923862056798008813];kernel_rfl) | (kernel_rfl)
theorem GH:∀ w:World,(λos=>((staticsOk (importedModules pw.main.body) (boot_heap w.params) (H1 w.params)&&namesBound pw (H1 w.params)&&gensDone ⟨H1 w.params,⟨[]⟩,⟨0,0,0,0⟩,1050,os⟩&&laidKept (boot_heap w.params) (H1 w.params)),
  openSeen vw loose (importedModules pw.main.body) Xt true ⟨H1 w.params,⟨[]⟩,⟨0,0,0,0⟩,1050,os⟩,Hook.obs hook ⟨H1 w.params,⟨[]⟩,⟨0,0,0,0⟩,1050,os⟩))=λ_=>(true,openGood vw loose,Hook.val hook w):=λw=>funext λos=>by
 rw[MR,M9,MS,Nd,MW,MY];rfl
theorem KP:LeftO pw vw loose Xt (Hook.obs hook) (Hook.val hook) 9694 :=
 LeftO.of_pieces (H₀:=boot_heap) (H₁:=H1) (gs₀:=⟨[]⟩) (gs₁:=⟨[]⟩) (d₀:=boot_drawn) (d₁:=⟨0,0,0,0⟩) (k₀:=boot_toks) (k₁:=1050) (m₀:=11) (ann:=ann) (M:=(12+(1+(1326+(1498+(1497+(467+2)))))))
  (boot_open (by kernel_rfl) (by kernel_rfl) (λs=>by kernel_rfl)) J0 LZ (by kernel_rfl) GH
end HD
open PySem PySem.W
theorem HD.said:PySem.Challenge.rw_dialvault_k56_whole_great_gears.wellSaid=true:=by
 decide +kernel
namespace wC
open PySem L2 PyProof.Rows
def bB:Addr:=532
def gb:Addr:=65
def kf:Addr:=200
def ju:Addr:=91
def hX:Addr:=117
def kL:Addr:=136
def ay:Addr:=482
def kN:Addr:=155
def pH:Addr:=174
def ao:Addr:=299
abbrev cI(i:Int):af->M PV:=λ_=>M.ok (.int i)
def jZ:af->M Out :=
 (aq (retS (EE (FL (λa=>qI a "int") xE xE (ae 0)) (G9 (FL (λa=>qI a "bool") xE xE (ae 0)))))
 au)
def fm:List PV->M PV:=bu 1 (aw 1 jZ)
def jm:af->M Out :=
 (aq (lZ (GG (la (ff (FL (λa=>["list", "tuple"].any λt=>qI a t) xE xE (ae 0)))) (ff (ak uJ (ai eI (aa (ae 0) aj)) (ae 1)))) (aq (retS (λ_=>M.ok (.bl false)))
 au) au)
 (aq (retS (ai tK (aa (ck (bR (itemsOf (ae 0)) (bQ 0) none (ai fm (aa (ae 0) aj)) 1 [])) aj)))
 au))
def eS:List PV->M PV:=bu 2 (aw 2 jm)
def ky:af->M Out :=
 (aq (br 2 (lT (aa (ae 0) (aa (cI 1) (aa (cI 0) aj)))))
 (aq (br 3 (lT (aa (ae 1) (aa (cI 0) (aa (cI 1) aj)))))
 (aq (lM (ff (ak uJ (ak aP (ae 3) (cI 0)) (cI 0))) (aq (br 4 (ak bF (ak aP (ae 2) (cI 0)) (ak aP (ae 3) (cI 0))))
 (aq (br 5 (lT (aa (ak n_ (ak aP (ae 2) (cI 0)) (ak b_ (ae 4) (ak aP (ae 3) (cI 0)))) (aa (ak n_ (ak aP (ae 2) (cI 1)) (ak b_ (ae 4) (ak aP (ae 3) (cI 1)))) (aa (ak n_ (ak aP (ae 2) (cI 2)) (ak b_ (ae 4) (ak aP (ae 3) (cI 2)))) aj)))))
 (aq (br 2 (ae 3))
 (aq (br 3 (ae 5))
 au)))))
 (aq (lZ (ff (ak DZ (ak aP (ae 2) (cI 0)) (cI 0))) (aq (retS (lT (aa (lr (ak aP (ae 2) (cI 0))) (aa (lr (ak aP (ae 2) (cI 1))) (aa (lr (ak aP (ae 2) (cI 2))) aj)))))
 au) au)
 (aq (retS (ae 2))
 au)))))
def gj:List PV->M PV:=bu 2 (aw 6 ky)
def fO:af->M Out :=
 (aq (br 1 (cI 1))
 (aq (g8 (itemsOf (ae 0)) (bQ 2) (aq (br 1 (ak b_ (ak bF (ae 1) (ak aP (ai gj (aa (ae 1) (aa (ae 2) aj))) (cI 0))) (ae 2)))
 au))
 (aq (retS (ae 1))
 au)))
def fN:List PV->M PV:=bu 1 (aw 3 fO)
def gJ:af->M Out :=
 (aq (br 1 (cI 1))
 (aq (g8 (itemsOf (ae 0)) (bQ 2) (aq (br 1 (ak b_ (ae 1) (ae 2)))
 au))
 (aq (retS (ae 1))
 au)))
def gY:List PV->M PV:=bu 1 (aw 3 gJ)
def jJ:af->M Out :=
 (aq (retS (ai cJ (aa (ck (bR (jh pN (aa (ae 0) aj)) (bQ 0) none (Ad (ff (ak uc (ae 0) (ae 1))) (cI 1) (cI 0)) 1 [1])) aj)))
 au)
def jT:List PV->M PV:=bu 2 (aw 2 jJ)
def l8:af->M Out :=
 (aq (retS (ck (bR (itemsOf (ae 0)) (bQ 0) none (ak aP (ae 0) (ae 1)) 1 [1])))
 au)
def kj:List PV->M PV:=bu 2 (aw 2 l8)
def d_:af->M Out :=
 (aq (retS (ak cA (ai wz (aa (ck (bR (jh zip2 (aa (ae 0) (aa (ae 1) aj))) (bA 0 1) none (ak b_ (ae 0) (ae 1)) 2 [])) aj)) (ae 2)))
 au)
def de:List PV->M PV:=bu 3 (aw 3 d_)
def iJ:af->M Out :=
 (aq (retS (ai cJ (aa (ck (bR (jh wt (aa (ae 2) aj)) (bA 0 1) none (ai de (aa (ae 2) (aa (ai kj (aa (ae 3) (aa (ae 0) aj))) (aa (ae 1) aj)))) 2 [0,1])) aj)))
 au)
def iZ:List PV->M PV:=bu 3 (aw 3 iJ)
def eC:af->M Out :=
 (aq (retS (EE (ai fm (aa (ae 0) aj)) (lW E7 E7 (ae 1) (ae 0) (ae 2))))
 au)
def dG:List PV->M PV:=bu 3 (aw 3 eC)
def gQ:af->M Out :=
 (aq (lZ (ff (ak EG (ai eI (aa (ae 0) aj)) (cI 6))) (aq (lU kN (aa (λ_=>M.ok (.str "a vault has at most six dials")) aj))
 au) au)
 (aq (lZ (ff (ak uc (ai eI (aa (ae 0) aj)) (cI 0))) (aq (ja gb "dial" (aa (cI 0) aj))
 au) au)
 (aq (g8 (jh wt (aa (ae 0) aj)) (bA 1 2) (aq (lZ (la (ff (ai dG (aa (ae 2) (aa (cI 2) (aa (cI 360) aj)))))) (aq (ja gb "dial" (aa (ae 1) aj))
 au) au)
 au))
 au)))
def gP:List PV->M PV:=bu 1 (aw 3 gQ)
def cp:af->M Out :=
 (aq (lZ (ff (ak uJ (ae 0) (ae 1))) (aq (lU pH (aa (λ_=>M.ok (.str "these dials have unlike sizes")) aj))
 au) au)
 au)
def cu:List PV->M PV:=bu 2 (aw 2 cp)
def f9:af->M Out :=
 (aq (lZ (ff (ak EG (ai eI (aa (ae 0) aj)) (cI 8))) (aq (lU kN (aa (λ_=>M.ok (.str "a vault has at most eight levers")) aj))
 au) au)
 (aq (g8 (jh wt (aa (ae 0) aj)) (bA 2 3) (aq (lZ (la (ff (ai eS (aa (ae 3) (aa (ae 1) aj))))) (aq (ja ju "lever" (aa (ae 2) aj))
 au) au)
 au))
 au))
def f7:List PV->M PV:=bu 2 (aw 4 f9)
def gG:af->M Out :=
 (aq (lZ (ff (ak Dp (ae 1) (λ_=>M.ok .cy))) (aq (retS (ak b_ (lT (aa (cI 1) aj)) (ai eI (aa (ae 0) aj))))
 au) au)
 (aq (g8 (jh pN (aa (ai (yi λi j=>if j>i then j else i) (aa (ai eI (aa (ae 0) aj)) (aa (ai eI (aa (ae 1) aj)) aj))) aj)) (bQ 2) (aq (lZ (GG (ff (ak Ge (ae 2) (ai eI (aa (ae 0) aj)))) (ff (ak Ge (ae 2) (ai eI (aa (ae 1) aj))))) (aq (ja hX "lever" (aa (ae 2) aj))
 au) au)
 (aq (lZ (la (ff (ai dG (aa (ak aP (ae 1) (ae 2)) (aa (cI 1) (aa (cI 1000) aj)))))) (aq (ja hX "lever" (aa (ae 2) aj))
 au) au)
 au)))
 (aq (retS (ai cJ (aa (ae 1) aj)))
 au)))
def gR:List PV->M PV:=bu 2 (aw 3 gG)
def mM:af->M Out :=
 (aq (retS (ai cJ (aa (ck (bR (jh zip2 (aa (ae 0) (aa (ae 1) aj))) (bA 0 1) none (ak cA (ae 0) (ae 1)) 2 [])) aj)))
 au)
def k6:List PV->M PV:=bu 2 (aw 2 mM)
def mj:af->M Out :=
 (aq (retS (ai cJ (aa (ck (bR (jh zip2 (aa (ae 0) (aa (ae 2) aj))) (bA 0 1) none (ak dM (ak b_ (ae 2) (ae 0)) (ak b_ (ae 3) (ae 1))) 2 [1,3])) aj)))
 au)
def kT:List PV->M PV:=bu 4 (aw 4 mj)
def fb:af->M Out :=
 (aq (br 5 (ai kT (aa (ak aP (ae 1) (cI 0)) (aa (ae 2) (aa (ak aP (ae 3) (cI 0)) (aa (ae 4) aj))))))
 (aq (retS (lT (aa (ai k6 (aa (ae 5) (aa (ae 0) aj))) (aa (ai kT (aa (ak aP (ae 1) (cI 1)) (aa (ae 2) (aa (ak aP (ae 3) (cI 1)) (aa (ae 4) aj))))) aj))))
 au))
def dO:List PV->M PV:=bu 5 (aw 6 fb)
def eH:af->M Out :=
 (aq (br 3 (ak aP (ak aP (ak aP (ae 1) (ae 2)) (cI 0)) (ae 2)))
 (aq (retS (Ad (ff (ak uc (ae 3) (cI 0))) (ak aP (ae 0) (ae 2)) (ae 3)))
 au))
def dC:List PV->M PV:=bu 3 (aw 4 eH)
def jG:af->M Out :=
 (aq (oH 3 (j7 aj))
 (aq (g8 (jh wt (aa (ae 1) aj)) (bA 4 5) (aq (br 6 (ai dC (aa (ae 0) (aa (ae 1) (aa (ae 4) aj)))))
 (aq (br 7 (ak aP (ak aP (ae 2) (cI 0)) (ae 4)))
 (aq (br 8 (ai gj (aa (ae 6) (aa (ae 7) aj))))
 (aq (lX 3 (ai dO (aa (ae 0) (aa (ae 5) (aa (ak aP (ae 8) (cI 1)) (aa (ae 2) (aa (ak aP (ae 8) (cI 2)) aj)))))))
 (aq (br 2 (ai dO (aa (ae 0) (aa (ae 2) (aa (ak bF (ae 6) (ak aP (ae 8) (cI 0))) (aa (ae 5) (aa (lr (ak bF (ae 7) (ak aP (ae 8) (cI 0)))) aj)))))))
 au))))))
 (aq (oq [3] (retS (lT (aa (ae 3) (aa (ak aP (ae 2) (cI 1)) aj)))))
 au)))
def j3:List PV->M PV:=bu 3 (aw 9 jG)
def jt:af->M Out :=
 (aq (g8 (jh zo (aa (ae 3) (aa (ai eI (aa (ae 0) aj)) aj))) (bQ 4) (aq (br 5 (ak bF (ak aP (ak aP (ae 2) (cI 0)) (ae 4)) (ai dC (aa (ae 0) (aa (ae 1) (aa (ae 4) aj))))))
 (aq (br 2 (ai dO (aa (ae 0) (aa (ae 2) (aa (cI 1) (aa (ak aP (ae 1) (ae 4)) (aa (lr (ae 5)) aj)))))))
 au)))
 (aq (retS (ae 2))
 au))
def fw:List PV->M PV:=bu 4 (aw 6 jt)
def iw:af->M Out :=
 (aq (g8 (jh Am (aa (ak n_ (ai eI (aa (ae 1) aj)) (cI 1)) (aa (lr (cI 1)) (aa (lr (cI 1)) aj)))) (bQ 2) (aq (br 3 (ak aP (ae 1) (ae 2)))
 (aq (br 0 (ai kT (aa (ae 0) (aa (cI 1) (aa (ae 3) (aa (lr (ak bF (ak aP (ae 0) (ae 2)) (ak aP (ae 3) (ae 2)))) aj))))))
 au)))
 (aq (retS (ae 0))
 au))
def iA:List PV->M PV:=bu 2 (aw 4 iw)
def eW:af->M Out :=
 (aq (lZ (la (ff (ai eS (aa (ae 0) (aa (ai eI (aa (ae 2) aj)) aj))))) (aq (retS (λ_=>M.ok (.bl false)))
 au) au)
 (aq (retS (ai tK (aa (ck (bR (jh zip2 (aa (ae 0) (aa (ae 2) aj))) (bA 0 1) none (ak uc (ak cA (ak b_ (ae 2) (ae 0)) (ae 1)) (cI 0)) 2 [1])) aj)))
 au))
def e9:List PV->M PV:=bu 3 (aw 3 eW)
def gU:af->M Out :=
 (aq (g8 (jh pN (aa (ai (yi λi j=>if j>i then j else i) (aa (ai eI (aa (ae 0) aj)) (aa (ai eI (aa (ae 2) aj)) aj))) aj)) (bQ 3) (aq (lZ (GG (ff (ak Ge (ae 3) (ai eI (aa (ae 0) aj)))) (GG (ff (ak Ge (ae 3) (ai eI (aa (ae 2) aj)))) (la (ff (ai e9 (aa (ak aP (ae 2) (ae 3)) (aa (ak aP (ae 0) (ae 3)) (aa (ae 1) aj)))))))) (aq (ja kf "dial" (aa (ae 3) aj))
 au) au)
 au))
 au)
def gM:List PV->M PV:=bu 3 (aw 4 gU)
def iG:af->M Out :=
 (aq (lZ (ff (ak DZ (ae 1) (ai eI (aa (ae 0) aj)))) (aq (retS (ak aP (ae 0) (ae 1)))
 au) au)
 (aq (retS (ak cA (ak b_ (ak dM (ae 1) (cI 2)) (cI 104729)) (cI 65537)))
 au))
def eE:List PV->M PV:=bu 2 (aw 2 iG)
def ee:af->M Out :=
 (aq (br 2 (ak cA (ak dM (ak dM (ak b_ (ak cA (ae 0) (cI 2147483647)) (cI 48271)) (ak b_ (cI 7919) (ae 1))) (cI 13)) (cI 2147483629)))
 (aq (br 2 (ak cA (ak dM (ak dM (ak b_ (ae 2) (ae 2)) (ak b_ (cI 104729) (ae 1))) (cI 7)) (cI 2147483587)))
 (aq (retS (ak cA (ak b_ (ae 2) (ae 2)) (cI 2147483579)))
 au)))
def bU:List PV->M PV:=bu 2 (aw 3 ee)
def du:af->M Out :=
 (aq (oH 2 (j7 aj))
 (aq (g8 (itemsOf (ae 1)) (bQ 3) (aq (lX 2 (ak cA (ae 0) (ae 3)))
 (aq (br 0 (ak bF (ae 0) (ae 3)))
 au)))
 (aq (oq [2] (retS (ai cJ (aa (ae 2) aj))))
 au)))
def cT:List PV->M PV:=bu 2 (aw 4 du)
def iU:af->M Out :=
 (aq (lZ (ff (ak uc (ak cA (ae 0) (cI 3)) (cI 0))) (aq (retS (ak dM (cI 2) (ak cA (ak bF (ae 0) (cI 3)) (cI 359))))
 au) au)
 (aq (retS (ak b_ (ak aP (λ_=>M.ok (.lst (([2,3,4,6,8,9,12]:List Int).map PV.int))) (ak cA (ak bF (ae 0) (cI 3)) (cI 7))) (ak aP (λ_=>M.ok (.lst (([1,2,5,10,30]:List Int).map PV.int))) (ak cA (ak bF (ae 0) (cI 21)) (cI 5)))))
 au))
def eB:List PV->M PV:=bu 1 (aw 1 iU)
def gI:af->M Out :=
 (aq (lZ (ff (ak uc (ak cA (ae 0) (cI 2)) (cI 0))) (aq (retS (ck (bR (itemsOf (ai cT (aa (ak bF (ae 0) (cI 12)) (aa (ak b_ (ly (aa (cI 359) aj)) (ak dM (cI 1) (ak cA (ak bF (ae 0) (cI 2)) (cI 6)))) aj)))) (bQ 0) none (ak dM (cI 2) (ae 0)) 1 [])))
 au) au)
 (aq (br 1 (ak aP (λ_=>M.ok (.lst (([1,2,3,4,2,3,5,6]:List Int).map PV.int))) (ak cA (ak bF (ae 0) (cI 2)) (cI 8))))
 (aq (retS (ck (bR (jh pN (aa (ae 1) aj)) (bQ 0) none (ai eB (aa (ai bU (aa (ak bF (ae 1) (cI 16)) (aa (ae 0) aj))) aj)) 1 [0])))
 au)))
def fe:List PV->M PV:=bu 1 (aw 2 gI)
def gW:af->M Out :=
 (aq (lZ (ff (ak uc (ak cA (ae 0) (cI 2)) (cI 0))) (aq (retS (ai cT (aa (ak bF (ae 0) (cI 2)) (aa (ae 1) aj))))
 au) au)
 (aq (br 2 (ak aP (λ_=>M.ok (.lst (([1,2,3,6,12,30]:List Int).map PV.int))) (ak cA (ak bF (ae 0) (cI 2)) (cI 6))))
 (aq (oH 3 (j7 aj))
 (aq (g8 (jh wt (aa (ae 1) aj)) (bA 4 5) (aq (br 6 (ai bU (aa (ak bF (ae 0) (cI 12)) (aa (ae 4) aj))))
 (aq (lX 3 (ak b_ (ak cA (ak b_ (ak bF (ae 6) (cI 4)) (ae 2)) (ae 5)) (ai rO (aa (ak EG (ak cA (ae 6) (cI 4)) (cI 0)) aj))))
 au)))
 (aq (oq [3] (retS (ai cJ (aa (ae 3) aj))))
 au)))))
def dP:List PV->M PV:=bu 2 (aw 7 gW)
def eT:af->M Out :=
 (aq (lM (ff (ak EG (ae 1) (cI 0))) (aq (IF 0 1 (aa (ae 1) (aa (ak cA (ae 0) (ae 1)) aj)))
 au))
 (aq (retS (ae 0))
 au))
def eX:List PV->M PV:=bu 2 (aw 2 eT)
def gK:af->M Out :=
 (aq (oH 3 (j7 aj))
 (aq (g8 (jh wt (aa (ae 1) aj)) (bA 4 5) (aq (oH 6 (j7 aj))
 (aq (g8 (jh wt (aa (ae 2) aj)) (bA 7 8) (aq (br 9 (ai bU (aa (ae 0) (aa (ak dM (ak b_ (cI 10) (ae 4)) (ae 7)) aj))))
 (aq (lX 6 (ak b_ (ak b_ (ak bF (ae 8) (ai eX (aa (ae 5) (aa (ae 8) aj)))) (ak cA (ak bF (ae 9) (cI 4)) (cI 360))) (ai rO (aa (ak EG (ak cA (ae 9) (cI 4)) (cI 0)) aj))))
 au)))
 (aq (oq [6] (lX 3 (ae 6)))
 au))))
 (aq (oq [3] (retS (ae 3)))
 au)))
def e8:List PV->M PV:=bu 3 (aw 10 gK)
def jL:af->M Out :=
 (aq (oH 3 (j7 aj))
 (aq (g8 (jh wt (aa (ae 1) aj)) (bA 4 5) (aq (lX 3 (ak cA (ai wz (aa (ck (bR (jh zip2 (aa (ae 2) (aa (ae 0) aj))) (bA 0 1) none (ak b_ (ae 0) (ak aP (ae 1) (ae 2))) 2 [4])) aj)) (ae 5)))
 au))
 (aq (oq [3] (retS (ai cJ (aa (ae 3) aj))))
 au)))
def fy:List PV->M PV:=bu 3 (aw 6 jL)
def eZ:af->M Out :=
 (aq (br 3 (ai sk (aa (ai cT (aa (ak bF (ae 0) (cI 4)) (aa (ae 2) aj))) aj)))
 (aq (lZ (ff (ak uc (ak cA (ak bF (ae 0) (cI 2)) (cI 2)) (cI 0))) (aq (br 3 (ck (bR (jh wt (aa (ae 2) aj)) (bA 0 1) none (ak cA (ai bU (aa (ae 2) (aa (ak dM (cI 50) (ae 0)) aj))) (ae 1)) 2 [0])))
 au) au)
 (aq (lZ (ff (ak uc (ak cA (ae 0) (cI 2)) (cI 0))) (aq (g8 (jh wt (aa (ae 1) aj)) (bA 4 5) (aq (br 6 (ak cA (ai bU (aa (ae 0) (aa (ak dM (cI 60) (ae 4)) aj))) (cI 1000)))
 (aq (br 3 (ck (bR (jh wZ (aa (ae 3) (aa (ae 5) (aa (ae 2) aj)))) (p7 0 1 2) none (ak cA (ak dM (ae 0) (ak b_ (ae 3) (ae 1))) (ae 2)) 3 [6])))
 au)))
 au) au)
 (aq (retS (ai cJ (aa (ae 3) aj)))
 au))))
def eU:List PV->M PV:=bu 3 (aw 7 eZ)
def jX:af->M Out :=
 (aq (jC (ai gP (aa (ae 1) aj)))
 (aq (jC (ai f7 (aa (ae 2) (aa (ai eI (aa (ae 1) aj)) aj))))
 (aq (i7 0 ao "dial_sizes" (ai cJ (aa (ae 1) aj)))
 (aq (i7 0 ao "lever_settings" (ai cJ (aa (ck (bR (itemsOf (ae 2)) (bQ 0) none (ai k6 (aa (ae 0) (aa (ae 1) aj))) 1 [1])) aj)))
 (aq (i7 0 ao "lever_prices" (ai gR (aa (ae 2) (aa (ae 3) aj))))
 (aq (i7 0 ao "least_round" (ai fN (aa (ae 1) aj)))
 au))))))
def bp:Addr->List PV->M (List (Str×PV)):=pk 4 (vH 4 jX ao)
def aX:af->M Out :=
 (aq (retS (c_ (λc=>c==ao) "dial_sizes" (ae 0)))
 au)
def aC:List PV->M PV:=bu 1 (aw 1 aX)
def bq:af->M Out :=
 (aq (retS (c_ (λc=>c==ao) "lever_settings" (ae 0)))
 au)
def aZ:List PV->M PV:=bu 1 (aw 1 bq)
def dD:af->M Out :=
 (aq (retS (c_ (λc=>c==ao) "least_round" (ae 0)))
 au)
def c7:List PV->M PV:=bu 1 (aw 1 dD)
def fM:af->M Out :=
 (aq (br 1 (bh ao "sizes" aC (c_ (λc=>c==ay) "vault" (ae 0)) aj))
 (aq (retS (ai cJ (aa (ck (bR (jh pN (aa (ai eI (aa (ae 1) aj)) aj)) (bQ 0) none (ai dC (aa (ae 2) (aa (c_ (λc=>c==ay) "made_rows" (ae 1)) (aa (ae 0) aj)))) 1 [0,1])) aj)))
 au))
def fS:List PV->M PV:=bu 1 (aw 2 fM)
def gH:af->M Out :=
 (aq (retS (ck (bR (itemsOf (c_ (λc=>c==ay) "made_rows" (ae 0))) (bQ 0) none (ak aP (ae 0) (cI 0)) 1 [])))
 au)
def g9:List PV->M PV:=bu 1 (aw 1 gH)
def fK:af->M Out :=
 (aq (retS (ai cJ (aa (ck (bR (jh wt (aa (c_ (λc=>c==ay) "idle_rows" (ae 0)) aj)) (bA 0 1) none (ak aP (ae 1) (ae 0)) 2 [])) aj)))
 au)
def fL:List PV->M PV:=bu 1 (aw 1 fK)
def kJ:af->M Out :=
 (aq (i7 0 bB "front_dials" (ai (bY ao bp [.cy]) (aa (ae 1) (aa (ly aj) aj))))
 (aq (i7 0 bB "rear_dials" (ai (bY ao bp [.cy]) (aa (ae 2) (aa (ly aj) aj))))
 (aq (jC (ai gM (aa (ae 1) (aa (ae 2) (aa (ae 3) aj)))))
 (aq (i7 0 bB "tooth_rows" (ai cJ (aa (ck (bR (itemsOf (ae 3)) (bQ 0) none (ai cJ (aa (ae 0) aj)) 1 [])) aj)))
 au))))
def lR:Addr->List PV->M (List (Str×PV)):=pk 4 (vH 4 kJ bB)
def jl:af->M Out :=
 (aq (retS (ak b_ (lT (aa (cI 0) aj)) (ai eI (aa (bh ao "sizes" aC (ae 0) aj) aj))))
 au)
def hZ:List PV->M PV:=bu 1 (aw 1 jl)
def hU:af->M Out :=
 (aq (br 2 (bh ao "sizes" aC (ae 0) aj))
 (aq (lZ (GG (la (ff (FL (λa=>qI a "tuple") xE xE (ae 1)))) (la (ff (ai eS (aa (ae 1) (aa (ai eI (aa (ae 2) aj)) aj)))))) (aq (retS (λ_=>M.ok (.bl false)))
 au) au)
 (aq (retS (ai tK (aa (ck (bR (jh zip2 (aa (ae 1) (aa (ae 2) aj))) (bA 0 1) none (lW E7 DZ (cI 0) (ae 0) (ae 1)) 2 [])) aj)))
 au)))
def gN:List PV->M PV:=bu 2 (aw 3 hU)
def cZ:af->M Out :=
 (aq (lZ (la (ff (ai gN (aa (ae 0) (aa (ae 1) aj))))) (aq (lU kL (aa (λ_=>M.ok (.str "this is no setting of the vault")) aj))
 au) au)
 au)
def cF:List PV->M PV:=bu 2 (aw 2 cZ)
def oP:af->M Out :=
 (aq (jC (ai cF (aa (ae 0) (aa (ae 1) aj))))
 (aq (jC (ai cF (aa (ae 0) (aa (ae 2) aj))))
 (aq (br 3 (bh ao "around" c7 (ae 0) aj))
 (aq (br 4 (ck (bR (jh zip2 (aa (ae 1) (aa (bh ao "sizes" aC (ae 0) aj) aj))) (bA 0 1) none (ak b_ (ae 0) (ak bF (ae 2) (ae 1))) 2 [3])))
 (aq (retS (ai de (aa (ae 4) (aa (ae 2) (aa (ae 3) aj)))))
 au)))))
def oN:List PV->M PV:=bu 3 (aw 5 oP)
def h9:af->M Out :=
 (aq (retS (lT (aa (ae 1) (aa (ak b_ (lT (aa (cI 0) aj)) (ai eI (aa (bh ao "levers" aZ (ae 0) aj) aj))) aj))))
 au)
def fx:List PV->M PV:=bu 2 (aw 2 h9)
def fP:af->M Out :=
 (aq (br 2 (bh ao "levers" aZ (ae 0) aj))
 (aq (retS (lT (aa (ak aP (ae 2) (ae 1)) (aa (ai jT (aa (ai eI (aa (ae 2) aj)) (aa (ae 1) aj))) aj))))
 au))
def fZ:List PV->M PV:=bu 2 (aw 3 fP)
def dU:af->M Out :=
 (aq (br 2 (bh ao "sizes" aC (c_ (λc=>c==bB) "front_dials" (ae 0)) aj))
 (aq (br 3 (bh ao "sizes" aC (c_ (λc=>c==bB) "rear_dials" (ae 0)) aj))
 (aq (oH 4 (j7 aj))
 (aq (g8 (jh zip2 (aa (ae 2) (aa (c_ (λc=>c==bB) "tooth_rows" (ae 0)) aj))) (bA 5 6) (aq (br 7 (ck (bR (jh zip2 (aa (ae 6) (aa (ae 3) aj))) (bA 0 1) none (ak bF (ak b_ (ae 2) (ae 0)) (ae 1)) 2 [5])))
 (aq (lX 4 (ai de (aa (ae 1) (aa (ae 7) (aa (ae 5) aj)))))
 au)))
 (aq (oq [4] (retS (ai cJ (aa (ae 4) aj))))
 au)))))
def dr:List PV->M PV:=bu 2 (aw 8 dU)
def jP:af->M Out :=
 (aq (br 2 (bh ao "sizes" aC (ae 1) aj))
 (aq (br 3 (ck (bR (itemsOf (ae 2)) (bQ 0) none (ai fx (aa (ae 1) (aa (ai hZ (aa (ae 1) aj)) aj))) 1 [1])))
 (aq (oH 4 (j7 aj))
 (aq (g8 (jh pN (aa (ai eI (aa (bh ao "levers" aZ (ae 1) aj) aj)) aj)) (bQ 5) (aq (br 6 (ai j3 (aa (ae 2) (aa (ae 3) (aa (ai fZ (aa (ae 1) (aa (ae 5) aj))) aj)))))
 (aq (br 3 (ak aP (ae 6) (cI 0)))
 (aq (lX 4 (wo 4 (ai iA (aa (ak aP (ae 6) (cI 1)) (aa (ae 4) aj)))))
 au))))
 (aq (i7 0 ay "vault" (ae 1))
 (aq (i7 0 ay "made_rows" (ck (bR (jh wt (aa (ae 3) aj)) (bA 0 1) none (ai fw (aa (ae 2) (aa (ae 3) (aa (ae 1) (aa (ak dM (ae 0) (cI 1)) aj))))) 2 [2,3])))
 (aq (oq [4] (i7 0 ay "idle_rows" (ae 4)))
 au)))))))
def cK:Addr->List PV->M (List (Str×PV)):=pk 2 (vH 7 jP ay)
def cR:af->M Out :=
 (aq (jC (ai cF (aa (c_ (λc=>c==ay) "vault" (ae 0)) (aa (ae 1) aj))))
 (aq (retS (ai fw (aa (bh ao "sizes" aC (c_ (λc=>c==ay) "vault" (ae 0)) aj) (aa (c_ (λc=>c==ay) "made_rows" (ae 0)) (aa (ai fx (aa (c_ (λc=>c==ay) "vault" (ae 0)) (aa (ae 1) aj))) (aa (cI 0) aj))))))
 au))
def cj:List PV->M PV:=bu 2 (aw 2 cR)
def cY:af->M Out :=
 (aq (br 2 (bh ay "brought_down" cj (ae 0) (aa (ae 1) aj)))
 (aq (lZ (ff (ak uJ (ak aP (ae 2) (cI 0)) (ai hZ (aa (c_ (λc=>c==ay) "vault" (ae 0)) aj)))) (aq (retS (λ_=>M.ok .cy))
 au) au)
 (aq (retS (ai iA (aa (ai cJ (aa (ck (bR (itemsOf (ak aP (ae 2) (cI 1))) (bQ 0) none (lr (ae 0)) 1 [])) aj)) (aa (c_ (λc=>c==ay) "idle_rows" (ae 0)) aj))))
 au)))
def cB:List PV->M PV:=bu 2 (aw 3 cY)
def dj:af->M Out :=
 (aq (br 2 (bh ao "sizes" aC (c_ (λc=>c==ay) "vault" (ae 0)) aj))
 (aq (lZ (la (ff (ai dG (aa (ae 1) (aa (cI 0) (aa (ak n_ (ai eI (aa (ae 2) aj)) (cI 1)) aj)))))) (aq (ja gb "dial" (aa (ae 1) aj))
 au) au)
 (aq (br 3 (ck (bR (jh zip2 (aa (ae 2) (aa (bh ay "steps" fS (ae 0) aj) aj))) (bA 0 1) none (ak bF (ae 0) (ae 1)) 2 [])))
 (aq (oH 4 (HZ (ly (aa (cI 0) aj)) (ai eI (aa (ae 2) aj))))
 (aq (Kr 4 (ae 1) (ak cA (ak aP (ae 3) (ae 1)) (ak aP (ae 2) (ae 1))))
 (aq (g8 (jh Am (aa (ak n_ (ae 1) (cI 1)) (aa (lr (cI 1)) (aa (lr (cI 1)) aj)))) (bQ 5) (aq (br 6 (wo 4 (ai oN (aa (c_ (λc=>c==ay) "vault" (ae 0)) (aa (ai cJ (aa (ae 4) aj)) (aa (ak aP (ak aP (c_ (λc=>c==ay) "made_rows" (ae 0)) (ae 5)) (cI 0)) aj))))))
 (aq (br 7 (ak bF (bh ao "around" c7 (c_ (λc=>c==ay) "vault" (ae 0)) aj) (ak aP (ae 3) (ae 5))))
 (aq (Kr 4 (ae 5) (ak cA (lr (ak bF (ae 6) (ae 7))) (ak aP (ae 3) (ae 5))))
 au))))
 (aq (oq [4] (retS (ai cJ (aa (ae 4) aj))))
 au)))))))
def bJ:List PV->M PV:=bu 2 (aw 8 dj)
def jN:af->M Out :=
 (aq (jC (ai cF (aa (c_ (λc=>c==bB) "front_dials" (ae 0)) (aa (ae 1) aj))))
 (aq (retS (ai iZ (aa (ae 1) (aa (c_ (λc=>c==bB) "tooth_rows" (ae 0)) (aa (bh ao "sizes" aC (c_ (λc=>c==bB) "rear_dials" (ae 0)) aj) aj)))))
 au))
def eg:List PV->M PV:=bu 2 (aw 2 jN)
def dJ:af->M Out :=
 (aq (retS (ai gY (aa (bh ay "spans" fL (ai (bY ay cK []) (aa (ae 0) aj)) aj) aj)))
 au)
def cC:List PV->M PV:=bu 1 (aw 1 dJ)
def kQ:af->M Out :=
 (aq (br 1 (ai hZ (aa (ae 0) aj)))
 (aq (retS (ai (bY ao bp [.cy]) (aa (bh ao "sizes" aC (ae 0) aj) (aa (ck (bR (itemsOf (bh ay "rows" g9 (ai (bY ay cK []) (aa (ae 0) aj)) aj)) (bQ 0) (some (ff (ak uJ (ae 0) (ae 1)))) (ae 0) 1 [1])) aj))))
 au))
def jE:List PV->M PV:=bu 1 (aw 2 kQ)
def jU:af->M Out :=
 (aq (br 2 (ai (bY ao bp [.cy]) (aa (ae 0) (aa (ly aj) aj))))
 (aq (g8 (itemsOf (ae 1)) (bQ 3) (aq (br 2 (ai jE (aa (ai (bY ao bp [.cy]) (aa (ae 0) (aa (ak dM (ai sk (aa (bh ao "levers" aZ (ae 2) aj) aj)) (ly (aa (ae 3) aj))) aj))) aj)))
 au))
 (aq (retS (ae 2))
 au)))
def ia:List PV->M PV:=bu 2 (aw 4 jU)
def kK:af->M Out :=
 (aq (br 1 (ai (bY ay cK []) (aa (ae 0) aj)))
 (aq (br 2 (bh ao "sizes" aC (ae 0) aj))
 (aq (retS (ai jE (aa (ai (bY ao bp [.cy]) (aa (ae 2) (aa (ck (bR (jh pN (aa (ai eI (aa (ae 2) aj)) aj)) (bQ 0) none (bh ay "weights_at" bJ (ae 1) (aa (ae 0) aj)) 1 [1])) aj))) aj)))
 au)))
def e_:List PV->M PV:=bu 1 (aw 3 kK)
def oZ:af->M Out :=
 (aq (jC (ai cu (aa (bh ao "sizes" aC (ae 1) aj) (aa (bh ao "sizes" aC (c_ (λc=>c==bB) "front_dials" (ae 0)) aj) aj))))
 (aq (retS (ai jE (aa (ai (bY ao bp [.cy]) (aa (bh ao "sizes" aC (c_ (λc=>c==bB) "rear_dials" (ae 0)) aj) (aa (ck (bR (itemsOf (bh ao "levers" aZ (ae 1) aj)) (bQ 0) none (bh bB "led" eg (ae 1) (aa (ae 0) aj)) 1 [0])) aj))) aj)))
 au))
def oJ:List PV->M PV:=bu 2 (aw 2 oZ)
def ij:af->M Out :=
 (aq (jC (ai cu (aa (bh ao "sizes" aC (ae 1) aj) (aa (bh ao "sizes" aC (c_ (λc=>c==bB) "rear_dials" (ae 0)) aj) aj))))
 (aq (br 2 (ck (bR (itemsOf (bh ao "levers" aZ (ai e_ (aa (ae 1) aj)) aj)) (bQ 0) none (ai dr (aa (ae 1) (aa (ae 0) aj))) 1 [0])))
 (aq (retS (ai e_ (aa (ai (bY ao bp [.cy]) (aa (bh ao "sizes" aC (c_ (λc=>c==bB) "front_dials" (ae 0)) aj) (aa (ae 2) aj))) aj)))
 au)))
def fD:List PV->M PV:=bu 2 (aw 3 ij)
def jH:af->M Out :=
 (aq (jC (ai cu (aa (bh ao "sizes" aC (ae 0) aj) (aa (bh ao "sizes" aC (ae 1) aj) aj))))
 (aq (retS (ai ia (aa (bh ao "sizes" aC (ae 0) aj) (aa (ak dM (bh ao "levers" aZ (ae 0) aj) (bh ao "levers" aZ (ae 1) aj)) aj))))
 au))
def jO:List PV->M PV:=bu 2 (aw 2 jH)
def tN:af->M Out :=
 (aq (retS (ai e_ (aa (ai jO (aa (ai e_ (aa (ae 0) aj)) (aa (ai e_ (aa (ae 1) aj)) aj))) aj)))
 au)
def uz:List PV->M PV:=bu 2 (aw 2 tN)
def eD:af->M Out :=
 (aq (retS (ak k9 (bh ay "pulls_to" cB (ae 0) (aa (ae 1) aj)) (λ_=>M.ok .cy)))
 au)
def da:List PV->M PV:=bu 2 (aw 2 eD)
def gX:af->M Out :=
 (aq (br 4 (ai oJ (aa (ae 0) (aa (ae 1) aj))))
 (aq (br 5 (ai (bY ay cK []) (aa (ai (bY ao bp [.cy]) (aa (ae 3) (aa (ae 2) aj))) aj)))
 (aq (br 6 (ai (bY ay cK []) (aa (ae 4) aj)))
 (aq (g8 (itemsOf (bh ao "levers" aZ (ae 4) aj)) (bQ 7) (aq (lZ (la (ff (ai da (aa (ae 5) (aa (ae 7) aj))))) (aq (retS (λ_=>M.ok (.bl false)))
 au) au)
 au))
 (aq (g8 (itemsOf (ae 2)) (bQ 8) (aq (lZ (la (ff (ai da (aa (ae 6) (aa (ae 8) aj))))) (aq (retS (λ_=>M.ok (.bl false)))
 au) au)
 au))
 (aq (br 9 (ai uz (aa (ae 1) (aa (ai fD (aa (ae 0) (aa (ai (bY ao bp [.cy]) (aa (ae 3) (aa (ly aj) aj))) aj))) aj))))
 (aq (retS (ak uc (ai cC (aa (ae 1) aj)) (ak b_ (ai cC (aa (ae 4) aj)) (ai cC (aa (ae 9) aj)))))
 au)))))))
def gT:List PV->M PV:=bu 4 (aw 10 gX)
def BD:af->M Out :=
 (aq (br 1 (ai fe (aa (ai eE (aa (ae 0) (aa (cI 0) aj))) aj)))
 (aq (br 2 (ai fe (aa (ai eE (aa (ae 0) (aa (cI 1) aj))) aj)))
 (aq (br 3 (ai e8 (aa (ai eE (aa (ae 0) (aa (cI 2) aj))) (aa (ae 1) (aa (ae 2) aj)))))
 (aq (br 4 (ai (bY bB lR []) (aa (ae 1) (aa (ae 2) (aa (ae 3) aj)))))
 (Iv 5 7 6 (itemsOf (qA (ae 0) (lO (cI 2)) (lO (cI 18)))) (ak cA (ak bF (ae 6) (cI 9)) (cI 2)) (ai dP (aa (ak bF (ae 6) (cI 18)) (aa (ak aP (ly (aa (ae 1) (aa (ae 2) aj))) (ak cA (ak bF (ae 6) (cI 9)) (cI 2))) aj)))
 (aq (br 8 (ck (bR (itemsOf (ak aP (ae 5) (cI 0))) (bQ 0) none (ai fy (aa (ae 2) (aa (ae 1) (aa (ae 0) aj)))) 1 [2,3])))
 (aq (lZ (la (ff (ai gT (aa (ae 4) (aa (ai (bY ao bp [.cy]) (aa (ae 1) (aa (ak aP (ae 5) (cI 0)) aj))) (aa (ae 8) (aa (ae 2) aj))))))) (aq (retS (λ_=>M.ok (.bl false)))
 au) au)
 (aq (br 9 (ai (bY ay cK []) (aa (ai fD (aa (ae 4) (aa (ai (bY ao bp [.cy]) (aa (ae 2) (aa (ak aP (ae 5) (cI 1)) aj))) aj))) aj)))
 (aq (br 10 (ai (bY ay cK []) (aa (ai (bY ao bp [.cy]) (aa (ae 2) (aa (ak aP (ae 5) (cI 1)) aj))) aj)))
 (aq (br 11 (ai sk (aa (bh ao "levers" aZ (ai fD (aa (ae 4) (aa (ai (bY ao bp [.cy]) (aa (ae 2) (aa (ly aj) aj))) aj))) aj) aj)))
 (aq (g8 (itemsOf (ak dM (ly (aa (cI 0) aj)) (qA (ae 0) (lO (cI 2)) (lO (cI 63))))) (bQ 6) (aq (br 12 (ai eU (aa (ae 6) (aa (ae 11) (aa (ae 1) aj)))))
 (aq (lZ (ff (ak uJ (ai da (aa (ae 9) (aa (ae 12) aj))) (ai da (aa (ae 10) (aa (ai fy (aa (ae 3) (aa (ae 2) (aa (ae 12) aj)))) aj))))) (aq (retS (λ_=>M.ok (.bl false)))
 au) au)
 au)))
 (aq (retS (λ_=>M.ok (.bl true)))
 au))))))))))))
def rP:List PV->M PV:=bu 1 (aw 13 BD)
end wC
namespace wC
open PySem L2 PyProof.Rows
local macro_rules | `(tactic| walk_at "s")=>`(tactic| exact⟨rfl,rfl,rfl,by decide +kernel,rfl,by decide +kernel,by decide +kernel⟩)
local macro_rules | `(tactic| walk_at "l")=>`(tactic| first | exact .inl rfl | exact .inr rfl)
local macro_rules | `(tactic| walk_at "pp")=>`(tactic| all_goals repeat' (first | ((with_reducible show lY _ _ (tS _ (aq _ _)));refine A4 ?_ ?_) | ((with_reducible show lY _ _ (tS _ au));exact FC) | ((with_reducible show PE _ _ (tE _ (ae _)));exact vr _) | ((with_reducible show PA _ _ (tL _ (aa _ _)));refine yc ?_ ?_ (F2 rfl)) | ((with_reducible show PA _ _ (tL _ aj));exact Dg) | ((with_reducible show PE _ _ (tE _ (λ_=>M.ok (.int _))));first | exact A3 | exact mK (JX (by rfl) (by assumption)) λ_=>.int _) | ((with_reducible show PE _ _ (tE _ (λ_=>M.ok (.bl _))));exact Kk) | ((with_reducible show PE _ _ (tE _ (λ_=>M.ok .cy)));exact Je) | ((with_reducible show PE _ _ (tE _ (λ_=>M.ok (.str _))));exact Gp) | ((with_reducible show PE _ _ (tE _ (ak dM _ _)));refine ql Eh Hz ?_ ?_) | ((with_reducible show PE _ _ (tE _ (ak n_ _ _)));refine ql H_ GF ?_ ?_) | ((with_reducible show PE _ _ (tE _ (ak b_ _ _)));refine ql EZ IM ?_ ?_) | ((with_reducible show PE _ _ (tE _ (ak bF _ _)));refine ql CY Cm ?_ ?_) | ((with_reducible show PE _ _ (tE _ (ak cA _ _)));refine ql DO D9 ?_ ?_) | ((with_reducible show PE _ _ (tE _ (ak aP _ _)));refine H0 ?_ ?_ ?_) | ((with_reducible show sQ _);exact λ_ _=>rfl) | ((with_reducible show PT _ _ (tT _ (ff (ak uc _ _))));refine kF (CW (cQ.units (by assumption))) Gg ?_ ?_ (dE _)) | ((with_reducible show PE _ _ (tE _ (ak uc _ _)));refine kz (CW (cQ.units (by assumption))) Gg ?_ ?_ (dE _)) | ((with_reducible show PT _ _ (tT _ (ff (ak uJ _ _))));refine kF (Ct (cQ.units (by assumption))) FN ?_ ?_ (dE _)) | ((with_reducible show PE _ _ (tE _ (ak uJ _ _)));refine kz (Ct (cQ.units (by assumption))) FN ?_ ?_ (dE _)) | ((with_reducible show PT _ _ (tT _ (ff (ak DZ _ _))));refine kF yI xn ?_ ?_ (dE _)) | ((with_reducible show PE _ _ (tE _ (ak DZ _ _)));refine kz yI xn ?_ ?_ (dE _)) | ((with_reducible show PT _ _ (tT _ (ff (ak E7 _ _))));refine kF vj qw ?_ ?_ (dE _)) | ((with_reducible show PE _ _ (tE _ (ak E7 _ _)));refine kz vj qw ?_ ?_ (dE _)) | ((with_reducible show PT _ _ (tT _ (ff (ak EG _ _))));refine kF Ga BE ?_ ?_ (dE _)) | ((with_reducible show PE _ _ (tE _ (ak EG _ _)));refine kz Ga BE ?_ ?_ (dE _)) | ((with_reducible show PT _ _ (tT _ (ff (ak Ge _ _))));refine kF Gi A6 ?_ ?_ (dE _)) | ((with_reducible show PE _ _ (tE _ (ak Ge _ _)));refine kz Gi A6 ?_ ?_ (dE _)) | ((with_reducible show PT _ _ (tT _ (ff (ak Dp _ _))));refine kF Dt AV ?_ ?_ (dE _)) | ((with_reducible show PE _ _ (tE _ (ak Dp _ _)));refine kz Dt AV ?_ ?_ (dE _)) | ((with_reducible show PT _ _ (tT _ (ff (ak k9 _ _))));refine kF yg yu ?_ ?_ (dE _)) | ((with_reducible show PE _ _ (tE _ (ak k9 _ _)));refine kz yg yu ?_ ?_ (dE _)) | ((with_reducible show PT _ _ (tT _ (la _)));refine HR ?_) | ((with_reducible show PT _ _ (tT _ (ff (ai _ _))));refine ur ?_) | ((with_reducible show PT _ _ (tT _ (ff (FL _ _ _ _))));refine ur ?_) | ((with_reducible show PT _ _ (tT _ (ff (bh _ _ _ _ _))));refine ur ?_) | ((with_reducible show PT _ _ (tT _ (ff (ae _))));refine ur ?_) | ((with_reducible show PS _ _ (tS _ (retS _)));refine Hy ?_) | ((with_reducible show PS _ _ (tS _ (br _ _)));refine GZ (by assumption) rfl (by walk_at "l") ?_) | ((with_reducible show PS _ _ (tS _ (lZ _ _ _)));refine JI ?_ ?_ ?_) | ((with_reducible show PS _ _ (tS _ (lX _ _)));refine zR rfl (by first | exact .inl rfl | exact .inr (.inl rfl)) ?_) | ((with_reducible show PS _ _ (tS _ (oH _ _)));refine DN (by assumption) rfl (by walk_at "l") ?_) | ((with_reducible show PE _ _ (tO _ (j7 _)));refine Hu ?_) | ((with_reducible show PS _ _ (tS _ (oq _ _)));refine Jg _ ?_) | ((with_reducible show PS _ _ (tS _ (jC _)));refine DK ?_) | ((with_reducible show PS _ _ (tS _ (lU _ _)));refine zK.raise (by assumption) (by assumption) rfl (by rfl) ?_) | ((with_reducible show PS _ _ (tS _ (ja _ _ _)));refine oC.raise (by assumption) (by assumption) (by omega) (by assumption) rfl (by rfl) ?_) | ((with_reducible show PE _ _ (tE _ (lT _)));refine GQ ?_) | ((with_reducible show PE _ _ (tE _ (ly _)));refine Cu ?_) | ((with_reducible show PE _ _ (tE _ (lr _)));refine GO ?_) | ((with_reducible show PE _ _ (tE _ (Ad _ _ _)));refine GB ?_ ?_ ?_) | ((with_reducible show PE _ _ (tE _ (c_ _ _ _)));refine GU ?_ (by assumption) rfl) | ((with_reducible show PE _ _ (tE _ (ai eI _)));refine kn sG IT (by rfl) (by assumption) PySem.boot_len ?_) | ((with_reducible show PE _ _ (tE _ (ai cJ _)));refine mP qN B0 (by rfl) (by assumption) pE ?_) | ((with_reducible show PE _ _ (tE _ (ai sk _)));refine mP uE Ed (by rfl) (by assumption) yH ?_) | ((with_reducible show PE _ _ (tE _ (ai wz _)));refine kn (zQ rfl) GK (by rfl) (by assumption) Ij ?_) | ((with_reducible show PE _ _ (tE _ (ai tK _)));refine kn (zG rfl) IV (by rfl) (by assumption) IK ?_) | ((with_reducible show PE _ _ (tE _ (ai rO _)));refine mP za Fu (by rfl) (by assumption) AE ?_) | ((with_reducible show PE _ _ (tE _ (ai (bY _ _ _) _)));refine r_.make (by assumption) (by assumption) (by omega) (by rfl) (by first | assumption | exact yR) ?_) | ((with_reducible show PE _ _ (tE _ (ai _ _)));refine cV.call (by assumption) (by assumption) (by omega) (by rfl) (by first | assumption | exact yR) ?_) | ((with_reducible show PE _ _ (tE _ (bh _ _ _ _ aj)));refine jK.JQ (by assumption) (by assumption) (by omega) (by first | assumption | exact yR) ?_) | ((with_reducible show PE _ _ (tE _ (bh _ _ _ _ _)));refine jK.call (by assumption) (by assumption) (by omega) (by first | assumption | exact yR) ?_ ?_)))
def top(i:Nat):Stmt:=PySem.Challenge.pw_dialvault_k56_whole_great_gears.main.body.getD i (.Pass ⟨0,0,0,0⟩)
structure Txt (K:PySem.W.Frag) (mg:Str->Option Value):Prop where
 Kt:mg "all" = none
 Du:mg "bool" = none
 bL:mg "enumerate" = none
 FH:mg "int" = none
 eQ:mg "isinstance" = none
 FO:mg "len" = none
 A0:mg "list" = none
 Br:mg "max" = none
 eY:mg "range" = none
 JZ:mg "sum" = none
 tZ:mg "tuple" = none
 j5:mg "zip" = none
 qL:∃ u,mg "LEAST_PRICE" = some u/\RelV (.int 1) u
 uD:∃ u,mg "LEAST_SIZE" = some u/\RelV (.int 2) u
 sV:∃ u,mg "MOST_DIALS" = some u/\RelV (.int 6) u
 qG:∃ u,mg "MOST_LEVERS" = some u/\RelV (.int 8) u
 tF:∃ u,mg "MOST_PRICE" = some u/\RelV (.int 1000) u
 vM:∃ u,mg "MOST_SIZE" = some u/\RelV (.int 360) u
 t_:lp K bB
 oX:lp K ay
 mG:lp K ao
 vU:zK K mg kL "NoSetting"
 zW:zK K mg kN "TooMany"
 CF:zK K mg pH "Unlike"
 iz:bM K bB "front_dials"
 i4:bM K bB "rear_dials"
 iO:bM K bB "tooth_rows"
 iM:bM K ay "idle_rows"
 iY:bM K ay "made_rows"
 lH:bM K ay "vault"
 iq:bM K ao "dial_sizes"
 gD:bM K ao "least_round"
 gv:bM K ao "lever_prices"
 fc:bM K ao "lever_settings"
 uj:∀ C,(C==ao)=true->lp K C/\bM K C "dial_sizes"
 qZ:∀ C,(C==bB)=true->lp K C/\bM K C "front_dials"
 vx:∀ C,(C==ay)=true->lp K C/\bM K C "idle_rows"
 qM:∀ C,(C==ao)=true->lp K C/\bM K C "least_round"
 qx:∀ C,(C==ao)=true->lp K C/\bM K C "lever_prices"
 mZ:∀ C,(C==ao)=true->lp K C/\bM K C "lever_settings"
 vE:∀ C,(C==ay)=true->lp K C/\bM K C "made_rows"
 tH:∀ C,(C==bB)=true->lp K C/\bM K C "rear_dials"
 uG:∀ C,(C==bB)=true->lp K C/\bM K C "tooth_rows"
 D7:∀ C,(C==ay)=true->lp K C/\bM K C "vault"
local macro_rules | `(tactic| walk_at "t")=>`(tactic| (have z:=‹Txt _ _›;cases z))
variable{P:Program}{w:World}{K:PySem.W.Frag}{mg:Str->Option Value}{base:Heap}{f:Addr}{fd:FuncData}{dv:Value}
theorem uT(F:bo K "is_whole" "is_whole" (top 11) dv f fd)(T:Txt K mg)  : aV P w K mg base (bX P w) 1 f fd ["thing"] (dy 1 fm) :=
 F.eJ ["thing"] λnd _ _ _ _ _ _ hr O=>by
 unfold jZ;walk_at "t"
 walk_at "pp"
 refine(C5 ?_ (By ?_))
 walk_at "pp"
 refine(wN (T := "int") (by rfl) T.eQ (mF (v:=.ty "int") (by rfl) T.FH AE rfl) (by decide) xt xt ?_)
 walk_at "pp"
 refine(HS ?_)
 walk_at "pp"
 refine(wN (T := "bool") (by rfl) T.eQ (mF (v:=.ty "bool") (by rfl) T.Du DT rfl) (by decide) xt xt ?_)
 walk_at "pp"
theorem uP:((["number"]:List Str)++([]:List Str)).Nodup:=by decide +kernel
theorem zd(F:bo K "is_row" "is_row" (top 12) dv f fd)(T:Txt K mg)(NW:cV P w K mg base 1 "is_whole" 1 (aw 1 jZ)):aV P w K mg base (bX P w) 2 f fd ["thing", "length"] (dy 2 eS) :=
 F.eJ ["thing", "length"] λnd _ _ _ _ _ _ hr O=>by
 unfold jm;walk_at "t"
 walk_at "pp"
 refine(vt ?_ (uw ?_)).pt
 walk_at "pp"
 refine(DH (Ts:=["list", "tuple"]) (by rfl) T.eQ (Bl (dX (mF (v:=.ty "list") (by rfl) T.A0 yH rfl) (dX (mF (v:=.ty "tuple") (by rfl) T.tZ pE rfl) jg))) (fun σ H R h=>⟨by show 2<=sizeLine;decide,h⟩) (by decide) xt ?_)
 walk_at "pp"
 refine(cH (bG (g:=(aH 0)) (ts:=["number"]) (fs:=[]) (js:=[]) (cl:=[]) rfl rfl rfl rfl rfl rfl .nil .nil (c6 ?_) cn (λ_ _ _ _ _=>(aM (i:=0) uP)) (λ_=>bx) bH (λ_ _ _ _ _=>?_)))
 walk_at "pp"
theorem zT(F:bo K "common" "common" (top 13) dv f fd)(T:Txt K mg)  : aV P w K mg base (bX P w) 1 f fd ["one", "other"] (dy 2 gj) :=
 F.eJ ["one", "other", "row", "behind", "times", "rest"] λnd _ _ _ _ _ _ hr O=>by
 unfold ky;walk_at "t"
 walk_at "pp"
 refine(uO O ?_ ?_)
 walk_at "pp"
theorem qq(F:bo K "multiple_of" "multiple_of" (top 14) dv f fd)(T:Txt K mg)(Ot:cV P w K mg base 1 "common" 2 (aw 6 ky)):aV P w K mg base (bX P w) 2 f fd ["numbers"] (dy 1 fN) :=
 F.eJ ["numbers", "multiple", "number"] λnd _ _ _ _ _ _ hr O=>by
 unfold fO;walk_at "t"
 walk_at "pp"
 refine(bO (g:=(aH 2)) O rfl (c6 ?_) cn (aM (i:=2) nd) bx ?_)
 walk_at "pp"
theorem qW(F:bo K "product_of" "product_of" (top 15) dv f fd)(T:Txt K mg)  : aV P w K mg base (bX P w) 1 f fd ["numbers"] (dy 1 gY) :=
 F.eJ ["numbers", "product", "number"] λnd _ _ _ _ _ _ hr O=>by
 unfold gJ;walk_at "t"
 walk_at "pp"
 refine(bO (g:=(aH 2)) O rfl (c6 ?_) cn (aM (i:=2) nd) bx ?_)
 walk_at "pp"
theorem qF:((["other"]:List Str)++(["place"]:List Str)).Nodup:=by decide +kernel
theorem vF(F:bo K "unit_row" "unit_row" (top 16) dv f fd)(T:Txt K mg)  : aV P w K mg base (bX P w) 1 f fd ["length", "place"] (dy 2 jT) :=
 F.eJ ["length", "place"] λnd _ _ _ _ _ _ hr O=>by
 unfold jJ;walk_at "t"
 walk_at "pp"
 refine(cH (bG (g:=(aH 0)) (ts:=["other"]) (fs:=["place"]) (js:=[1]) rfl rfl rfl rfl rfl rfl (.cons rfl .nil) (.cons rfl rfl (by walk_at "l") rfl rfl .nil) (fG (by rfl) T.eY ?_) iu (λ_ _ _ _ _=>(aM (i:=0) qF)) (λ_=>bx) bH (λ_ _ _ _ _=>?_)))
 walk_at "pp"
theorem vI:((["row"]:List Str)++(["place"]:List Str)).Nodup:=by decide +kernel
theorem zj(F:bo K "column" "column" (top 17) dv f fd)(T:Txt K mg)  : aV P w K mg base (bX P w) 1 f fd ["rows", "place"] (dy 2 kj) :=
 F.eJ ["rows", "place"] λnd _ _ _ _ _ _ hr O=>by
 unfold l8;walk_at "t"
 walk_at "pp"
 refine(cH (bG (g:=(aH 0)) (ts:=["row"]) (fs:=["place"]) (js:=[1]) rfl rfl rfl rfl rfl rfl (.cons rfl .nil) (.cons rfl rfl (by walk_at "l") rfl rfl .nil) (c6 ?_) cn (λ_ _ _ _ _=>(aM (i:=0) vI)) (λ_=>bx) bH (λ_ _ _ _ _=>?_)))
 walk_at "pp"
theorem lB:((["number", "other"]:List Str)++([]:List Str)).Nodup:=by decide +kernel
theorem vV(F:bo K "rest_sum" "rest_sum" (top 18) dv f fd)(T:Txt K mg)  : aV P w K mg base (bX P w) 1 f fd ["numbers", "others", "by"] (dy 3 de) :=
 F.eJ ["numbers", "others", "by"] λnd _ _ _ _ _ _ hr O=>by
 unfold d_;walk_at "t"
 walk_at "pp"
 refine(cH (bG (g:=(gi K 2 (bj (aH 0) (bj (aH 1) gk)))) (ts:=["number", "other"]) (fs:=[]) (js:=[]) (cl:=[]) rfl rfl rfl rfl rfl rfl .nil .nil (jf (by rfl) T.j5 ?_) fW (λ_ _ _ _ _=>(cD (n:=2) rfl (aE (aM (i:=0) lB) (aE (aM (i:=1) lB) bN)))) (λ_=>bP) bW (λ_ _ _ _ _=>?_)))
 walk_at "pp"
theorem kI:((["place", "size"]:List Str)++(["numbers", "rows"]:List Str)).Nodup:=by decide +kernel
theorem sO(F:bo K "rest_sums" "rest_sums" (top 19) dv f fd)(T:Txt K mg)(O7:cV P w K mg base 1 "column" 2 (aw 2 l8))(NG:cV P w K mg base 1 "rest_sum" 3 (aw 3 d_)):aV P w K mg base (bX P w) 2 f fd ["numbers", "rows", "sizes"] (dy 3 iZ) :=
 F.eJ ["numbers", "rows", "sizes"] λnd _ _ _ _ _ _ hr O=>by
 unfold iJ;walk_at "t"
 walk_at "pp"
 refine(cH (bG (g:=(gi K 2 (bj (aH 0) (bj (aH 1) gk)))) (ts:=["place", "size"]) (fs:=["numbers", "rows"]) (js:=[0,1]) rfl rfl rfl rfl rfl rfl (.cons rfl (.cons rfl .nil)) (.cons rfl rfl (by walk_at "l") rfl rfl (.cons rfl rfl (by walk_at "l") rfl rfl .nil)) (gB (by rfl) T.bL ?_) dW (λ_ _ _ _ _=>(cD (n:=2) rfl (aE (aM (i:=0) kI) (aE (aM (i:=1) kI) bN)))) (λ_=>bP) bW (λ_ _ _ _ _=>?_)))
 walk_at "pp"
theorem tM(F:bo K "is_within" "is_within" (top 28) dv f fd)(T:Txt K mg)(NW:cV P w K mg base 1 "is_whole" 1 (aw 1 jZ)):aV P w K mg base (bX P w) 2 f fd ["thing", "least", "most"] (dy 3 dG) :=
 F.eJ ["thing", "least", "most"] λnd _ _ _ _ _ _ hr O=>by
 unfold eC;walk_at "t"
 walk_at "pp"
 refine(C5 ?_ (By ?_))
 walk_at "pp"
 refine(wa vj qw vj qw ?_ ?_ ?_)
 walk_at "pp"
theorem qK(F:bo K "need_sizes" "need_sizes" (top 29) dv f fd)(T:Txt K mg)(OA:oC P w K mg base gb "NoDial" "dial")(NB:cV P w K mg base 2 "is_within" 3 (aw 3 eC)):aV P w K mg base (bX P w) 3 f fd ["sizes"] (dy 1 gP) :=
 F.eJ ["sizes", "dial", "size"] λnd _ _ _ _ _ _ hr O=>by
 unfold gQ;walk_at "t"
 walk_at "pp"
 refine(bO (g:=(gi K 2 (bj (aH 1) (bj (aH 2) gk)))) O rfl (gB (by rfl) T.bL ?_) dW (cD (n:=2) rfl (aE (aM (i:=1) nd) (aE (aM (i:=2) nd) bN))) bP ?_)
 walk_at "pp"
theorem lN(F:bo K "need_same_sizes" "need_same_sizes" (top 30) dv f fd)(T:Txt K mg)  : aV P w K mg base (bX P w) 1 f fd ["sizes", "others"] (dy 2 cu) :=
 F.eJ ["sizes", "others"] λnd _ _ _ _ _ _ hr O=>by
 unfold cp;walk_at "t"
 walk_at "pp"
theorem pW(F:bo K "need_levers" "need_levers" (top 31) dv f fd)(T:Txt K mg)(NR:cV P w K mg base 2 "is_row" 2 (aw 2 jm))(O3:oC P w K mg base ju "NoLever" "lever"):aV P w K mg base (bX P w) 3 f fd ["levers", "dials"] (dy 2 f7) :=
 F.eJ ["levers", "dials", "place", "lever"] λnd _ _ _ _ _ _ hr O=>by
 unfold f9;walk_at "t"
 walk_at "pp"
 refine(bO (g:=(gi K 2 (bj (aH 2) (bj (aH 3) gk)))) O rfl (gB (by rfl) T.bL ?_) dW (cD (n:=2) rfl (aE (aM (i:=2) nd) (aE (aM (i:=3) nd) bN))) bP ?_)
 walk_at "pp"
theorem rB(F:bo K "prices_for" "prices_for" (top 32) dv f fd)(T:Txt K mg)(O4:oC P w K mg base hX "NoPrice" "lever")(NB:cV P w K mg base 2 "is_within" 3 (aw 3 eC)):aV P w K mg base (bX P w) 3 f fd ["levers", "prices"] (dy 2 gR) :=
 F.eJ ["levers", "prices", "place"] λnd _ _ _ _ _ _ hr O=>by
 unfold gG;walk_at "t"
 walk_at "pp"
 refine(bO (g:=(aH 2)) O rfl (fG (by rfl) T.eY ?_) iu (aM (i:=2) nd) bx ?_)
 walk_at "pp"
 refine(kn (sq rfl) xZ (by rfl) T.Br Cb ?_)
 walk_at "pp"
 refine(vt ?_ (uw ?_)).pt
 walk_at "pp"
theorem o8:((["number", "size"]:List Str)++([]:List Str)).Nodup:=by decide +kernel
theorem BQ(F:bo K "rests" "rests" (top 33) dv f fd)(T:Txt K mg)  : aV P w K mg base (bX P w) 1 f fd ["numbers", "sizes"] (dy 2 k6) :=
 F.eJ ["numbers", "sizes"] λnd _ _ _ _ _ _ hr O=>by
 unfold mM;walk_at "t"
 walk_at "pp"
 refine(cH (bG (g:=(gi K 2 (bj (aH 0) (bj (aH 1) gk)))) (ts:=["number", "size"]) (fs:=[]) (js:=[]) (cl:=[]) rfl rfl rfl rfl rfl rfl .nil .nil (jf (by rfl) T.j5 ?_) fW (λ_ _ _ _ _=>(cD (n:=2) rfl (aE (aM (i:=0) o8) (aE (aM (i:=1) o8) bN)))) (λ_=>bP) bW (λ_ _ _ _ _=>?_)))
 walk_at "pp"
theorem pU:((["one", "two"]:List Str)++(["times", "others"]:List Str)).Nodup:=by decide +kernel
theorem CH(F:bo K "mixed" "mixed" (top 40) dv f fd)(T:Txt K mg)  : aV P w K mg base (bX P w) 1 f fd ["row", "times", "other", "others"] (dy 4 kT) :=
 F.eJ ["row", "times", "other", "others"] λnd _ _ _ _ _ _ hr O=>by
 unfold mj;walk_at "t"
 walk_at "pp"
 refine(cH (bG (g:=(gi K 2 (bj (aH 0) (bj (aH 1) gk)))) (ts:=["one", "two"]) (fs:=["times", "others"]) (js:=[1,3]) rfl rfl rfl rfl rfl rfl (.cons rfl (.cons rfl .nil)) (.cons rfl rfl (by walk_at "l") rfl rfl (.cons rfl rfl (by walk_at "l") rfl rfl .nil)) (jf (by rfl) T.j5 ?_) fW (λ_ _ _ _ _=>(cD (n:=2) rfl (aE (aM (i:=0) pU) (aE (aM (i:=1) pU) bN)))) (λ_=>bP) bW (λ_ _ _ _ _=>?_)))
 walk_at "pp"
theorem qX(F:bo K "mixed_made" "mixed_made" (top 41) dv f fd)(T:Txt K mg)(OM:cV P w K mg base 1 "mixed" 4 (aw 4 mj))(ON:cV P w K mg base 1 "rests" 2 (aw 2 mM)):aV P w K mg base (bX P w) 2 f fd ["sizes", "made", "times", "other", "others"] (dy 5 dO) :=
 F.eJ ["sizes", "made", "times", "other", "others", "doing"] λnd _ _ _ _ _ _ hr O=>by
 unfold fb;walk_at "t"
 walk_at "pp"
theorem t9(F:bo K "step_size" "step_size" (top 44) dv f fd)(T:Txt K mg)  : aV P w K mg base (bX P w) 1 f fd ["sizes", "made_rows", "dial"] (dy 3 dC) :=
 F.eJ ["sizes", "made_rows", "dial", "notch"] λnd _ _ _ _ _ _ hr O=>by
 unfold eH;walk_at "t"
 walk_at "pp"
theorem vk(F:bo K "taken_in" "taken_in" (top 45) dv f fd)(T:Txt K mg)(NC:cV P w K mg base 1 "step_size" 3 (aw 4 eH))(Ot:cV P w K mg base 1 "common" 2 (aw 6 ky))(NK:cV P w K mg base 2 "mixed_made" 5 (aw 6 fb)):aV P w K mg base (bX P w) 3 f fd ["sizes", "made_rows", "left"] (dy 3 j3) :=
 F.eJ ["sizes", "made_rows", "left", "wider", "dial", "made", "step", "notch", "found"] λnd _ _ _ _ _ _ hr O=>by
 unfold jG;walk_at "t"
 walk_at "pp"
 refine(bO (g:=(gi K 2 (bj (aH 4) (bj (aH 5) gk)))) O rfl (gB (by rfl) T.bL ?_) dW (cD (n:=2) rfl (aE (aM (i:=4) nd) (aE (aM (i:=5) nd) bN))) bP ?_)
 walk_at "pp"
theorem w6(F:bo K "lowered" "lowered" (top 46) dv f fd)(T:Txt K mg)(NC:cV P w K mg base 1 "step_size" 3 (aw 4 eH))(NK:cV P w K mg base 2 "mixed_made" 5 (aw 6 fb)):aV P w K mg base (bX P w) 3 f fd ["sizes", "made_rows", "made", "first"] (dy 4 fw) :=
 F.eJ ["sizes", "made_rows", "made", "first", "dial", "times"] λnd _ _ _ _ _ _ hr O=>by
 unfold jt;walk_at "t"
 walk_at "pp"
 refine(bO (g:=(aH 4)) O rfl (zS (by rfl) T.eY ?_) CN (aM (i:=4) nd) bx ?_)
 walk_at "pp"
theorem v5(F:bo K "in_spans" "in_spans" (top 47) dv f fd)(T:Txt K mg)(OM:cV P w K mg base 1 "mixed" 4 (aw 4 mj)):aV P w K mg base (bX P w) 2 f fd ["pulls", "idle_rows"] (dy 2 iA) :=
 F.eJ ["pulls", "idle_rows", "lever", "row"] λnd _ _ _ _ _ _ hr O=>by
 unfold iw;walk_at "t"
 walk_at "pp"
 refine(bO (g:=(aH 2)) O rfl (sv (by rfl) T.eY ?_) vh (aM (i:=2) nd) bx ?_)
 walk_at "pp"
theorem iE:((["tooth", "other"]:List Str)++(["size"]:List Str)).Nodup:=by decide +kernel
theorem oy(F:bo K "is_tooth_row" "is_tooth_row" (top 57) dv f fd)(T:Txt K mg)(NR:cV P w K mg base 2 "is_row" 2 (aw 2 jm)):aV P w K mg base (bX P w) 3 f fd ["thing", "size", "rear"] (dy 3 e9) :=
 F.eJ ["thing", "size", "rear"] λnd _ _ _ _ _ _ hr O=>by
 unfold eW;walk_at "t"
 walk_at "pp"
 refine(cH (bG (g:=(gi K 2 (bj (aH 0) (bj (aH 1) gk)))) (ts:=["tooth", "other"]) (fs:=["size"]) (js:=[1]) rfl rfl rfl rfl rfl rfl (.cons rfl .nil) (.cons rfl rfl (by walk_at "l") rfl rfl .nil) (jf (by rfl) T.j5 ?_) fW (λ_ _ _ _ _=>(cD (n:=2) rfl (aE (aM (i:=0) iE) (aE (aM (i:=1) iE) bN)))) (λ_=>bP) bW (λ_ _ _ _ _=>?_)))
 walk_at "pp"
theorem qH(F:bo K "need_teeth" "need_teeth" (top 58) dv f fd)(T:Txt K mg)(N6:cV P w K mg base 3 "is_tooth_row" 3 (aw 3 eW))(O8:oC P w K mg base kf "NoGear" "dial"):aV P w K mg base (bX P w) 4 f fd ["front", "rear", "teeth"] (dy 3 gM) :=
 F.eJ ["front", "rear", "teeth", "dial"] λnd _ _ _ _ _ _ hr O=>by
 unfold gU;walk_at "t"
 walk_at "pp"
 refine(bO (g:=(aH 3)) O rfl (fG (by rfl) T.eY ?_) iu (aM (i:=3) nd) bx ?_)
 walk_at "pp"
 refine(kn (sq rfl) xZ (by rfl) T.Br Cb ?_)
 walk_at "pp"
 refine(vt ?_ (vt ?_ (uw ?_))).pt
 walk_at "pp"
theorem uI(F:bo K "_law_cell" "_law_cell" (top 66) dv f fd)(T:Txt K mg)  : aV P w K mg base (bX P w) 1 f fd ["_law_script", "_law_k"] (dy 2 eE) :=
 F.eJ ["_law_script", "_law_k"] λnd _ _ _ _ _ _ hr O=>by
 unfold iG;walk_at "t"
 walk_at "pp"
theorem u7(F:bo K "_law_mix" "_law_mix" (top 67) dv f fd)(T:Txt K mg)  : aV P w K mg base (bX P w) 1 f fd ["_law_cell_here", "_law_k"] (dy 2 bU) :=
 F.eJ ["_law_cell_here", "_law_k", "_law_number"] λnd _ _ _ _ _ _ hr O=>by
 unfold ee;walk_at "t"
 walk_at "pp"
theorem p9(F:bo K "_law_digits" "_law_digits" (top 68) dv f fd)(T:Txt K mg)  : aV P w K mg base (bX P w) 1 f fd ["_law_cell_here", "_law_sizes_here"] (dy 2 cT) :=
 F.eJ ["_law_cell_here", "_law_sizes_here", "_law_row", "_law_size_here"] λnd _ _ _ _ _ _ hr O=>by
 unfold du;walk_at "t"
 walk_at "pp"
 refine(bO (g:=(aH 3)) O rfl (c6 ?_) cn (aM (i:=3) nd) bx ?_)
 walk_at "pp"
theorem tW(F:bo K "_law_size" "_law_size" (top 69) dv f fd)(T:Txt K mg)  : aV P w K mg base (bX P w) 1 f fd ["_law_number"] (dy 1 eB) :=
 F.eJ ["_law_number"] λnd _ _ _ _ _ _ hr O=>by
 unfold iU;walk_at "t"
 walk_at "pp"
 exact(oQ [2,3,4,6,8,9,12])
 walk_at "pp"
 exact(oQ [1,2,5,10,30])
 walk_at "pp"
theorem oA:((["_law_number"]:List Str)++([]:List Str)).Nodup:=by decide +kernel
theorem n6:((["_law_k"]:List Str)++(["_law_cell_here"]:List Str)).Nodup:=by decide +kernel
theorem rj(F:bo K "_law_sizes" "_law_sizes" (top 70) dv f fd)(T:Txt K mg)(Nw:cV P w K mg base 1 "_law_digits" 2 (aw 4 du))(Nz:cV P w K mg base 1 "_law_mix" 2 (aw 3 ee))(OF:cV P w K mg base 1 "_law_size" 1 (aw 1 iU)):aV P w K mg base (bX P w) 2 f fd ["_law_cell_here"] (dy 1 fe) :=
 F.eJ ["_law_cell_here", "_law_many"] λnd _ _ _ _ _ _ hr O=>by
 unfold gI;walk_at "t"
 walk_at "pp"
 refine(cH (bG (g:=(aH 0)) (ts:=["_law_number"]) (fs:=[]) (js:=[]) (cl:=[]) rfl rfl rfl rfl rfl rfl .nil .nil (c6 ?_) cn (λ_ _ _ _ _=>(aM (i:=0) oA)) (λ_=>bx) bH (λ_ _ _ _ _=>?_)))
 walk_at "pp"
 exact(oQ [1,2,3,4,2,3,5,6])
 walk_at "pp"
 refine(cH (bG (g:=(aH 0)) (ts:=["_law_k"]) (fs:=["_law_cell_here"]) (js:=[0]) rfl rfl rfl rfl rfl rfl (.cons rfl .nil) (.cons rfl rfl (by walk_at "l") rfl rfl .nil) (fG (by rfl) T.eY ?_) iu (λ_ _ _ _ _=>(aM (i:=0) n6)) (λ_=>bx) bH (λ_ _ _ _ _=>?_)))
 walk_at "pp"
theorem qO(F:bo K "_law_lever" "_law_lever" (top 71) dv f fd)(T:Txt K mg)(Nw:cV P w K mg base 1 "_law_digits" 2 (aw 4 du))(Nz:cV P w K mg base 1 "_law_mix" 2 (aw 3 ee)):aV P w K mg base (bX P w) 2 f fd ["_law_cell_here", "_law_sizes_here"] (dy 2 dP) :=
 F.eJ ["_law_cell_here", "_law_sizes_here", "_law_factor", "_law_row", "_law_k", "_law_size_here", "_law_number"] λnd _ _ _ _ _ _ hr O=>by
 unfold gW;walk_at "t"
 walk_at "pp"
 exact(oQ [1,2,3,6,12,30])
 walk_at "pp"
 refine(bO (g:=(gi K 2 (bj (aH 4) (bj (aH 5) gk)))) O rfl (gB (by rfl) T.bL ?_) dW (cD (n:=2) rfl (aE (aM (i:=4) nd) (aE (aM (i:=5) nd) bN))) bP ?_)
 walk_at "pp"
theorem oG(F:bo K "_law_divisor" "_law_divisor" (top 72) dv f fd)(T:Txt K mg)  : aV P w K mg base (bX P w) 1 f fd ["_law_one", "_law_other"] (dy 2 eX) :=
 F.eJ ["_law_one", "_law_other"] λnd _ _ _ _ _ _ hr O=>by
 unfold eT;walk_at "t"
 walk_at "pp"
 refine(uO O ?_ ?_)
 walk_at "pp"
 refine(Gv (i:=0) (j:=1) rfl nd rfl rfl (by decide) rfl rfl ?_ ?_)
 walk_at "pp"
 exact rfl
 walk_at "pp"
theorem qY(F:bo K "_law_teeth" "_law_teeth" (top 73) dv f fd)(T:Txt K mg)(Nz:cV P w K mg base 1 "_law_mix" 2 (aw 3 ee))(N4:cV P w K mg base 1 "_law_divisor" 2 (aw 2 eT)):aV P w K mg base (bX P w) 2 f fd ["_law_cell_here", "_law_front", "_law_rear"] (dy 3 e8) :=
 F.eJ ["_law_cell_here", "_law_front", "_law_rear", "_law_teeth_here", "_law_dial", "_law_size_here", "_law_row", "_law_place", "_law_other", "_law_number"] λnd _ _ _ _ _ _ hr O=>by
 unfold gK;walk_at "t"
 walk_at "pp"
 refine(bO (g:=(gi K 2 (bj (aH 4) (bj (aH 5) gk)))) O rfl (gB (by rfl) T.bL ?_) dW (cD (n:=2) rfl (aE (aM (i:=4) nd) (aE (aM (i:=5) nd) bN))) bP ?_)
 walk_at "pp"
 refine(bO (g:=(gi K 2 (bj (aH 7) (bj (aH 8) gk)))) O rfl (gB (by rfl) T.bL ?_) dW (cD (n:=2) rfl (aE (aM (i:=7) nd) (aE (aM (i:=8) nd) bN))) bP ?_)
 walk_at "pp"
theorem lJ:((["_law_notch", "_law_row"]:List Str)++(["_law_place"]:List Str)).Nodup:=by decide +kernel
theorem vO(F:bo K "_law_led" "_law_led" (top 74) dv f fd)(T:Txt K mg)  : aV P w K mg base (bX P w) 1 f fd ["_law_teeth_here", "_law_rear", "_law_setting_here"] (dy 3 fy) :=
 F.eJ ["_law_teeth_here", "_law_rear", "_law_setting_here", "_law_found", "_law_place", "_law_size_here"] λnd _ _ _ _ _ _ hr O=>by
 unfold jL;walk_at "t"
 walk_at "pp"
 refine(bO (g:=(gi K 2 (bj (aH 4) (bj (aH 5) gk)))) O rfl (gB (by rfl) T.bL ?_) dW (cD (n:=2) rfl (aE (aM (i:=4) nd) (aE (aM (i:=5) nd) bN))) bP ?_)
 walk_at "pp"
 refine(cH (bG (g:=(gi K 2 (bj (aH 0) (bj (aH 1) gk)))) (ts:=["_law_notch", "_law_row"]) (fs:=["_law_place"]) (js:=[4]) rfl rfl rfl rfl rfl rfl (.cons rfl .nil) (.cons rfl rfl (by walk_at "l") rfl rfl .nil) (jf (by rfl) T.j5 ?_) fW (λ_ _ _ _ _=>(cD (n:=2) rfl (aE (aM (i:=0) lJ) (aE (aM (i:=1) lJ) bN)))) (λ_=>bP) bW (λ_ _ _ _ _=>?_)))
 walk_at "pp"
theorem iK:((["_law_k", "_law_size_here"]:List Str)++(["_law_cell_here"]:List Str)).Nodup:=by decide +kernel
theorem eR:((["_law_here", "_law_more", "_law_size_here"]:List Str)++(["_law_many"]:List Str)).Nodup:=by decide +kernel
theorem n8(F:bo K "_law_setting" "_law_setting" (top 76) dv f fd)(T:Txt K mg)(Nw:cV P w K mg base 1 "_law_digits" 2 (aw 4 du))(Nz:cV P w K mg base 1 "_law_mix" 2 (aw 3 ee)):aV P w K mg base (bX P w) 2 f fd ["_law_cell_here", "_law_levers", "_law_sizes_here"] (dy 3 eU) :=
 F.eJ ["_law_cell_here", "_law_levers", "_law_sizes_here", "_law_found", "_law_k", "_law_lever_here", "_law_many"] λnd _ _ _ _ _ _ hr O=>by
 unfold eZ;walk_at "t"
 walk_at "pp"
 refine(jR (i:=3) (g:=(gi K 2 (bj (aH 0) (bj (aH 1) gk)))) (ts:=["_law_k", "_law_size_here"]) (fs:=["_law_cell_here"]) (js:=[0]) rfl rfl rfl rfl rfl rfl (.cons rfl .nil) (.cons rfl rfl (by walk_at "l") rfl rfl .nil) (gB (by rfl) T.bL ?_) dW (λ_ _ _ _ _=>(cD (n:=2) rfl (aE (aM (i:=0) iK) (aE (aM (i:=1) iK) bN)))) (λ_=>bP) bW (λ_ _ _ _ _=>?_) nd rfl (by walk_at "l"))
 walk_at "pp"
 refine(bO (g:=(gi K 2 (bj (aH 4) (bj (aH 5) gk)))) O rfl (gB (by rfl) T.bL ?_) dW (cD (n:=2) rfl (aE (aM (i:=4) nd) (aE (aM (i:=5) nd) bN))) bP ?_)
 walk_at "pp"
 refine(jR (i:=3) (g:=(gi K 3 (bj (aH 0) (bj (aH 1) (bj (aH 2) gk))))) (ts:=["_law_here", "_law_more", "_law_size_here"]) (fs:=["_law_many"]) (js:=[6]) rfl rfl rfl rfl rfl rfl (.cons rfl .nil) (.cons rfl rfl (by walk_at "l") rfl rfl .nil) (Em (by rfl) T.j5 ?_) A_ (λ_ _ _ _ _=>(cD (n:=3) rfl (aE (aM (i:=0) eR) (aE (aM (i:=1) eR) (aE (aM (i:=2) eR) bN))))) (λ_=>EA) xh (λ_ _ _ _ _=>?_) nd rfl (by walk_at "l"))
 walk_at "pp"
theorem lA:cL ["self", "sizes", "levers", "prices"] ["self", "sizes", "levers", "prices"] (bf (inClass (top 27) 0)):=.of
theorem om:((["lever"]:List Str)++(["sizes"]:List Str)).Nodup:=by decide +kernel
theorem rC(F:bo K "__init__" "Vault.__init__" (inClass (top 27) 0) dv f fd)(T:Txt K mg)(Ov:cV P w K mg base 3 "need_sizes" 1 (aw 3 gQ))(Of:cV P w K mg base 3 "need_levers" 2 (aw 4 f9))(ON:cV P w K mg base 1 "rests" 2 (aw 2 mM))(Ox:cV P w K mg base 3 "prices_for" 2 (aw 3 gG))(Oe:cV P w K mg base 2 "multiple_of" 1 (aw 3 fO)):aV P w K mg base (bX P w) 4 f fd ["self", "sizes", "levers", "prices"] (DR 4 ao bp) :=
 F.K9 lA (by decide) λ_ _ _ _ _ _ hr O=>by
 unfold jX;have:=lA.nd;have T2:=T;cases T2
 walk_at "pp"
 refine(jd (i:=0) rfl (by first | exact .inl rfl | exact .inr (.inl rfl)) T.mG T.iq ?_)
 walk_at "pp"
 refine(jd (i:=0) rfl (by first | exact .inl rfl | exact .inr (.inl rfl)) T.mG T.fc ?_)
 walk_at "pp"
 refine(cH (bG (g:=(aH 0)) (ts:=["lever"]) (fs:=["sizes"]) (js:=[1]) rfl rfl rfl rfl rfl rfl (.cons rfl .nil) (.cons rfl rfl (by walk_at "l") rfl rfl .nil) (c6 ?_) cn (λ_ _ _ _ _=>(aM (i:=0) om)) (λ_=>bx) bH (λ_ _ _ _ _=>?_)))
 walk_at "pp"
 refine(jd (i:=0) rfl (by first | exact .inl rfl | exact .inr (.inl rfl)) T.mG T.gv ?_)
 walk_at "pp"
 refine(jd (i:=0) rfl (by first | exact .inl rfl | exact .inr (.inl rfl)) T.mG T.gD ?_)
 walk_at "pp"
theorem pR(F:bo K "sizes" "Vault.sizes" (inClass (top 27) 1) dv f fd)(T:Txt K mg)  : aV P w K mg base (bX P w) 1 f fd ["self"] (dy 1 aC) :=
 F.eJ ["self"] λnd _ _ _ _ _ _ hr O=>by
 unfold aX;walk_at "t"
 walk_at "pp"
theorem oh(F:bo K "levers" "Vault.levers" (inClass (top 27) 2) dv f fd)(T:Txt K mg)  : aV P w K mg base (bX P w) 1 f fd ["self"] (dy 1 aZ) :=
 F.eJ ["self"] λnd _ _ _ _ _ _ hr O=>by
 unfold bq;walk_at "t"
 walk_at "pp"
theorem oE(F:bo K "around" "Vault.around" (inClass (top 27) 4) dv f fd)(T:Txt K mg)  : aV P w K mg base (bX P w) 1 f fd ["self"] (dy 1 c7) :=
 F.eJ ["self"] λnd _ _ _ _ _ _ hr O=>by
 unfold dD;walk_at "t"
 walk_at "pp"
theorem nJ:((["dial"]:List Str)++(["self", "sizes"]:List Str)).Nodup:=by decide +kernel
theorem pV(F:bo K "steps" "Rungs.steps" (inClass (top 48) 1) dv f fd)(T:Txt K mg)(Nj:jK P w K mg base ao 1 "sizes" 1 (aw 1 aX))(NC:cV P w K mg base 1 "step_size" 3 (aw 4 eH)):aV P w K mg base (bX P w) 2 f fd ["self"] (dy 1 fS) :=
 F.eJ ["self", "sizes"] λnd _ _ _ _ _ _ hr O=>by
 unfold fM;walk_at "t"
 walk_at "pp"
 refine(cH (bG (g:=(aH 0)) (ts:=["dial"]) (fs:=["self", "sizes"]) (js:=[0,1]) rfl rfl rfl rfl rfl rfl (.cons rfl (.cons rfl .nil)) (.cons rfl rfl (by walk_at "l") rfl rfl (.cons rfl rfl (by walk_at "l") rfl rfl .nil)) (fG (by rfl) T.eY ?_) iu (λ_ _ _ _ _=>(aM (i:=0) nJ)) (λ_=>bx) bH (λ_ _ _ _ _=>?_)))
 walk_at "pp"
theorem ot:((["made"]:List Str)++([]:List Str)).Nodup:=by decide +kernel
theorem rn(F:bo K "rows" "Rungs.rows" (inClass (top 48) 2) dv f fd)(T:Txt K mg)  : aV P w K mg base (bX P w) 1 f fd ["self"] (dy 1 g9) :=
 F.eJ ["self"] λnd _ _ _ _ _ _ hr O=>by
 unfold gH;walk_at "t"
 walk_at "pp"
 refine(cH (bG (g:=(aH 0)) (ts:=["made"]) (fs:=[]) (js:=[]) (cl:=[]) rfl rfl rfl rfl rfl rfl .nil .nil (c6 ?_) cn (λ_ _ _ _ _=>(aM (i:=0) ot)) (λ_=>bx) bH (λ_ _ _ _ _=>?_)))
 walk_at "pp"
theorem jw:((["lever", "row"]:List Str)++([]:List Str)).Nodup:=by decide +kernel
theorem qh(F:bo K "spans" "Rungs.spans" (inClass (top 48) 3) dv f fd)(T:Txt K mg)  : aV P w K mg base (bX P w) 1 f fd ["self"] (dy 1 fL) :=
 F.eJ ["self"] λnd _ _ _ _ _ _ hr O=>by
 unfold fK;walk_at "t"
 walk_at "pp"
 refine(cH (bG (g:=(gi K 2 (bj (aH 0) (bj (aH 1) gk)))) (ts:=["lever", "row"]) (fs:=[]) (js:=[]) (cl:=[]) rfl rfl rfl rfl rfl rfl .nil .nil (gB (by rfl) T.bL ?_) dW (λ_ _ _ _ _=>(cD (n:=2) rfl (aE (aM (i:=0) jw) (aE (aM (i:=1) jw) bN)))) (λ_=>bP) bW (λ_ _ _ _ _=>?_)))
 walk_at "pp"
theorem mi:cL ["self", "front", "rear", "teeth"] ["self", "front", "rear", "teeth"] (bf (inClass (top 56) 0)):=.of
theorem pY:((["row"]:List Str)++([]:List Str)).Nodup:=by decide +kernel
theorem tY(F:bo K "__init__" "Gear.__init__" (inClass (top 56) 0) dv f fd)(T:Txt K mg)(Nn:r_ P w K mg base ao 4 "Vault" 4 [.cy] bp)(Ow:cV P w K mg base 4 "need_teeth" 3 (aw 4 gU)):aV P w K mg base (bX P w) 6 f fd ["self", "front", "rear", "teeth"] (DR 4 bB lR) :=
 F.K9 mi (by decide) λ_ _ _ _ _ _ hr O=>by
 unfold kJ;have:=mi.nd;have T2:=T;cases T2
 walk_at "pp"
 refine(jd (i:=0) rfl (by first | exact .inl rfl | exact .inr (.inl rfl)) T.t_ T.iz ?_)
 walk_at "pp"
 refine(jd (i:=0) rfl (by first | exact .inl rfl | exact .inr (.inl rfl)) T.t_ T.i4 ?_)
 walk_at "pp"
 refine(jd (i:=0) rfl (by first | exact .inl rfl | exact .inr (.inl rfl)) T.t_ T.iO ?_)
 walk_at "pp"
 refine(cH (bG (g:=(aH 0)) (ts:=["row"]) (fs:=[]) (js:=[]) (cl:=[]) rfl rfl rfl rfl rfl rfl .nil .nil (c6 ?_) cn (λ_ _ _ _ _=>(aM (i:=0) pY)) (λ_=>bx) bH (λ_ _ _ _ _=>?_)))
 walk_at "pp"
theorem zz(F:bo K "nought" "nought" (top 34) dv f fd)(T:Txt K mg)(Nj:jK P w K mg base ao 1 "sizes" 1 (aw 1 aX)):aV P w K mg base (bX P w) 2 f fd ["vault"] (dy 1 hZ) :=
 F.eJ ["vault"] λnd _ _ _ _ _ _ hr O=>by
 unfold jl;walk_at "t"
 walk_at "pp"
theorem j6:((["notch", "size"]:List Str)++([]:List Str)).Nodup:=by decide +kernel
theorem rh(F:bo K "is_setting" "is_setting" (top 35) dv f fd)(T:Txt K mg)(Nj:jK P w K mg base ao 1 "sizes" 1 (aw 1 aX))(NR:cV P w K mg base 2 "is_row" 2 (aw 2 jm)):aV P w K mg base (bX P w) 3 f fd ["vault", "thing"] (dy 2 gN) :=
 F.eJ ["vault", "thing", "sizes"] λnd _ _ _ _ _ _ hr O=>by
 unfold hU;walk_at "t"
 walk_at "pp"
 refine(vt ?_ (uw ?_)).pt
 walk_at "pp"
 refine(wN (T := "tuple") (by rfl) T.eQ (mF (v:=.ty "tuple") (by rfl) T.tZ pE rfl) (by decide) xt xt ?_)
 walk_at "pp"
 refine(cH (bG (g:=(gi K 2 (bj (aH 0) (bj (aH 1) gk)))) (ts:=["notch", "size"]) (fs:=[]) (js:=[]) (cl:=[]) rfl rfl rfl rfl rfl rfl .nil .nil (jf (by rfl) T.j5 ?_) fW (λ_ _ _ _ _=>(cD (n:=2) rfl (aE (aM (i:=0) j6) (aE (aM (i:=1) j6) bN)))) (λ_=>bP) bW (λ_ _ _ _ _=>?_)))
 walk_at "pp"
 refine(wa vj qw yI xn ?_ ?_ ?_)
 walk_at "pp"
theorem oI(F:bo K "need_setting" "need_setting" (top 36) dv f fd)(T:Txt K mg)(Ou:cV P w K mg base 3 "is_setting" 2 (aw 3 hU)):aV P w K mg base (bX P w) 4 f fd ["vault", "thing"] (dy 2 cF) :=
 F.eJ ["vault", "thing"] λnd _ _ _ _ _ _ hr O=>by
 unfold cZ;walk_at "t"
 walk_at "pp"
theorem pI:((["weight", "size"]:List Str)++(["around"]:List Str)).Nodup:=by decide +kernel
theorem Cw(F:bo K "weigh" "weigh" (top 38) dv f fd)(T:Txt K mg)(Nu:cV P w K mg base 4 "need_setting" 2 (aw 2 cZ))(ND:jK P w K mg base ao 1 "around" 1 (aw 1 dD))(Nj:jK P w K mg base ao 1 "sizes" 1 (aw 1 aX))(NG:cV P w K mg base 1 "rest_sum" 3 (aw 3 d_)):aV P w K mg base (bX P w) 5 f fd ["vault", "weights", "setting"] (dy 3 oN) :=
 F.eJ ["vault", "weights", "setting", "around", "worths"] λnd _ _ _ _ _ _ hr O=>by
 unfold oP;walk_at "t"
 walk_at "pp"
 refine(jR (i:=4) (g:=(gi K 2 (bj (aH 0) (bj (aH 1) gk)))) (ts:=["weight", "size"]) (fs:=["around"]) (js:=[3]) rfl rfl rfl rfl rfl rfl (.cons rfl .nil) (.cons rfl rfl (by walk_at "l") rfl rfl .nil) (jf (by rfl) T.j5 ?_) fW (λ_ _ _ _ _=>(cD (n:=2) rfl (aE (aM (i:=0) pI) (aE (aM (i:=1) pI) bN)))) (λ_=>bP) bW (λ_ _ _ _ _=>?_) nd rfl (by walk_at "l"))
 walk_at "pp"
theorem wx(F:bo K "unpulled" "unpulled" (top 42) dv f fd)(T:Txt K mg)(Nk:jK P w K mg base ao 1 "levers" 1 (aw 1 bq)):aV P w K mg base (bX P w) 2 f fd ["vault", "setting"] (dy 2 fx) :=
 F.eJ ["vault", "setting"] λnd _ _ _ _ _ _ hr O=>by
 unfold h9;walk_at "t"
 walk_at "pp"
theorem pd(F:bo K "pulled_once" "pulled_once" (top 43) dv f fd)(T:Txt K mg)(Nk:jK P w K mg base ao 1 "levers" 1 (aw 1 bq))(OW:cV P w K mg base 1 "unit_row" 2 (aw 2 jJ)):aV P w K mg base (bX P w) 2 f fd ["vault", "lever"] (dy 2 fZ) :=
 F.eJ ["vault", "lever", "levers"] λnd _ _ _ _ _ _ hr O=>by
 unfold fP;walk_at "t"
 walk_at "pp"
theorem ig:((["tooth", "other"]:List Str)++(["size"]:List Str)).Nodup:=by decide +kernel
theorem mQ(F:bo K "weights_ahead" "weights_ahead" (top 60) dv f fd)(T:Txt K mg)(Nj:jK P w K mg base ao 1 "sizes" 1 (aw 1 aX))(NG:cV P w K mg base 1 "rest_sum" 3 (aw 3 d_)):aV P w K mg base (bX P w) 2 f fd ["gear", "weights"] (dy 2 dr) :=
 F.eJ ["gear", "weights", "front", "rear", "told", "size", "row", "shares"] λnd _ _ _ _ _ _ hr O=>by
 unfold dU;walk_at "t"
 walk_at "pp"
 refine(bO (g:=(gi K 2 (bj (aH 5) (bj (aH 6) gk)))) O rfl (jf (by rfl) T.j5 ?_) fW (cD (n:=2) rfl (aE (aM (i:=5) nd) (aE (aM (i:=6) nd) bN))) bP ?_)
 walk_at "pp"
 refine(jR (i:=7) (g:=(gi K 2 (bj (aH 0) (bj (aH 1) gk)))) (ts:=["tooth", "other"]) (fs:=["size"]) (js:=[5]) rfl rfl rfl rfl rfl rfl (.cons rfl .nil) (.cons rfl rfl (by walk_at "l") rfl rfl .nil) (jf (by rfl) T.j5 ?_) fW (λ_ _ _ _ _=>(cD (n:=2) rfl (aE (aM (i:=0) ig) (aE (aM (i:=1) ig) bN)))) (λ_=>bP) bW (λ_ _ _ _ _=>?_) nd rfl (by walk_at "l"))
 walk_at "pp"
theorem i_:cL ["self", "vault", "sizes", "made_rows", "idle_rows", "lever", "taken"] ["self", "vault"] (bf (inClass (top 48) 0)):=.of
theorem oo:((["size"]:List Str)++(["vault"]:List Str)).Nodup:=by decide +kernel
theorem j8:((["dial", "made"]:List Str)++(["sizes", "made_rows"]:List Str)).Nodup:=by decide +kernel
theorem qJ(F:bo K "__init__" "Rungs.__init__" (inClass (top 48) 0) dv f fd)(T:Txt K mg)(Nj:jK P w K mg base ao 1 "sizes" 1 (aw 1 aX))(NS:cV P w K mg base 2 "nought" 1 (aw 1 jl))(NY:cV P w K mg base 2 "unpulled" 2 (aw 2 h9))(Nk:jK P w K mg base ao 1 "levers" 1 (aw 1 bq))(Og:cV P w K mg base 2 "pulled_once" 2 (aw 3 fP))(OU:cV P w K mg base 3 "taken_in" 3 (aw 9 jG))(NV:cV P w K mg base 2 "in_spans" 2 (aw 4 iw))(N_:cV P w K mg base 3 "lowered" 4 (aw 6 jt)):aV P w K mg base (bX P w) 4 f fd ["self", "vault"] (DR 2 ay cK) :=
 F.K9 i_ (by decide) λ_ _ _ _ _ _ hr O=>by
 unfold jP;have:=i_.nd;have T2:=T;cases T2
 walk_at "pp"
 refine(cH (bG (g:=(aH 0)) (ts:=["size"]) (fs:=["vault"]) (js:=[1]) rfl rfl rfl rfl rfl rfl (.cons rfl .nil) (.cons rfl rfl (by walk_at "l") rfl rfl .nil) (c6 ?_) cn (λ_ _ _ _ _=>(aM (i:=0) oo)) (λ_=>bx) bH (λ_ _ _ _ _=>?_)))
 walk_at "pp"
 refine(bO (g:=(aH 5)) O rfl (fG (by rfl) T.eY ?_) iu (aM (i:=5) i_.nd) bx ?_)
 walk_at "pp"
 refine(yA 4 ?_)
 walk_at "pp"
 refine(jd (i:=0) rfl (by first | exact .inl rfl | exact .inr (.inl rfl)) T.oX T.lH ?_)
 walk_at "pp"
 refine(jd (i:=0) rfl (by first | exact .inl rfl | exact .inr (.inl rfl)) T.oX T.iY ?_)
 walk_at "pp"
 refine(cH (bG (g:=(gi K 2 (bj (aH 0) (bj (aH 1) gk)))) (ts:=["dial", "made"]) (fs:=["sizes", "made_rows"]) (js:=[2,3]) rfl rfl rfl rfl rfl rfl (.cons rfl (.cons rfl .nil)) (.cons rfl rfl (by walk_at "l") rfl rfl (.cons rfl rfl (by walk_at "l") rfl rfl .nil)) (gB (by rfl) T.bL ?_) dW (λ_ _ _ _ _=>(cD (n:=2) rfl (aE (aM (i:=0) j8) (aE (aM (i:=1) j8) bN)))) (λ_=>bP) bW (λ_ _ _ _ _=>?_)))
 walk_at "pp"
 refine(jd (i:=0) rfl (by first | exact .inl rfl | exact .inr (.inl rfl)) T.oX T.iM ?_)
 walk_at "pp"
theorem kb(F:bo K "brought_down" "Rungs.brought_down" (inClass (top 48) 5) dv f fd)(T:Txt K mg)(Nu:cV P w K mg base 4 "need_setting" 2 (aw 2 cZ))(NY:cV P w K mg base 2 "unpulled" 2 (aw 2 h9))(Nj:jK P w K mg base ao 1 "sizes" 1 (aw 1 aX))(N_:cV P w K mg base 3 "lowered" 4 (aw 6 jt)):aV P w K mg base (bX P w) 5 f fd ["self", "setting"] (dy 2 cj) :=
 F.eJ ["self", "setting"] λnd _ _ _ _ _ _ hr O=>by
 unfold cR;walk_at "t"
 walk_at "pp"
theorem lx:((["times"]:List Str)++([]:List Str)).Nodup:=by decide +kernel
theorem me(F:bo K "pulls_to" "Rungs.pulls_to" (inClass (top 48) 7) dv f fd)(T:Txt K mg)(NI:jK P w K mg base ay 5 "brought_down" 2 (aw 2 cR))(NS:cV P w K mg base 2 "nought" 1 (aw 1 jl))(NV:cV P w K mg base 2 "in_spans" 2 (aw 4 iw)):aV P w K mg base (bX P w) 6 f fd ["self", "setting"] (dy 2 cB) :=
 F.eJ ["self", "setting", "made"] λnd _ _ _ _ _ _ hr O=>by
 unfold cY;walk_at "t"
 walk_at "pp"
 refine(cH (bG (g:=(aH 0)) (ts:=["times"]) (fs:=[]) (js:=[]) (cl:=[]) rfl rfl rfl rfl rfl rfl .nil .nil (c6 ?_) cn (λ_ _ _ _ _=>(aM (i:=0) lx)) (λ_=>bx) bH (λ_ _ _ _ _=>?_)))
 walk_at "pp"
theorem fg:((["size", "step"]:List Str)++([]:List Str)).Nodup:=by decide +kernel
theorem lq(F:bo K "weights_at" "Rungs.weights_at" (inClass (top 48) 8) dv f fd)(T:Txt K mg)(Nj:jK P w K mg base ao 1 "sizes" 1 (aw 1 aX))(NB:cV P w K mg base 2 "is_within" 3 (aw 3 eC))(OA:oC P w K mg base gb "NoDial" "dial")(Od:jK P w K mg base ay 2 "steps" 1 (aw 2 fM))(Pr:cV P w K mg base 5 "weigh" 3 (aw 5 oP))(ND:jK P w K mg base ao 1 "around" 1 (aw 1 dD)):aV P w K mg base (bX P w) 6 f fd ["self", "dial"] (dy 2 bJ) :=
 F.eJ ["self", "dial", "sizes", "fills", "weights", "ahead", "weighed", "share"] λnd _ _ _ _ _ _ hr O=>by
 unfold dj;walk_at "t"
 walk_at "pp"
 refine(jR (i:=3) (g:=(gi K 2 (bj (aH 0) (bj (aH 1) gk)))) (ts:=["size", "step"]) (fs:=[]) (js:=[]) (cl:=[]) rfl rfl rfl rfl rfl rfl .nil .nil (jf (by rfl) T.j5 ?_) fW (λ_ _ _ _ _=>(cD (n:=2) rfl (aE (aM (i:=0) fg) (aE (aM (i:=1) fg) bN)))) (λ_=>bP) bW (λ_ _ _ _ _=>?_) nd rfl (by walk_at "l"))
 walk_at "pp"
 refine(Hf ?_ ?_)
 walk_at "pp"
 refine(F9 (i:=4) rfl (by first | exact .inl rfl | exact .inr (.inl rfl)) ?_ ?_)
 walk_at "pp"
 refine(bO (g:=(aH 5)) O rfl (sv (by rfl) T.eY ?_) vh (aM (i:=5) nd) bx ?_)
 walk_at "pp"
 refine(yA 4 ?_)
 walk_at "pp"
 refine(F9 (i:=4) rfl (by first | exact .inl rfl | exact .inr (.inl rfl)) ?_ ?_)
 walk_at "pp"
theorem uZ(F:bo K "led" "Gear.led" (inClass (top 56) 1) dv f fd)(T:Txt K mg)(Nu:cV P w K mg base 4 "need_setting" 2 (aw 2 cZ))(Nj:jK P w K mg base ao 1 "sizes" 1 (aw 1 aX))(OG:cV P w K mg base 2 "rest_sums" 3 (aw 3 iJ)):aV P w K mg base (bX P w) 5 f fd ["self", "setting"] (dy 2 eg) :=
 F.eJ ["self", "setting"] λnd _ _ _ _ _ _ hr O=>by
 unfold jN;walk_at "t"
 walk_at "pp"
theorem mq(F:bo K "together_count" "together_count" (top 50) dv f fd)(T:Txt K mg)(Nq:r_ P w K mg base ay 4 "Rungs" 2 [] cK)(Oc:jK P w K mg base ay 1 "spans" 1 (aw 1 fK))(Oy:cV P w K mg base 1 "product_of" 1 (aw 3 gJ)):aV P w K mg base (bX P w) 6 f fd ["vault"] (dy 1 cC) :=
 F.eJ ["vault"] λnd _ _ _ _ _ _ hr O=>by
 unfold dJ;walk_at "t"
 walk_at "pp"
theorem w8:((["row"]:List Str)++(["none"]:List Str)).Nodup:=by decide +kernel
theorem Bi(F:bo K "clear" "clear" (top 52) dv f fd)(T:Txt K mg)(NS:cV P w K mg base 2 "nought" 1 (aw 1 jl))(Nq:r_ P w K mg base ay 4 "Rungs" 2 [] cK)(Oj:jK P w K mg base ay 1 "rows" 1 (aw 1 gH))(Nj:jK P w K mg base ao 1 "sizes" 1 (aw 1 aX))(Nn:r_ P w K mg base ao 4 "Vault" 4 [.cy] bp):aV P w K mg base (bX P w) 6 f fd ["vault"] (dy 1 jE) :=
 F.eJ ["vault", "none"] λnd _ _ _ _ _ _ hr O=>by
 unfold kQ;walk_at "t"
 walk_at "pp"
 refine(cH (A8 (g:=(aH 0)) (ts:=["row"]) (fs:=["none"]) (js:=[1]) rfl rfl rfl rfl rfl rfl (.cons rfl .nil) (.cons rfl rfl (by walk_at "l") rfl rfl .nil) (c6 ?_) cn (λ_ _ _ _ _=>(aM (i:=0) w8)) (λ_=>bx) bH (λ_ _ _ _ _=>?_) (λ_ _ _ _ _=>?_)))
 walk_at "pp"
theorem vW(F:bo K "clear_of" "clear_of" (top 53) dv f fd)(T:Txt K mg)(Nn:r_ P w K mg base ao 4 "Vault" 4 [.cy] bp)(Nk:jK P w K mg base ao 1 "levers" 1 (aw 1 bq))(N9:cV P w K mg base 6 "clear" 1 (aw 2 kQ)):aV P w K mg base (bX P w) 7 f fd ["sizes", "doings"] (dy 2 ia) :=
 F.eJ ["sizes", "doings", "cleared", "doing"] λnd _ _ _ _ _ _ hr O=>by
 unfold jU;walk_at "t"
 walk_at "pp"
 refine(bO (g:=(aH 3)) O rfl (c6 ?_) cn (aM (i:=3) nd) bx ?_)
 walk_at "pp"
theorem uS:((["dial"]:List Str)++(["rungs"]:List Str)).Nodup:=by decide +kernel
theorem z0(F:bo K "stills" "stills" (top 54) dv f fd)(T:Txt K mg)(Nq:r_ P w K mg base ay 4 "Rungs" 2 [] cK)(Nj:jK P w K mg base ao 1 "sizes" 1 (aw 1 aX))(NN:jK P w K mg base ay 6 "weights_at" 2 (aw 8 dj))(Nn:r_ P w K mg base ao 4 "Vault" 4 [.cy] bp)(N9:cV P w K mg base 6 "clear" 1 (aw 2 kQ)):aV P w K mg base (bX P w) 7 f fd ["vault"] (dy 1 e_) :=
 F.eJ ["vault", "rungs", "sizes"] λnd _ _ _ _ _ _ hr O=>by
 unfold kK;walk_at "t"
 walk_at "pp"
 refine(cH (bG (g:=(aH 0)) (ts:=["dial"]) (fs:=["rungs"]) (js:=[1]) rfl rfl rfl rfl rfl rfl (.cons rfl .nil) (.cons rfl rfl (by walk_at "l") rfl rfl .nil) (fG (by rfl) T.eY ?_) iu (λ_ _ _ _ _=>(aM (i:=0) uS)) (λ_=>bx) bH (λ_ _ _ _ _=>?_)))
 walk_at "pp"
theorem w9:((["lever"]:List Str)++(["gear"]:List Str)).Nodup:=by decide +kernel
theorem BG(F:bo K "image" "image" (top 59) dv f fd)(T:Txt K mg)(Nj:jK P w K mg base ao 1 "sizes" 1 (aw 1 aX))(Nr:cV P w K mg base 1 "need_same_sizes" 2 (aw 2 cp))(Nk:jK P w K mg base ao 1 "levers" 1 (aw 1 bq))(OR:jK P w K mg base bB 5 "led" 2 (aw 2 jN))(Nn:r_ P w K mg base ao 4 "Vault" 4 [.cy] bp)(N9:cV P w K mg base 6 "clear" 1 (aw 2 kQ)):aV P w K mg base (bX P w) 7 f fd ["gear", "vault"] (dy 2 oJ) :=
 F.eJ ["gear", "vault"] λnd _ _ _ _ _ _ hr O=>by
 unfold oZ;walk_at "t"
 walk_at "pp"
 refine(cH (bG (g:=(aH 0)) (ts:=["lever"]) (fs:=["gear"]) (js:=[0]) rfl rfl rfl rfl rfl rfl (.cons rfl .nil) (.cons rfl rfl (by walk_at "l") rfl rfl .nil) (c6 ?_) cn (λ_ _ _ _ _=>(aM (i:=0) w9)) (λ_=>bx) bH (λ_ _ _ _ _=>?_)))
 walk_at "pp"
theorem qQ:((["weights"]:List Str)++(["gear"]:List Str)).Nodup:=by decide +kernel
theorem vA(F:bo K "led_into" "led_into" (top 61) dv f fd)(T:Txt K mg)(Nj:jK P w K mg base ao 1 "sizes" 1 (aw 1 aX))(Nr:cV P w K mg base 1 "need_same_sizes" 2 (aw 2 cp))(Oz:cV P w K mg base 7 "stills" 1 (aw 3 kK))(Nk:jK P w K mg base ao 1 "levers" 1 (aw 1 bq))(NZ:cV P w K mg base 2 "weights_ahead" 2 (aw 8 dU))(Nn:r_ P w K mg base ao 4 "Vault" 4 [.cy] bp):aV P w K mg base (bX P w) 8 f fd ["gear", "vault"] (dy 2 fD) :=
 F.eJ ["gear", "vault", "ahead"] λnd _ _ _ _ _ _ hr O=>by
 unfold ij;walk_at "t"
 walk_at "pp"
 refine(jR (i:=2) (g:=(aH 0)) (ts:=["weights"]) (fs:=["gear"]) (js:=[0]) rfl rfl rfl rfl rfl rfl (.cons rfl .nil) (.cons rfl rfl (by walk_at "l") rfl rfl .nil) (c6 ?_) cn (λ_ _ _ _ _=>(aM (i:=0) qQ)) (λ_=>bx) bH (λ_ _ _ _ _=>?_) nd rfl (by walk_at "l"))
 walk_at "pp"
theorem vg(F:bo K "together" "together" (top 63) dv f fd)(T:Txt K mg)(Nj:jK P w K mg base ao 1 "sizes" 1 (aw 1 aX))(Nr:cV P w K mg base 1 "need_same_sizes" 2 (aw 2 cp))(Nk:jK P w K mg base ao 1 "levers" 1 (aw 1 bq))(OT:cV P w K mg base 7 "clear_of" 2 (aw 4 jU)):aV P w K mg base (bX P w) 8 f fd ["one", "other"] (dy 2 jO) :=
 F.eJ ["one", "other"] λnd _ _ _ _ _ _ hr O=>by
 unfold jH;walk_at "t"
 walk_at "pp"
theorem Ei(F:bo K "both" "both" (top 64) dv f fd)(T:Txt K mg)(Oz:cV P w K mg base 7 "stills" 1 (aw 3 kK))(OV:cV P w K mg base 8 "together" 2 (aw 2 jH)):aV P w K mg base (bX P w) 9 f fd ["one", "other"] (dy 2 uz) :=
 F.eJ ["one", "other"] λnd _ _ _ _ _ _ hr O=>by
 unfold tN;walk_at "t"
 walk_at "pp"
theorem ux(F:bo K "_law_does" "_law_does" (top 75) dv f fd)(T:Txt K mg)(NQ:jK P w K mg base ay 6 "pulls_to" 2 (aw 3 cY)):aV P w K mg base (bX P w) 7 f fd ["_law_rungs", "_law_setting_here"] (dy 2 da) :=
 F.eJ ["_law_rungs", "_law_setting_here"] λnd _ _ _ _ _ _ hr O=>by
 unfold eD;walk_at "t"
 walk_at "pp"
theorem q_(F:bo K "_law_image" "_law_image" (top 77) dv f fd)(T:Txt K mg)(Pq:cV P w K mg base 7 "image" 2 (aw 2 oZ))(Nn:r_ P w K mg base ao 4 "Vault" 4 [.cy] bp)(Nq:r_ P w K mg base ay 4 "Rungs" 2 [] cK)(Nk:jK P w K mg base ao 1 "levers" 1 (aw 1 bq))(NP:cV P w K mg base 7 "_law_does" 2 (aw 2 eD))(NX:cV P w K mg base 8 "led_into" 2 (aw 3 ij))(P4:cV P w K mg base 9 "both" 2 (aw 2 tN))(NT:cV P w K mg base 6 "together_count" 1 (aw 1 dJ)):aV P w K mg base (bX P w) 10 f fd ["_law_gear", "_law_vault", "_law_ends", "_law_rear"] (dy 4 gT) :=
 F.eJ ["_law_gear", "_law_vault", "_law_ends", "_law_rear", "_law_found", "_law_here", "_law_there", "_law_lever_here", "_law_end", "_law_meet"] λnd _ _ _ _ _ _ hr O=>by
 unfold gX;walk_at "t"
 walk_at "pp"
 refine(bO (g:=(aH 7)) O rfl (c6 ?_) cn (aM (i:=7) nd) bx ?_)
 walk_at "pp"
 refine(bO (g:=(aH 8)) O rfl (c6 ?_) cn (aM (i:=8) nd) bx ?_)
 walk_at "pp"
theorem AM:((["_law_lever_here"]:List Str)++(["_law_rear", "_law_teeth_here"]:List Str)).Nodup:=by decide +kernel
theorem Jd(F:bo K "law" "law" (top 78) dv f fd)(T:Txt K mg)(OE:cV P w K mg base 1 "_law_cell" 2 (aw 2 iG))(Oo:cV P w K mg base 2 "_law_sizes" 1 (aw 2 gI))(Oq:cV P w K mg base 2 "_law_teeth" 3 (aw 10 gK))(OD:r_ P w K mg base bB 6 "Gear" 4 [] lR)(Om:cV P w K mg base 2 "_law_lever" 2 (aw 7 gW))(OS:cV P w K mg base 1 "_law_led" 3 (aw 6 jL))(Nn:r_ P w K mg base ao 4 "Vault" 4 [.cy] bp)(Ol:cV P w K mg base 10 "_law_image" 4 (aw 10 gX))(NX:cV P w K mg base 8 "led_into" 2 (aw 3 ij))(Nq:r_ P w K mg base ay 4 "Rungs" 2 [] cK)(Nk:jK P w K mg base ao 1 "levers" 1 (aw 1 bq))(N5:cV P w K mg base 2 "_law_setting" 3 (aw 7 eZ))(NP:cV P w K mg base 7 "_law_does" 2 (aw 2 eD)):aV P w K mg base (bX P w) 11 f fd ["_law_script"] (dy 1 rP) :=
 F.eJ ["_law_script", "_law_front", "_law_rear", "_law_teeth_here", "_law_gear", "_law_levers", "_law_cell_here", "_law_some", "_law_ends", "_law_into", "_law_does_here", "_law_base", "_law_setting_here"] λnd _ _ _ _ _ _ hr O=>by
 unfold BD;walk_at "t"
 walk_at "pp"
 refine(EL (iL:=5) (iS:=7) (ic:=6) (t6 (i:=5) nd rfl (by walk_at "l") (p8 (dX (p8 jg) (dX (p8 jg) jg)))) (BM O.own rfl (c6 ?_) (aM (i:=6) nd) (jn (t6 (i:=7) nd rfl (by walk_at "l") (FZ Dr (jS (i:=5) rfl (by first | exact .inl rfl | exact .inr (.inl rfl))) ?_ (λ_ _=>rfl))) (jn (F5 (yK yI (mJ sG (by rfl) T.FO PySem.boot_len (dX (jS (i:=7) rfl (by first | exact .inl rfl | exact .inr (.inl rfl))) jg)) Cq (dE _)) (jn (tX (F4 PySem.F.plainAttrs_list PySem.F.slot_list_append PySem.F.type_list_append nI (jS (i:=7) rfl (by first | exact .inl rfl | exact .inr (.inl rfl))) (dX ?_ jg))) oV) oV) oV))) cn (by decide) (by decide) (by decide)   ?_)
 walk_at "pp"
 refine(rJ ?_ (oU ?_) (oU ?_))
 walk_at "pp"
 refine(jR (i:=8) (g:=(aH 0)) (ts:=["_law_lever_here"]) (fs:=["_law_rear", "_law_teeth_here"]) (js:=[2,3]) rfl rfl rfl rfl rfl rfl (.cons rfl (.cons rfl .nil)) (.cons rfl rfl (by walk_at "l") rfl rfl (.cons rfl rfl (by walk_at "l") rfl rfl .nil)) (c6 ?_) cn (λ_ _ _ _ _=>(aM (i:=0) AM)) (λ_=>bx) bH (λ_ _ _ _ _=>?_) nd rfl (by walk_at "l"))
 walk_at "pp"
 refine(bO (g:=(aH 6)) O rfl (c6 ?_) cn (aM (i:=6) nd) bx ?_)
 walk_at "pp"
 refine(rJ ?_ (oU ?_) (oU ?_))
 walk_at "pp"
end wC
namespace wC
open PySem L2 PyProof.Rows
open PySem.W (nsIn findIn codeIn keepIn isFn mroIn specialIn takesIn hasDictIn typeIn plainGet plainOver makesIn mg_of mg_none_of fnOf excIn clsIn)
abbrev κ(w:World):PySem.W.Frag:=HD.K w.params
variable(w:World)
abbrev DY:Value:=HD.st "dialvault.wholes" 418
abbrev zh:Value:=HD.st "dialvault.vault" 487
abbrev xF:Value:=HD.st "dialvault.rungs" 639
abbrev Gq:Value:=HD.st "dialvault.gears" 838
abbrev yZ:Value:=HD.st "law_dialvault_k56_whole_great_gears" 929
abbrev md5:Value:=HD.st "dialvault.papers" 631
abbrev M4:Value:=HD.st "dialvault.classes" 805
abbrev LX:Value:=HD.st "dialvault.stills" 814
abbrev MN:Value:=HD.st "dialvault.pairs" 911
abbrev K2:Value:=HD.st "dialvault.errors" 194
def jc:FuncData:=fnOf "__init__" "Vault.__init__" (iW (inClass (top 27) 0)) (eP (inClass (top 27) 0)) (bf (inClass (top 27) 0)) (.ref 263) .none .none zh none (.ref 267) .none
theorem mw:bo (κ w) "__init__" "Vault.__init__" (inClass (top 27) 0) (.ref 263) 268 jc:=.of (by kernel_rfl) (by kernel_rfl) (by kernel_rfl)
def jW:FuncData:=wH "__init__" "Gear.__init__" (inClass (top 56) 0) Gq 521
theorem vL:bo (κ w) "__init__" "Gear.__init__" (inClass (top 56) 0) .none 522 jW:=.of (by kernel_rfl) (by kernel_rfl) (by kernel_rfl)
theorem wA:Binds (κ w) jW ["self", "front", "rear", "teeth"] []:=Binds.all (Nf λ_ _ _ _=>rfl)
def je:FuncData:=wH "__init__" "Rungs.__init__" (inClass (top 48) 0) xF 432
theorem tP:bo (κ w) "__init__" "Rungs.__init__" (inClass (top 48) 0) .none 433 je:=.of (by kernel_rfl) (by kernel_rfl) (by kernel_rfl)
theorem t8:Binds (κ w) je ["self", "vault"] []:=Binds.all (Kq λ_ _=>rfl)
def xK:FuncData:=wH "law" "law" (top 78) yZ 659
theorem Ke:bo (κ w) "law" "law" (top 78) .none 660 xK:=.of (by kernel_rfl) (by kernel_rfl) (by kernel_rfl)
theorem sT:jb (κ w) kL:=⟨(by kernel_rfl),(by kernel_rfl),(by kernel_rfl),(by kernel_rfl),(by kernel_rfl),(by kernel_rfl),(by kernel_rfl),(by kernel_rfl),(by kernel_rfl)⟩
theorem wM:jb (κ w) kN:=⟨(by kernel_rfl),(by kernel_rfl),(by kernel_rfl),(by kernel_rfl),(by kernel_rfl),(by kernel_rfl),(by kernel_rfl),(by kernel_rfl),(by kernel_rfl)⟩
theorem z_:jb (κ w) pH:=⟨(by kernel_rfl),(by kernel_rfl),(by kernel_rfl),(by kernel_rfl),(by kernel_rfl),(by kernel_rfl),(by kernel_rfl),(by kernel_rfl),(by kernel_rfl)⟩
theorem rM:jb (κ w) gb:=⟨(by kernel_rfl),(by kernel_rfl),(by kernel_rfl),(by kernel_rfl),(by kernel_rfl),(by kernel_rfl),(by kernel_rfl),(by kernel_rfl),(by kernel_rfl)⟩
def iF:FuncData:=wH "__init__" "NoDial.__init__" (inClass (top 3) 0) K2 54
theorem Mu:(κ w).lookup 55=some ⟨.type "function", none,.func iF,⟨[]⟩⟩:=by kernel_rfl
theorem Mg:codeIn (κ w) (.ref 54) "NoDial.__init__" = true:=by kernel_rfl
theorem xB:Binds (κ w) iF ["self", "dial"] []:=Binds.all (Kq λ_ _=>rfl)
theorem xC:cL ["self", "dial"] ["self", "dial"] (bf (inClass (top 3) 0)):=.of
theorem Lw:((clsIn (κ w) 65).any λcd=>fX cd.mro)=true:=by kernel_rfl
theorem Ly:findIn (κ w) (.ref 65) "dial" = some none:=by kernel_rfl
theorem wW{P:Program}{w:World}{mg:Str->Option Value}{base:Heap}:aV P w (κ w) mg base (bX P w) 1 55 iF ["self", "dial"] (xi (κ w) gb "dial") :=
 mB (n0 := "self") (n1 := "dial") (fl := "dial") (Mu w) (Mg w) xC (rM w) (Lw w) (Ly w) (by first | exact .inl rfl | exact .inr (.inl rfl)) (by first | exact .inl rfl | exact .inr (.inl rfl)) (by decide) (by decide) (by decide) (by decide) (λ_=>rfl)
theorem rY:jb (κ w) kf:=⟨(by kernel_rfl),(by kernel_rfl),(by kernel_rfl),(by kernel_rfl),(by kernel_rfl),(by kernel_rfl),(by kernel_rfl),(by kernel_rfl),(by kernel_rfl)⟩
def iV:FuncData:=wH "__init__" "NoGear.__init__" (inClass (top 9) 0) K2 189
theorem L8:(κ w).lookup 190=some ⟨.type "function", none,.func iV,⟨[]⟩⟩:=by kernel_rfl
theorem Le:codeIn (κ w) (.ref 189) "NoGear.__init__" = true:=by kernel_rfl
theorem xQ:Binds (κ w) iV ["self", "dial"] []:=Binds.all (Kq λ_ _=>rfl)
theorem w_:cL ["self", "dial"] ["self", "dial"] (bf (inClass (top 9) 0)):=.of
theorem Mi:((clsIn (κ w) 200).any λcd=>fX cd.mro)=true:=by kernel_rfl
theorem L7:findIn (κ w) (.ref 200) "dial" = some none:=by kernel_rfl
theorem xv{P:Program}{w:World}{mg:Str->Option Value}{base:Heap}:aV P w (κ w) mg base (bX P w) 1 190 iV ["self", "dial"] (xi (κ w) kf "dial") :=
 mB (n0 := "self") (n1 := "dial") (fl := "dial") (L8 w) (Le w) w_ (rY w) (Mi w) (L7 w) (by first | exact .inl rfl | exact .inr (.inl rfl)) (by first | exact .inl rfl | exact .inr (.inl rfl)) (by decide) (by decide) (by decide) (by decide) (λ_=>rfl)
theorem pJ:jb (κ w) ju:=⟨(by kernel_rfl),(by kernel_rfl),(by kernel_rfl),(by kernel_rfl),(by kernel_rfl),(by kernel_rfl),(by kernel_rfl),(by kernel_rfl),(by kernel_rfl)⟩
def gE:FuncData:=wH "__init__" "NoLever.__init__" (inClass (top 4) 0) K2 80
theorem LJ:(κ w).lookup 81=some ⟨.type "function", none,.func gE,⟨[]⟩⟩:=by kernel_rfl
theorem L5:codeIn (κ w) (.ref 80) "NoLever.__init__" = true:=by kernel_rfl
theorem wm:Binds (κ w) gE ["self", "lever"] []:=Binds.all (Kq λ_ _=>rfl)
theorem v8:cL ["self", "lever"] ["self", "lever"] (bf (inClass (top 4) 0)):=.of
theorem Lu:((clsIn (κ w) 91).any λcd=>fX cd.mro)=true:=by kernel_rfl
theorem Mt:findIn (κ w) (.ref 91) "lever" = some none:=by kernel_rfl
theorem wu{P:Program}{w:World}{mg:Str->Option Value}{base:Heap}:aV P w (κ w) mg base (bX P w) 1 81 gE ["self", "lever"] (xi (κ w) ju "lever") :=
 mB (n0 := "self") (n1 := "lever") (fl := "lever") (LJ w) (L5 w) v8 (pJ w) (Lu w) (Mt w) (by first | exact .inl rfl | exact .inr (.inl rfl)) (by first | exact .inl rfl | exact .inr (.inl rfl)) (by decide) (by decide) (by decide) (by decide) (λ_=>rfl)
theorem qB:jb (κ w) hX:=⟨(by kernel_rfl),(by kernel_rfl),(by kernel_rfl),(by kernel_rfl),(by kernel_rfl),(by kernel_rfl),(by kernel_rfl),(by kernel_rfl),(by kernel_rfl)⟩
def g_:FuncData:=wH "__init__" "NoPrice.__init__" (inClass (top 5) 0) K2 106
theorem Lj:(κ w).lookup 107=some ⟨.type "function", none,.func g_,⟨[]⟩⟩:=by kernel_rfl
theorem LI:codeIn (κ w) (.ref 106) "NoPrice.__init__" = true:=by kernel_rfl
theorem vC:Binds (κ w) g_ ["self", "lever"] []:=Binds.all (Kq λ_ _=>rfl)
theorem u5:cL ["self", "lever"] ["self", "lever"] (bf (inClass (top 5) 0)):=.of
theorem LM:((clsIn (κ w) 117).any λcd=>fX cd.mro)=true:=by kernel_rfl
theorem Mx:findIn (κ w) (.ref 117) "lever" = some none:=by kernel_rfl
theorem vm{P:Program}{w:World}{mg:Str->Option Value}{base:Heap}:aV P w (κ w) mg base (bX P w) 1 107 g_ ["self", "lever"] (xi (κ w) hX "lever") :=
 mB (n0 := "self") (n1 := "lever") (fl := "lever") (Lj w) (LI w) u5 (qB w) (LM w) (Mx w) (by first | exact .inl rfl | exact .inr (.inl rfl)) (by first | exact .inl rfl | exact .inr (.inl rfl)) (by decide) (by decide) (by decide) (by decide) (λ_=>rfl)
theorem mE:lp (κ w) bB:=⟨(by kernel_rfl),(by kernel_rfl),(by kernel_rfl),(by kernel_rfl)⟩
theorem dS:lp (κ w) ay:=⟨(by kernel_rfl),(by kernel_rfl),(by kernel_rfl),(by kernel_rfl)⟩
theorem gc:lp (κ w) ao:=⟨(by kernel_rfl),(by kernel_rfl),(by kernel_rfl),(by kernel_rfl)⟩
theorem Kc:findIn (κ w) (.ref 532) "front_dials" = some none:=by kernel_rfl
theorem Ka:findIn (κ w) (.ref 532) "rear_dials" = some none:=by kernel_rfl
theorem JB:findIn (κ w) (.ref 532) "tooth_rows" = some none:=by kernel_rfl
theorem KJ:findIn (κ w) (.ref 482) "idle_rows" = some none:=by kernel_rfl
theorem J7:findIn (κ w) (.ref 482) "made_rows" = some none:=by kernel_rfl
theorem Kh:findIn (κ w) (.ref 482) "vault" = some none:=by kernel_rfl
theorem Kx:findIn (κ w) (.ref 299) "dial_sizes" = some none:=by kernel_rfl
theorem Jw:findIn (κ w) (.ref 299) "least_round" = some none:=by kernel_rfl
theorem Kb:findIn (κ w) (.ref 299) "lever_prices" = some none:=by kernel_rfl
theorem Ks:findIn (κ w) (.ref 299) "lever_settings" = some none:=by kernel_rfl
theorem MC:nsIn (κ w) mainGlobals "LEAST_PRICE" = some (some (.int 1 497)):=by kernel_rfl
theorem MD:nsIn (κ w) mainGlobals "LEAST_SIZE" = some (some (.int 2 491)):=by kernel_rfl
theorem Mj:nsIn (κ w) mainGlobals "MOST_DIALS" = some (some (.int 6 489)):=by kernel_rfl
theorem LH:nsIn (κ w) mainGlobals "MOST_LEVERS" = some (some (.int 8 495)):=by kernel_rfl
theorem Mf:nsIn (κ w) mainGlobals "MOST_PRICE" = some (some (.int 1000 499)):=by kernel_rfl
theorem Mp:nsIn (κ w) mainGlobals "MOST_SIZE" = some (some (.int 360 493)):=by kernel_rfl
theorem Lz:(κ w).lookup 263=some (HD.tu [.none]):=by kernel_rfl
theorem uv:Binds (κ w) jc ["self", "sizes", "levers", "prices"] [.none]:=(mw w).binds (Lz w) rfl λ_ _ _ _ _ _ us hl=>by obtain⟨a,b,c,rfl⟩:=MH (show _=3 from (by simpa using hl));exact⟨_,rfl,rfl⟩
variable{h:Heap}
theorem txt{w:World}{mg:Str->Option Value}(X:PySem.W.Frag.In (κ w) h)(G:h.Ns mainGlobals mg):Txt (κ w) mg where
 Kt:=mg_none_of X G (by kernel_rfl)
 Du:=mg_none_of X G (by kernel_rfl)
 bL:=mg_none_of X G (by kernel_rfl)
 FH:=mg_none_of X G (by kernel_rfl)
 eQ:=mg_none_of X G (by kernel_rfl)
 FO:=mg_none_of X G (by kernel_rfl)
 A0:=mg_none_of X G (by kernel_rfl)
 Br:=mg_none_of X G (by kernel_rfl)
 eY:=mg_none_of X G (by kernel_rfl)
 JZ:=mg_none_of X G (by kernel_rfl)
 tZ:=mg_none_of X G (by kernel_rfl)
 j5:=mg_none_of X G (by kernel_rfl)
 qL:=⟨_,mg_of X G (MC w),⟨_,rfl⟩⟩
 uD:=⟨_,mg_of X G (MD w),⟨_,rfl⟩⟩
 sV:=⟨_,mg_of X G (Mj w),⟨_,rfl⟩⟩
 qG:=⟨_,mg_of X G (LH w),⟨_,rfl⟩⟩
 tF:=⟨_,mg_of X G (Mf w),⟨_,rfl⟩⟩
 vM:=⟨_,mg_of X G (Mp w),⟨_,rfl⟩⟩
 t_:=mE w
 oX:=dS w
 mG:=gc w
 vU:=⟨(by kernel_rfl),sT w,(by kernel_rfl),(by kernel_rfl),mg_of X G (by kernel_rfl)⟩
 zW:=⟨(by kernel_rfl),wM w,(by kernel_rfl),(by kernel_rfl),mg_of X G (by kernel_rfl)⟩
 CF:=⟨(by kernel_rfl),z_ w,(by kernel_rfl),(by kernel_rfl),mg_of X G (by kernel_rfl)⟩
 iz:=(Kc w)
 i4:=(Ka w)
 iO:=(JB w)
 iM:=(KJ w)
 iY:=(J7 w)
 lH:=(Kh w)
 iq:=(Kx w)
 gD:=(Jw w)
 gv:=(Kb w)
 fc:=(Ks w)
 uj:=λC h=>by obtain rfl:=eq_of_beq h;exact⟨gc w,(Kx w)⟩
 qZ:=λC h=>by obtain rfl:=eq_of_beq h;exact⟨mE w,(Kc w)⟩
 vx:=λC h=>by obtain rfl:=eq_of_beq h;exact⟨dS w,(KJ w)⟩
 qM:=λC h=>by obtain rfl:=eq_of_beq h;exact⟨gc w,(Jw w)⟩
 qx:=λC h=>by obtain rfl:=eq_of_beq h;exact⟨gc w,(Kb w)⟩
 mZ:=λC h=>by obtain rfl:=eq_of_beq h;exact⟨gc w,(Ks w)⟩
 vE:=λC h=>by obtain rfl:=eq_of_beq h;exact⟨dS w,(J7 w)⟩
 tH:=λC h=>by obtain rfl:=eq_of_beq h;exact⟨mE w,(Ka w)⟩
 uG:=λC h=>by obtain rfl:=eq_of_beq h;exact⟨mE w,(JB w)⟩
 D7:=λC h=>by obtain rfl:=eq_of_beq h;exact⟨dS w,(Kh w)⟩
theorem G3{P:Program}{w:World}{mg:Str->Option Value}(X:PySem.W.Frag.In (κ w) h)(G:h.Ns mainGlobals mg)(base:Heap):aV P w (κ w) mg base (bX P w) 11 660 xK ["_law_script"] (dy 1 rP):=by
 have T:=txt X G
 have OA:oC P w (κ w) mg base gb "NoDial" "dial" := ⟨⟨55,iF,["self", "dial"],(by kernel_rfl),(by kernel_rfl),wW,xB w⟩,rM w,(by kernel_rfl),(by kernel_rfl),mg_of X G (by kernel_rfl)⟩
 have O8:oC P w (κ w) mg base kf "NoGear" "dial" := ⟨⟨190,iV,["self", "dial"],(by kernel_rfl),(by kernel_rfl),xv,xQ w⟩,rY w,(by kernel_rfl),(by kernel_rfl),mg_of X G (by kernel_rfl)⟩
 have O3:oC P w (κ w) mg base ju "NoLever" "lever" := ⟨⟨81,gE,["self", "lever"],(by kernel_rfl),(by kernel_rfl),wu,wm w⟩,pJ w,(by kernel_rfl),(by kernel_rfl),mg_of X G (by kernel_rfl)⟩
 have O4:oC P w (κ w) mg base hX "NoPrice" "lever" := ⟨⟨107,g_,["self", "lever"],(by kernel_rfl),(by kernel_rfl),vm,vC w⟩,qB w,(by kernel_rfl),(by kernel_rfl),mg_of X G (by kernel_rfl)⟩
 have NW:=gC P w base X G 209 208 DY λD=>uT D T
 have NR:=gC P w base X G 214 213 DY λD=>zd D T NW
 have Ot:=gC P w base X G 221 220 DY λD=>zT D T
 have Oe:=gC P w base X G 228 227 DY λD=>qq D T Ot
 have Oy:=gC P w base X G 235 234 DY λD=>qW D T
 have OW:=gC P w base X G 240 239 DY λD=>vF D T
 have O7:=gC P w base X G 245 244 DY λD=>zj D T
 have NG:=gC P w base X G 250 249 DY λD=>vV D T
 have OG:=gC P w base X G 255 254 DY λD=>sO D T O7 NG
 have NB:=gC P w base X G 310 309 zh λD=>tM D T NW
 have Ov:=gC P w base X G 317 316 zh λD=>qK D T OA NB
 have Nr:=gC P w base X G 324 323 zh λD=>lN D T
 have Of:=gC P w base X G 331 330 zh λD=>pW D T NR O3
 have Ox:=gC P w base X G 338 337 zh λD=>rB D T O4 NB
 have ON:=gC P w base X G 343 342 zh λD=>BQ D T
 have OM:=gC P w base X G 372 371 xF λD=>CH D T
 have NK:=gC P w base X G 379 378 xF λD=>qX D T OM ON
 have NC:=gC P w base X G 400 399 xF λD=>t9 D T
 have OU:=gC P w base X G 407 406 xF λD=>vk D T NC Ot NK
 have N_:=gC P w base X G 414 413 xF λD=>w6 D T NC NK
 have NV:=gC P w base X G 421 420 xF λD=>v5 D T OM
 have N6:=gC P w base X G 541 540 Gq λD=>oy D T NR
 have Ow:=gC P w base X G 548 547 Gq λD=>qH D T N6 O8
 have OE:=gC P w base X G 584 583 yZ λD=>uI D T
 have Nz:=gC P w base X G 591 590 yZ λD=>u7 D T
 have Nw:=gC P w base X G 598 597 yZ λD=>p9 D T
 have OF:=gC P w base X G 605 604 yZ λD=>tW D T
 have Oo:=gC P w base X G 610 609 yZ λD=>rj D T Nw Nz OF
 have Om:=gC P w base X G 617 616 yZ λD=>qO D T Nw Nz
 have N4:=gC P w base X G 624 623 yZ λD=>oG D T
 have Oq:=gC P w base X G 631 630 yZ λD=>qY D T Nz N4
 have OS:=gC P w base X G 636 635 yZ λD=>vO D T
 have N5:=gC P w base X G 648 647 yZ λD=>n8 D T Nw Nz
 have Nn:r_ P w (κ w) mg base ao 4 "Vault" 4 [.cy] bp:=⟨⟨268,jc,["self", "sizes", "levers", "prices"],[.none],[.cy],mg_of X G (by kernel_rfl),⟨(by kernel_rfl),(by kernel_rfl),(by kernel_rfl),(by kernel_rfl)⟩,uv w,(.cons rfl .nil),λ_=>(.cons .cy .nil),rC (mw w) T Ov Of ON Ox Oe⟩⟩
 have Nj:=Dx P w base (gc w) 275 274 zh λD=>pR D T
 have Nk:=Dx P w base (gc w) 282 281 zh λD=>oh D T
 have ND:=Dx P w base (gc w) 296 295 zh λD=>oE D T
 have Od:=Dx P w base (dS w) 438 437 xF λD=>pV D T Nj NC
 have Oj:=Dx P w base (dS w) 443 442 xF λD=>rn D T
 have Oc:=Dx P w base (dS w) 448 447 xF λD=>qh D T
 have OD:r_ P w (κ w) mg base bB 6 "Gear" 4 [] lR:=⟨⟨522,jW,["self", "front", "rear", "teeth"],[],[],mg_of X G (by kernel_rfl),⟨(by kernel_rfl),(by kernel_rfl),(by kernel_rfl),(by kernel_rfl)⟩,wA w,.nil,λ_=>.nil,tY (vL w) T Nn Ow⟩⟩
 have NS:=gC P w base X G 350 349 zh λD=>zz D T Nj
 have Ou:=gC P w base X G 355 354 zh λD=>rh D T Nj NR
 have Nu:=gC P w base X G 362 361 zh λD=>oI D T Ou
 have Pr:=gC P w base X G 367 366 md5 λD=>Cw D T Nu ND Nj NG
 have NY:=gC P w base X G 386 385 xF λD=>wx D T Nk
 have Og:=gC P w base X G 393 392 xF λD=>pd D T Nk OW
 have NZ:=gC P w base X G 558 557 Gq λD=>mQ D T Nj NG
 have Nq:r_ P w (κ w) mg base ay 4 "Rungs" 2 [] cK:=⟨⟨433,je,["self", "vault"],[],[],mg_of X G (by kernel_rfl),⟨(by kernel_rfl),(by kernel_rfl),(by kernel_rfl),(by kernel_rfl)⟩,t8 w,.nil,λ_=>.nil,qJ (tP w) T Nj NS NY Nk Og OU NV N_⟩⟩
 have NI:=Dx P w base (dS w) 462 461 xF λD=>kb D T Nu NY Nj N_
 have NQ:=Dx P w base (dS w) 474 473 xF λD=>me D T NI NS NV
 have NN:=Dx P w base (dS w) 479 478 xF λD=>lq D T Nj NB OA Od Pr ND
 have OR:=Dx P w base (mE w) 529 528 Gq λD=>uZ D T Nu Nj OG
 have NT:=gC P w base X G 493 492 M4 λD=>mq D T Nq Oc Oy
 have N9:=gC P w base X G 498 497 LX λD=>Bi D T NS Nq Oj Nj Nn
 have OT:=gC P w base X G 505 504 LX λD=>vW D T Nn Nk N9
 have Oz:=gC P w base X G 510 509 LX λD=>z0 D T Nq Nj NN Nn N9
 have Pq:=gC P w base X G 553 552 Gq λD=>BG D T Nj Nr Nk OR Nn N9
 have NX:=gC P w base X G 563 562 Gq λD=>vA D T Nj Nr Oz Nk NZ Nn
 have OV:=gC P w base X G 570 569 MN λD=>vg D T Nj Nr Nk OT
 have P4:=gC P w base X G 577 576 MN λD=>Ei D T Oz OV
 have NP:=gC P w base X G 643 642 yZ λD=>ux D T NQ
 have Ol:=gC P w base X G 655 654 yZ λD=>q_ D T Pq Nn Nq Nk NP NX P4 NT
 exact Jd (Ke w) T OE Oo Oq OD Om OS Nn Ol NX Nq Nk N5 NP
theorem Mn:yl (κ w)=true:=by kernel_rfl
theorem Ld:nsIn (κ w) mainGlobals "law" = some (some (.ref 660)):=by kernel_rfl
end wC
open PySem PySem.W
theorem wC.hold(said:PySem.Challenge.rw_dialvault_k56_whole_great_gears.wellSaid=true)(QE:∀ ns:List Int,ns.length<=63->(∀ i∈ns,Builtin.Int.intBits i<=1048576)->wC.rP [.j9 (ns.map L2.PV.int)]=L2.M.ok (.bl true)):PySem.Challenge.rw_dialvault_k56_whole_great_gears.Holds:=by
 refine holds_law said λsaid=>?_
 refine holds_open (q:=HD.vw) (loose:=HD.loose) (Xt:=HD.Xt) (XP:=XL HD.vw []) (Yf:=Hook.obs HD.hook) (Ya:=Hook.val HD.hook) (YP:=Hook.says HD.hook) HD.KP (Hook.of HD.hook) (Hook.keeps HD.hook) (λs e=>xl_of s (Bool.and_eq_true_iff.mp e).1) XL.keeps (by rfl) (by rfl) (by rfl) (λs e=>recFacts_of (Bool.and_eq_true_iff.mp e).2) (by rfl) said (by decide +kernel) ⟨rfl,rfl,rfl,rfl,rfl,by decide +kernel⟩ ?hw ?hc
 case hw=>w_witness2
 refine L2.xA (l:=PySem.Challenge.rw_dialvault_k56_whole_great_gears) (n:=63) (k:=11) (x := "_law_script") (K:=HD.K) (sem:=wC.rP) rfl (by decide) rfl ⟨rfl,by decide,by decide⟩ (λw h Y=>PySem.W.kIn_of Y) (λw=>wC.Mn w) (λw mg fa h X G hmg=>?_) QE
 have e:=hmg.symm.trans (PySem.W.mg_of X G (wC.Ld w))
 cases e
 exact⟨wC.xK,λs v=>.of_eq rfl,λbase X' G'=>wC.G3 X' G' base⟩
namespace Eu
theorem sd(a b:Int)(hb:b≠0):(a-a.fdiv b*b).natAbs<b.natAbs/\0<=(a-a.fdiv b*b)*b/\(0<=a*b->a.natAbs=(a.fdiv b).natAbs*b.natAbs+(a-a.fdiv b*b).natAbs):=by
 have pos:∀ (a b:Int),0<b->(a-a/b*b).natAbs<b.natAbs/\0<=(a-a/b*b)*b/\(0<=a*b->a.natAbs=(a/b).natAbs*b.natAbs+(a-a/b*b).natAbs):=by
  intro a b hb
  have e:a-a/b*b=a%b:=by
   have h:=Int.mul_ediv_add_emod a b
   rw[Int.mul_comm] at h
   omega
  have h0:=Int.emod_nonneg a (by omega:b≠0)
  have h1:=Int.emod_lt_of_pos a hb
  rw[e]
  refine⟨by omega,Int.mul_nonneg h0 (by omega),λhab=>?_⟩
  have ha:0<=a:=by
   rcases Int.lt_or_le a 0 with h | h
   ·have:=Int.mul_neg_of_neg_of_pos h hb
    omega
   ·exact h
  have hq:0<=a/b:=Int.ediv_nonneg ha (by omega)
  have h2:=Int.mul_ediv_add_emod a b
  have h3:((a/b).natAbs*b.natAbs:Nat)=(b*(a/b)).natAbs:=by
   rw[Int.natAbs_mul,Nat.mul_comm]
  rw[h3]
  have h4:0<=b*(a/b):=Int.mul_nonneg (by omega) hq
  omega
 rcases Int.lt_or_le 0 b with h | h
 ·rw[Int.fdiv_eq_ediv_of_nonneg a (by omega)]
  exact pos a b h
 ·have h':0 < -b:=by omega
  have e:a.fdiv b=(-a)/(-b):=by
   rw[← Int.fdiv_eq_ediv_of_nonneg (-a) (by omega:0<=-b),Int.neg_fdiv_neg]
  obtain⟨p1,p2,p3⟩:=pos (-a) (-b) h'
  have e2:-a-(-a)/(-b)*(-b)=-(a-a.fdiv b*b):=by
   rw[← e,Int.mul_neg]
   omega
  rw[e2] at p1 p2 p3
  rw[← e] at p3
  simp only[Int.natAbs_neg,Int.neg_mul_neg] at p1 p2 p3
  exact⟨p1,p2,p3⟩
structure St (a b:Int) (r s t r' s' t':Int):Prop where
 c0:r=s*a+t*b
 c1:r'=s'*a+t'*b
 dv:∀ d:Int,d∣r->d∣r'->d∣a/\d∣b
 bd:s'.natAbs*r.natAbs+s.natAbs*r'.natAbs<=b.natAbs
 sg:s'=0\/0<=r*r'
 b0:s.natAbs<=b.natAbs+1
 b1:s'.natAbs<=b.natAbs+1
 d0:t.natAbs<=a.natAbs+(b.natAbs+1)*a.natAbs+b.natAbs+1
 d1:t'.natAbs<=a.natAbs+(b.natAbs+1)*a.natAbs+b.natAbs+1
 m0:r.natAbs<=a.natAbs+b.natAbs
 m1:r'.natAbs<=b.natAbs
theorem start(a b:Int):St a b a 1 0 b 0 1 where
 c0:=by omega
 c1:=by omega
 dv:=λd h1 h2=>⟨h1,h2⟩
 bd:=by simp
 sg:=.inl rfl
 b0:=by omega
 b1:=by omega
 d0:=by simp
 d1:=by omega
 m0:=by omega
 m1:=by omega
theorem turn{a b r s t r' s' t':Int}(h:St a b r s t r' s' t')(h0:r'≠0) :
  St a b r' s' t' (r-r.fdiv r'*r') (s-r.fdiv r'*s') (t-r.fdiv r'*t')/\(r-r.fdiv r'*r').natAbs<r'.natAbs:=by
 obtain⟨f1,f2,f3⟩:=sd r r' h0
 generalize hq:r.fdiv r'=q at *
 have hb:b≠0:=by
  intro z
  have:=h.m1
  omega
 have hr':1<=r'.natAbs:=by omega
 have QR:r-q*r'=(s-q*s')*a+(t-q*t')*b:=by
  rw[h.c0,h.c1,Int.sub_mul,Int.sub_mul,Int.mul_add,Int.mul_assoc,Int.mul_assoc]
  omega
 have bd':(s-q*s').natAbs*r'.natAbs+s'.natAbs*(r-q*r').natAbs<=b.natAbs:=by
  have uM:(s-q*s').natAbs<=s.natAbs+q.natAbs*s'.natAbs:=by
   rw[← Int.natAbs_mul]
   omega
  have hbd:=h.bd
  rcases h.sg with z | z
  ·subst z
   simp only[Int.mul_zero,Int.sub_zero,Int.natAbs_zero,Nat.zero_mul,Nat.zero_add,Nat.add_zero] at hbd ⊢
   exact hbd
  ·have e:=f3 z
   have k1:(s-q*s').natAbs*r'.natAbs<=(s.natAbs+q.natAbs*s'.natAbs)*r'.natAbs:=Nat.mul_le_mul_right _ uM
   have k2:(s.natAbs+q.natAbs*s'.natAbs)*r'.natAbs+s'.natAbs*(r-q*r').natAbs=s'.natAbs*r.natAbs+s.natAbs*r'.natAbs:=by
    rw[e,Nat.add_mul,Nat.mul_add,Nat.mul_comm q.natAbs s'.natAbs,Nat.mul_assoc]
    omega
   omega
 have b1':(s-q*s').natAbs<=b.natAbs:=by
  have:(s-q*s').natAbs*1<=(s-q*s').natAbs*r'.natAbs:=Nat.mul_le_mul_left _ hr'
  omega
 have mm:(r-q*r').natAbs<=b.natAbs:=by
  have:=h.m1
  omega
 have d1':(t-q*t').natAbs<=a.natAbs+(b.natAbs+1)*a.natAbs+b.natAbs+1:=by
  have e:(t-q*t')*b=(r-q*r')-(s-q*s')*a:=by omega
  have e1:((t-q*t')*b).natAbs<=(r-q*r').natAbs+((s-q*s')*a).natAbs:=by omega
  rw[Int.natAbs_mul,Int.natAbs_mul] at e1
  have k1:(t-q*t').natAbs*1<=(t-q*t').natAbs*b.natAbs:=Nat.mul_le_mul_left _ (by omega)
  have k2:(s-q*s').natAbs*a.natAbs<=(b.natAbs+1)*a.natAbs:=Nat.mul_le_mul_right _ (by omega)
  omega
 refine⟨⟨h.c1,QR,λd e1 e2=>?_,bd',?_,h.b1,by omega,h.d1,d1',?_,mm⟩,f1⟩
 ·refine h.dv d ?_ e1
  have e3:d∣q*r':=Int.dvd_trans e1 (Int.dvd_mul_left _ _)
  have e4:=Int.dvd_add e2 e3
  rwa [Int.sub_add_cancel] at e4
 ·exact .inr (by rw[Int.mul_comm];exact f2)
 ·have:=h.m1
  omega
theorem done{a b r s t s' t':Int}(h:St a b r s t 0 s' t'):r∣a/\r∣b:=h.dv r (Int.dvd_refl r) (Int.dvd_zero r)
end Eu
namespace Lc
def CL(ns:List Nat):Nat:=ns.foldl Nat.lcm 1
theorem yf:∀ (ns:List Nat) (m:Nat),m∣ns.foldl Nat.lcm m/\(∀ n∈ns,n∣ns.foldl Nat.lcm m)/\(∀ k,m∣k->(∀ n∈ns,n∣k)->ns.foldl Nat.lcm m∣k)
 | [],m=>⟨Nat.dvd_refl m,(λ_ h=>nomatch h),λk h _=>h⟩
 | n::ns,m=>by
  obtain⟨h1,h2,h3⟩:=yf ns (Nat.lcm m n)
  refine⟨Nat.dvd_trans (Nat.dvd_lcm_left m n) h1,λx hx=>?_,λk hm hk=>?_⟩
  ·rcases List.mem_cons.mp hx with e | hx
   ·rw[e];exact Nat.dvd_trans (Nat.dvd_lcm_right m n) h1
   ·exact h2 x hx
  ·exact h3 k (Nat.lcm_dvd hm (hk n List.mem_cons_self)) λx hx=>hk x (List.mem_cons_of_mem _ hx)
variable{ns:List Nat}
theorem lcm_dvd{n:Nat}(h:n∈ns):n∣CL ns:=(yf ns 1).2.1 n h
theorem nX:∀ (ns:List Nat) (m:Nat),0<m->(∀ n∈ns,0<n)->0<ns.foldl Nat.lcm m
 | [],m,h,_=>h
 | n::ns,m,h,hp=>nX ns (Nat.lcm m n) (Nat.lcm_pos h (hp n List.mem_cons_self)) λx hx=>hp x (List.mem_cons_of_mem _ hx)
theorem lcm_pos(h:∀ n∈ns,0<n):0<CL ns:=nX ns 1 (by decide) h
theorem pM(B:Nat):∀ (ns:List Nat) (m k:Nat),0<m->m<=2^k->(∀ n∈ns,0<n/\n<=2^B)->ns.foldl Nat.lcm m<=2^(k+B*ns.length)
 | [],m,k,_,h,_=>by simpa using h
 | n::ns,m,k,h0,h,hp=>by
  have hn:=hp n List.mem_cons_self
  have h1:Nat.lcm m n<=2^(k+B):=by
   have:Nat.lcm m n<=m*n:=Nat.le_of_dvd (Nat.mul_pos h0 hn.1) (Nat.lcm_dvd (Nat.dvd_mul_right m n) (Nat.dvd_mul_left n m))
   rw[Nat.pow_add]
   exact Nat.le_trans this (Nat.mul_le_mul h hn.2)
  have h2:=pM B ns (Nat.lcm m n) (k+B) (Nat.lcm_pos h0 hn.1) h1 λx hx=>hp x (List.mem_cons_of_mem _ hx)
  have e:k+B*(n::ns).length=k+B+B*ns.length:=by
   rw[List.length_cons,Nat.mul_succ];omega
  rw[e]
  exact h2
theorem Cn(m n:Nat):m/Nat.gcd m n*n=Nat.lcm m n:=by
 unfold Nat.lcm
 rw[Nat.div_mul_right_comm (Nat.gcd_dvd_left m n)]
end Lc
namespace Rg
abbrev bS:=Nat->Int
def aY(s:bS)(D:Nat->bS)(d:Nat):Int:=if D d d=0 then s d else D d d
def G(n:Nat)(s:bS)(D:Nat->bS):Nat->Nat->bS->Prop
 | 0,_,v=>∀ i,i<n->s i∣v i
 | k+1,d,v=>aY s D d∣v d/\G n s D k (d+1) λi=>v i-v d/aY s D d*D d i
def U(i:Nat)(c:Int):bS:=λj=>if j=i then c else 0
variable{D:Nat->bS}{s:bS}{n:Nat}
theorem G.ext:∀ {k d:Nat} {v w:bS},d+k=n->(∀ i,i<n->v i=w i)->G n s D k d v->G n s D k d w
 | 0,d,v,w,_,e,h=>λi hi=>by rw[← e i hi];exact h i hi
 | k+1,d,v,w,hn,e,h=>by
  have ed:=e d (by omega)
  refine⟨by rw[← ed];exact h.1,G.ext (by omega) (λi hi=>?_) h.2⟩
  rw[e i hi,ed]
theorem G.add:∀ {k d:Nat} {v w:bS},d+k=n->G n s D k d v->G n s D k d w->G n s D k d λi=>v i+w i
 | 0,d,v,w,_,h,h'=>λi hi=>Int.dvd_add (h i hi) (h' i hi)
 | k+1,d,v,w,hn,h,h'=>by
  refine⟨Int.dvd_add h.1 h'.1,G.ext (by omega) (λi hi=>?_) (G.add (by omega) h.2 h'.2)⟩
  show _=v i+w i-(v d+w d)/aY s D d*D d i
  rw[Int.add_ediv_of_dvd_left h.1,Int.add_mul]
  omega
theorem G.mul(c:Int):∀ {k d:Nat} {v:bS},d+k=n->G n s D k d v->G n s D k d λi=>c*v i
 | 0,d,v,_,h=>λi hi=>Int.dvd_trans (h i hi) (Int.dvd_mul_left _ _)
 | k+1,d,v,hn,h=>by
  refine⟨Int.dvd_trans h.1 (Int.dvd_mul_left _ _),G.ext (by omega) (λi hi=>?_) (G.mul c (by omega) h.2)⟩
  show _=c*v i-c*v d/aY s D d*D d i
  rw[Int.mul_ediv_assoc c h.1,Int.mul_sub,Int.mul_assoc]
theorem G.zero:∀ {k d:Nat},d+k=n->G n s D k d λ_=>0
 | 0,d,_=>λi _=>Int.dvd_zero _
 | k+1,d,hn=>⟨Int.dvd_zero _,G.ext (by omega) (λi hi=>by simp) (G.zero (k:=k) (d:=d+1) (by omega))⟩
theorem G.skip{v:bS}:∀ {j k d:Nat},d+(j+k)=n->(∀ i,d<=i->i<d+j->v i=0)->G n s D k (d+j) v->G n s D (j+k) d v
 | 0,k,d,_,_,h=>by rw[Nat.zero_add];exact h
 | j+1,k,d,hn,hz,h=>by
  rw[show j+1+k=(j+k)+1 by omega]
  have z:=hz d (Nat.le_refl _) (by omega)
  refine⟨by rw[z];exact Int.dvd_zero _,G.ext (v:=v) (by omega) (λi hi=>by rw[z];simp) (G.skip (by omega) (λi h1 h2=>hz i (by omega) (by omega)) (by rw[show d+1+j=d+(j+1) by omega];exact h))⟩
structure Good (n:Nat) (s:bS) (D:Nat->bS):Prop where
 sp:∀ i,i<n->0<s i
 kd:∀ d,d<n->∀ i,i<n->0<=D d i/\D d i<s i
 uM:∀ d,d<n->∀ i,i<d->D d i=0
 dv:∀ d,d<n->aY s D d∣s d
 JS:∀ d k,d+(k+1)=n->G n s D k (d+1) λi=>s d/aY s D d*D d i
variable{d:Nat}
variable{v:bS}{k:Nat}
theorem Good.pos(g:Good n s D)(h:d<n):0<aY s D d/\aY s D d<=s d:=by
 have h1:=g.kd d h d h
 have h2:=g.sp d h
 unfold aY
 split <;> omega
theorem Good.diag(g:Good n s D)(h:d<n):s d∣D d d-aY s D d:=by
 unfold aY
 split
 ·rename_i z;rw[z];exact⟨-1,by omega⟩
 ·rw[Int.sub_self];exact Int.dvd_zero _
theorem Good.turn(g:Good n s D):∀ {k d i:Nat} (c:Int),d+k=n->i<n->G n s D k d (U i (c*s i))
 | 0,d,i,c,_,hi=>λj hj=>by
  unfold U
  split
  ·rename_i z;rw[z];exact Int.dvd_mul_left _ _
  ·exact Int.dvd_zero _
 | k+1,d,i,c,hn,hi=>by
  have hd:d<n:=by omega
  by_cases z:i=d
  ·subst z
   have dv:=g.dv i hi
   refine⟨by show _∣U i _ i;rw[U,if_pos rfl];exact Int.dvd_trans dv (Int.dvd_mul_left _ _),?_⟩
   refine G.ext (by omega) (λj hj=>?_) (G.add (by omega) (g.turn (k:=k) (d:=i+1) (i:=i) c (by omega) hi) (G.mul (-c) (by omega) (g.JS i k hn)))
   show U i (c*s i) j+-c*(s i/aY s D i*D i j)=U i (c*s i) j-U i (c*s i) i/aY s D i*D i j
   rw[show U i (c*s i) i=c*s i by rw[U,if_pos rfl],Int.mul_ediv_assoc c dv,Int.neg_mul,Int.mul_assoc]
   omega
  ·have u0:U i (c*s i) d=0:=by rw[U,if_neg (Ne.symm z)]
   refine⟨by rw[u0];exact Int.dvd_zero _,G.ext (by omega) (λj hj=>?_) (g.turn (k:=k) (d:=d+1) (i:=i) c (by omega) hi)⟩
   rw[u0];simp
theorem G.lj{w:bS}(ht:∀ i c,i<n->G n s D k d (U i (c*s i)))(hn:d+k=n)(h:∀ i,i<n->s i∣w i-v i)(hv:G n s D k d v):G n s D k d w:=by
 have key:∀ m,m<=n->G n s D k d λi=>if i<m then w i else v i:=by
  intro m
  induction m with
  | zero=>intro _;exact G.ext hn (λi _=>by simp) hv
  | succ m ih =>
   intro hm
   obtain⟨c,hc⟩:=h m (by omega)
   refine G.ext hn (λi hi=>?_) (G.add hn (ih (by omega)) (ht m c (by omega)))
   show (if i<m then w i else v i)+U m (c*s m) i=if i<m+1 then w i else v i
   unfold U
   by_cases z:i=m
   ·subst z
    rw[if_neg (by omega),if_pos rfl,if_pos (by omega),Int.mul_comm c]
    omega
   ·rw[if_neg z]
    by_cases q:i<m
    ·rw[if_pos q,if_pos (by omega)];omega
    ·rw[if_neg q,if_neg (by omega)];omega
 exact G.ext hn (λi hi=>by simp[hi]) (key n (Nat.le_refl _))
theorem Good.lj(g:Good n s D){k d:Nat}{v w:bS}(hn:d+k=n)(h:∀ i,i<n->s i∣w i-v i)(hv:G n s D k d v):G n s D k d w :=
 G.lj (λi c hi=>g.turn c hn hi) hn h hv
theorem Good.sub(g:Good n s D){w:bS}(hn:d+k=n)(hv:G n s D k d v)(hw:G n s D k d w):G n s D k d λi=>v i-w i :=
 G.ext hn (λi _=>by omega) (G.add hn hv (G.mul (-1) hn hw))
theorem Good.own(g:Good n s D)(hn:d+(k+1)=n):G n s D (k+1) d (D d):=by
 have hd:d<n:=by omega
 by_cases z:D d d=0
 ·have e:aY s D d=s d:=by unfold aY;rw[if_pos z]
  have c:=g.JS d k hn
  rw[e] at c
  refine⟨by rw[z];exact Int.dvd_zero _,G.ext (by omega) (λi hi=>?_) c⟩
  rw[z,Int.ediv_self (by have:=g.sp d hd;omega)]
  simp
 ·have e:aY s D d=D d d:=by unfold aY;rw[if_neg z]
  refine⟨by rw[e];exact Int.dvd_refl _,G.ext (by omega) (λi hi=>?_) (G.zero (k:=k) (d:=d+1) (by omega))⟩
  rw[e,Int.ediv_self z];omega
theorem Good.row(g:Good n s D)(hd:d<n):∀ {k e:Nat},e+k=n->e<=d->G n s D k e (D d):=by
 intro k e hn he
 have h:=g.own (d:=d) (k:=n-d-1) (by omega)
 have:=G.skip (n:=n) (s:=s) (D:=D) (v:=D d) (j:=d-e) (k:=n-d-1+1) (d:=e) (by omega) (λi h1 h2=>g.uM d hd i (by omega)) (by rw[show e+(d-e)=d by omega];exact h)
 rw[show d-e+(n-d-1+1)=k by omega] at this
 exact this
structure Tk (n:Nat) (s:bS) (D D' L:Nat->bS) (u v g:Nat->Int):Prop where
 gp:∀ d,d<n->0<g d
 bz:∀ d,d<n->u d*aY s D d+v d*L d d=g d
 g1:∀ d,d<n->g d∣aY s D d
 g2:∀ d,d<n->g d∣L d d
 JU:∀ d,d<n->∀ i,i<n->D' d i=(u d*D d i+v d*L d i)%s i
 Kj:∀ d,d<n->∀ i,i<n->L (d+1) i=(aY s D d/g d*L d i+-(L d d/g d)*D d i)%s i
 l0:∀ i,i<n->0<=L 0 i/\L 0 i<s i
variable{a b:Int}
section
variable{D' L:Nat->bS}{u v g:Nat->Int}
theorem cG(a b:Int):b∣a%b-a:=⟨-(a/b),by have:=Int.emod_def a b;rw[Int.mul_neg];omega⟩
theorem nG(a b:Int):b∣a-a%b:=⟨a/b,by have:=Int.emod_def a b;omega⟩
theorem Tk.kept(t:Tk n s D D' L u v g)(G:Good n s D):∀ d,d<=n->∀ i,i<n->0<=L d i/\L d i<s i:=by
 intro d hd i hi
 cases d with
 | zero=>exact t.l0 i hi
 | succ d =>
  rw[t.Kj d (by omega) i hi]
  have:=G.sp i hi
  exact⟨Int.emod_nonneg _ (by omega),Int.emod_lt_of_pos _ this⟩
theorem jz(h0:0<=a)(h1:a<b)(h:b∣a):a=0:=by
 obtain⟨c,rfl⟩:=h
 rcases Int.lt_or_le 0 c with hc | hc
 ·have:b*1<=b*c:=Int.mul_le_mul_of_nonneg_left hc (by omega)
  omega
 ·have:b*c<=0:=Int.mul_nonpos_of_nonneg_of_nonpos (by omega) hc
  omega
theorem Tk.zero(t:Tk n s D D' L u v g)(G:Good n s D):∀ d,d<=n->∀ i,i<d->L d i=0:=by
 intro d
 induction d with
 | zero=>intro _ i hi;omega
 | succ d ih =>
  intro hd i hi
  have Qr:d<n:=by omega
  have k:=t.kept G (d+1) hd i (by omega)
  refine jz k.1 k.2 ?_
  rw[t.Kj d Qr i (by omega)]
  rcases Nat.lt_or_ge i d with h | h
  ·rw[ih (by omega) i h,G.uM d Qr i h]
   simp
  ·obtain rfl:i=d:=by omega
   refine Int.dvd_trans ?_ (Int.dvd_refl _)
   obtain⟨c,hc⟩:=G.diag Qr
   obtain⟨a,ha⟩:=t.g1 i Qr
   obtain⟨b,hb⟩:=t.g2 i Qr
   have gp:=t.gp i Qr
   have e1:aY s D i/g i=a:=by rw[ha];exact Int.mul_ediv_cancel_left a (by omega)
   have e2:L i i/g i=b:=by rw[hb];exact Int.mul_ediv_cancel_left b (by omega)
   rw[e1,e2]
   have e3:a*L i i+-b*D i i=s i*(-b*c):=by
    have:D i i=aY s D i+s i*c:=by omega
    rw[this,ha,hb];grind
   rw[e3,Int.mul_emod_right]
   exact Int.dvd_zero _
theorem Tk.step(t:Tk n s D D' L u v g)(G:Good n s D)(hd:d<n):aY s D' d=g d:=by
 obtain⟨c,hc⟩:=G.diag hd
 have gp:=t.gp d hd
 have sp:=G.sp d hd
 have st:=G.pos hd
 have le:g d<=aY s D d:=Int.le_of_dvd st.1 (t.g1 d hd)
 have e:D' d d=g d%s d:=by
  rw[t.JU d hd d hd,← t.bz d hd]
  have:D d d=aY s D d+s d*c:=by omega
  rw[this,show u d*(aY s D d+s d*c)+v d*L d d=(u d*aY s D d+v d*L d d)+s d*(u d*c) by grind,Int.add_mul_emod_self_left]
 unfold aY
 rw[e]
 by_cases z:g d=s d
 ·rw[z,Int.emod_self,if_pos rfl]
 ·rw[Int.emod_eq_of_lt (by omega) (by omega),if_neg (by omega)]
theorem Tk.main(t:Tk n s D D' L u v g)(Gd:Good n s D):∀ k d,d+k=n->(∀ w,G n s D k d w->G n s D' k d w)/\G n s D' k d (L d)
 | 0,d,hn=>by
  refine⟨λw h=>h,λi hi=>?_⟩
  rw[t.zero Gd d (by omega) i (by omega)];exact Int.dvd_zero _
 | k+1,d,hn=>by
  obtain⟨i1,i2⟩:=t.main Gd k (d+1) (by omega)
  have hd:d<n:=by omega
  have turn:∀ i c,i<n->G n s D' k (d+1) (U i (c*s i)):=λi c hi=>i1 _ (Gd.turn c (by omega) hi)
  have st:=t.step Gd hd
  have gp:=t.gp d hd
  obtain⟨a,ha⟩:=t.g1 d hd
  obtain⟨b,hb⟩:=t.g2 d hd
  have e1:aY s D d/g d=a:=by rw[ha];exact Int.mul_ediv_cancel_left a (by omega)
  have e2:L d d/g d=b:=by rw[hb];exact Int.mul_ediv_cancel_left b (by omega)
  have bz:u d*a+v d*b=1:=by
   have:=t.bz d hd
   rw[ha,hb,show u d*(g d*a)+v d*(g d*b)=g d*(u d*a+v d*b) by grind] at this
   have h2:g d*(u d*a+v d*b)=g d*1:=by omega
   exact Int.eq_of_mul_eq_mul_left (by omega) h2
  have w1:∀ i,i<n->∃ c,D' d i=u d*D d i+v d*L d i+s i*c:=λi hi=>by
   obtain⟨c,hc⟩:=cG (u d*D d i+v d*L d i) (s i)
   exact⟨c,by rw[t.JU d hd i hi];omega⟩
  have w2:∀ i,i<n->∃ c,L (d+1) i=a*L d i+-b*D d i+s i*c:=λi hi=>by
   obtain⟨c,hc⟩:=cG (a*L d i+-b*D d i) (s i)
   exact⟨c,by rw[t.Kj d hd i hi,e1,e2];omega⟩
  constructor
  ·intro w h
   obtain⟨h1,h2⟩:=h
   refine⟨by rw[st];exact Int.dvd_trans (t.g1 d hd) h1,?_⟩
   obtain⟨q,hq⟩:=h1
   have sp:=(Gd.pos hd).1
   have q1:w d/aY s D d=q:=by rw[hq];exact Int.mul_ediv_cancel_left q (by omega)
   have q2:w d/aY s D' d=q*a:=by
    rw[st,hq,ha,show g d*a*q=g d*(q*a) by grind];exact Int.mul_ediv_cancel_left _ (by omega)
   rw[q2]
   rw[q1] at h2
   refine G.lj turn (by omega) (λi hi=>?_) (G.add (by omega) (i1 _ h2) (G.mul (q*-(v d)) (by omega) i2))
   obtain⟨c1,hc1⟩:=w1 i hi
   obtain⟨c2,Qf⟩:=w2 i hi
   refine⟨q*(v d*c2-a*c1),?_⟩
   rw[hc1,Qf];grind
  ·refine⟨by rw[st];exact t.g2 d hd,?_⟩
   rw[st,e2]
   refine G.lj turn (by omega) (λi hi=>?_) (G.mul (u d) (by omega) i2)
   obtain⟨c1,hc1⟩:=w1 i hi
   obtain⟨c2,Qf⟩:=w2 i hi
   refine⟨-(b*c1)-u d*c2,?_⟩
   rw[hc1,Qf];grind
theorem Tk.good(t:Tk n s D D' L u v g)(Gd:Good n s D):Good n s D' where
 sp:=Gd.sp
 kd:=λd hd i hi=>by
  rw[t.JU d hd i hi]
  have:=Gd.sp i hi
  exact⟨Int.emod_nonneg _ (by omega),Int.emod_lt_of_pos _ this⟩
 uM:=λd hd i hi=>by
  rw[t.JU d hd i (by omega),Gd.uM d hd i hi,t.zero Gd d (by omega) i hi];simp
 dv:=λd hd=>by
  rw[t.step Gd hd];exact Int.dvd_trans (t.g1 d hd) (Gd.dv d hd)
 JS:=λd k hn=>by
  have hd:d<n:=by omega
  have h1:=(t.main Gd (k+1) d hn).1 _ (Gd.turn (i:=d) 1 hn hd)
  have h2:=(t.main Gd k (d+1) (by omega)).1 _ (Gd.turn (i:=d) 1 (by omega) hd)
  have h3:=h1.2
  have ud:U d (1*s d) d=s d:=by rw[U,if_pos rfl,Int.one_mul]
  rw[ud] at h3
  refine G.ext (by omega) (λi hi=>?_) (G.add (by omega) h2 (G.mul (-1) (by omega) h3))
  show U d (1*s d) i+-1*(U d (1*s d) i-s d/aY s D' d*D' d i)=_
  omega
end
variable{W:Nat->bS}
variable{i:Nat}
section
variable{D':Nat->bS}
theorem Good.Fn(Gd:Good n s D)(kd:∀ d,d<n->∀ i,i<n->0<=D' d i/\D' d i<s i)(uM:∀ d,d<n->∀ i,i<d->D' d i=0)(dv:∀ d,d<n->aY s D' d∣s d)
  (h:∀ k d,d+k=n->∀ w,G n s D k d w->G n s D' k d w):Good n s D' where
 sp:=Gd.sp
 kd:=kd
 uM:=uM
 dv:=dv
 JS:=λd k hn=>by
  have hd:d<n:=by omega
  have h1:=h (k+1) d hn _ (Gd.turn (i:=d) 1 hn hd)
  have h2:=h k (d+1) (by omega) _ (Gd.turn (i:=d) 1 (by omega) hd)
  have h3:=h1.2
  have ud:U d (1*s d) d=s d:=by rw[U,if_pos rfl,Int.one_mul]
  rw[ud] at h3
  refine G.ext (by omega) (λi hi=>?_) (G.add (by omega) h2 (G.mul (-1) (by omega) h3))
  show U d (1*s d) i+-1*(U d (1*s d) i-s d/aY s D' d*D' d i)=_
  omega
structure Dn (n:Nat) (s:bS) (D:Nat->bS) (f:Nat) (W:Nat->bS):Prop where
 w0:∀ i,i<n->0<=W f i/\W f i<s i
 ws:∀ d,f<=d->d<n->∀ i,i<n->W (d+1) i=(1*W d i+-(W d d/aY s D d)*D d i)%s i
variable{f:Nat}
theorem Dn.kept(h:Dn n s D f W)(Gd:Good n s D):∀ d,f<=d->d<=n->∀ i,i<n->0<=W d i/\W d i<s i:=by
 intro d hf hd i hi
 rcases Nat.lt_or_ge f d with q | q
 ·obtain⟨e,rfl⟩:∃ e,d=e+1:=⟨d-1,by omega⟩
  rw[h.ws e (by omega) (by omega) i hi]
  have:=Gd.sp i hi
  exact⟨Int.emod_nonneg _ (by omega),Int.emod_lt_of_pos _ this⟩
 ·obtain rfl:d=f:=by omega
  exact h.w0 i hi
theorem Dn.ahead(h:Dn n s D f W)(Gd:Good n s D)(hf:f<=d)(hd:d<n)(hi:i<d):W (d+1) i=W d i:=by
 have k:=h.kept Gd d hf (by omega) i (by omega)
 rw[h.ws d hf hd i (by omega),Gd.uM d hd i hi,Int.mul_zero,Int.add_zero,Int.one_mul,Int.emod_eq_of_lt k.1 k.2]
theorem Dn.at_(h:Dn n s D f W)(Gd:Good n s D)(hf:f<=d)(hd:d<n):W (d+1) d=W d d%aY s D d:=by
 have k:=h.kept Gd d hf (by omega) d hd
 have p:=Gd.pos hd
 rw[h.ws d hf hd d hd]
 have e:=Int.emod_def (W d d) (aY s D d)
 have q0:=Int.emod_nonneg (W d d) (show aY s D d≠0 by omega)
 have q1:=Int.emod_lt_of_pos (W d d) p.1
 by_cases z:D d d=0
 ·have st:aY s D d=s d:=by unfold aY;rw[if_pos z]
  rw[z,st,Int.emod_eq_of_lt k.1 k.2,Int.mul_zero,Int.add_zero,Int.one_mul,Int.emod_eq_of_lt k.1 k.2]
 ·have st:aY s D d=D d d:=by unfold aY;rw[if_neg z]
  rw[← st,show 1*W d d+-(W d d/aY s D d)*aY s D d=W d d%aY s D d by rw[e];grind]
  exact Int.emod_eq_of_lt q0 (by omega)
theorem Dn.low(h:Dn n s D f W)(Gd:Good n s D):∀ d,f<=d->d<=n->∀ e,f<=e->e<d->0<=W d e/\W d e<aY s D e:=by
 intro d
 induction d with
 | zero=>intro _ _ e _ he;omega
 | succ d ih =>
  intro hf hd e he hed
  rcases Nat.lt_or_ge e d with q | q
  ·rw[h.ahead Gd (by omega) (by omega) q];exact ih (by omega) (by omega) e he q
  ·obtain rfl:e=d:=by omega
   have p:=Gd.pos (show e<n by omega)
   rw[h.at_ Gd he (by omega)]
   exact⟨Int.emod_nonneg _ (by omega),Int.emod_lt_of_pos _ p.1⟩
theorem Dn.front(h:Dn n s D f W)(Gd:Good n s D):∀ d,f<=d->d<=n->∀ i,i<f->W d i=W f i:=by
 intro d
 induction d with
 | zero=>intro h1 _ i hi;omega
 | succ d ih =>
  intro hf hd i hi
  rcases Nat.lt_or_ge d f with q | q
  ·rw[show d+1=f by omega]
  ·rw[h.ahead Gd q (by omega) (by omega)];exact ih q (by omega) i hi
theorem Dn.run(h:Dn n s D f W)(Gd:Good n s D):∀ k d,f<=d->d+k=n->G n s D k d (W d)->∀ i,i<n->W n i=0
 | 0,d,hf,hn,g,i,hi=>by
  rw[Nat.add_zero] at hn
  subst hn
  have k:=h.kept Gd d hf (Nat.le_refl _) i hi
  exact jz k.1 k.2 (g i hi)
 | k+1,d,hf,hn,g,i,hi=>by
  refine h.run Gd k (d+1) (by omega) (by omega) (Gd.lj (by omega) (λj hj=>?_) g.2) i hi
  rw[h.ws d hf (by omega) j hj]
  have:=cG (1*W d j+-(W d d/aY s D d)*D d j) (s j)
  rw[show 1*W d j+-(W d d/aY s D d)*D d j=W d j-W d d/aY s D d*D d j by grind] at this
  rw[show 1*W d j+-(W d d/aY s D d)*D d j=W d j-W d d/aY s D d*D d j by grind]
  exact this
theorem Dn.away(h:Dn n s D f W)(Gd:Good n s D):∀ d,f<=d->d<=n->∀ k,f+k=n->G n s D k f λi=>W f i-W d i:=by
 intro d
 induction d with
 | zero =>
  intro hf _ k hn
  obtain rfl:f=0:=by omega
  exact G.ext hn (λi _=>by omega) (G.zero hn)
 | succ d ih =>
  intro hf hd k hn
  rcases Nat.lt_or_ge d f with q | q
  ·rw[show d+1=f by omega]
   exact G.ext hn (λi _=>by omega) (G.zero hn)
  ·refine Gd.lj hn (λi hi=>?_) (G.add hn (ih q (by omega) k hn) (G.mul (W d d/aY s D d) hn (Gd.row (show d<n by omega) hn q)))
   rw[h.ws d q (by omega) i hi]
   have:=nG (1*W d i+-(W d d/aY s D d)*D d i) (s i)
   obtain⟨c,hc⟩:=this
   exact⟨c,by rw[← hc];grind⟩
theorem G.small(Gd:Good n s D):∀ k d (v:bS),d+k=n->(∀ i,i<n->0<=v i/\v i<s i)->(∀ i,d<=i->i<n->v i<aY s D i)->G n s D k d v->∀ i,i<n->v i=0
 | 0,d,v,hn,h0,_,g,i,hi=>jz (h0 i hi).1 (h0 i hi).2 (g i hi)
 | k+1,d,v,hn,h0,h1,g,i,hi=>by
  have z:v d=0:=jz (h0 d (by omega)).1 (h1 d (Nat.le_refl _) (by omega)) g.1
  refine G.small Gd k (d+1) v (by omega) h0 (λj hj=>h1 j (by omega)) (G.ext (by omega) (λj hj=>?_) g.2) i hi
  rw[z];simp
theorem uY(Gd:Good n s D)(W:Nat->Nat->bS)(hW:∀ d,d<n->Dn n s D (d+1) (W d))(h0:∀ d,d<n->∀ i,i<n->W d (d+1) i=D d i)(hD:∀ d,d<n->∀ i,i<n->D' d i=W d n i) :
  Good n s D'/\(∀ d,d<n->aY s D' d=aY s D d)/\(∀ d,d<n->∀ e,d<e->e<n->D' d e<aY s D e)/\(∀ d,d<n->D' d d=0->∀ i,i<n->D' d i=0)/\(∀ k d,d+k=n->∀ w,G n s D k d w->G n s D' k d w):=by
 have dg:∀ d,d<n->∀ i,i<=d->D' d i=D d i:=λd hd i hi=>by
  rw[hD d hd i (by omega),(hW d hd).front Gd n (by omega) (Nat.le_refl _) i (by omega),h0 d hd i (by omega)]
 have st:∀ d,d<n->aY s D' d=aY s D d:=λd hd=>by
  unfold aY;rw[dg d hd d (Nat.le_refl _)]
 have mO:∀ k d,d+k=n->∀ w,G n s D k d w->G n s D' k d w:=by
  intro k
  induction k with
  | zero=>intro d _ w h;exact h
  | succ k ih =>
   intro d hn w h
   have hd:d<n:=by omega
   refine⟨by rw[st d hd];exact h.1,ih (d+1) (by omega) _ ?_⟩
   rw[st d hd]
   refine G.ext (by omega) (λi hi=>?_) (G.add (by omega) h.2 (G.mul (w d/aY s D d) (by omega) ((hW d hd).away Gd n (by omega) (Nat.le_refl _) k (by omega))))
   show w i-w d/aY s D d*D d i+w d/aY s D d*(W d (d+1) i-W d n i)=_
   rw[h0 d hd i hi,hD d hd i hi];grind
 have good:Good n s D':=Gd.Fn (λd hd i hi=>by rw[hD d hd i hi];exact(hW d hd).kept Gd n (by omega) (Nat.le_refl _) i hi) (λd hd i hi=>by rw[dg d hd i (by omega)];exact Gd.uM d hd i hi) (λd hd=>by rw[st d hd];exact Gd.dv d hd) mO
 have lt:∀ d,d<n->∀ e,d<e->e<n->D' d e<aY s D e:=λd hd e he hen=>by
  rw[hD d hd e hen];exact((hW d hd).low Gd n (by omega) (Nat.le_refl _) e (by omega) hen).2
 refine⟨good,st,lt,λd hd z=>?_,mO⟩
 have h1:=good.own (d:=d) (k:=n-d-1) (by omega)
 have h2:=h1.2
 refine G.small good (n-d-1) (d+1) (D' d) (by omega) (good.kd d hd) (λi h1 h2=>by rw[st i h2];exact lt d hd i (by omega) h2) (G.ext (by omega) (λi hi=>?_) h2)
 rw[z];simp
end
def aT:Nat->(Nat->Int)->Int
 | 0,_=>0
 | m+1,f=>aT m f+f m
theorem dm(a b:Int)(f g h:Nat->Int):∀ m,(∀ l,l<m->h l=a*f l+b*g l)->aT m h=a*aT m f+b*aT m g
 | 0,_=>by simp[aT]
 | m+1,e=>by
  rw[aT,aT,aT,dm a b f g h m λl hl=>e l (by omega),e m (by omega)];grind
theorem bb{f g:Nat->Int}:∀ {m:Nat},(∀ l,l<m->f l=g l)->aT m f=aT m g
 | 0,_=>rfl
 | m+1,e=>by rw[aT,aT,bb λl hl=>e l (by omega),e m (by omega)]
theorem c9:∀ m,aT m (λ_=>0)=0
 | 0=>rfl
 | m+1=>by rw[aT,c9 m];rfl
theorem dN(k:Nat)(a:Int):∀ m,k<m->∀ f:Nat->Int,(∀ l,l<m->f l=if l=k then a else 0)->aT m f=a
 | 0,h,_,_=>by omega
 | m+1,h,f,e=>by
  rw[aT]
  by_cases z:k=m
  ·subst z
   rw[bb (g:=λ_=>0) λl hl=>by rw[e l (by omega),if_neg (by omega)],c9,e k (by omega),if_pos rfl];omega
  ·rw[dN k a m (by omega) f λl hl=>e l (by omega),e m (by omega),if_neg (by omega)];omega
def Led(n:Nat)(s:bS)(m:Nat)(A:Nat->bS)(v P:bS):Prop:=∀ i,i<n->s i∣v i-aT m λl=>P l*A l i
variable{A:Nat->bS}{m:Nat}
theorem Led.mix{w x P Q R:bS}(h1:Led n s m A v P)(h2:Led n s m A w Q)(hx:∀ i,i<n->s i∣x i-(a*v i+b*w i))(hR:∀ l,l<m->R l=a*P l+b*Q l):Led n s m A x R:=λi hi=>by
 obtain⟨c1,e1⟩:=h1 i hi
 obtain⟨c2,e2⟩:=h2 i hi
 obtain⟨c3,e3⟩:=hx i hi
 rw[dm a b (λl=>P l*A l i) (λl=>Q l*A l i) (λl=>R l*A l i) m λl hl=>by rw[hR l hl];grind]
 exact⟨a*c1+b*c2+c3,by grind⟩
def aJ:Nat->(Nat->Int)->Int
 | 0,_=>1
 | m+1,f=>aJ m f*f m
theorem si{f g h:Nat->Int}:∀ {m:Nat},(∀ l,l<m->f l=g l*h l)->aJ m f=aJ m g*aJ m h
 | 0,_=>rfl
 | m+1,e=>by rw[aJ,aJ,aJ,si λl hl=>e l (by omega),e m (by omega)];grind
theorem c8{f g:Nat->Int}:∀ {m:Nat},(∀ l,l<m->f l=g l)->aJ m f=aJ m g
 | 0,_=>rfl
 | m+1,e=>by rw[aJ,aJ,c8 λl hl=>e l (by omega),e m (by omega)]
theorem fq{f:Nat->Int}:∀ {m:Nat},(∀ l,l<m->0<f l)->0<aJ m f
 | 0,_=>(by decide:(0:Int)<1)
 | m+1,e=>Int.mul_pos (fq λl hl=>e l (by omega)) (e m (by omega))
def vf(xs:List Int):bS:=λi=>xs.getD i 0
variable{xs:List Int}
theorem aQ(h:i<xs.length):vf xs i=xs[i]:=by
 unfold vf;rw[List.getD_eq_getElem?_getD,List.getElem?_eq_getElem h];rfl
theorem p6(h:xs.length<=i):vf xs i=0:=by
 unfold vf;rw[List.getD_eq_getElem?_getD,List.getElem?_eq_none h];rfl
def oB(xs:List Int)(a:Int)(ys:List Int)(b:Int):List Int:=(xs.zip ys).map λz=>a*z.1+b*z.2
def zI(xs sizes:List Int):List Int:=(xs.zip sizes).map λz=>z.1%z.2
variable{ys:List Int}
theorem cz:(oB xs a ys b).length=min xs.length ys.length:=by simp[oB]
theorem ko:(zI xs ys).length=min xs.length ys.length:=by simp[zI]
theorem fH(h1:i<xs.length)(h2:i<ys.length):vf (oB xs a ys b) i=a*vf xs i+b*vf ys i:=by
 rw[aQ (by rw[cz];omega),aQ h1,aQ h2]
 simp[oB]
theorem kr(h1:i<xs.length)(h2:i<ys.length):vf (zI xs ys) i=vf xs i%vf ys i:=by
 rw[aQ (by rw[ko];omega),aQ h1,aQ h2]
 simp[zI]
theorem xU(hl:xs.length=ys.length)(h:∀ i,i<xs.length->vf xs i=vf ys i):xs=ys:=by
 refine List.ext_getElem hl λi h1 h2=>?_
 have:=h i h1
 rwa [aQ h1,aQ h2] at this
theorem ir(n:Nat)(i:Nat):vf (List.replicate n 0) i=0:=by
 rcases Nat.lt_or_ge i n with h | h
 ·rw[aQ (by simpa using h)];simp
 ·rw[p6 (by simpa using h)]
def Bd(B:Nat)(xs:List Int):Prop:=∀ x∈xs,x.natAbs<2^B
theorem Bd.mono{B C:Nat}(h:Bd B xs)(hc:B<=C):Bd C xs:=λx hx=>Nat.lt_of_lt_of_le (h x hx) (Nat.pow_le_pow_right (by decide) hc)
theorem Bd.vf{B:Nat}{xs:List Int}(h:Bd B xs)(i:Nat):(vf xs i).natAbs<2^B:=by
 rcases Nat.lt_or_ge i xs.length with q | q
 ·rw[aQ q];exact h _ (List.getElem_mem q)
 ·rw[p6 q];exact Nat.two_pow_pos B
theorem xX{A B:Nat}(ha:a.natAbs<2^A)(hb:b.natAbs<2^B):(a*b).natAbs<2^(A+B):=by
 rw[Int.natAbs_mul,Nat.pow_add]
 have h0:0<2^A:=Nat.two_pow_pos A
 have h1:0<2^B:=Nat.two_pow_pos B
 exact Nat.mul_lt_mul_of_lt_of_le ha (Nat.le_of_lt hb) h1
theorem Im{A:Nat}(ha:a.natAbs<2^A)(hb:b.natAbs<2^A):(a+b).natAbs<2^(A+1):=by
 rw[Nat.pow_succ];omega
theorem Bd.mix{A B:Nat}(hx:Bd B xs)(hy:Bd B ys)(ha:a.natAbs<2^A)(hb:b.natAbs<2^A):Bd (A+B+1) (oB xs a ys b):=by
 intro z hz
 obtain⟨w,hw,rfl⟩:=List.mem_map.mp hz
 have:=List.of_mem_zip (a:=w.1) (b:=w.2) hw
 exact Im (xX ha (hx _ this.1)) (xX hb (hy _ this.2))
abbrev Row:=List Int×List Int
def row(rows:List Row)(d:Nat):Row:=rows.getD d ([],[])
def DD(rows:List Row):Nat->bS:=λd=>vf (row rows d).1
def PP(rows:List Row):Nat->bS:=λd=>vf (row rows d).2
structure Wf (n m:Nat) (rows:List Row):Prop where
 len:rows.length=n
 l1:∀ r∈rows,r.1.length=n
 l2:∀ r∈rows,r.2.length=m
variable{rows:List Row}
theorem ik(h:d<rows.length):row rows d=rows[d]:=by
 unfold row;rw[List.getD_eq_getElem?_getD,List.getElem?_eq_getElem h];rfl
theorem Wf.p4(w:Wf n m rows)(h:d<n):(row rows d).1.length=n:=by
 rw[ik (by rw[w.len];exact h)];exact w.l1 _ (List.getElem_mem _)
theorem Wf.at2(w:Wf n m rows)(h:d<n):(row rows d).2.length=m:=by
 rw[ik (by rw[w.len];exact h)];exact w.l2 _ (List.getElem_mem _)
def qD(sizes:List Int)(r:Row)(a:Int)(q:Row)(b:Int):Row:=(zI (oB r.1 a q.1 b) sizes,oB r.2 a q.2 b)
def aB(c:Int->Int->Int×Int)(sizes:List Int)(rows:List Row)(left:Row):Nat->Row
 | 0=>left
 | d+1 =>
  let l:=aB c sizes rows left d
  let st:=aY (vf sizes) (DD rows) d
  let nt:=vf l.1 d
  qD sizes l (st/(Int.gcd st nt:Nat)) (row rows d) (-(nt/(Int.gcd st nt:Nat)))
def dY(c:Int->Int->Int×Int)(sizes:List Int)(rows:List Row)(left:Row)(d:Nat):Row :=
 let l:=aB c sizes rows left d
 let st:=aY (vf sizes) (DD rows) d
 let nt:=vf l.1 d
 qD sizes (row rows d) (c st nt).1 l (c st nt).2
def cS(c:Int->Int->Int×Int)(sizes:List Int)(rows:List Row)(left:Row)(n:Nat):List Row:=(List.range n).map (dY c sizes rows left)
variable{left:Row}{sizes:List Int}{c:Int->Int->Int×Int}
theorem dq(w:Wf n m rows)(hs:sizes.length=n)(h1:left.1.length=n)(h2:left.2.length=m):∀ d,d<=n->(aB c sizes rows left d).1.length=n/\(aB c sizes rows left d).2.length=m
 | 0,_=>⟨h1,h2⟩
 | d+1,hd=>by
  obtain⟨i1,i2⟩:=dq w hs h1 h2 d (by omega)
  have e1:=w.p4 (d:=d) (by omega);have e2:=w.at2 (d:=d) (by omega)
  simp only[aB,qD]
  rw[ko,cz,cz]
  exact⟨by omega,by omega⟩
theorem k8(h:d<n):row (cS c sizes rows left n) d=dY c sizes rows left d:=by
 rw[ik (by simp[cS,h])];simp[cS]
theorem Ax(w:Wf n m rows)(hs:sizes.length=n)(h1:left.1.length=n)(h2:left.2.length=m):Wf n m (cS c sizes rows left n):=by
 have key:∀ d,d<n->(dY c sizes rows left d).1.length=n/\(dY c sizes rows left d).2.length=m:=λd hd=>by
  obtain⟨i1,i2⟩:=dq (c:=c) w hs h1 h2 d (by omega)
  have e1:=w.p4 (d:=d) hd;have e2:=w.at2 (d:=d) hd
  simp only[dY,qD]
  rw[ko,cz,cz]
  exact⟨by omega,by omega⟩
 refine⟨by simp[cS],λr hr=>?_,λr hr=>?_⟩
 ·obtain⟨d,hd,rfl⟩:=List.mem_map.mp hr
  exact(key d (List.mem_range.mp hd)).1
 ·obtain⟨d,hd,rfl⟩:=List.mem_map.mp hr
  exact(key d (List.mem_range.mp hd)).2
theorem gZ(h:0<a):0<(Int.gcd a b:Int):=by
 have:=Int.gcd_pos_of_ne_zero_left b (show a≠0 by omega);omega
theorem J8(w:Wf n m rows)(hs:sizes.length=n)(h1:left.1.length=n)(h2:left.2.length=m)(Gd:Good n (vf sizes) (DD rows))(h0:∀ i,i<n->0<=vf left.1 i/\vf left.1 i<vf sizes i)
  (hc:∀ d,d<n->(c (aY (vf sizes) (DD rows) d) (vf (aB c sizes rows left d).1 d)).1*aY (vf sizes) (DD rows) d+(c (aY (vf sizes) (DD rows) d) (vf (aB c sizes rows left d).1 d)).2*vf (aB c sizes rows left d).1 d=(Int.gcd (aY (vf sizes) (DD rows) d) (vf (aB c sizes rows left d).1 d):Nat)) :
  Tk n (vf sizes) (DD rows) (DD (cS c sizes rows left n)) (λd=>vf (aB c sizes rows left d).1) (λd=>(c (aY (vf sizes) (DD rows) d) (vf (aB c sizes rows left d).1 d)).1) (λd=>(c (aY (vf sizes) (DD rows) d) (vf (aB c sizes rows left d).1 d)).2) (λd=>(Int.gcd (aY (vf sizes) (DD rows) d) (vf (aB c sizes rows left d).1 d):Nat)) where
 gp:=λd hd=>gZ (Gd.pos hd).1
 bz:=hc
 g1:=λd hd=>Int.gcd_dvd_left ..
 g2:=λd hd=>Int.gcd_dvd_right ..
 JU:=λd hd i hi=>by
  obtain⟨i1,i2⟩:=dq (c:=c) w hs h1 h2 d (by omega)
  have e1:=w.p4 (d:=d) hd
  show vf (row (cS c sizes rows left n) d).1 i=_
  rw[k8 hd]
  simp only[dY,qD]
  rw[kr (by rw[cz];omega) (by omega),fH (by omega) (by omega)]
  rfl
 Kj:=λd hd i hi=>by
  obtain⟨i1,i2⟩:=dq (c:=c) w hs h1 h2 d (by omega)
  have e1:=w.p4 (d:=d) hd
  simp only[aB,qD]
  rw[kr (by rw[cz];omega) (by omega),fH (by omega) (by omega)]
  rfl
 l0:=h0
def CB(c:Int->Int->Int×Int):Prop:=∀ a b:Int,0<a->a<=360->0<=b->b<=360->(c a b).1*a+(c a b).2*b=(Int.gcd a b:Nat)/\(c a b).1.natAbs<2^20/\(c a b).2.natAbs<2^20
theorem kC(h:0<a)(h2:a<=360):0<a/(Int.gcd a b:Nat)/\a/(Int.gcd a b:Nat)<=360:=by
 have g:=gZ (b:=b) h
 obtain⟨q,hq⟩:((Int.gcd a b:Nat):Int)∣a:=Int.gcd_dvd_left ..
 have e:a/(Int.gcd a b:Nat)=q:=by
  have:((Int.gcd a b:Nat):Int)≠0:=by omega
  exact Int.ediv_eq_of_eq_mul_right this hq
 rw[e]
 have q0:0<q:=by
  rcases Int.lt_or_le 0 q with z | z
  ·exact z
  ·have:=Int.mul_nonpos_of_nonneg_of_nonpos (Int.le_of_lt g) z;omega
 refine⟨q0,?_⟩
 have:1*q<=(Int.gcd a b:Nat)*q:=Int.mul_le_mul_of_nonneg_right (by omega) (by omega)
 omega
theorem mC(h:0<a)(h1:0<=b)(h2:b<=360):0<=b/(Int.gcd a b:Nat)/\b/(Int.gcd a b:Nat)<=360:=by
 have g:=gZ (b:=b) h
 exact⟨Int.ediv_nonneg h1 (by omega),Int.le_trans (Int.ediv_le_self _ h1) h2⟩
def Zf(k m:Nat)(P:bS):Prop:=∀ l,k<=l->l<m->P l=0
structure St (n m:Nat) (sizes:List Int) (A:Nat->bS) (k:Nat) (rows:List Row):Prop where
 wf:Wf n m rows
 hs:sizes.length=n
 sm:∀ i,i<n->vf sizes i<=360
 gd:Good n (vf sizes) (DD rows)
 led:∀ d,d<n->Led n (vf sizes) m A (DD rows d) (PP rows d)
 zf:∀ d,d<n->Zf k m (PP rows d)
 bd:∀ d,d<n->Bd (150*k+1) (row rows d).2
 cl:∀ l,l<k->G n (vf sizes) (DD rows) n 0 (A l)
structure Lv (n m:Nat) (sizes:List Int) (A:Nat->bS) (k:Nat) (left:Row):Prop where
 l1:left.1.length=n
 l2:left.2.length=m
 km:k<m
 at_:∀ i,i<n->vf left.1 i=A k i
 kd:∀ i,i<n->0<=A k i/\A k i<vf sizes i
 un:∀ l,l<m->vf left.2 l=if l=k then 1 else 0
theorem kZ(h:St n m sizes A k rows)(L:Lv n m sizes A k left):∀ d,d<=n->∀ i,i<n->0<=vf (aB c sizes rows left d).1 i/\vf (aB c sizes rows left d).1 i<vf sizes i
 | 0,_,i,hi=>by show 0<=vf left.1 i/\vf left.1 i<vf sizes i;rw[L.at_ i hi];exact L.kd i hi
 | d+1,hd,i,hi=>by
  obtain⟨i1,i2⟩:=dq (c:=c) h.wf h.hs L.l1 L.l2 d (by omega)
  have e1:=h.wf.p4 (d:=d) (by omega)
  have hs:=h.hs
  simp only[aB,qD]
  rw[kr (by rw[cz];omega) (by omega)]
  have:=h.gd.sp i hi
  exact⟨Int.emod_nonneg _ (by omega),Int.emod_lt_of_pos _ this⟩
theorem St.tk(h:St n m sizes A k rows)(L:Lv n m sizes A k left)(cb:CB c):Tk n (vf sizes) (DD rows) (DD (cS c sizes rows left n)) (λd=>vf (aB c sizes rows left d).1) (λd=>(c (aY (vf sizes) (DD rows) d) (vf (aB c sizes rows left d).1 d)).1) (λd=>(c (aY (vf sizes) (DD rows) d) (vf (aB c sizes rows left d).1 d)).2) (λd=>(Int.gcd (aY (vf sizes) (DD rows) d) (vf (aB c sizes rows left d).1 d):Nat)) :=
 J8 h.wf h.hs L.l1 L.l2 h.gd (λi hi=>by rw[L.at_ i hi];exact L.kd i hi) λd hd=>by
  have p:=h.gd.pos hd
  have q:=kZ (c:=c) h L d (by omega) d hd
  have s:=h.sm d hd
  exact(cb _ _ p.1 (by omega) q.1 (by omega)).1
theorem o7(h:St n m sizes A k rows)(L:Lv n m sizes A k left):∀ d,d<=n->Led n (vf sizes) m A (vf (aB c sizes rows left d).1) (vf (aB c sizes rows left d).2)
 | 0,_=>λi hi=>by
  show vf sizes i∣vf left.1 i-aT m λl=>vf left.2 l*A l i
  rw[L.at_ i hi,dN k (A k i) m L.km (λl=>vf left.2 l*A l i) λl hl=>by
   rw[L.un l hl]
   by_cases z:l=k
   ·subst z;rw[if_pos rfl,if_pos rfl,Int.one_mul]
   ·rw[if_neg z,if_neg z,Int.zero_mul]]
  rw[Int.sub_self];exact Int.dvd_zero _
 | d+1,hd=>by
  obtain⟨i1,i2⟩:=dq (c:=c) h.wf h.hs L.l1 L.l2 d (by omega)
  have e1:=h.wf.p4 (d:=d) (by omega);have e2:=h.wf.at2 (d:=d) (by omega)
  have hs:=h.hs
  refine Led.mix (a:=aY (vf sizes) (DD rows) d/(Int.gcd (aY (vf sizes) (DD rows) d) (vf (aB c sizes rows left d).1 d):Nat)) (b:=-(vf (aB c sizes rows left d).1 d/(Int.gcd (aY (vf sizes) (DD rows) d) (vf (aB c sizes rows left d).1 d):Nat))) (o7 h L d (by omega)) (h.led d (by omega)) (λi hi=>?_) λl hl=>?_
  ·simp only[aB,qD]
   rw[kr (by rw[cz];omega) (by omega),fH (by omega) (by omega)]
   exact cG _ _
  ·simp only[aB,qD]
   rw[fH (by omega) (by omega)];rfl
theorem uh(h:St n m sizes A k rows)(L:Lv n m sizes A k left):∀ d,d<=n->Zf (k+1) m (vf (aB c sizes rows left d).2)/\vf (aB c sizes rows left d).2 k=aJ d λe=>aY (vf sizes) (DD rows) e/(Int.gcd (aY (vf sizes) (DD rows) e) (vf (aB c sizes rows left e).1 e):Nat)
 | 0,_=>⟨λl h1 h2=>by show vf left.2 l=0;rw[L.un l h2,if_neg (by omega)],by show vf left.2 k=1;rw[L.un k L.km,if_pos rfl]⟩
 | d+1,hd=>by
  obtain⟨i1,i2⟩:=dq (c:=c) h.wf h.hs L.l1 L.l2 d (by omega)
  have e2:=h.wf.at2 (d:=d) (by omega)
  obtain⟨j1,j2⟩:=uh h L d (by omega)
  have z:=h.zf d (by omega)
  have km:=L.km
  constructor
  ·intro l h1 h2
   simp only[aB,qD]
   rw[fH (by omega) (by omega),j1 l h1 h2,show vf (row rows d).2 l=0 from z l (by omega) h2];simp
  ·rw[aJ,← j2]
   simp only[aB,qD]
   rw[fH (by omega) (by omega),show vf (row rows d).2 k=0 from z k (Nat.le_refl _) km]
   grind
theorem oS(h:St n m sizes A k rows)(L:Lv n m sizes A k left)(hn:n<=6):∀ d,d<=n->Bd (150*k+1+11*d) (aB c sizes rows left d).2
 | 0,_=>λx hx=>by
  have hx:x∈left.2:=hx
  obtain⟨i,hi,rfl⟩:=List.mem_iff_getElem.mp hx
  have hm:i<m:=by rw[← L.l2];exact hi
  have e:=L.un i hm
  rw[aQ hi] at e
  show (left.2[i]).natAbs<_
  rw[e]
  have:2^1<=2^(150*k+1+11*0):=Nat.pow_le_pow_right (by decide) (by omega)
  refine Nat.lt_of_lt_of_le ?_ this
  split
  ·decide
  ·decide
 | d+1,hd=>by
  have p:=h.gd.pos (show d<n by omega)
  have s:=h.sm d (by omega)
  have q:=kZ (c:=c) h L d (by omega) d (by omega)
  have a1:=kC (b:=vf (aB c sizes rows left d).1 d) p.1 (by omega)
  have a2:=mC (b:=vf (aB c sizes rows left d).1 d) p.1 q.1 (by omega)
  have:=Bd.mix (A:=9+1) (oS h L hn d (by omega)) ((h.bd d (by omega)).mono (show 150*k+1<=150*k+1+11*d by omega)) (a:=aY (vf sizes) (DD rows) d/(Int.gcd (aY (vf sizes) (DD rows) d) (vf (aB c sizes rows left d).1 d):Nat)) (b:=-(vf (aB c sizes rows left d).1 d/(Int.gcd (aY (vf sizes) (DD rows) d) (vf (aB c sizes rows left d).1 d):Nat))) (by omega) (by omega)
  exact this.mono (by omega)
theorem St.next(h:St n m sizes A k rows)(L:Lv n m sizes A k left)(cb:CB c)(hn:n<=6):St n m sizes A (k+1) (cS c sizes rows left n):=by
 have T:=h.tk L cb
 have hs:=h.hs
 refine⟨Ax h.wf h.hs L.l1 L.l2,h.hs,h.sm,T.good h.gd,λd hd=>?_,λd hd=>?_,λd hd=>?_,λl hl=>?_⟩
 ·obtain⟨i1,i2⟩:=dq (c:=c) h.wf h.hs L.l1 L.l2 d (by omega)
  have e1:=h.wf.p4 (d:=d) hd;have e2:=h.wf.at2 (d:=d) hd
  unfold DD PP
  rw[k8 hd]
  refine Led.mix (a:=(c (aY (vf sizes) (DD rows) d) (vf (aB c sizes rows left d).1 d)).1) (b:=(c (aY (vf sizes) (DD rows) d) (vf (aB c sizes rows left d).1 d)).2) (h.led d hd) (o7 (c:=c) h L d (by omega)) (λi hi=>?_) λl hl=>?_
  ·simp only[dY,qD]
   rw[kr (by rw[cz];omega) (by omega),fH (by omega) (by omega)]
   exact cG _ _
  ·simp only[dY,qD]
   rw[fH (by omega) (by omega)];rfl
 ·obtain⟨i1,i2⟩:=dq (c:=c) h.wf h.hs L.l1 L.l2 d (by omega)
  have e2:=h.wf.at2 (d:=d) hd
  intro l h1 h2
  unfold PP
  rw[k8 hd]
  simp only[dY,qD]
  rw[fH (by omega) (by omega),(uh (c:=c) h L d (by omega)).1 l h1 h2,show vf (row rows d).2 l=0 from h.zf d hd l (by omega) h2];simp
 ·rw[k8 hd]
  have p:=h.gd.pos hd
  have s:=h.sm d hd
  have q:=kZ (c:=c) h L d (by omega) d hd
  have b:=cb (aY (vf sizes) (DD rows) d) (vf (aB c sizes rows left d).1 d) p.1 (by omega) q.1 (by omega)
  have:=Bd.mix (A:=20) ((h.bd d hd).mono (show 150*k+1<=150*k+1+11*d by omega)) (oS (c:=c) h L hn d (by omega)) b.2.1 b.2.2
  exact this.mono (by omega)
 ·rcases Nat.lt_or_ge l k with q | q
  ·exact(T.main h.gd n 0 (by omega)).1 _ (h.cl l q)
  ·obtain rfl:l=k:=by omega
   exact G.ext (by omega) (λi hi=>L.at_ i hi) (T.main h.gd n 0 (by omega)).2
def bc(idle:List (List Int))(k:Nat)(P:List Int):Nat->List Int
 | 0=>P
 | c+1 =>
  let z:=bc idle k P c
  let r:=idle.getD (k-1-c) []
  oB z 1 r (-(vf z (k-1-c)/vf r (k-1-c)))
def II(idle:List (List Int)):Nat->bS:=λj=>vf (idle.getD j [])
structure yw (n m:Nat) (s:bS) (A:Nat->bS) (k:Nat) (idle:List (List Int)):Prop where
 len:idle.length=k
 l2:∀ j,j<k->(idle.getD j []).length=m
 pos:∀ j,j<k->0<II idle j j
 le:∀ j,j<k->II idle j j<2^60
 zero:∀ j,j<k->∀ l,j<l->l<m->II idle j l=0
 nf:∀ j,j<k->∀ l,l<j->0<=II idle j l/\II idle j l<II idle l l
 o5:∀ j,j<k->Led n s m A (λ_=>0) (II idle j)
variable{idle:List (List Int)}
variable{j:Nat}
section
variable{P:List Int}
theorem yw.bd(h:yw n m s A k idle)(hj:j<k)(hm:k<=m):Bd 60 (idle.getD j []):=λx hx=>by
 obtain⟨l,hl,rfl⟩:=List.mem_iff_getElem.mp hx
 rw[h.l2 j hj] at hl
 have e:II idle j l=(idle.getD j [])[l]'(by rw[h.l2 j hj];exact hl):=aQ _
 rw[← e]
 rcases Nat.lt_or_ge l j with q | q
 ·have h1:=h.nf j hj l q
  have h2:=h.le l (by omega)
  omega
 ·rcases Nat.lt_or_ge j l with q2 | q2
  ·rw[h.zero j hj l q2 hl];exact Nat.two_pow_pos _
  ·obtain rfl:l=j:=by omega
   have h1:=h.pos l hj;have h2:=h.le l hj
   omega
theorem span_len(h:yw n m s A k idle)(hP:P.length=m):∀ c,c<=k->(bc idle k P c).length=m
 | 0,_=>hP
 | c+1,hc=>by
  simp only[bc]
  rw[cz,span_len h hP c (by omega),h.l2 _ (by omega)];omega
theorem oK(h:yw n m s A k idle)(hP:P.length=m){c l:Nat}(hc:c<k)(hl:l<m):vf (bc idle k P (c+1)) l=vf (bc idle k P c) l-vf (bc idle k P c) (k-1-c)/II idle (k-1-c) (k-1-c)*II idle (k-1-c) l:=by
 simp only[bc]
 rw[fH (by rw[span_len h hP c (by omega)];exact hl) (by rw[h.l2 _ (by omega)];exact hl)]
 unfold II
 grind
theorem wc(h:yw n m s A k idle)(hP:P.length=m):∀ c,c<=k->∀ l,k<=l->l<m->vf (bc idle k P c) l=vf P l
 | 0,_,_,_,_=>rfl
 | c+1,hc,l,h1,h2=>by
  rw[oK h hP (by omega) h2,h.zero _ (by omega) l (by omega) h2,wc h hP c (by omega) l h1 h2];simp
theorem uo(h:yw n m s A k idle)(hP:P.length=m)(hm:k<=m):∀ c,c<=k->∀ l,k-c<=l->l<k->0<=vf (bc idle k P c) l/\vf (bc idle k P c) l<II idle l l
 | 0,_,l,h1,h2=>by omega
 | c+1,hc,l,h1,h2=>by
  rw[oK h hP (by omega) (by omega)]
  rcases Nat.lt_or_ge (k-1-c) l with q | q
  ·rw[h.zero _ (by omega) l q (by omega),Int.mul_zero,Int.sub_zero]
   exact uo h hP hm c (by omega) l (by omega) h2
  ·obtain rfl:l=k-1-c:=by omega
   have p:=h.pos (k-1-c) (by omega)
   have e:=Int.emod_def (vf (bc idle k P c) (k-1-c)) (II idle (k-1-c) (k-1-c))
   rw[Int.mul_comm (vf (bc idle k P c) (k-1-c)/_),← e]
   exact⟨Int.emod_nonneg _ (by omega),Int.emod_lt_of_pos _ p⟩
theorem qm(h:yw n m s A k idle)(hP:P.length=m){v:bS}(hv:Led n s m A v (vf P)):∀ c,c<=k->Led n s m A v (vf (bc idle k P c))
 | 0,_=>hv
 | c+1,hc=>by
  refine Led.mix (a:=1) (b:=-(vf (bc idle k P c) (k-1-c)/II idle (k-1-c) (k-1-c))) (qm h hP hv c (by omega)) (h.o5 (k-1-c) (by omega)) (λi hi=>?_) λl hl=>?_
  ·rw[Int.mul_zero,Int.add_zero,Int.one_mul,Int.sub_self];exact Int.dvd_zero _
  ·rw[oK h hP (by omega) hl];grind
theorem yj(h:yw n m s A k idle)(hP:P.length=m)(hm:k<=m){B:Nat}(hB:60<=B)(hb:Bd B P):∀ c,c<=k->Bd (B+62*c) (bc idle k P c)
 | 0,_=>hb
 | c+1,hc=>by
  have ih:=yj h hP hm hB hb c (by omega)
  intro x hx
  obtain⟨l,hl,rfl⟩:=List.mem_iff_getElem.mp hx
  rw[span_len h hP (c+1) hc] at hl
  rw[← aQ,oK h hP (by omega) hl]
  have p:=h.pos (k-1-c) (by omega)
  have q1:(vf (bc idle k P c) (k-1-c)/II idle (k-1-c) (k-1-c)).natAbs<2^(B+62*c+1):=by
   have h1:=ih.vf (k-1-c)
   have h2:=Int.natAbs_ediv_le_natAbs (vf (bc idle k P c) (k-1-c)) (II idle (k-1-c) (k-1-c))
   rw[Nat.pow_succ];omega
  have q2:(II idle (k-1-c) l).natAbs<2^60:=(h.bd (j:=k-1-c) (by omega) hm).vf l
  have q3:=xX q1 q2
  have q4:=ih.vf l
  have q5:2^(B+62*c)<=2^(B+62*c+1+60):=Nat.pow_le_pow_right (by decide) (by omega)
  have q6:(2:Nat)^(B+62*(c+1))=2^(B+62*c+1+60)*2:=by rw[← Nat.pow_succ];congr 1
  rw[q6];omega
end
theorem Tk.order{s:bS}{D D' L:Nat->bS}{u v g:Nat->Int}(t:Tk n s D D' L u v g)(Gd:Good n s D):∀ (k d:Nat) (x:Int),d+k=n->G n s D k d (λi=>x*L d i)->aJ n (λe=>aY s D e/g e)∣x*aJ d (λe=>aY s D e/g e)
 | 0,d,x,hn,h=>by
  obtain rfl:d=n:=by omega
  exact Int.dvd_mul_left _ _
 | k+1,d,x,hn,h=>by
  have hd:d<n:=by omega
  obtain⟨a,ha⟩:=t.g1 d hd
  obtain⟨b,hb⟩:=t.g2 d hd
  have gp:=t.gp d hd
  have sp:=(Gd.pos hd).1
  have e1:aY s D d/g d=a:=by rw[ha];exact Int.mul_ediv_cancel_left a (by omega)
  have e2:L d d/g d=b:=by rw[hb];exact Int.mul_ediv_cancel_left b (by omega)
  have bz:u d*a+v d*b=1:=by
   have:=t.bz d hd
   rw[ha,hb,show u d*(g d*a)+v d*(g d*b)=g d*(u d*a+v d*b) by grind] at this
   have h2:g d*(u d*a+v d*b)=g d*1:=by omega
   exact Int.eq_of_mul_eq_mul_left (by omega) h2
  obtain⟨q,hq⟩:=h.1
  have hax:a∣x:=by
   have h3:g d*(x*b)=g d*(a*q):=by
    have:x*L d d=aY s D d*q:=hq
    rw[hb,ha] at this;grind
   have h4:x*b=a*q:=Int.eq_of_mul_eq_mul_left (by omega) h3
   exact⟨u d*x+v d*q,by
    have:x=x*(u d*a+v d*b):=by rw[bz,Int.mul_one]
    rw[this]
    have:x*(u d*a+v d*b)=a*(u d*x)+v d*(x*b):=by grind
    rw[this,h4];grind⟩
  obtain⟨y,hy⟩:=hax
  have NU:q=b*y:=by
   have h3:g d*(a*q)=g d*(a*(b*y)):=by
    have:x*L d d=aY s D d*q:=hq
    rw[hb,ha,hy] at this;grind
   have ap:a≠0:=by intro z;rw[z,Int.mul_zero] at ha;omega
   exact Int.eq_of_mul_eq_mul_left ap (Int.eq_of_mul_eq_mul_left (by omega) h3)
  have h2:=h.2
  have q1:x*L d d/aY s D d=q:=by
   show x*L d d/aY s D d=q
   rw[show x*L d d=aY s D d*q from hq];exact Int.mul_ediv_cancel_left q (by omega)
  have:=t.order Gd k (d+1) y (by omega) (Gd.lj (by omega) (λi hi=>?_) h2)
  ·rw[aJ,e1] at this
   rw[hy,show a*y*aJ d (λe=>aY s D e/g e)=y*(aJ d (λe=>aY s D e/g e)*a) by grind]
   exact this
  ·show s i∣y*L (d+1) i-(x*L d i-x*L d d/aY s D d*D d i)
   rw[q1,t.Kj d hd i hi,e1,e2]
   obtain⟨z,hz⟩:=cG (a*L d i+-b*D d i) (s i)
   refine⟨y*z,?_⟩
   have:(a*L d i+-b*D d i)%s i=a*L d i+-b*D d i+s i*z:=by omega
   rw[this,hy,NU];grind
theorem G.sum(Gd:Good n (vf sizes) (DD rows)){P:bS}:∀ k',(∀ l,l<k'->G n (vf sizes) (DD rows) n 0 (A l))->G n (vf sizes) (DD rows) n 0 (λi=>aT k' λl=>P l*A l i)
 | 0,_=>G.zero (by omega)
 | k'+1,h=>G.ext (by omega) (λi _=>rfl) (G.add (by omega) (G.sum Gd k' λl hl=>h l (by omega)) (G.mul (P k') (by omega) (h k' (by omega))))
def n5(m k:Nat):List Int:=(List.range m).map λl=>if l=k then 1 else 0
theorem vn{l:Nat}(h:l<m):vf (n5 m k) l=if l=k then 1 else 0:=by
 rw[aQ (by simp[n5,h])];simp[n5]
def AA(Ls:List (List Int)):Nat->bS:=λl=>vf (Ls.getD l [])
def cq(Ls:List (List Int))(m k:Nat):Row:=(Ls.getD k [],n5 m k)
def RK(c:Int->Int->Int×Int)(sizes:List Int)(Ls:List (List Int))(n m:Nat):Nat->List Row×List (List Int)
 | 0=>(List.replicate n (List.replicate n 0,List.replicate m 0),[])
 | k+1 =>
  (cS c sizes (RK c sizes Ls n m k).1 (cq Ls m k) n,(RK c sizes Ls n m k).2++[bc (RK c sizes Ls n m k).2 k (aB c sizes (RK c sizes Ls n m k).1 (cq Ls m k) n).2 k])
structure Jl (n m:Nat) (sizes:List Int) (Ls:List (List Int)):Prop where
 len:Ls.length=m
 at_:∀ l,l<m->(Ls.getD l []).length=n
 kd:∀ l,l<m->∀ i,i<n->0<=AA Ls l i/\AA Ls l i<vf sizes i
structure Aw (n m:Nat) (sizes:List Int) (Ls:List (List Int)) (k:Nat) (r:List Row×List (List Int)):Prop where
 st:St n m sizes (AA Ls) k r.1
 o5:yw n m (vf sizes) (AA Ls) k r.2
 pr:aJ k (λj=>II r.2 j j)*aJ n (aY (vf sizes) (DD r.1))=aJ n (vf sizes)
 ord:∀ j,j<k->∀ P:bS,Zf (j+1) m P->Led n (vf sizes) m (AA Ls) (λ_=>0) P->II r.2 j j∣P j
variable{x:List Int}
section
variable{Ls:List (List Int)}
theorem i8(h:j<idle.length):II (idle++[x]) j=II idle j:=by
 unfold II
 rw[List.getD_eq_getElem?_getD,List.getElem?_append_left h,← List.getD_eq_getElem?_getD]
theorem kh:II (idle++[x]) idle.length=vf x:=by
 unfold II
 rw[List.getD_eq_getElem?_getD,List.getElem?_append_right (Nat.le_refl _)];simp
theorem Co(h:j<idle.length):(idle++[x]).getD j []=idle.getD j []:=by
 rw[List.getD_eq_getElem?_getD,List.getElem?_append_left h,← List.getD_eq_getElem?_getD]
theorem BI:(idle++[x]).getD idle.length []=x:=by
 rw[List.getD_eq_getElem?_getD,List.getElem?_append_right (Nat.le_refl _)];simp
theorem qv{f:Nat->Int}{k:Nat}:∀ {m:Nat},k<m->(∀ l,k<l->l<m->f l=0)->aT m f=aT k f+f k
 | 0,h,_=>by omega
 | m+1,h,e=>by
  rw[aT]
  by_cases z:k=m
  ·subst z;rfl
  ·rw[qv (m:=m) (by omega) λl h1 h2=>e l h1 (by omega),e m (by omega) (by omega)];omega
theorem vQ:∀ {n:Nat} {f:Nat->Int},(∀ i,i<n->0<f i/\f i<=360)->aJ n f<=360^n
 | 0,f,_=>by simp[aJ]
 | n+1,f,h=>by
  rw[aJ,Int.pow_succ]
  exact Int.mul_le_mul (vQ λi hi=>h i (by omega)) (h n (by omega)).2 (by have:=(h n (by omega)).1;omega) (Int.pow_nonneg (by decide))
theorem LP(h:n<=6):(360:Int)^n<=360^6:=by
 have:n=0\/n=1\/n=2\/n=3\/n=4\/n=5\/n=6:=by omega
 rcases this with rfl | rfl | rfl | rfl | rfl | rfl | rfl <;> decide
theorem Aw.next{r:List Row×List (List Int)}(h:Aw n m sizes Ls k r)(LL:Jl n m sizes Ls)(cb:CB c)(hn:n<=6)(hk:k<m) :
  Aw n m sizes Ls (k+1) (cS c sizes r.1 (cq Ls m k) n,r.2++[bc r.2 k (aB c sizes r.1 (cq Ls m k) n).2 k]):=by
 have L:Lv n m sizes (AA Ls) k (cq Ls m k):=⟨LL.at_ k hk,by simp[cq,n5],hk,λi hi=>rfl,LL.kd k hk,λl hl=>vn hl⟩
 have T:=h.st.tk L cb
 have ll:=dq (c:=c) h.st.wf h.st.hs L.l1 L.l2 n (Nat.le_refl _)
 have zf:=uh (c:=c) h.st L n (Nat.le_refl _)
 have led:=o7 (c:=c) h.st L n (Nat.le_refl _)
 have l0:=T.zero h.st.gd n (Nat.le_refl _)
 have il:r.2.length=k:=h.o5.len
 have out:=wc h.o5 ll.2 k (Nat.le_refl _)
 have jk:vf (bc r.2 k (aB c sizes r.1 (cq Ls m k) n).2 k) k=aJ n λe=>aY (vf sizes) (DD r.1) e/(Int.gcd (aY (vf sizes) (DD r.1) e) (vf (aB c sizes r.1 (cq Ls m k) e).1 e):Nat):=by
  rw[out k (Nat.le_refl _) hk];exact zf.2
 have pos:∀ e,e<n->0<aY (vf sizes) (DD r.1) e/(Int.gcd (aY (vf sizes) (DD r.1) e) (vf (aB c sizes r.1 (cq Ls m k) e).1 e):Nat):=λe he=>by
  have p:=h.st.gd.pos he
  have s:=h.st.sm e he
  exact(kC p.1 (by omega)).1
 have pr:aJ (k+1) (λj=>II (r.2++[bc r.2 k (aB c sizes r.1 (cq Ls m k) n).2 k]) j j)*aJ n (aY (vf sizes) (DD (cS c sizes r.1 (cq Ls m k) n)))=aJ n (vf sizes):=by
  rw[aJ,show II (r.2++[bc r.2 k (aB c sizes r.1 (cq Ls m k) n).2 k]) k=vf (bc r.2 k (aB c sizes r.1 (cq Ls m k) n).2 k) by rw[← il];exact kh]
  rw[c8 (g:=λj=>II r.2 j j) λj hj=>by rw[i8 (by omega)],← h.pr,jk]
  rw[c8 (g:=λd=>((Int.gcd (aY (vf sizes) (DD r.1) d) (vf (aB c sizes r.1 (cq Ls m k) d).1 d):Nat):Int)) λd hd=>T.step h.st.gd hd]
  rw[si (f:=aY (vf sizes) (DD r.1)) (g:=λd=>((Int.gcd (aY (vf sizes) (DD r.1) d) (vf (aB c sizes r.1 (cq Ls m k) d).1 d):Nat):Int)) (h:=λe=>aY (vf sizes) (DD r.1) e/(Int.gcd (aY (vf sizes) (DD r.1) e) (vf (aB c sizes r.1 (cq Ls m k) e).1 e):Nat)) λd hd=>(Int.mul_ediv_cancel' (Int.gcd_dvd_left ..)).symm]
  grind
 have jpos:0<vf (bc r.2 k (aB c sizes r.1 (cq Ls m k) n).2 k) k:=by rw[jk];exact fq pos
 have St':=h.st.next L cb hn
 have jle:vf (bc r.2 k (aB c sizes r.1 (cq Ls m k) n).2 k) k<2^60:=by
  have b:aJ n (vf sizes)<=360^n:=vQ λi hi=>⟨h.st.gd.sp i hi,h.st.sm i hi⟩
  have b2:(360:Int)^n<=360^6:=LP hn
  have b3:(360:Int)^6<2^60:=by decide
  rw[aJ,show II (r.2++[bc r.2 k (aB c sizes r.1 (cq Ls m k) n).2 k]) k=vf (bc r.2 k (aB c sizes r.1 (cq Ls m k) n).2 k) by rw[← il];exact kh] at pr
  have p1:0<aJ k (λj=>II (r.2++[bc r.2 k (aB c sizes r.1 (cq Ls m k) n).2 k]) j j):=fq λj hj=>by rw[i8 (by omega)];exact h.o5.pos j hj
  have p2:0<aJ n (aY (vf sizes) (DD (cS c sizes r.1 (cq Ls m k) n))):=fq λd hd=>(St'.gd.pos hd).1
  generalize aJ k (λj=>II (r.2++[bc r.2 k (aB c sizes r.1 (cq Ls m k) n).2 k]) j j)=a at *
  generalize aJ n (aY (vf sizes) (DD (cS c sizes r.1 (cq Ls m k) n)))=b' at *
  generalize vf (bc r.2 k (aB c sizes r.1 (cq Ls m k) n).2 k) k=x at *
  have e1:1*x<=a*x:=Int.mul_le_mul_of_nonneg_right (by omega) (by omega)
  have e2:a*x*1<=a*x*b':=Int.mul_le_mul_of_nonneg_left (by omega) (by omega)
  omega
 refine⟨St',⟨by simp[il],λj hj=>?_,λj hj=>?_,λj hj=>?_,λj hj l h1 h2=>?_,λj hj l hl=>?_,λj hj=>?_⟩,pr,λj hj P hz hP=>?_⟩
 all_goals
  rcases Nat.lt_or_ge j k with q | q
 ·rw[Co (by omega)];exact h.o5.l2 j q
 ·obtain rfl:j=r.2.length:=by omega
  rw[BI];exact span_len h.o5 ll.2 k (Nat.le_refl _)
 ·rw[i8 (by omega)];exact h.o5.pos j q
 ·obtain rfl:j=r.2.length:=by omega
  rw[kh,il];exact jpos
 ·rw[i8 (by omega)];exact h.o5.le j q
 ·obtain rfl:j=r.2.length:=by omega
  rw[kh,il];exact jle
 ·rw[i8 (by omega)];exact h.o5.zero j q l h1 h2
 ·obtain rfl:j=r.2.length:=by omega
  rw[kh,out l (by omega) h2];exact zf.1 l (by omega) h2
 ·rw[i8 (by omega),i8 (by omega)];exact h.o5.nf j q l hl
 ·obtain rfl:j=r.2.length:=by omega
  rw[kh,i8 (by omega)];exact uo h.o5 ll.2 (by omega) k (Nat.le_refl _) l (by omega) (by omega)
 ·rw[i8 (by omega)];exact h.o5.o5 j q
 ·obtain rfl:j=r.2.length:=by omega
  rw[kh]
  refine qm h.o5 ll.2 (λi hi=>?_) k (Nat.le_refl _)
  have:=led i hi
  rw[show vf (aB c sizes r.1 (cq Ls m k) n).1 i=0 from l0 i hi] at this
  exact this
 ·rw[i8 (by omega)];exact h.ord j q P hz hP
 ·obtain rfl:j=k:=by omega
  rw[show II (r.2++[bc r.2 j (aB c sizes r.1 (cq Ls m j) n).2 j]) j=vf (bc r.2 j (aB c sizes r.1 (cq Ls m j) n).2 j) by rw[← il];exact kh,jk]
  have:=T.order h.st.gd n 0 (P j) (by omega) ?_
  ·rwa [aJ,Int.mul_one] at this
  ·refine h.st.gd.lj (by omega) (λi hi=>?_) (G.mul (-1) (by omega) (G.sum (A:=AA Ls) (P:=P) h.st.gd j h.st.cl))
   have e:=hP i hi
   rw[qv hk λl h1 h2=>by rw[hz l (by omega) h2,Int.zero_mul]] at e
   obtain⟨x,hx⟩:=e
   have hx:(0:Int)-(aT j (λl=>P l*AA Ls l i)+P j*AA Ls j i)=vf sizes i*x:=hx
   show vf sizes i∣P j*AA Ls j i - -1*aT j λl=>P l*AA Ls l i
   exact⟨-x,by rw[Int.mul_neg];omega⟩
theorem Aw.start(hs:sizes.length=n)(hp:∀ i,i<n->0<vf sizes i/\vf sizes i<=360):Aw n m sizes Ls 0 (List.replicate n (List.replicate n 0,List.replicate m 0),[]):=by
 have rw0:∀ d,d<n->row (List.replicate n (List.replicate n 0,List.replicate m 0)) d=(List.replicate n 0,List.replicate m 0):=λd hd=>by
  rw[ik (by simpa using hd)];simp
 have D0:∀ d,d<n->∀ i,DD (List.replicate n (List.replicate n 0,List.replicate m 0)) d i=0:=λd hd i=>by
  unfold DD;rw[rw0 d hd];exact ir n i
 have P0:∀ d,d<n->∀ i,PP (List.replicate n (List.replicate n 0,List.replicate m 0)) d i=0:=λd hd i=>by
  unfold PP;rw[rw0 d hd];exact ir m i
 have st:∀ d,d<n->aY (vf sizes) (DD (List.replicate n (List.replicate n 0,List.replicate m 0))) d=vf sizes d:=λd hd=>by
  unfold aY;rw[if_pos (D0 d hd d)]
 refine⟨⟨⟨by simp,λr hr=>by rw[List.eq_of_mem_replicate hr];simp,λr hr=>by rw[List.eq_of_mem_replicate hr];simp⟩,hs,λi hi=>(hp i hi).2,⟨λi hi=>(hp i hi).1,λd hd i hi=>?_,λd hd i hi=>D0 d hd i,λd hd=>by rw[st d hd];exact Int.dvd_refl _,λd k hn=>?_⟩,λd hd i hi=>?_,λd hd l _ _=>P0 d hd l,λd hd=>?_,λl hl=>by omega⟩,⟨rfl,λj hj=>by omega,λj hj=>by omega,λj hj=>by omega,λj hj=>by omega,λj hj=>by omega,λj hj=>by omega⟩,?_,λj hj=>by omega⟩
 ·rw[D0 d hd i];have:=(hp i hi).1;omega
 ·exact G.ext (by omega) (λi hi=>by rw[D0 d (by omega) i,Int.mul_zero]) (G.zero (by omega))
 ·rw[D0 d hd i,bb (g:=λ_=>0) λl hl=>by rw[P0 d hd l,Int.zero_mul],c9];exact Int.dvd_zero _
 ·rw[rw0 d hd]
  intro x hx
  rw[List.eq_of_mem_replicate hx];exact Nat.two_pow_pos _
 ·rw[aJ,Int.one_mul];exact c8 λd hd=>st d hd
theorem Aw.all(hs:sizes.length=n)(hp:∀ i,i<n->0<vf sizes i/\vf sizes i<=360)(LL:Jl n m sizes Ls)(cb:CB c)(hn:n<=6):∀ k,k<=m->Aw n m sizes Ls k (RK c sizes Ls n m k)
 | 0,_=>Aw.start hs hp
 | k+1,hk=>(Aw.all hs hp LL cb hn k (by omega)).next LL cb hn (by omega)
end
theorem sI(h:b∣a)(h1:-b<a)(h2:a<b):a=0:=by
 obtain⟨c,rfl⟩:=h
 rcases Int.lt_trichotomy c 0 with q | q | q
 ·have:b*c<=b*(-1):=Int.mul_le_mul_of_nonneg_left (by omega) (by omega)
  omega
 ·rw[q,Int.mul_zero]
 ·have:b*1<=b*c:=Int.mul_le_mul_of_nonneg_left (by omega) (by omega)
  omega
theorem G.diff(Gd:Good n s D):∀ k d (v:bS),d+k=n->(∀ i,i<n->-(s i)<v i/\v i<s i)->(∀ i,d<=i->i<n->-(aY s D i)<v i/\v i<aY s D i)->G n s D k d v->∀ i,i<n->v i=0
 | 0,d,v,hn,h0,_,g,i,hi=>sI (g i hi) (h0 i hi).1 (h0 i hi).2
 | k+1,d,v,hn,h0,h1,g,i,hi=>by
  have z:=sI g.1 (h1 d (Nat.le_refl _) (by omega)).1 (h1 d (Nat.le_refl _) (by omega)).2
  refine G.diff Gd k (d+1) v (by omega) h0 (λi hi=>h1 i (by omega)) (G.ext (by omega) (λi _=>?_) g.2) i hi
  show v i-v d/aY s D d*D d i=v i
  rw[z];simp
def dQ(n:Nat)(s:bS)(Q:Int)(w v:bS):Int:=aT n λi=>w i*v i*(Q/s i)
variable{u:bS}{Q:Int}
variable{Nt:Nat}
section
variable{D:Nat->bS}{w:bS}
theorem mn(a b:Int){x:bS}(h:∀ i,i<n->x i=a*v i+b*u i):dQ n s Q w x=a*dQ n s Q w v+b*dQ n s Q w u :=
 dm a b _ _ _ n λi hi=>by rw[h i hi];grind
theorem pD{f:Nat->Int}{q:Int}:∀ {m:Nat},(∀ l,l<m->q∣f l)->q∣aT m f
 | 0,_=>Int.dvd_zero _
 | m+1,h=>Int.dvd_add (pD λl hl=>h l (by omega)) (h m (by omega))
theorem yB(hq:∀ i,i<n->s i∣Q)(h:∀ i,i<n->s i∣v i):Q∣dQ n s Q w v:=pD λi hi=>by
 obtain⟨c,hc⟩:=h i hi
 obtain⟨e,he⟩:=hq i hi
 by_cases z:s i=0
 ·rw[hc,z];simp
 ·rw[hc,he,Int.mul_ediv_cancel_left _ z]
  exact⟨w i*c,by grind⟩
theorem qz(hq:∀ i,i<n->s i∣Q)(h:∀ i,i<n->s i∣v i-u i):Q∣dQ n s Q w v-dQ n s Q w u:=by
 have:=mn (s:=s) (Q:=Q) (w:=w) (n:=n) 1 (-1) (v:=v) (u:=u) (x:=λi=>v i-u i) λi _=>by omega
 have h2:=yB (w:=w) hq h
 rw[this] at h2
 rw[show dQ n s Q w v-dQ n s Q w u=1*dQ n s Q w v+-1*dQ n s Q w u by omega]
 exact h2
theorem vy(hq:∀ i,i<n->s i∣Q):∀ (k d:Nat) (v:bS),d+k=n->(∀ b,d<=b->b<n->Q∣dQ n s Q w (D b))->G n s D k d v->Q∣dQ n s Q w v
 | 0,d,v,_,_,g=>yB hq g
 | k+1,d,v,hn,hD,g=>by
  have h1:=vy hq k (d+1) _ (by omega) (λb h1 h2=>hD b (by omega) h2) g.2
  have h2:=hD d (Nat.le_refl _) (by omega)
  have e:=mn (s:=s) (Q:=Q) (w:=w) (n:=n) 1 (v d/aY s D d) (v:=λi=>v i-v d/aY s D d*D d i) (u:=D d) (x:=v) λi _=>by omega
  rw[e]
  exact Int.dvd_add (Int.dvd_trans h1 (Int.dvd_mul_left _ _)) (Int.dvd_trans h2 (Int.dvd_mul_left _ _))
theorem EK{c:Nat}(hc:c<n){x:Int}{w':bS}(h0:w c=0)(h1:w' c=x)(h2:∀ i,i<n->i≠c->w' i=w i):dQ n s Q w' v=dQ n s Q w v+x*v c*(Q/s c):=by
 have e1:dQ n s Q w' v=1*dQ n s Q w v+1*aT n λi=>if i=c then x*v c*(Q/s c) else 0:=dm 1 1 _ _ _ n λi hi=>by
  by_cases z:i=c
  ·rw[z,h1,h0];simp
  ·rw[h2 i hi z];simp[z]
 have e2:=dN c (x*v c*(Q/s c)) n hc (λi=>if i=c then x*v c*(Q/s c) else 0) λ_ _=>rfl
 rw[e1,e2];omega
theorem vo(h:∀ i,i<n->w i*v i=0):dQ n s Q w v=0:=by
 unfold dQ
 rw[bb (g:=λ_=>0) λi hi=>by rw[h i hi];simp,c9]
def eK(s:bS)(D:Nat->bS)(d:Nat):Int:=s d/aY s D d
theorem iP(g:Good n s D)(h:d<n):eK s D d*aY s D d=s d/\0<eK s D d/\eK s D d<=s d:=by
 have p:=g.pos h
 obtain⟨c,hc⟩:=g.dv d h
 have e:eK s D d=c:=by unfold eK;rw[hc,Int.mul_ediv_cancel_left _ (by omega)]
 have sp:=g.sp d h
 have c0:0<c:=by
  rcases Int.lt_trichotomy c 0 with q | q | q
  ·have:=Int.mul_neg_of_pos_of_neg p.1 q;omega
  ·rw[q] at hc;omega
  ·exact q
 refine⟨by rw[e,hc,Int.mul_comm],by omega,?_⟩
 rw[e]
 have:1*c<=aY s D d*c:=Int.mul_le_mul_of_nonneg_right (by omega) (by omega)
 omega
structure Wk (n:Nat) (s:bS) (D:Nat->bS) (Q:Int) (Nt a:Nat) (w:bS):Prop where
 beh:∀ i,Nt<i->i<n->w i=0
 at_:w Nt=eK s D Nt%s Nt
 ah:∀ i,a<=i->i<Nt->0<=w i/\w i<eK s D i
 no:∀ i,i<a->w i=0
 kill:∀ b,a<=b->b<n->Q∣dQ n s Q w (D b)
theorem Wk.start(g:Good n s D)(hq:∀ i,i<n->s i∣Q)(hd:Nt<n){w:bS}(h:∀ i,i<n->w i=if i=Nt then eK s D Nt%s Nt else 0):Wk n s D Q Nt Nt w where
 beh:=λi h1 h2=>by rw[h i h2,if_neg (by omega)]
 at_:=by rw[h Nt hd,if_pos rfl]
 ah:=λi h1 h2=>by omega
 no:=λi hi=>by rw[h i (by omega),if_neg (by omega)]
 kill:=λb h1 h2=>by
  by_cases z:b=Nt
  ·subst z
   obtain⟨f1,f2,f3⟩:=iP g h2
   obtain⟨e,he⟩:=hq b h2
   obtain⟨x,hx⟩:=g.diag h2
   obtain⟨y,hy⟩:=cG (eK s D b) (s b)
   have sp:=g.sp b h2
   have e1:dQ n s Q w (D b)=1*aT n (λi=>if i=b then (eK s D b%s b)*D b b*(Q/s b) else 0)+0*0:=by
    have:=dm 1 0 (λi=>if i=b then (eK s D b%s b)*D b b*(Q/s b) else 0) (λ_=>0) (λi=>w i*D b i*(Q/s i)) n λi hi=>by
     rw[h i hi]
     by_cases z:i=b
     ·subst z;simp
     ·simp[z]
    rw[show dQ n s Q w (D b)=aT n λi=>w i*D b i*(Q/s i) from rfl,this];omega
   rw[e1,dN b _ n h2 _ λ_ _=>rfl,he,Int.mul_ediv_cancel_left _ (by omega)]
   have hy':eK s D b%s b=eK s D b+s b*y:=by omega
   have Rk:D b b=aY s D b+s b*x:=by omega
   refine⟨1+eK s D b*x+y*D b b,?_⟩
   rw[hy',Rk]
   generalize eK s D b=F at *
   generalize aY s D b=T at *
   generalize s b=S at *
   subst f1
   grind
  ·rw[vo λi hi=>?_]
   ·exact Int.dvd_zero _
   ·rcases Nat.lt_or_ge i b with q | q
    ·rw[g.uM b h2 i q];simp
    ·rw[h i hi,if_neg (by omega)];simp
theorem Wk.next(g:Good n s D)(hQ:0<Q)(hq:∀ i,i<n->s i∣Q){c:Nat}(hd:Nt<n){w w':bS}(W:Wk n s D Q Nt (c+1) w)(hc:c<Nt)(h1:w' c=-(dQ n s Q w (D c)%Q/(Q/eK s D c))%eK s D c)(h2:∀ i,i<n->i≠c->w' i=w i):Wk n s D Q Nt c w':=by
 obtain⟨f1,f2,f3⟩:=iP g (show c<n by omega)
 obtain⟨e,he⟩:=hq c (by omega)
 have sp:=g.sp c (by omega)
 have sh:Q/eK s D c=aY s D c*e:=by
  rw[he,← f1,Int.mul_assoc,Int.mul_ediv_cancel_left _ (by omega)]
 have hs:Q/s c=e:=by rw[he,Int.mul_ediv_cancel_left _ (by omega)]
 have fQ:eK s D c*(aY s D c*e)=Q:=by rw[← Int.mul_assoc,f1,he]
 have sh0:0<aY s D c*e:=by
  rcases Int.lt_trichotomy (aY s D c*e) 0 with q | q | q
  ·have:=Int.mul_neg_of_pos_of_neg f2 q;omega
  ·rw[q] at fQ;omega
  ·exact q
 have cl:=g.JS c (n-(c+1)) (by omega)
 have k1:=vy (w:=w) hq (n-(c+1)) (c+1) _ (by omega) (λb h1 h2=>W.kill b h1 h2) cl
 rw[mn (s:=s) (Q:=Q) (w:=w) (n:=n) (eK s D c) 0 (v:=D c) (u:=D c) (x:=λi=>s c/aY s D c*D c i) λi _=>by unfold eK;omega] at k1
 obtain⟨x,hx⟩:=k1
 have dv:(aY s D c*e)∣dQ n s Q w (D c):=⟨x,by
  have:eK s D c*dQ n s Q w (D c)=eK s D c*(aY s D c*e*x):=by
   rw[← Int.mul_assoc,fQ];omega
  exact Int.eq_of_mul_eq_mul_left (by omega) this⟩
 have ed:=Int.emod_def (dQ n s Q w (D c)) Q
 have dv2:(aY s D c*e)∣dQ n s Q w (D c)%Q:=by
  rw[ed]
  exact Int.dvd_sub dv (Int.dvd_trans ⟨eK s D c,by rw[Int.mul_comm];exact fQ.symm⟩ (Int.dvd_mul_right _ _))
 obtain⟨q,Pc⟩:=dv2
 rw[sh] at h1
 have eq1:dQ n s Q w (D c)%Q/(aY s D c*e)=q:=by rw[Pc,Int.mul_ediv_cancel_left _ (by omega)]
 rw[eq1] at h1
 obtain⟨y,hy⟩:=cG (-q) (eK s D c)
 obtain⟨z,hz⟩:=g.diag (show c<n by omega)
 refine⟨λi a b=>?_,?_,λi a b=>?_,λi a=>?_,λb a1 a2=>?_⟩
 ·rw[h2 i b (by omega)];exact W.beh i a b
 ·rw[h2 Nt hd (by omega)];exact W.at_
 ·by_cases q2:i=c
  ·rw[q2,h1]
   exact⟨Int.emod_nonneg _ (by omega),Int.emod_lt_of_pos _ f2⟩
  ·rw[h2 i (by omega) q2];exact W.ah i (by omega) b
 ·rw[h2 i (by omega) (by omega)];exact W.no i (by omega)
 ·rw[EK (w:=w) (show c<n by omega) (W.no c (by omega)) rfl h2]
  by_cases q2:b=c
  ·subst q2
   rw[hs]
   have e1:w' b=-q+eK s D b*y:=by omega
   have e2:D b b=aY s D b+s b*z:=by omega
   have e3:dQ n s Q w (D b)=Q*(dQ n s Q w (D b)/Q)+aY s D b*e*q:=by omega
   refine⟨dQ n s Q w (D b)/Q+y+w' b*z,?_⟩
   rw[e2]
   generalize dQ n s Q w (D b)/Q=p at *
   rw[e3,e1]
   generalize eK s D b=F at *
   generalize aY s D b=T at *
   generalize s b=S at *
   subst f1
   rw[he]
   grind
  ·rw[g.uM b a2 c (by omega)]
   simp only[Int.mul_zero,Int.zero_mul,Int.add_zero]
   exact W.kill b (by omega) a2
theorem Wk.first(g:Good n s D)(hQ:0<Q)(hq:∀ i,i<n->s i∣Q)(hd:Nt<n){w l:bS}(W:Wk n s D Q Nt 0 w)(l0:∀ i,i<Nt->l i=0)(l1:0<l Nt)(l2:l Nt<aY s D Nt):¬ Q∣dQ n s Q w l:=by
 obtain⟨f1,f2,f3⟩:=iP g hd
 obtain⟨e,he⟩:=hq Nt hd
 have sp:=g.sp Nt hd
 have lt:eK s D Nt<s Nt:=by
  rcases Int.lt_or_eq_of_le f3 with q | q
  ·exact q
  ·rw[q] at f1
   have:aY s D Nt=1:=by
    have:s Nt*aY s D Nt=s Nt*1:=by rw[Int.mul_one];exact f1
    exact Int.eq_of_mul_eq_mul_left (by omega) this
   omega
 have wd:w Nt=eK s D Nt:=by rw[W.at_,Int.emod_eq_of_lt (by omega) lt]
 have e1:dQ n s Q w l=aT n (λi=>if i=Nt then eK s D Nt*l Nt*e else 0):=bb λi hi=>by
  by_cases z:i=Nt
  ·rw[z,wd,he,Int.mul_ediv_cancel_left _ (by omega)];simp
  ·rcases Nat.lt_or_ge i Nt with q | q
   ·rw[l0 i q];simp[z]
   ·rw[W.beh i (by omega) hi];simp[z]
 rw[e1,dN Nt _ n hd _ λ_ _=>rfl]
 rintro⟨c,hc⟩
 have e0:0<e:=by
  rcases Int.lt_trichotomy e 0 with q | q | q
  ·have:=Int.mul_neg_of_pos_of_neg sp q;omega
  ·rw[q] at he;omega
  ·exact q
 have e2:eK s D Nt*e*l Nt=eK s D Nt*e*(aY s D Nt*c):=by
  rw[he,← f1] at hc
  grind
 have e3:l Nt=aY s D Nt*c:=Int.eq_of_mul_eq_mul_left (by
  have:=Int.mul_pos f2 e0;omega) e2
 have:=jz (a:=l Nt) (b:=aY s D Nt) (by omega) l2 ⟨c,e3⟩
 omega
end
theorem cP(w v:bS):dQ n s Q w v=dQ n s Q v w:=bb λi _=>by rw[Int.mul_comm (w i)]
theorem GD(g:Good n s D)(hd:d<n)(z:∀ i,d<i->i<n->u i=0):dQ n s Q u (D d)=u d*D d d*(Q/s d) :=
 dN d _ n hd _ λi hi=>by
  by_cases e:i=d
  ·rw[e];simp
  ·rcases Nat.lt_or_ge i d with q | q
   ·rw[g.uM d hd i q];simp[e]
   ·rw[z i (by omega) hi];simp[e]
theorem Ah(hQ:0<Q){x:Int}(hx:0<x)(h:x∣Q):0<Q/x/\Q=x*(Q/x):=by
 obtain⟨c,hc⟩:=h
 have e:Q/x=c:=by rw[hc,Int.mul_ediv_cancel_left _ (by omega)]
 refine⟨?_,by rw[e];exact hc⟩
 rw[e]
 rcases Int.lt_trichotomy c 0 with q | q | q
 ·have:=Int.mul_neg_of_pos_of_neg hx q;omega
 ·rw[q] at hc;omega
 ·exact q
theorem Fx(g:Good n s D)(hQ:0<Q)(hq:∀ i,i<n->s i∣Q)(hd:d<n)(z:∀ i,d<i->i<n->u i=0)(k:Q∣dQ n s Q u (D d)):eK s D d∣u d:=by
 obtain⟨f1,f2,f3⟩:=iP g hd
 have p:=g.pos hd
 by_cases h0:D d d=0
 ·have e1:aY s D d=s d:=by unfold aY;rw[if_pos h0]
  have e2:eK s D d=1:=by
   have:eK s D d*s d=1*s d:=by rw[e1] at f1;omega
   exact Int.eq_of_mul_eq_mul_right (by have:=g.sp d hd;omega) this
  rw[e2];exact Int.one_dvd _
 ·have e1:D d d=aY s D d:=by unfold aY;rw[if_neg h0]
  rw[GD g hd z,e1] at k
  obtain⟨e0,eq⟩:=Ah hQ (g.sp d hd) (hq d hd)
  obtain⟨c,hc⟩:=k
  generalize Q/s d=e at *
  refine⟨c,?_⟩
  have:aY s D d*e*u d=aY s D d*e*(eK s D d*c):=by
   rw[eq,← f1] at hc
   grind
  exact Int.eq_of_mul_eq_mul_left (by have:=Int.mul_pos p.1 e0;omega) this
theorem o3(hq:∀ i,i<n->s i∣Q){P w:bS}(hA:∀ l,l<m->Q∣dQ n s Q w (A l))(h:∀ i,i<n->s i∣v i-aT m λl=>P l*A l i):Q∣dQ n s Q w v:=by
 have c1:=qz (n:=n) (s:=s) (Q:=Q) (w:=w) hq h
 have key:∀ k,k<=m->Q∣dQ n s Q w (λi=>aT k λd=>P d*A d i):=λk=>by
  induction k with
  | zero =>
   intro _
   rw[vo λi _=>by simp[aT]];exact Int.dvd_zero _
  | succ k ih =>
   intro hm
   have l1:=mn (n:=n) (s:=s) (Q:=Q) (w:=w) 1 (P k) (v:=λi=>aT k λd=>P d*A d i) (u:=A k) (x:=λi=>aT (k+1) λd=>P d*A d i) λi _=>by simp[aT]
   rw[l1]
   exact Int.dvd_add (Int.dvd_mul_of_dvd_right (ih (by omega))) (Int.dvd_mul_of_dvd_right (hA k (by omega)))
 have:=Int.dvd_add c1 (key m (Nat.le_refl _))
 rw[Int.sub_add_cancel] at this
 exact this
theorem Dc(hq:∀ i,i<n->s i∣Q)(hW:∀ d,d<n->Wk n s D Q d 0 (W d)){t:bS}(h:∀ i,i<n->s i∣u i-aT n λd=>t d*W d i){b:Nat}(hb:b<n):Q∣dQ n s Q u (D b):=by
 rw[cP]
 exact o3 hq (λd hd=>by rw[cP];exact(hW d hd).kill b (Nat.zero_le _) hb) h
section
variable{D':Nat->bS}
theorem jM(hq:∀ i,i<n->s i∣Q){x y:bS}(h:∀ i,i<n->s i∣u i-(a*x i+b*y i))(hx:Q∣dQ n s Q x v)(hy:Q∣dQ n s Q y v):Q∣dQ n s Q u v:=by
 rw[cP] at hx hy ⊢
 have c:=qz (n:=n) (s:=s) (Q:=Q) (w:=v) hq h
 rw[mn a b (v:=x) (u:=y) (x:=λi=>a*x i+b*y i) λ_ _=>rfl] at c
 have:=Int.dvd_add c (Int.dvd_add (Int.dvd_mul_of_dvd_right (a:=Q) (b:=a) hx) (Int.dvd_mul_of_dvd_right (b:=b) hy))
 rwa [Int.sub_add_cancel] at this
theorem lK(g:Good n s D)(hQ:0<Q)(hq:∀ i,i<n->s i∣Q)(hW:∀ d,d<n->Wk n s D Q d 0 (W d)):∀ j,j<=n->∀ u:bS,(∀ i,j<=i->i<n->u i=0)->(∀ b,b<n->Q∣dQ n s Q u (D b))->∃ t:bS,(∀ d,j<=d->t d=0)/\∀ i,i<n->s i∣u i-aT n λd=>t d*W d i
 | 0,_,u,z,_=>⟨λ_=>0,λ_ _=>rfl,λi hi=>by
   rw[z i (by omega) hi,bb (g:=λ_=>0) λd _=>by simp,c9];exact⟨0,by simp⟩⟩
 | j+1,hj,u,z,k=>by
  have hjn:j<n:=by omega
  obtain⟨q,Pc⟩:=Fx g hQ hq hjn (λi h1 h2=>z i (by omega) h2) (k j hjn)
  have w:=hW j hjn
  have eu:∀ i,i<n->s i∣(if i<j then u i-q*W j i else 0)-(1*u i+(-q)*W j i):=λi hi=>by
   rcases Nat.lt_trichotomy i j with c | c | c
   ·rw[if_pos c];exact⟨0,by rw[Int.neg_mul];omega⟩
   ·subst c
    rw[if_neg (by omega),w.at_,Pc]
    obtain⟨x,hx⟩:=nG (eK s D i) (s i)
    refine⟨-(q*x),?_⟩
    rw[show eK s D i%s i=eK s D i-s i*x by omega]
    generalize eK s D i=r
    grind
   ·rw[if_neg (by omega),z i (by omega) hi,w.beh i c hi];exact⟨0,by simp⟩
  obtain⟨t,t0,ht⟩:=lK g hQ hq hW j (by omega) (λi=>if i<j then u i-q*W j i else 0) (λi h1 _=>if_neg (by omega)) λb hb=>jM hq eu (k b hb) (w.kill b (Nat.zero_le _) hb)
  refine⟨λd=>if d=j then q else t d,λd hd=>by show (if d=j then q else t d)=0;rw[if_neg (by omega)];exact t0 d (by omega),λi hi=>?_⟩
  have e:aT n (λd=>(if d=j then q else t d)*W d i)=1*aT n (λd=>t d*W d i)+1*aT n (λd=>if d=j then q*W j i else 0):=dm 1 1 _ _ _ n λd hd=>by
   by_cases x:d=j
   ·subst x;simp[t0 d (Nat.le_refl _)]
   ·simp[x]
  rw[dN j (q*W j i) n hjn (λd=>if d=j then q*W j i else 0) λ_ _=>rfl] at e
  obtain⟨a,ha⟩:=eu i hi
  obtain⟨b,hb⟩:=ht i hi
  refine⟨b-a,?_⟩
  rw[Int.mul_sub,← ha,← hb,e,Int.neg_mul]
  omega
theorem Ex(g:Good n s D)(hQ:0<Q)(hq:∀ i,i<n->s i∣Q)(hW:∀ d,d<n->Wk n s D Q d 0 (W d)){J:Nat->bS}(pos:∀ j,j<n->0<J j j)(zero:∀ j,j<n->∀ l,j<l->l<n->J j l=0)(o5:∀ j,j<n->Led n s n W (λ_=>0) (J j))
  (ord:∀ j,j<n->∀ P:bS,Zf (j+1) n P->Led n s n W (λ_=>0) P->J j j∣P j):∀ j,j<n->J j j=aY s D j:=λj hj=>by
 have w:=hW j hj
 obtain⟨f1,f2,f3⟩:=iP g hj
 have p:=g.pos hj
 obtain⟨x,hx⟩:=nG (eK s D j) (s j)
 refine Int.dvd_antisymm (by have:=pos j hj;omega) (by omega) ?_ ?_
 ·have eu:∀ i,i<n->s i∣(if i<j then aY s D j*W j i else 0)-(aY s D j*W j i+0*W j i):=λi hi=>by
   rcases Nat.lt_trichotomy i j with c | c | c
   ·rw[if_pos c];exact⟨0,by omega⟩
   ·subst c
    rw[if_neg (by omega),w.at_]
    refine⟨aY s D i*x-1,?_⟩
    rw[show eK s D i%s i=eK s D i-s i*x by omega]
    grind
   ·rw[if_neg (by omega),w.beh i c hi];exact⟨0,by simp⟩
  obtain⟨t,t0,ht⟩:=lK g hQ hq hW j (by omega) (λi=>if i<j then aY s D j*W j i else 0) (λi h1 _=>if_neg (by omega)) λb hb=>jM hq eu (w.kill b (Nat.zero_le _) hb) (w.kill b (Nat.zero_le _) hb)
  have:=ord j hj (λd=>(if d=j then aY s D j else 0)-t d) (λl h1 _=>by show (if l=j then aY s D j else 0)-t l=0;rw[if_neg (by omega),t0 l (by omega)];rfl) λi hi=>by
   have e:aT n (λd=>((if d=j then aY s D j else 0)-t d)*W d i)=(-1)*aT n (λd=>t d*W d i)+1*aT n (λd=>if d=j then aY s D j*W j i else 0):=dm (-1) 1 _ _ _ n λd hd=>by
    by_cases y:d=j
    ·subst y;simp[t0 d (Nat.le_refl _)]
    ·simp[y,Int.neg_mul]
   rw[dN j (aY s D j*W j i) n hj (λd=>if d=j then aY s D j*W j i else 0) λ_ _=>rfl] at e
   obtain⟨a,ha⟩:=eu i hi
   obtain⟨b,hb⟩:=ht i hi
   refine⟨a-b,?_⟩
   show 0-aT n (λd=>((if d=j then aY s D j else 0)-t d)*W d i)=_
   rw[Int.mul_sub,← ha,← hb,e]
   omega
  simp only[if_pos,t0 j (Nat.le_refl _),Int.sub_zero] at this
  exact this
 ·obtain⟨y,hy⟩:=o5 j hj j hj
  rw[dN j (J j j*W j j) n hj _ λl hl=>by
   rcases Nat.lt_trichotomy l j with c | c | c
   ·rw[(hW l hl).beh j c hj,if_neg (by omega)];simp
   ·subst c;rw[if_pos rfl]
   ·rw[zero j hj l c hl,if_neg (by omega)];simp] at hy
  rw[w.at_,show eK s D j%s j=eK s D j-s j*x by omega] at hy
  refine⟨J j j*x-y,?_⟩
  have:eK s D j*J j j=eK s D j*(aY s D j*(J j j*x-y)):=by
   rw[← Int.mul_assoc,f1];grind
  exact Int.eq_of_mul_eq_mul_left (by omega) this
theorem qr(g':Good n s D')(h:∀ d,d<n->G n s D' n 0 (D d)):∀ k d (v:bS),d+k=n->G n s D k d v->G n s D' n 0 v
 | 0,d,v,_,hv=>g'.lj (by omega) (λi hi=>by rw[Int.sub_zero];exact hv i hi) (G.zero (by omega))
 | k+1,d,v,hn,hv=>by
  have a:=qr g' h k (d+1) _ (by omega) hv.2
  exact G.ext (by omega) (λi _=>by omega) (G.add (by omega) a (G.mul (v d/aY s D d) (by omega) (h d (by omega))))
theorem G.at_{j:Nat}:∀ {k d:Nat} {v:bS},G n s D k d v->(∀ i,d<=i->i<j->v i=0)->d<=j->j<d+k->aY s D j∣v j
 | 0,d,v,_,_,h1,h2=>by omega
 | k+1,d,v,g,h0,h1,h2=>by
  rcases Nat.lt_or_eq_of_le h1 with q | q
  ·have z:=h0 d (Nat.le_refl _) q
   have e:(λi=>v i-v d/aY s D d*D d i)=v:=by funext i;rw[z];simp
   have g2:=g.2
   rw[e] at g2
   exact G.at_ g2 (λi a b=>h0 i (by omega) b) (by omega) (by omega)
  ·subst q;exact g.1
theorem x9(g:Good n s D)(g':Good n s D')(h:∀ d,d<n->G n s D n 0 (D' d))(hd:d<n):aY s D d∣aY s D' d:=by
 have a:=G.at_ (h d hd) (j:=d) (λi _ hi=>g'.uM d hd i hi) (Nat.zero_le _) (by omega)
 have e:aY s D' d=if D' d d=0 then s d else D' d d:=rfl
 rw[e]
 split
 ·exact g.dv d hd
 ·exact a
theorem AS(g:Good n s D)(g':Good n s D')(h:∀ d,d<n->G n s D n 0 (D' d))(h':∀ d,d<n->G n s D' n 0 (D d)):∀ d,d<n->aY s D d=aY s D' d:=λd hd =>
 Int.dvd_antisymm (by have:=g.pos hd;omega) (by have:=g'.pos hd;omega) (x9 g g' h hd) (x9 g' g h' hd)
end
end Rg
namespace wC
open PySem L2 PyProof.Rows Rg
local macro_rules | `(tactic| dsimp? [$ts,*])=>`(tactic| simp only[cI,bu,aw,lP,aq,va,vz,retS,br,oH,jC,lZ,au,M.aL,M.bind_some,M.bind_none,M.AG,M.bind_assoc,ae,ak,ai,aa,aj,Ek,EO,Iy,Gx,IJ,IA,G0,Ii,G5,Ja,Gn,I_,Hb,IL,Il,GS,ff,la,Ml,GG,G9,EE,Ng,Ad,lr,Jq,lW,Ef,itemsOf,jh,E3,FA,zv,Ft,ET,Bc,Be,Bv,E6,Et,BK,u4,Di,eI,cJ,sk,HK,List.length_cons,List.length_nil,List.map_cons,List.map_nil,List.cons_append,List.nil_append,List.replicate,List.getElem?_cons_zero,List.getElem?_cons_succ,List.getElem?_nil,List.set_cons_zero,List.set_cons_succ,List.set_nil,Nat.reduceAdd,Nat.reduceSub,if_true,if_false,Bool.not_true,Bool.not_false,Bool.false_eq_true,ite_true,ite_false,reduceIte,reduceCtorEq,Nat.sub_self,lQ,ck,bR,Option.map_some,Option.map_none,FL,G7,IW,DM,Fp,D8,Iq,E5,D6,Fq,qI,List.any_cons,List.any_nil,String.reduceBEq,Bool.or_false,Bool.or_true,Bool.true_or,Bool.false_or,Bool.and_true,Bool.and_false,Bool.true_and,Bool.false_and,EN,Fl,Gz,IP,FD,Er,EY,E8,AJ,AU,g8,oq,List.foldl_cons,List.foldl_nil,uB,av trivial,$(⟨ts.elemsAndSeps⟩),*])
theorem nh(i:Int):fm [.int i]=M.ok (.bl true):=by rfl
variable{p:PV}{α:Type}
theorem xY{inj:α->PV}{h:α->Bool}(xs:List α)(n:Int)(hp:p=.tup (xs.map inj)\/p=.lst (xs.map inj))(H:∀ a∈xs,fm [inj a]=M.ok (.bl (h a)))(hz:xs.length<=sizeLine):eS [p,.int n]=M.ok (.bl (decide ((xs.length:Int)=n)&&xs.all h)):=by
 have key:bI (bQ 0) none (ai fm (aa (ae 0) aj)) (xs.map inj) [none]=M.ok (xs.map λa=>.bl (h a)):=dZ xs λa ha=>by dsimp? [H a ha]
 have key2:tK [.lst (xs.map λa=>.bl (h a))]=M.ok (.bl (xs.all h)):=by
  have:=wb (xs.map h)
  rw[List.map_map] at this
  rw[show (λa=>PV.bl (h a))=PV.bl∘h from rfl,this]
  simp[List.all_map]
 unfold eS jm
 rcases hp with rfl | rfl
 all_goals
  dsimp? [List.length_map]
  by_cases e:(xs.length:Int)=n
  ·simp only[e,decide_true,Bool.not_true,M.aL,Bool.false_eq_true,if_false,va,Bool.true_and]
   dsimp? [List.length_map,av hz,key,key2]
  ·simp only[e,decide_false,Bool.not_false,M.aL,if_true,vz,Bool.false_and]
   dsimp? []
theorem Dl(xs:List Int)(n:Int)(hz:xs.length<=sizeLine):eS [tI xs,.int n]=M.ok (.bl (decide ((xs.length:Int)=n))):=by
 exact(xY (p:=tI xs) (h:=λ_=>true) xs n (.inl rfl) (λa _=>nh a) hz).trans (by rw[List.all_eq_true.mpr λ_ _=>rfl,Bool.and_true])
theorem Bw(xs:List Int)(n:Int)(hz:xs.length<=sizeLine):eS [lI xs,.int n]=M.ok (.bl (decide ((xs.length:Int)=n))):=by
 exact(xY (p:=lI xs) (h:=λ_=>true) xs n (.inr rfl) (λa _=>nh a) hz).trans (by rw[List.all_eq_true.mpr λ_ _=>rfl,Bool.and_true])
theorem J9{f:List Int->PV}(hf:f=tI\/f=lI)(xs:List Int)(n:Int)(hz:xs.length<=sizeLine):eS [f xs,.int n]=M.ok (.bl (decide ((xs.length:Int)=n))):=by
 rcases hf with rfl | rfl
 ·exact Dl xs n hz
 ·exact Bw xs n hz
theorem Gb{f:List Int->PV}(hf:f=tI\/f=lI)(xs:List Int):cv (f xs)=some (xs.map PV.int):=by rcases hf with rfl | rfl <;> rfl
theorem within_int(x a b:Int):dG [.int x,.int a,.int b]=M.ok (.bl (decide (a<=x/\x<=b))):=by
 unfold dG eC
 dsimp? [nh]
 by_cases h:a<=x
 ·simp only[h,decide_true,if_true,true_and];dsimp? []
 ·simp only[h,decide_false,false_and];dsimp? []
theorem jo{xs:List PV}(h:cv p=some xs):tf p=M.ok (.int xs.length):=by
 cases p <;> first | (cases h;rfl) | cases h
theorem qV(xs:List Int)(hp:cv p=some (xs.map PV.int))(h1:1<=xs.length)(h6:xs.length<=6)(hx:∀ x∈xs,2<=x/\x<=360):gP [p]=M.ok .cy:=by
 unfold gP gQ
 have a1:¬ (6:Int)<xs.length:=by omega
 have a2:¬ (xs.length:Int)=0:=by omega
 dsimp? [a1,a2,decide_false,jo hp,List.length_map,oO xs hp]
 refine fk xs.zipIdx (λzs env=>(∃ b c,env=[some (.sh p),b,c])/\∀ z∈zs,2<=z.1/\z.1<=360) ⟨⟨_,_,rfl⟩,λz hz=>hx z.1 (List.fst_mem_of_mem_zipIdx hz)⟩ ?_ ?_
 ·rintro⟨a,i⟩ r env ⟨⟨b,c,rfl⟩,hz⟩
  have ha:=hz (a,i) List.mem_cons_self
  refine⟨_,[some (.sh p),some (.sh (.int i)),some (.sh (.int a))],rfl,?_,⟨_,_,rfl⟩,λz Px=>hz z (List.mem_cons_of_mem _ Px)⟩
  dsimp? [within_int,ha,and_self,decide_true]
 ·rintro Nm ⟨⟨b,c,rfl⟩,_⟩;rfl
theorem pZ{f:List Int->PV}(hf:f=tI\/f=lI)(n:Nat)(xs:List (List Int))(h8:xs.length<=8)(hx:∀ x∈xs,x.length=n)(hn:n<=100):f7 [.lst (xs.map f),.int n]=M.ok .cy:=by
 unfold f7 f9
 have a1:¬ (8:Int)<xs.length:=by omega
 dsimp? [a1,decide_false,List.length_map,kS]
 refine fk xs.zipIdx (λzs env=>(∃ b c,env=[some (.sh (.lst (xs.map f))),some (.sh (.int n)),b,c])/\∀ z∈zs,z.1.length=n) ⟨⟨_,_,rfl⟩,λz hz=>hx z.1 (List.fst_mem_of_mem_zipIdx hz)⟩ ?_ ?_
 ·rintro⟨a,i⟩ r env ⟨⟨b,c,rfl⟩,hz⟩
  have ha:a.length=n:=hz (a,i) List.mem_cons_self
  refine⟨_,[some (.sh (.lst (xs.map f))),some (.sh (.int n)),some (.sh (.int i)),some (.sh (f a))],rfl,?_,⟨_,_,rfl⟩,λz Px=>hz z (List.mem_cons_of_mem _ Px)⟩
  dsimp? [J9 hf a n (aO (by omega)),ha,decide_true]
 ·rintro Nm ⟨⟨b,c,rfl⟩,_⟩;rfl
theorem pF(n:Nat)(p:PV):(List.replicate n [p]).flatten=List.replicate n p:=by
 induction n with
 | zero=>rfl
 | succ n ih=>rw[List.replicate_succ,List.flatten_cons,ih];rfl
theorem mul_one(p:PV)(n:Nat)(h8:n<=1000):b_ (.tup [p]) (.int (n:Int))=M.ok (.tup (List.replicate n p)):=by
 have h2:[p].length*(n:Int).toNat<=sizeLine:=by
  rw[Int.toNat_natCast]
  exact aO (by show 1*n<=1000;omega)
 have h3:(n:Int)<2^63:=Int.lt_of_le_of_lt (Int.ofNat_le.mpr h8) (by decide)
 have h4:-(2^63)<=(n:Int):=Int.le_trans (by decide) (Int.natCast_nonneg n)
 rw[b_,av ⟨rfl,h4,h3,h2⟩,Int.toNat_natCast,pF]
theorem kW(xs:List PV)(h8:xs.length<=8):gR [.lst xs,.cy]=M.ok (tI (List.replicate xs.length 1)):=by
 unfold gR gG
 dsimp? [Dp,rH,mul_one (.int 1) xs.length (by omega)]
 rw[tI,List.map_replicate]
def xf(xs sizes:List Int):List Int:=(xs.zip sizes).map λz=>z.1%z.2
theorem uU(p q:PV)(xs sizes:List Int)(hp:cv p=some (xs.map PV.int))(hq:cv q=some (sizes.map PV.int))(hs:∀ s∈sizes,0<s)(hz:xs.length<=1000):k6 [p,q]=M.ok (tI (xf xs sizes)):=by
 have key:bI (bA 0 1) none (ak cA (ae 0) (ae 1)) ((xs.zip sizes).map λz=>.tup [.int z.1,.int z.2]) [none,none]=M.ok ((xs.zip sizes).map λz=>.int (z.1%z.2)):=by
  refine eO (p:=λz:Int×Int=>PV.int z.1) (q:=λz:Int×Int=>PV.int z.2) (xs.zip sizes) λz hz=>?_
  have:=hs z.2 (List.of_mem_zip (a:=z.1) (b:=z.2) hz).2
  dsimp? [aS this]
 unfold k6 mM
 have hl:(xs.zip sizes).length<=sizeLine:=by rw[List.length_zip];exact aO (Nat.le_trans (Nat.min_le_left _ _) hz)
 dsimp? [dF xs sizes hp hq,List.length_map,av hl,key]
 rw[tI,xf,List.map_map];rfl
theorem wO(a b c:PV):aP (.tup [a,b,c]) (.int 0)=M.ok a:=bD (j:=0) rfl rfl
theorem HP(a b c:PV):aP (.tup [a,b,c]) (.int 1)=M.ok b:=bD (j:=1) rfl rfl
theorem Hl(a b c:PV):aP (.tup [a,b,c]) (.int 2)=M.ok c:=bD (j:=2) rfl rfl
theorem rW(a b:Int)(ha:a.natAbs<2^60)(hb:b.natAbs<2^60):∃ s t,gj [.int a,.int b]=M.ok (.tup [.int (Int.gcd a b),.int s,.int t])/\s*a+t*b=Int.gcd a b/\s.natAbs<=b.natAbs+1/\t.natAbs<=a.natAbs+(b.natAbs+1)*a.natAbs+b.natAbs+1:=by
 let J:af->Prop:=λenv=>∃ r s t r' s' t' x y,env=[some (.sh (.int a)),some (.sh (.int b)),some (.sh ((PV.tup [PV.int r,PV.int s,PV.int t]))),some (.sh ((PV.tup [PV.int r',PV.int s',PV.int t']))),x,y]/\Eu.St a b r s t r' s' t'
 let m:af->Nat:=λenv=>match env with
  | [_,_,_,some (.sh (.tup [.int r,_,_])),_,_]=>r.natAbs
  | _=>0
 have hk:(b.natAbs+1)*a.natAbs<=2^60*2^60:=Nat.mul_le_mul (by omega) (by omega)
 have hk2:(2:Nat)^60*2^60=2^120:=by decide
 have start:J [some (.sh (.int a)),some (.sh (.int b)),some (.sh ((PV.tup [PV.int a,PV.int 1,PV.int 0]))),some (.sh ((PV.tup [PV.int b,PV.int 0,PV.int 1]))),none,none]:=⟨_,_,_,_,_,_,_,_,rfl,Eu.start a b⟩
 have loop:=sE (u:=ff (ak uJ (ak aP (ae 3) (λ_=>M.ok (.int 0))) (λ_=>M.ok (.int 0)))) (b:=(aq (br 4 (ak bF (ak aP (ae 2) (λ_=>M.ok (.int 0))) (ak aP (ae 3) (λ_=>M.ok (.int 0)))))
  (aq (br 5 (lT (aa (ak n_ (ak aP (ae 2) (λ_=>M.ok (.int 0))) (ak b_ (ae 4) (ak aP (ae 3) (λ_=>M.ok (.int 0))))) (aa (ak n_ (ak aP (ae 2) (λ_=>M.ok (.int 1))) (ak b_ (ae 4) (ak aP (ae 3) (λ_=>M.ok (.int 1))))) (aa (ak n_ (ak aP (ae 2) (λ_=>M.ok (.int 2))) (ak b_ (ae 4) (ak aP (ae 3) (λ_=>M.ok (.int 2))))) aj)))))
  (aq (br 2 (ae 3))
  (aq (br 3 (ae 5))
  au))))) J m ?_ _ start
 ·obtain⟨Nm,e1,⟨r,s,t,r',s',t',x,y,rfl,st⟩,e2⟩:=loop
  have hr':r'=0:=by
   revert e2
   dsimp? [wO]
   intro e2
   have:(!decide (r'=0))=false:=by injection e2 with e2;injection e2
   simpa using this
  subst hr'
  obtain⟨d1,d2⟩:=Eu.done st
  have hg:(r.natAbs:Int)=Int.gcd a b:=by
   have h1:r.natAbs∣Int.gcd a b:=Int.dvd_gcd (Int.natAbs_dvd.mpr d1) (Int.natAbs_dvd.mpr d2)
   have h2:((Int.gcd a b:Nat):Int)∣r:=by
    rw[st.c0]
    exact Int.dvd_add (Int.dvd_trans (Int.gcd_dvd_left ..) (Int.dvd_mul_left _ _)) (Int.dvd_trans (Int.gcd_dvd_right ..) (Int.dvd_mul_left _ _))
   have h3:Int.gcd a b∣r.natAbs:=Int.ofNat_dvd_left.mp h2
   rw[Nat.dvd_antisymm h1 h3]
  unfold gj ky
  dsimp? []
  rw[e1]
  dsimp? [wO,HP,Hl]
  by_cases hneg:r<0
  ·refine⟨-s,-t,?_,?_,by rw[Int.natAbs_neg];exact st.b0,by rw[Int.natAbs_neg];exact st.d0⟩
   ·simp only[hneg,decide_true,if_true];dsimp? []
    rw[show -r=(Int.gcd a b:Int) by omega]
   ·have:=st.c0
    rw[Int.neg_mul,Int.neg_mul];omega
  ·refine⟨s,t,?_,?_,st.b0,st.d0⟩
   ·simp only[hneg,decide_false,Bool.false_eq_true,if_false];dsimp? []
    rw[show r=(Int.gcd a b:Int) by omega]
   ·have:=st.c0;omega
 ·rintro env ⟨r,s,t,r',s',t',x,y,rfl,st⟩
  by_cases h0:r'=0
  ·refine .inl ?_
   dsimp? [wO]
   simp[h0]
  ·refine .inr ⟨?_,?_⟩
   ·dsimp? [wO]
    simp[h0]
   ·obtain⟨P7,lt⟩:=Eu.turn st h0
    have b1:=st.m1;have b0:=st.m0;have c1:=st.b1;have c2:=st.d1;have c3:=P7.m1
    have q1:(r.fdiv r').natAbs<=r.natAbs+1:=by
     obtain⟨f1,f2,f3⟩:=Eu.sd r r' h0
     generalize r.fdiv r'=q at *
     have e:q*r'=r-(r-q*r'):=by omega
     have e2:(q*r').natAbs<=r.natAbs+(r-q*r').natAbs:=by omega
     rw[Int.natAbs_mul] at e2
     have:q.natAbs*1<=q.natAbs*r'.natAbs:=Nat.mul_le_mul_left _ (by omega)
     rcases Nat.lt_or_ge (r.natAbs+1) q.natAbs with h | h
     ·have h5:(r.natAbs+2)*r'.natAbs<=q.natAbs*r'.natAbs:=Nat.mul_le_mul_right _ (by omega)
      have h6:r.natAbs*1<=r.natAbs*r'.natAbs:=Nat.mul_le_mul_left _ (by omega)
      rw[Nat.add_mul] at h5
      omega
     ·exact h
    have q2:(r.fdiv r').natAbs<2^200:=by omega
    refine⟨[some (.sh (.int a)),some (.sh (.int b)),some (.sh ((PV.tup [PV.int r',PV.int s',PV.int t']))),some (.sh ((PV.tup [PV.int (r-r.fdiv r'*r'),PV.int (s-r.fdiv r'*s'),PV.int (t-r.fdiv r'*t')]))),some (.sh (.int (r.fdiv r'))),some (.sh ((PV.tup [PV.int (r-r.fdiv r'*r'),PV.int (s-r.fdiv r'*s'),PV.int (t-r.fdiv r'*t')])))],?_,⟨_,_,_,_,_,_,_,_,rfl,P7⟩,lt⟩
    dsimp? [wO,HP,Hl,sH h0 (Nat.lt_of_lt_of_le (show r'.natAbs<2^200 by omega) (Nat.pow_le_pow_right (by decide) (by decide))),bg (k:=200) (l:=200) q2 (show r'.natAbs<2^200 by omega),bg (k:=200) (l:=200) q2 (show s'.natAbs<2^200 by omega),bg (k:=200) (l:=200) q2 (show t'.natAbs<2^200 by omega)]
def R(sizes:List Int):Int:=(Lc.CL (sizes.map Int.toNat):Nat)
structure Sz (sizes:List Int):Prop where
 h1:1<=sizes.length
 h6:sizes.length<=6
 hx:∀ x∈sizes,2<=x/\x<=360
variable{sizes:List Int}
theorem p5(h:Sz sizes):0<R sizes:=by
 refine Int.ofNat_lt.mpr (Lc.lcm_pos λn hn=>?_)
 obtain⟨x,hx,rfl⟩:=List.mem_map.mp hn
 have:=h.hx x hx;omega
theorem JH(h:Sz sizes):R sizes<2^60:=by
 have h1:=Lc.pM 9 (sizes.map Int.toNat) 1 0 (by decide) (by decide) λn hn=>by
  obtain⟨x,hx,rfl⟩:=List.mem_map.mp hn
  have:=h.hx x hx;omega
 have h2:(2:Nat)^(0+9*(sizes.map Int.toNat).length)<=2^54:=Nat.pow_le_pow_right (by decide) (by rw[List.length_map];have:=h.h6;omega)
 have h3:Lc.CL (sizes.map Int.toNat)<=2^54:=Nat.le_trans h1 h2
 unfold R;omega
theorem Kz(h:Sz sizes){x:Int}(hx:x∈sizes):x∣R sizes:=by
 have h1:=Lc.lcm_dvd (ns:=sizes.map Int.toNat) (List.mem_map.mpr ⟨x,hx,rfl⟩)
 have h2:=Int.ofNat_dvd.mpr h1
 rw[Int.toNat_of_nonneg (by have:=h.hx x hx;omega)] at h2
 exact h2
structure Acc (sizes r:List Int) (acc:Nat):Prop where
 pos:0<acc
 le:acc<=2^(9*(6-r.length))
 len:r.length<=6
 val:(r.map Int.toNat).foldl Nat.lcm acc=Lc.CL (sizes.map Int.toNat)
 kd:∀ x∈r,2<=x/\x<=360
theorem Acc.start(h:Sz sizes):Acc sizes sizes 1:=⟨by decide,Nat.one_le_two_pow,h.h6,rfl,h.hx⟩
variable{acc:Nat}{r:List Int}
theorem Acc.lt(h:Acc sizes r acc):acc<2^60:=by
 have h2:(2:Nat)^(9*(6-r.length))<=2^54:=Nat.pow_le_pow_right (by decide) (by omega)
 have:=h.le;omega
theorem Acc.turn{x:Int}(h:Acc sizes (x::r) acc):Acc sizes r (Nat.lcm acc x.toNat)/\(acc:Int)/(Int.gcd acc x:Nat)*x=(Nat.lcm acc x.toNat:Nat)/\(acc:Int)/(Int.gcd acc x:Nat)<=acc/\0<Int.gcd acc x:=by
 have hx:=h.kd x List.mem_cons_self
 have hp:=h.pos
 obtain⟨n,rfl⟩:=Int.eq_ofNat_of_zero_le (show 0<=x by omega)
 have hg:Int.gcd (acc:Int) (n:Int)=Nat.gcd acc n:=rfl
 refine⟨⟨Nat.lcm_pos hp (by omega),?_,?_,h.val,λy hy=>h.kd y (List.mem_cons_of_mem _ hy)⟩,?_,?_,?_⟩
 ·have h1:Nat.lcm acc n<=acc*n:=Nat.le_of_dvd (Nat.mul_pos hp (by omega)) (Nat.lcm_dvd (Nat.dvd_mul_right ..) (Nat.dvd_mul_left ..))
  have h2:acc*n<=2^(9*(6-(r.length+1)))*2^9:=Nat.mul_le_mul h.le (by omega)
  have hl:r.length+1<=6:=h.len
  rw[← Nat.pow_add,show 9*(6-(r.length+1))+9=9*(6-r.length) by omega] at h2
  exact Nat.le_trans h1 h2
 ·have hl:r.length+1<=6:=h.len
  omega
 ·rw[hg,Int.toNat_natCast,← Lc.Cn];norm_cast
 ·rw[hg]
  exact Int.ofNat_le.mpr (Nat.div_le_self acc (Nat.gcd acc n))
 ·rw[hg];exact Nat.gcd_pos_of_pos_left _ hp
theorem iH(sizes:List Int)(hp:cv p=some (sizes.map PV.int))(h:Sz sizes):fN [p]=M.ok (.int (R sizes)):=by
 unfold fN fO
 dsimp? [hp]
 refine fk sizes (λr env=>∃ acc x,env=[some (.sh p),some (.sh (.int (acc:Nat))),x]/\Acc sizes r acc) ⟨1,_,rfl,.start h⟩ ?_ ?_
 ·rintro a r env ⟨acc,x,rfl,A⟩
  obtain⟨A2,e1,e2,e3⟩:=A.turn
  have l1:=A.lt
  have ha:=A.kd a List.mem_cons_self
  obtain⟨s,t,ec,_,_,_⟩:=rW (acc:Int) a (by omega) (by omega)
  have g1:Int.gcd acc a<=acc:=Nat.le_of_dvd A.pos (Int.ofNat_dvd.mp (Int.gcd_dvd_left ..))
  have d0:0<=(acc:Int)/(Int.gcd acc a:Nat):=Int.ediv_nonneg (by omega) (by omega)
  refine⟨_,[some (.sh p),some (.sh (.int (Nat.lcm acc a.toNat:Nat))),some (.sh (.int a))],rfl,?_,_,_,rfl,A2⟩
  dsimp? [ec,wO,aW (i:=(acc:Int)) (show (0:Int)<(Int.gcd acc a:Nat) by omega) (show ((Int.gcd acc a:Nat):Int)<2^64 by omega),bg (k:=64) (l:=64) (show ((acc:Int)/(Int.gcd acc a:Nat)).natAbs<2^64 by omega) (show a.natAbs<2^64 by omega),e1]
 ·rintro Nm ⟨acc,x,rfl,A⟩
  dsimp? []
  have:=A.val
  rw[R,← this];rfl
def qy(sizes:List Int)(levers:List (List Int)):List (Str×PV):=[("dial_sizes", tI sizes),("lever_settings", .tup (levers.map tI)),("lever_prices", tI (List.replicate levers.length 1)),("least_round", .int (R sizes))]
def dw(sizes:List Int)(levers:List (List Int)):PV:=.obj ao (qy sizes levers)
structure DC (sizes xs:List Int):Prop where
 len:xs.length=sizes.length
 kd:∀ z∈xs.zip sizes,0<=z.1/\z.1<z.2
variable{xs:List Int}
theorem pX(h:DC sizes xs):xf xs sizes=xs:=by
 obtain⟨hl,hr⟩:=h
 unfold xf
 induction xs generalizing sizes with
 | nil=>rfl
 | cons x r ih =>
  cases sizes with
  | nil=>cases hl
  | cons s t =>
   have h1:=hr (x,s) (by simp)
   rw[List.zip_cons_cons,List.map_cons,ih (Nat.succ.inj hl) λz hz=>hr z (by rw[List.zip_cons_cons];exact List.mem_cons_of_mem _ hz)]
   rw[show ((x,s):Int×Int).1%((x,s):Int×Int).2=x from Int.emod_eq_of_lt h1.1 h1.2]
theorem vY(f:Str)(p:PV):∀ fs:List (Str×PV),(ue f p fs).length<=fs.length+1
 | []=>by simp[ue]
 | (g,q)::r=>by
  have:=vY f p r
  unfold ue
  split
  ·simp
  ·simp;omega
variable{n:Nat}
theorem gA{f:Str}{fs:List (Str×PV)}(h:fs.length<=n):(ue f p fs).length<=n+1:=Nat.le_trans (vY f p fs) (by omega)
theorem fU(a C:Addr)(f:Str)(p:PV)(fs:List (Str×PV))(r:af)(h:fs.length<1000):B5 0 C f p (some (.bd a C fs)::r)=M.ok (.nx (some (.bd a C (ue f p fs))::r)):=by
 show cW _ _=_
 rw[av ⟨rfl,h⟩];rfl
theorem sS{f:List Int->PV}(hf:f=tI\/f=lI)(sizes:List Int)(levers:List (List Int))(hp:cv p=some (sizes.map PV.int))(h:Sz sizes)(h8:levers.length<=8)(hl:∀ l∈levers,l.length=sizes.length):bY ao bp [.cy] [p,.lst (levers.map f)]=M.ok (dw sizes (levers.map λl=>xf l sizes)):=by
 have key:∀ a,bp a ([p,.lst (levers.map f)]++[.cy])=M.ok (qy sizes (levers.map λl=>xf l sizes)):=by
  intro a
  have e1:bI (bQ 0) none (ai k6 (aa (ae 0) (aa (ae 1) aj))) (levers.map f) [none,some (.sh p)]=M.ok (levers.map λl=>tI (xf l sizes)):=by
   refine dZ levers λl hm=>?_
   have hs:=hl l hm
   have:=uU (f l) p l sizes (Gb hf l) hp (λs hs=>by have:=h.hx s hs;omega) (by rw[hs];have:=h.h6;omega)
   dsimp? [this]
  unfold bp jX
  simp only[pk]
  rw[av (show ([p,PV.lst (levers.map f)]++[PV.cy]).length+1=4 from rfl)]
  simp only[vH,xr]
  dsimp? [hp,jo hp,qV sizes hp h.h1 h.h6 h.hx,pZ hf sizes.length levers h8 hl (by have:=h.h6;omega),i7,hp,jo hp,List.length_map,av (aO (show levers.length<=1000 by omega)),e1,kW _ (show (levers.map f).length<=8 by rw[List.length_map];exact h8),iH sizes hp h]
  rw[fU _ _ _ _ _ _ (by simp)]
  dsimp? [i7,hp,jo hp,List.length_map,av (aO (show levers.length<=1000 by omega)),e1,kW _ (show (levers.map f).length<=8 by rw[List.length_map];exact h8),iH sizes hp h]
  rw[fU _ _ _ _ _ _ (Nat.lt_of_le_of_lt (gA (Nat.zero_le 0)) (by decide))]
  dsimp? [i7,hp,jo hp,List.length_map,av (aO (show levers.length<=1000 by omega)),e1,kW _ (show (levers.map f).length<=8 by rw[List.length_map];exact h8),iH sizes hp h]
  rw[fU _ _ _ _ _ _ (Nat.lt_of_le_of_lt (gA (gA (Nat.zero_le 0))) (by decide))]
  dsimp? [i7,hp,jo hp,List.length_map,av (aO (show levers.length<=1000 by omega)),e1,kW _ (show (levers.map f).length<=8 by rw[List.length_map];exact h8),iH sizes hp h]
  rw[fU _ _ _ _ _ _ (Nat.lt_of_le_of_lt (gA (gA (gA (Nat.zero_le 0)))) (by decide))]
  dsimp? []
  show cW _ _=_
  rw[av ⟨rfl,rfl⟩]
  rw[qy,List.map_map,List.length_map]
  rfl
 unfold bY
 rw[xP key];rfl
theorem CS(sizes:List Int)(levers:List (List Int)):(qy sizes levers).lookup (Str.ofString "dial_sizes")=some (tI sizes):=rfl
theorem zw(sizes:List Int)(levers:List (List Int)):(qy sizes levers).lookup (Str.ofString "lever_settings")=some (.tup (levers.map tI)):=rfl
theorem AL(sizes:List Int)(levers:List (List Int)):(qy sizes levers).lookup (Str.ofString "least_round")=some (.int (R sizes)):=rfl
theorem Kg(sizes:List Int)(levers:List (List Int)):(qy sizes levers).lookup (Str.ofString "sizes")=none:=rfl
theorem Ky(sizes:List Int)(levers:List (List Int)):(qy sizes levers).lookup (Str.ofString "levers")=none:=rfl
theorem u6(sizes:List Int)(levers:List (List Int)):aC [dw sizes levers]=M.ok (tI sizes):=by
 unfold aC aX
 dsimp? [c_,dw,beq_self_eq_true,CS]
theorem sy(sizes:List Int)(levers:List (List Int)):aZ [dw sizes levers]=M.ok (.tup (levers.map tI)):=by
 unfold aZ bq
 dsimp? [c_,dw,beq_self_eq_true,zw]
variable{levers:List (List Int)}
theorem oR{g:af->M PV}{env:af}(h:g env=M.ok (dw sizes levers)):bh ao "sizes" aC g aj env=M.ok (tI sizes):=by
 have:=u6 sizes levers
 rw[bh,h,M.aL]
 show cW _ (M.bind (aj env) _)=_
 rw[av ⟨rfl,Kg sizes levers⟩]
 exact this
theorem o_{g:af->M PV}{env:af}(h:g env=M.ok (dw sizes levers)):bh ao "levers" aZ g aj env=M.ok (.tup (levers.map tI)):=by
 have:=sy sizes levers
 rw[bh,h,M.aL]
 show cW _ (M.bind (aj env) _)=_
 rw[av ⟨rfl,Ky sizes levers⟩]
 exact this
def EM(sizes xs:List Int):Bool:=decide ((xs.length:Int)=sizes.length)&&(xs.zip sizes).all λz=>decide (0<=z.1/\z.1<z.2)
theorem Fc:EM sizes xs=true ↔ DC sizes xs:=by
 unfold EM
 constructor
 ·intro h
  simp only[Bool.and_eq_true,decide_eq_true_eq,List.all_eq_true] at h
  exact⟨by omega,h.2⟩
 ·intro h
  simp only[Bool.and_eq_true,decide_eq_true_eq,List.all_eq_true]
  exact⟨by rw[h.len],h.kd⟩
theorem AX(x s:Int):∀ env:af,env=[some (.sh (.int x)),some (.sh (.int s))]->lW E7 DZ (λ_=>M.ok (.int 0)) (ae 0) (ae 1) env=M.ok (.bl (decide (0<=x/\x<s))):=by
 rintro env rfl
 dsimp? []
 by_cases h:0<=x
 ·simp only[h,decide_true,if_true,true_and]
  try dsimp? []
 ·simp only[h,decide_false,false_and]
  try dsimp? []
theorem AZ(h:α->Bool)(xs:List α):tK [.lst (xs.map λa=>.bl (h a))]=M.ok (.bl (xs.all h)):=by
 have:=wb (xs.map h)
 rw[List.map_map] at this
 rw[show (λa=>PV.bl (h a))=PV.bl∘h from rfl,this]
 simp[List.all_map]
theorem wR(h:Sz sizes)(xs:List Int)(hz:xs.length<=1000):gN [dw sizes levers,tI xs]=M.ok (.bl (EM sizes xs)):=by
 have key:bI (bA 0 1) none (lW E7 DZ (λ_=>M.ok (.int 0)) (ae 0) (ae 1)) ((xs.zip sizes).map λz=>.tup [.int z.1,.int z.2]) [none,none]=M.ok ((xs.zip sizes).map λz=>.bl (decide (0<=z.1/\z.1<z.2))) :=
  eO (p:=λz:Int×Int=>PV.int z.1) (q:=λz:Int×Int=>PV.int z.2) (xs.zip sizes) λz hz=>AX z.1 z.2 _ rfl
 have hl:(xs.zip sizes).length<=sizeLine:=by rw[List.length_zip];exact aO (Nat.le_trans (Nat.min_le_left _ _) hz)
 unfold gN hU
 dsimp? [oR (sizes:=sizes) (levers:=levers) (g:=ae 0) (env:=[some (.sh (dw sizes levers)),some (.sh (tI xs)),none]) rfl,Dl xs sizes.length (aO hz)]
 unfold EM
 by_cases e:(xs.length:Int)=sizes.length
 ·simp only[e,decide_true,Bool.not_true,Bool.false_eq_true,if_false,Bool.true_and]
  dsimp? [dF (p:=tI xs) (q:=tI sizes) xs sizes rfl rfl,List.length_map,av hl,key,AZ]
 ·simp only[e,decide_false,Bool.not_false,if_true,Bool.false_and]
  dsimp? []
theorem o4(h:Sz sizes)(hs:DC sizes xs):cF [dw sizes levers,tI xs]=M.ok .cy:=by
 unfold cF cZ
 dsimp? [wR (levers:=levers) h xs (by rw[hs.len];have:=h.h6;omega),Fc.mpr hs]
variable{ys:List Int}
theorem iQ{z:Int×Int}(h:z∈xs.zip ys):z.1∈xs/\z.2∈ys:=List.of_mem_zip (a:=z.1) (b:=z.2) h
theorem tj(h:Sz sizes)(hs:DC sizes xs){x:Int}(hx:x∈xs):0<=x/\x<360:=by
 obtain⟨i,hi,rfl⟩:=List.mem_iff_getElem.mp hx
 have hj:i<sizes.length:=by rw[← hs.len];exact hi
 have:=hs.kd (xs[i],sizes[i]) (by
  rw[List.mem_iff_getElem]
  exact⟨i,by rw[List.length_zip];omega,by rw[List.getElem_zip]⟩)
 have h2:=h.hx sizes[i] (List.getElem_mem hj)
 exact⟨this.1,by have:=this.2;simp only at this;omega⟩
theorem Bk(xs sizes:List Int):xf xs sizes=zI xs sizes:=rfl
def cf(a b:Int):Int×Int:=open Classical in if h:∃ p:Int×Int,gj [.int a,.int b]=M.ok (.tup [.int (Int.gcd a b),.int p.1,.int p.2])/\p.1*a+p.2*b=Int.gcd a b/\p.1.natAbs<=b.natAbs+1/\p.2.natAbs<=a.natAbs+(b.natAbs+1)*a.natAbs+b.natAbs+1 then h.choose else (0,0)
theorem FF(a b:Int)(ha:a.natAbs<2^60)(hb:b.natAbs<2^60):gj [.int a,.int b]=M.ok (.tup [.int (Int.gcd a b),.int (cf a b).1,.int (cf a b).2])/\(cf a b).1*a+(cf a b).2*b=Int.gcd a b/\(cf a b).1.natAbs<=b.natAbs+1/\(cf a b).2.natAbs<=a.natAbs+(b.natAbs+1)*a.natAbs+b.natAbs+1:=by
 have h:∃ p:Int×Int,gj [.int a,.int b]=M.ok (.tup [.int (Int.gcd a b),.int p.1,.int p.2])/\p.1*a+p.2*b=Int.gcd a b/\p.1.natAbs<=b.natAbs+1/\p.2.natAbs<=a.natAbs+(b.natAbs+1)*a.natAbs+b.natAbs+1:=by
  obtain⟨s,t,h⟩:=rW a b ha hb
  exact⟨(s,t),h⟩
 unfold cf
 rw[dif_pos h]
 exact h.choose_spec
theorem yG:CB cf:=λa b h1 h2 h3 h4=>by
 obtain⟨_,e,b1,b2⟩:=FF a b (by omega) (by omega)
 refine⟨e,by omega,?_⟩
 have:(b.natAbs+1)*a.natAbs<=361*360:=Nat.mul_le_mul (by omega) (by omega)
 omega
def mk(r:Row):PV:=.tup [tI r.1,tI r.2]
theorem pL(r:Row):aP (mk r) (.int 0)=M.ok (tI r.1):=bD (p:=mk r) (j:=0) rfl rfl
theorem AI(r:Row):aP (mk r) (.int 1)=M.ok (tI r.2):=bD (p:=mk r) (j:=1) rfl rfl
variable{i:Nat}
theorem ku(h:i<xs.length):aP (tI xs) (.int (i:Int))=M.ok (.int (vf xs i)) :=
 bD (p:=tI xs) rfl (by rw[List.getElem?_map,List.getElem?_eq_getElem h,aQ h];rfl)
variable{d:Nat}{rows:List Row}
theorem pv(h:d<rows.length):aP (.lst (rows.map mk)) (.int (d:Int))=M.ok (mk (row rows d)) :=
 bD (p:=.lst (rows.map mk)) rfl (by rw[List.getElem?_map,List.getElem?_eq_getElem h,ik h];rfl)
theorem pQ{A B:Nat}(p q:PV)(xs ys:List Int)(a b:Int)(hp:cv p=some (xs.map PV.int))(hq:cv q=some (ys.map PV.int))(hx:Bd B xs)(hy:Bd B ys)(ha:a.natAbs<2^A)(hb:b.natAbs<2^A)(hB:B<=9000)(hA:A<=9000)(hz:xs.length<=1000):kT [p,.int a,q,.int b]=M.ok (tI (oB xs a ys b)):=by
 have key:bI (bA 0 1) none (ak dM (ak b_ (ae 2) (ae 0)) (ak b_ (ae 3) (ae 1))) ((xs.zip ys).map λz=>.tup [.int z.1,.int z.2]) [none,none,some (.sh (.int a)),some (.sh (.int b))]=M.ok ((xs.zip ys).map λz=>.int (a*z.1+b*z.2)):=by
  refine eO (p:=λz:Int×Int=>PV.int z.1) (q:=λz:Int×Int=>PV.int z.2) (xs.zip ys) λz hz=>?_
  have m:=List.of_mem_zip (a:=z.1) (b:=z.2) hz
  dsimp? [bg (k:=A) (l:=B) ha (hx _ m.1) hA hB,bg (k:=A) (l:=B) hb (hy _ m.2) hA hB]
 have hl:(xs.zip ys).length<=sizeLine:=by rw[List.length_zip];exact aO (Nat.le_trans (Nat.min_le_left _ _) hz)
 unfold kT mj
 dsimp? [dF xs ys hp hq,List.length_map,av hl,key]
 rw[tI,oB,List.map_map];rfl
variable{a b:Int}
theorem xp{A B:Nat}{r q:Row}(hs:∀ s∈sizes,0<s)(h1:Bd B r.1)(h2:Bd B r.2)(h3:Bd B q.1)(h4:Bd B q.2)(ha:a.natAbs<2^A)(hb:b.natAbs<2^A)(hB:B<=9000)(hA:A<=9000)(z1:r.1.length<=100)(z2:r.2.length<=100):dO [tI sizes,mk r,.int a,mk q,.int b]=M.ok (mk (qD sizes r a q b)):=by
 unfold dO fb
 dsimp? [pL,AI,pQ (tI r.1) (tI q.1) r.1 q.1 a b rfl rfl h1 h3 ha hb hB hA (by omega),pQ (tI r.2) (tI q.2) r.2 q.2 a b rfl rfl h2 h4 ha hb hB hA (by omega),uU (tI (oB r.1 a q.1 b)) (tI sizes) (oB r.1 a q.1 b) sizes rfl rfl hs (by rw[cz];omega)]
 rfl
variable{m:Nat}
theorem tJ(w:Wf n m rows)(hs:sizes.length=n)(hd:d<n):dC [tI sizes,.lst (rows.map mk),.int (d:Int)]=M.ok (.int (aY (vf sizes) (DD rows) d)):=by
 unfold dC eH
 have e1:=w.p4 hd
 dsimp? [pv (rows:=rows) (d:=d) (by rw[w.len];exact hd),pL,ku (xs:=(row rows d).1) (i:=d) (by omega)]
 unfold aY
 by_cases z:DD rows d d=0
 ·have z':vf (row rows d).1 d=0:=z
  simp only[z',z,decide_true,if_true]
  dsimp? [ku (xs:=sizes) (i:=d) (by omega)]
 ·have z':¬ vf (row rows d).1 d=0:=z
  simp only[z',z,decide_false,Bool.false_eq_true,if_false]
  dsimp? []
  rfl
theorem drop_cons{xs:List α}{a:α}{r:List α}(h:xs.drop d=a::r):d<xs.length/\xs[d]?=some a/\xs.drop (d+1)=r:=by
 have hd:d<xs.length:=by
  rcases Nat.lt_or_ge d xs.length with q | q
  ·exact q
  ·rw[List.drop_eq_nil_of_le q] at h;cases h
 rw[List.drop_eq_getElem_cons hd] at h
 injection h with h1 h2
 exact⟨hd,by rw[List.getElem?_eq_getElem hd,h1],h2⟩
theorem eh(env:af):j7 aj env=M.ok []:=by
 simp only[j7,aj,M.aL]
 exact if_pos (Nat.zero_le _)
theorem yN{f:af->M PV}{env:af}{xs:List PV}(h:env[i]?=some (some (.ow xs)))(hf:f env=M.ok p)(hz:xs.length<1000):lX i f env=M.ok (.nx (env.set i (some (.ow (xs++[p]))))):=by
 unfold lX
 rw[h]
 show M.bind (f env) _=_
 rw[hf,M.aL,if_pos (nq (Nat.le_of_lt hz))]
theorem sR(hl:xs.length=n)(h:∀ i,i<n->0<=vf xs i/\vf xs i<vf sizes i)(hs:∀ i,i<n->vf sizes i<=360):Bd 9 xs:=λx hx=>by
 obtain⟨i,hi,rfl⟩:=List.mem_iff_getElem.mp hx
 have h1:=h i (by omega);have h2:=hs i (by omega)
 rw[aQ hi] at h1
 omega
theorem Dj(h1:-1000<=a)(h2:a<=1000)(h3:-1000<=b)(h4:b<=1000):zo [.int a,.int b]=M.ok ((List.range (b-a).toNat).map λ(i:Nat)=>.int (a+(i:Int))):=by
 have h:-(2^62)<=a/\a<2^62/\-(2^62)<=b/\b<2^62:=by omega
 show cW (-(2^62)<=a/\a<2^62/\-(2^62)<=b/\b<2^62) _=_
 rw[av h]
variable{A:Nat->bS}{k:Nat}
section
variable{left:Row}
theorem St.Az(h:St n m sizes A k rows)(hd:d<n):Bd 9 (row rows d).1:=sR (h.wf.p4 hd) (λi hi=>h.gd.kd d hd i hi) h.sm
theorem BZ(h:St n m sizes A k rows):∀ s∈sizes,0<s:=λs hs=>by
 obtain⟨i,hi,rfl⟩:=List.mem_iff_getElem.mp hs
 have:=h.gd.sp i (by rw[← h.hs];exact hi)
 rwa [aQ hi] at this
theorem Dh(h:St n m sizes A k rows)(L:Lv n m sizes A k left)(hn:n<=6)(hm:m<=8):j3 [tI sizes,.lst (rows.map mk),mk left]=M.ok (.tup [.lst ((cS cf sizes rows left n).map mk),tI (aB cf sizes rows left n).2]):=by
 have rl:=h.wf.len
 have hkm:=L.km
 unfold j3 jG
 dsimp? [eh,kS]
 refine fk rows.zipIdx (λzs env=>∃ d x4 x5 x6 x7 x8,d<=n/\rows.zipIdx.drop d=zs/\env=[some (.sh (tI sizes)),some (.sh (.lst (rows.map mk))),some (.sh (mk (aB cf sizes rows left d))),some (.ow ((cS cf sizes rows left d).map mk)),x4,x5,x6,x7,x8]) ⟨0,none,none,none,none,none,Nat.zero_le _,rfl,rfl⟩ ?_ ?_
 ·rintro⟨a,i⟩ zs env ⟨d,x4,x5,x6,x7,x8,hd,Pa,rfl⟩
  obtain⟨h1,h2,h3⟩:=drop_cons Pa
  rw[List.length_zipIdx,rl] at h1
  have h4:a=row rows d/\i=d:=by
   rw[List.getElem?_zipIdx] at h2
   rw[ik (by rw[rl];exact h1)]
   rw[List.getElem?_eq_getElem (by rw[rl];exact h1)] at h2
   simp at h2
   exact⟨h2.1.symm,h2.2.symm⟩
  obtain⟨rfl,rfl⟩:=h4
  have ll:=dq (c:=cf) h.wf h.hs L.l1 L.l2 i (by omega)
  have lk:=kZ (c:=cf) h L i (by omega)
  have lb:=oS (c:=cf) h L hn i (by omega)
  have st:=h.gd.pos h1
  have sm:=h.sm i h1
  have nt:=lk i h1
  have e1:=h.wf.p4 h1;have e2:=h.wf.at2 h1
  generalize NL:aY (vf sizes) (DD rows) i=Oi at *
  generalize hnt:vf (aB cf sizes rows left i).1 i=nt' at *
  obtain⟨c1,c2,c3,c4⟩:=FF Oi nt' (by omega) (by omega)
  have cb:=yG Oi nt' st.1 (by omega) nt.1 (by omega)
  have gp:=gZ (b:=nt') st.1
  have gl:(Int.gcd Oi nt':Int)<=Oi:=Int.le_of_dvd st.1 (Int.gcd_dvd_left ..)
  have a1:=kC (b:=nt') st.1 (by omega)
  have a2:=mC (b:=nt') st.1 nt.1 (by omega)
  have B1:Bd 1300 (row rows i).1:=(St.Az h h1).mono (by omega)
  have B2:Bd 1300 (row rows i).2:=(h.bd i h1).mono (by omega)
  have B3:Bd 1300 (aB cf sizes rows left i).1:=(sR ll.1 lk h.sm).mono (by omega)
  have B4:Bd 1300 (aB cf sizes rows left i).2:=lb.mono (by omega)
  have w1:=xp (A:=20) (sizes:=sizes) (BZ h) B1 B2 B3 B4 cb.2.1 cb.2.2 (by decide) (by decide) (by omega) (by omega)
  have w2:=xp (A:=20) (sizes:=sizes) (a:=Oi/(Int.gcd Oi nt':Nat)) (b:=-(nt'/(Int.gcd Oi nt':Nat))) (BZ h) B3 B4 B1 B2 (by omega) (by omega) (by decide) (by decide) (by omega) (by omega)
  have ew:dY cf sizes rows left i=qD sizes (row rows i) (cf Oi nt').1 (aB cf sizes rows left i) (cf Oi nt').2:=by
   simp only[dY,NL,hnt]
  have el:aB cf sizes rows left (i+1)=qD sizes (aB cf sizes rows left i) (Oi/(Int.gcd Oi nt':Nat)) (row rows i) (-(nt'/(Int.gcd Oi nt':Nat))):=by
   simp only[aB,NL,hnt]
  refine⟨_,[some (.sh (tI sizes)),some (.sh (.lst (rows.map mk))),some (.sh (mk (aB cf sizes rows left (i+1)))),some (.ow ((cS cf sizes rows left (i+1)).map mk)),some (.sh (.int i)),some (.sh (mk (row rows i))),some (.sh (.int Oi)),some (.sh (.int nt')),some (.sh (.tup [.int (Int.gcd Oi nt'),.int (cf Oi nt').1,.int (cf Oi nt').2]))],rfl,?_,i+1,_,_,_,_,_,by omega,h3,rfl⟩
  have sok:=tJ h.wf h.hs h1
  rw[NL] at sok
  have nok:=ku (xs:=(aB cf sizes rows left i).1) (i:=i) (by omega)
  rw[hnt] at nok
  dsimp? [sok,pL,nok,c1]
  rw[yN (i:=3) rfl (p:=mk (dY cf sizes rows left i)) (by dsimp? [HP,Hl,w1,ew]) (by simp[cS];omega)]
  dsimp? [wO,aW (i:=Oi) gp (by omega),aW (i:=nt') gp (by omega),w2,el]
  rw[cS,cS,List.range_succ,List.map_append,List.map_append]
  rfl
 ·rintro env ⟨d,x4,x5,x6,x7,x8,hd,Pa,rfl⟩
  have Qr:d=n:=by
   have:=congrArg List.length Pa
   rw[List.length_drop,List.length_zipIdx,rl] at this
   simp at this
   omega
  subst Qr
  dsimp? [AI]
def bw(sizes:List Int)(rows:List Row)(r:Row)(f:Nat):Nat->Row
 | 0=>r
 | c+1 =>
  let l:=bw sizes rows r f c
  qD sizes l 1 (row rows (f+c)) (-(vf l.1 (f+c)/aY (vf sizes) (DD rows) (f+c)))
theorem iD(h:St n m sizes A k rows){r:Row}{f:Nat}(h1:r.1.length=n)(h2:r.2.length=m):∀ c,f+c<=n->(bw sizes rows r f c).1.length=n/\(bw sizes rows r f c).2.length=m
 | 0,_=>⟨h1,h2⟩
 | c+1,hc=>by
  obtain⟨i1,i2⟩:=iD h (f:=f) h1 h2 c (by omega)
  have e1:=h.wf.p4 (d:=f+c) (by omega);have e2:=h.wf.at2 (d:=f+c) (by omega)
  have hs:=h.hs
  simp only[bw,qD]
  rw[ko,cz,cz]
  exact⟨by omega,by omega⟩
theorem mW(h:St n m sizes A k rows){r:Row}{f:Nat}(h1:r.1.length=n)(h2:r.2.length=m)(h0:∀ i,i<n->0<=vf r.1 i/\vf r.1 i<vf sizes i):Dn n (vf sizes) (DD rows) f (λd=>vf (bw sizes rows r f (d-f)).1) where
 w0:=λi hi=>by rw[Nat.sub_self];exact h0 i hi
 ws:=λd hf hd i hi=>by
  obtain⟨c,rfl⟩:∃ c,d=f+c:=⟨d-f,by omega⟩
  obtain⟨i1,i2⟩:=iD h (f:=f) h1 h2 c (by omega)
  have e1:=h.wf.p4 (d:=f+c) (by omega)
  have hs:=h.hs
  show vf (bw sizes rows r f (f+c+1-f)).1 i=_
  rw[show f+c+1-f=c+1 by omega,show f+c-f=c by omega]
  simp only[bw,qD]
  rw[kr (by rw[cz];omega) (by omega),fH (by omega) (by omega)]
  rfl
theorem tU(h:St n m sizes A k rows){r:Row}{f:Nat}(h1:r.1.length=n)(h2:r.2.length=m){P₀:bS}{B:bS}(hl:Led n (vf sizes) m A (λi=>vf r.1 i-B i) (λl=>vf r.2 l-P₀ l)):∀ c,f+c<=n->Led n (vf sizes) m A (λi=>vf (bw sizes rows r f c).1 i-B i) (λl=>vf (bw sizes rows r f c).2 l-P₀ l)
 | 0,_=>hl
 | c+1,hc=>by
  obtain⟨i1,i2⟩:=iD h (f:=f) h1 h2 c (by omega)
  have e1:=h.wf.p4 (d:=f+c) (by omega);have e2:=h.wf.at2 (d:=f+c) (by omega)
  have hs:=h.hs
  refine Led.mix (a:=1) (b:=-(vf (bw sizes rows r f c).1 (f+c)/aY (vf sizes) (DD rows) (f+c))) (tU h (f:=f) h1 h2 hl c (by omega)) (h.led (f+c) (by omega)) (λi hi=>?_) λl hl=>?_
  ·simp only[bw,qD]
   rw[kr (by rw[cz];omega) (by omega),fH (by omega) (by omega)]
   obtain⟨z,hz⟩:=cG (1*vf (bw sizes rows r f c).1 i+-(vf (bw sizes rows r f c).1 (f+c)/aY (vf sizes) (DD rows) (f+c))*vf (row rows (f+c)).1 i) (vf sizes i)
   refine⟨z,?_⟩
   rw[← hz]
   unfold DD
   grind
  ·simp only[bw,qD]
   rw[fH (by omega) (by omega)]
   unfold PP
   grind
theorem uu(h:St n m sizes A k rows){r:Row}{f B:Nat}(h1:r.1.length=n)(h2:r.2.length=m)(h0:∀ i,i<n->0<=vf r.1 i/\vf r.1 i<vf sizes i)(hB:150*k+1<=B)(hb:Bd B r.2):∀ c,f+c<=n->Bd (B+11*c) (bw sizes rows r f c).2
 | 0,_=>hb
 | c+1,hc=>by
  have k0:=(mW h (f:=f) h1 h2 h0).kept h.gd (f+c) (by omega) (by omega) (f+c) (by omega)
  rw[show f+c-f=c by omega] at k0
  have sm:=h.sm (f+c) (by omega)
  have p:=h.gd.pos (d:=f+c) (by omega)
  have q:=Int.ediv_le_self (aY (vf sizes) (DD rows) (f+c)) k0.1
  have q0:=Int.ediv_nonneg k0.1 (Int.le_of_lt p.1)
  have:=Bd.mix (A:=10) (uu h (f:=f) h1 h2 h0 hB hb c (by omega)) ((h.bd (f+c) (by omega)).mono (show 150*k+1<=B+11*c by omega)) (a:=1) (b:=-(vf (bw sizes rows r f c).1 (f+c)/aY (vf sizes) (DD rows) (f+c))) (by decide) (by omega)
  exact this.mono (by omega)
theorem qc(h:St n m sizes A k rows){r:Row}{f B:Nat}(hn:n<=6)(hm:m<=8)(h1:r.1.length=n)(h2:r.2.length=m)(h0:∀ i,i<n->0<=vf r.1 i/\vf r.1 i<vf sizes i)(hB:150*k+1<=B)(hB2:B<=8000)(hb:Bd B r.2)(hf:f<=n):fw [tI sizes,.lst (rows.map mk),mk r,.int (f:Int)]=M.ok (mk (bw sizes rows r f (n-f))):=by
 have hs:=h.hs
 have rl:=h.wf.len
 unfold fw jt
 have kd:zo [.int (f:Int),.int (sizes.length:Int)]=M.ok ((List.range (n-f)).map λ(i:Nat)=>.int ((f+i:Nat):Int)):=by
  rw[Dj (by omega) (by omega) (by omega) (by omega),hs,show ((n:Int)-(f:Int)).toNat=n-f by omega]
  simp
 dsimp? [kd]
 refine fk (List.range (n-f)) (λzs env=>∃ c x4 x5,c<=n-f/\(List.range (n-f)).drop c=zs/\env=[some (.sh (tI sizes)),some (.sh (.lst (rows.map mk))),some (.sh (mk (bw sizes rows r f c))),some (.sh (.int (f:Int))),x4,x5]) ⟨0,none,none,Nat.zero_le _,rfl,rfl⟩ ?_ ?_
 ·rintro i zs env ⟨c,x4,x5,hc,Pa,rfl⟩
  obtain⟨c1,c2,c3⟩:=drop_cons Pa
  rw[List.length_range] at c1
  obtain rfl:i=c:=by
   rw[List.getElem?_range c1] at c2;exact(Option.some.inj c2).symm
  have Qs:f+i<n:=by omega
  have ll:=iD h (f:=f) h1 h2 i (by omega)
  have lk:=(mW h (f:=f) h1 h2 h0).kept h.gd (f+i) (by omega) (by omega)
  rw[show f+i-f=i by omega] at lk
  have k0:=lk (f+i) Qs
  have sm:=h.sm (f+i) Qs
  have p:=h.gd.pos Qs
  have e1:=h.wf.p4 Qs;have e2:=h.wf.at2 Qs
  have B1:Bd 8200 (row rows (f+i)).1:=(St.Az h Qs).mono (by omega)
  have B2:Bd 8200 (row rows (f+i)).2:=(h.bd _ Qs).mono (by omega)
  have B3:Bd 8200 (bw sizes rows r f i).1:=(sR ll.1 lk h.sm).mono (by omega)
  have B4:Bd 8200 (bw sizes rows r f i).2:=(uu h (f:=f) h1 h2 h0 hB hb i (by omega)).mono (by omega)
  have q:=Int.ediv_le_self (aY (vf sizes) (DD rows) (f+i)) k0.1
  have q0:=Int.ediv_nonneg k0.1 (Int.le_of_lt p.1)
  have w:=xp (A:=20) (sizes:=sizes) (a:=1) (b:=-(vf (bw sizes rows r f i).1 (f+i)/aY (vf sizes) (DD rows) (f+i))) (BZ h) B3 B4 B1 B2 (by decide) (by omega) (by decide) (by decide) (by omega) (by omega)
  refine⟨_,[some (.sh (tI sizes)),some (.sh (.lst (rows.map mk))),some (.sh (mk (bw sizes rows r f (i+1)))),some (.sh (.int (f:Int))),some (.sh (.int ((f+i:Nat):Int))),some (.sh (.int (vf (bw sizes rows r f i).1 (f+i)/aY (vf sizes) (DD rows) (f+i))))],rfl,?_,i+1,_,_,by omega,c3,rfl⟩
  dsimp? [pL,ku (xs:=(bw sizes rows r f i).1) (i:=f+i) (by omega),tJ h.wf h.hs Qs,aW (i:=vf (bw sizes rows r f i).1 (f+i)) p.1 (by omega),pv (rows:=rows) (d:=f+i) (by omega),w]
  rfl
 ·rintro env ⟨c,x4,x5,hc,Pa,rfl⟩
  have:c=n-f:=by
   have:=congrArg List.length Pa
   rw[List.length_drop,List.length_range] at this
   simp at this
   omega
  subst this
  dsimp? []
end
theorem DG(m k:Nat)(hm:m<=1000):jT [.int (m:Int),.int (k:Int)]=M.ok (tI (n5 m k)):=by
 have key:bI (bQ 0) none (Ad (ff (ak uc (ae 0) (ae 1))) (λ_=>M.ok (.int 1)) (λ_=>M.ok (.int 0))) ((List.range m).map λ(i:Nat)=>.int (i:Int)) [none,some (.sh (.int (k:Int)))]=M.ok ((List.range m).map λ(i:Nat)=>.int (if i=k then 1 else 0)):=by
  refine dZ (inj:=λ(i:Nat)=>PV.int (i:Int)) (List.range m) λi hi=>?_
  dsimp? []
  by_cases z:i=k
  ·subst z;simp only[decide_true,if_true]
  ·have z':¬ (i:Int)=(k:Int):=by omega
   simp only[z,z',decide_false,Bool.false_eq_true,if_false]
 unfold jT jJ
 dsimp? [jv (n:=(m:Int)) (by omega) (by omega),Int.toNat_natCast,List.length_map,List.length_range,av (aO hm),key]
 rw[tI,n5,List.map_map];rfl
theorem rF{n:Int}(h:0<=n):Builtin.Range.rangeSize (n-1) (-1) (-1)=n:=by
 unfold Builtin.Range.rangeSize
 rw[if_neg (by decide)]
 split
 ·rw[show -(-1:Int)=1 from rfl,Int.ediv_one];omega
 ·omega
theorem ES{n:Int}(h:0<=n)(h2:n<=1000):C3 (n-1) (-1) (-1)=true:=by
 unfold C3 Builtin.Range.small
 have f:∀ x:Int,-(2^40)<x->x<2^40->Builtin.Range.rangeFitsLong x=true:=λx h1 h2=>by
  unfold Builtin.Range.rangeFitsLong
  simp only[Bool.and_eq_true,decide_eq_true_eq]
  omega
 simp only[rF h,f (n-1) (by omega) (by omega),f (-1) (by decide) (by decide),f n (by omega) (by omega),f (n-1+n*-1) (by omega) (by omega),Bool.and_true,Bool.true_and,Bool.and_self,Bool.and_eq_true,decide_eq_true_eq]
 refine⟨by decide,?_⟩
 rw[if_neg (by decide),f (-1+(-1+1)) (by decide) (by decide),Bool.or_true]
theorem vN(k:Nat)(hk:k<=1000):Am [.int ((k:Int)-1),.int (-1),.int (-1)]=M.ok ((List.range k).map λ(i:Nat)=>.int ((k:Int)-1+(i:Int)*-1)):=by
 show cW (C3 ((k:Int)-1) (-1) (-1)=true) _=_
 rw[av (ES (by omega) (by omega)),rF (by omega),Int.toNat_natCast]
variable{j:Nat}{idle:List (List Int)}
theorem Fs(h:j<idle.length):aP (.lst (idle.map tI)) (.int (j:Int))=M.ok (tI (idle.getD j [])) :=
 bD (p:=.lst (idle.map tI)) rfl (by rw[List.getElem?_map,List.getElem?_eq_getElem h,List.getD_eq_getElem?_getD,List.getElem?_eq_getElem h];rfl)
theorem uV{B:Nat}{s:bS}{P:List Int}(h:yw n m s A k idle)(hP:P.length=m)(hm:m<=8)(hk:k<=m)(hB:60<=B)(hB2:B<=8000)(hb:Bd B P):iA [tI P,.lst (idle.map tI)]=M.ok (tI (bc idle k P k)):=by
 have il:=h.len
 unfold iA iw
 dsimp? [List.length_map,il,vN k (by omega)]
 refine fk (List.range k) (λzs env=>∃ c x2 x3,c<=k/\(List.range k).drop c=zs/\env=[some (.sh (tI (bc idle k P c))),some (.sh (.lst (idle.map tI))),x2,x3]) ⟨0,none,none,Nat.zero_le _,rfl,rfl⟩ ?_ ?_
 ·rintro i zs env ⟨c,x2,x3,hc,Pa,rfl⟩
  obtain⟨c1,c2,c3⟩:=drop_cons Pa
  rw[List.length_range] at c1
  obtain rfl:i=c:=by
   rw[List.getElem?_range c1] at c2;exact(Option.some.inj c2).symm
  have hj:k-1-i<k:=by omega
  have ej:(k:Int)-1+(i:Int)*-1=((k-1-i:Nat):Int):=by omega
  have sl:=span_len h hP i (by omega)
  have rl:=h.l2 (k-1-i) hj
  have p:=h.pos (k-1-i) hj
  have pl60:=h.le (k-1-i) hj
  have zb:=yj h hP hk hB hb i (by omega)
  have B1:Bd 8600 (bc idle k P i):=zb.mono (by omega)
  have B2:Bd 8600 (idle.getD (k-1-i) []):=(h.bd hj hk).mono (by omega)
  have q:(-(vf (bc idle k P i) (k-1-i)/vf (idle.getD (k-1-i) []) (k-1-i))).natAbs<2^8600:=by
   rw[Int.natAbs_neg]
   exact Nat.lt_of_le_of_lt (Int.natAbs_ediv_le_natAbs ..) (B1.vf _)
  have w:=pQ (A:=8600) (tI (bc idle k P i)) (tI (idle.getD (k-1-i) [])) (bc idle k P i) (idle.getD (k-1-i) []) 1 (-(vf (bc idle k P i) (k-1-i)/vf (idle.getD (k-1-i) []) (k-1-i))) rfl rfl B1 B2 (Nat.one_lt_two_pow (by decide)) q (by decide) (by decide) (by omega)
  refine⟨_,[some (.sh (tI (bc idle k P (i+1)))),some (.sh (.lst (idle.map tI))),some (.sh (.int ((k-1-i:Nat):Int))),some (.sh (tI (idle.getD (k-1-i) [])))],rfl,?_,i+1,_,_,by omega,c3,rfl⟩
  rw[ej]
  dsimp? [Fs (idle:=idle) (j:=k-1-i) (by omega),ku (xs:=bc idle k P i) (i:=k-1-i) (by omega),ku (xs:=idle.getD (k-1-i) []) (i:=k-1-i) (by omega),aW (i:=vf (bc idle k P i) (k-1-i)) (j:=vf (idle.getD (k-1-i) []) (k-1-i)) p (by show II idle (k-1-i) (k-1-i)<2^64;omega),w]
  rfl
 ·rintro env ⟨c,x2,x3,hc,Pa,rfl⟩
  have:c=k:=by
   have:=congrArg List.length Pa
   rw[List.length_drop,List.length_range] at this
   simp at this
   omega
  subst this
  dsimp? []
variable{Ls:List (List Int)}
theorem kO(h:sizes.length<=6):hZ [dw sizes Ls]=M.ok (tI (List.replicate sizes.length 0)):=by
 unfold hZ jl
 dsimp? [oR (sizes:=sizes) (levers:=Ls) (g:=ae 0) (env:=[some (.sh (dw sizes Ls))]) rfl,mul_one (.int 0) sizes.length (by omega)]
 rw[tI,List.map_replicate]
theorem nO(hm:Ls.length<=8)(xs:List Int):fx [dw sizes Ls,tI xs]=M.ok (mk (xs,List.replicate Ls.length 0)):=by
 unfold fx h9
 dsimp? [o_ (sizes:=sizes) (levers:=Ls) (g:=ae 0) (env:=[some (.sh (dw sizes Ls)),some (.sh (tI xs))]) rfl,List.length_map,mul_one (.int 0) Ls.length (by omega)]
 rw[mk,tI,tI,List.map_replicate]
theorem ER(hm:Ls.length<=8)(hk:k<Ls.length):fZ [dw sizes Ls,.int (k:Int)]=M.ok (mk (cq Ls Ls.length k)):=by
 have e:aP (.tup (Ls.map tI)) (.int (k:Int))=M.ok (tI (Ls.getD k [])):=bD (p:=.tup (Ls.map tI)) rfl (by rw[List.getElem?_map,List.getElem?_eq_getElem hk,List.getD_eq_getElem?_getD,List.getElem?_eq_getElem hk];rfl)
 unfold fZ fP
 dsimp? [o_ (sizes:=sizes) (levers:=Ls) (g:=ae 0) (env:=[some (.sh (dw sizes Ls)),some (.sh (.int (k:Int))),none]) rfl,List.length_map,e,DG Ls.length k (by omega)]
 rfl
theorem B7:∀ xs:List Int,pK (tI xs)=true:=by
 intro xs
 have:∀ ys:List Int,nF (ys.map PV.int)=true:=by
  intro ys
  induction ys with
  | nil=>rfl
  | cons a r ih=>simp[nF,pK,ih]
 exact this xs
theorem JG(x y:PV):aP (.tup [x,y]) (.int 0)=M.ok x:=bD (j:=0) rfl rfl
theorem JP(x y:PV):aP (.tup [x,y]) (.int 1)=M.ok y:=bD (j:=1) rfl rfl
def mT(sizes:List Int)(rows:List Row)(n:Nat):List Row:=(List.range n).map λd=>bw sizes rows (row rows d) (d+1) (n-(d+1))
def u9(V:PV)(rows:List Row)(idle:List (List Int)):List (Str×PV):=[("vault", V),("made_rows", .lst (rows.map mk)),("idle_rows", .lst (idle.map tI))]
theorem AH(hn1:1<=sizes.length)(hn:sizes.length<=6)(hm:Ls.length<=8)(hp:∀ i,i<sizes.length->0<vf sizes i/\vf sizes i<=360)(LL:Jl sizes.length Ls.length sizes Ls) :
  bY ay cK [] [dw sizes Ls]=M.ok (.obj ay (u9 (dw sizes Ls) (mT sizes (RK cf sizes Ls sizes.length Ls.length Ls.length).1 sizes.length) (RK cf sizes Ls sizes.length Ls.length Ls.length).2)):=by
 have all:=λk hk=>Aw.all (c:=cf) rfl hp LL yG hn k hk
 have key:∀ a,cK a ([dw sizes Ls]++[])=M.ok (u9 (dw sizes Ls) (mT sizes (RK cf sizes Ls sizes.length Ls.length Ls.length).1 sizes.length) (RK cf sizes Ls sizes.length Ls.length Ls.length).2):=by
  intro a
  have e1:bI (bQ 0) none (ai fx (aa (ae 1) (aa (ai hZ (aa (ae 1) aj)) aj))) (sizes.map PV.int) [none,some (.sh (dw sizes Ls))]=M.ok ((List.replicate sizes.length ((List.replicate sizes.length (0:Int)),(List.replicate Ls.length (0:Int)))).map mk):=by
   rw[dZ (h:=λ_=>mk (List.replicate sizes.length 0,List.replicate Ls.length 0)) sizes λx _=>by dsimp? [kO (Ls:=Ls) hn,nO (sizes:=sizes) hm (List.replicate sizes.length 0)]]
   congr 1
   rw[List.map_const',List.map_replicate]
  have e2:bI (bA 0 1) none (ai fw (aa (ae 2) (aa (ae 3) (aa (ae 1) (aa (ak dM (ae 0) (λ_=>M.ok (.int 1))) aj))))) ((RK cf sizes Ls sizes.length Ls.length Ls.length).1.zipIdx.map λz=>.tup [.int (z.2:Int),mk z.1]) [none,none,some (.sh (tI sizes)),some (.sh (.lst ((RK cf sizes Ls sizes.length Ls.length Ls.length).1.map mk)))]=M.ok ((mT sizes (RK cf sizes Ls sizes.length Ls.length Ls.length).1 sizes.length).map mk):=by
   have I:=all Ls.length (Nat.le_refl _)
   generalize RK cf sizes Ls sizes.length Ls.length Ls.length=rk at *
   have rl:=I.st.wf.len
   rw[eO (p:=λz:Row×Nat=>PV.int (z.2:Int)) (q:=λz:Row×Nat=>mk z.1) (h:=λz:Row×Nat=>mk (bw sizes rk.1 z.1 (z.2+1) (sizes.length-(z.2+1)))) rk.1.zipIdx λz hz=>?_]
   ·congr 1
    rw[mT,List.map_map]
    refine List.ext_getElem (by simp[rl]) λi h1 h2=>?_
    have hi:i<rk.1.length:=by simpa using h1
    simp[ik hi]
   ·obtain⟨i,hi,e⟩:=List.mem_iff_getElem.mp hz
    rw[List.length_zipIdx] at hi
    rw[List.getElem_zipIdx] at e
    have ez:z=(row rk.1 i,i):=by rw[← e,ik hi];simp
    subst ez
    have hin:i<sizes.length:=by omega
    have:=qc (f:=i+1) (B:=150*Ls.length+1) I.st hn hm (I.st.wf.p4 hin) (I.st.wf.at2 hin) (λj hj=>I.st.gd.kd i hin j hj) (Nat.le_refl _) (by omega) (I.st.bd i hin) (by omega)
    rw[show ((i+1:Nat):Int)=(i:Int)+1 by omega] at this
    dsimp? [this]
  have zl:sizes.length<=sizeLine:=aO (by omega)
  have I:=all Ls.length (Nat.le_refl _)
  have rl:=I.st.wf.len
  unfold cK jP
  simp only[pk]
  rw[av (show ([dw sizes Ls]++([]:List PV)).length+1=2 from rfl)]
  simp only[vH,xr]
  dsimp? [oR (sizes:=sizes) (levers:=Ls) (g:=ae 1) (env:=[some (.bd a ay []),some (.sh (dw sizes Ls)),none,none,none,none,none]) rfl,List.length_map,av zl,e1,eh,o_ (sizes:=sizes) (levers:=Ls) (g:=ae 1) (env:=[some (.bd a ay []),some (.sh (dw sizes Ls)),some (.sh (tI sizes)),some (.sh (.lst ((List.replicate sizes.length ((List.replicate sizes.length (0:Int)),(List.replicate Ls.length (0:Int)))).map mk))),some (.ow []),none,none]) rfl,jv (n:=(Ls.length:Int)) (by omega) (by omega),Int.toNat_natCast]
  refine fk (List.range Ls.length) (λzs env=>∃ k x5 x6,k<=Ls.length/\(List.range Ls.length).drop k=zs/\env=[some (.bd a ay []),some (.sh (dw sizes Ls)),some (.sh (tI sizes)),some (.sh (.lst ((RK cf sizes Ls sizes.length Ls.length k).1.map mk))),some (.ow ((RK cf sizes Ls sizes.length Ls.length k).2.map tI)),x5,x6]) ⟨0,none,none,Nat.zero_le _,rfl,rfl⟩ ?_ ?_
  ·rintro i zs env ⟨k,x5,x6,hk,Pa,rfl⟩
   obtain⟨c1,c2,c3⟩:=drop_cons Pa
   rw[List.length_range] at c1
   obtain rfl:i=k:=by
    rw[List.getElem?_range c1] at c2;exact(Option.some.inj c2).symm
   have J:=all i hk
   have L:Lv sizes.length Ls.length sizes (AA Ls) i (cq Ls Ls.length i):=⟨LL.at_ i c1,by simp[cq,n5],c1,λj hj=>rfl,LL.kd i c1,λl hl=>vn hl⟩
   have tk:=Dh J.st L hn hm
   have ll:=dq (c:=cf) J.st.wf J.st.hs L.l1 L.l2 sizes.length (Nat.le_refl _)
   have lb:=oS (c:=cf) J.st L hn sizes.length (Nat.le_refl _)
   have sp:=uV (B:=1400) J.o5 ll.2 hm (by omega) (by decide) (by decide) (lb.mono (by omega))
   have il:=J.o5.len
   refine⟨_,[some (.bd a ay []),some (.sh (dw sizes Ls)),some (.sh (tI sizes)),some (.sh (.lst ((RK cf sizes Ls sizes.length Ls.length (i+1)).1.map mk))),some (.ow ((RK cf sizes Ls sizes.length Ls.length (i+1)).2.map tI)),some (.sh (.int (i:Int))),some (.sh (.tup [.lst ((cS cf sizes (RK cf sizes Ls sizes.length Ls.length i).1 (cq Ls Ls.length i) sizes.length).map mk),tI (aB cf sizes (RK cf sizes Ls sizes.length Ls.length i).1 (cq Ls Ls.length i) sizes.length).2]))],rfl,?_,i+1,_,_,by omega,c3,rfl⟩
   dsimp? [ER (sizes:=sizes) hm c1,tk,JG]
   rw[yN (i:=4) rfl (p:=tI (bc (RK cf sizes Ls sizes.length Ls.length i).2 i (aB cf sizes (RK cf sizes Ls sizes.length Ls.length i).1 (cq Ls Ls.length i) sizes.length).2 i)) (by
    dsimp? [wo,ownAt,JP,sp]
    exact av (B7 _)) (by simp[il];omega)]
   dsimp? [RK,List.map_append]
  ·rintro env ⟨k,x5,x6,hk,Pa,rfl⟩
   have:k=Ls.length:=by
    have:=congrArg List.length Pa
    rw[List.length_drop,List.length_range] at this
    simp at this
    omega
   subst this
   dsimp? [i7]
   rw[fU _ _ _ _ _ _ (by simp)]
   dsimp? [i7,kS,List.length_map,List.length_zipIdx,rl,av zl,e2]
   rw[fU _ _ _ _ _ _ (Nat.lt_of_le_of_lt (gA (Nat.zero_le 0)) (by decide))]
   dsimp? [i7]
   rw[fU _ _ _ _ _ _ (Nat.lt_of_le_of_lt (gA (gA (Nat.zero_le 0))) (by decide))]
   dsimp? []
   show cW _ _=_
   rw[av ⟨rfl,rfl⟩]
   rfl
 unfold bY
 rw[xP key];rfl
theorem l7(h:d<n):row (mT sizes rows n) d=bw sizes rows (row rows d) (d+1) (n-(d+1)):=by
 rw[ik (by simp[mT,h])];simp[mT]
theorem Hn(h:St n m sizes A m rows)(hn:n<=6)(hA:∀ i,A m i=0):St n m sizes A (m+1) (mT sizes rows n):=by
 have hl:∀ d,d<n->(bw sizes rows (row rows d) (d+1) (n-(d+1))).1.length=n/\(bw sizes rows (row rows d) (d+1) (n-(d+1))).2.length=m:=λd hd=>iD h (h.wf.p4 hd) (h.wf.at2 hd) _ (by omega)
 have lg:=uY (D':=DD (mT sizes rows n)) h.gd (λd e=>vf (bw sizes rows (row rows d) (d+1) (e-(d+1))).1) (λd hd=>mW h (h.wf.p4 hd) (h.wf.at2 hd) λi hi=>h.gd.kd d hd i hi) (λd hd i hi=>by
  show vf (bw sizes rows (row rows d) (d+1) (d+1-(d+1))).1 i=_
  rw[Nat.sub_self];rfl) λd hd i hi=>by
  unfold DD;rw[l7 hd]
 refine⟨⟨by simp[mT],λr hr=>?_,λr hr=>?_⟩,h.hs,h.sm,lg.1,λd hd=>?_,λd hd l h1 h2=>by omega,λd hd=>?_,λl hl=>?_⟩
 ·obtain⟨d,hd,rfl⟩:=List.mem_map.mp hr
  exact(hl d (List.mem_range.mp hd)).1
 ·obtain⟨d,hd,rfl⟩:=List.mem_map.mp hr
  exact(hl d (List.mem_range.mp hd)).2
 ·unfold DD PP
  rw[l7 hd]
  have:=tU h (f:=d+1) (h.wf.p4 hd) (h.wf.at2 hd) (P₀:=λ_=>0) (B:=λ_=>0) (by
   have q:=h.led d hd
   intro i hi
   have:=q i hi
   simp only[Int.sub_zero];exact this) (n-(d+1)) (by omega)
  intro i hi
  have:=this i hi
  simp only[Int.sub_zero] at this
  exact this
 ·rw[l7 hd]
  exact(uu h (f:=d+1) (h.wf.p4 hd) (h.wf.at2 hd) (λi hi=>h.gd.kd d hd i hi) (Nat.le_refl _) (h.bd d hd) (n-(d+1)) (by omega)).mono (by omega)
 ·rcases Nat.lt_or_ge l m with q | q
  ·exact lg.2.2.2.2 n 0 (by omega) _ (h.cl l q)
  ·obtain rfl:l=m:=by omega
   exact G.ext (by omega) (λi _=>(hA i).symm) (G.zero (by omega))
def kM(sizes:List Int)(Ls:List (List Int))(R:List Row)(idle:List (List Int)):PV:=.obj ay (u9 (dw sizes Ls) R idle)
section
variable{R:List Row}
theorem Jr:(u9 (dw sizes Ls) R idle).lookup (Str.ofString "vault")=some (dw sizes Ls):=rfl
theorem J4:(u9 (dw sizes Ls) R idle).lookup (Str.ofString "made_rows")=some (.lst (R.map mk)):=rfl
theorem Kf:(u9 (dw sizes Ls) R idle).lookup (Str.ofString "idle_rows")=some (.lst (idle.map tI)):=rfl
theorem Ms:(u9 (dw sizes Ls) R idle).lookup (Str.ofString "brought_down")=none:=rfl
theorem Mq{g:af->M PV}{env:af}(h:g env=M.ok (kM sizes Ls R idle)):c_ (λc=>c==ay) "vault" g env=M.ok (dw sizes Ls):=by
 rw[c_,h,M.aL]
 show cW _ (fu (List.lookup _ _))=_
 rw[av (beq_self_eq_true _),Jr];rfl
theorem M1{g:af->M PV}{env:af}(h:g env=M.ok (kM sizes Ls R idle)):c_ (λc=>c==ay) "made_rows" g env=M.ok (.lst (R.map mk)):=by
 rw[c_,h,M.aL]
 show cW _ (fu (List.lookup _ _))=_
 rw[av (beq_self_eq_true _),J4];rfl
theorem MQ{g:af->M PV}{env:af}(h:g env=M.ok (kM sizes Ls R idle)):c_ (λc=>c==ay) "idle_rows" g env=M.ok (.lst (idle.map tI)):=by
 rw[c_,h,M.aL]
 show cW _ (fu (List.lookup _ _))=_
 rw[av (beq_self_eq_true _),Kf];rfl
theorem yn(S:Sz sizes)(hm:Ls.length<=8)(h:St sizes.length Ls.length sizes A k R)(hk:k<=9)(hx:DC sizes xs)(h0:∀ i,i<sizes.length->0<=vf xs i/\vf xs i<vf sizes i) :
  cj [kM sizes Ls R idle,tI xs]=M.ok (mk (bw sizes R (xs,List.replicate Ls.length 0) 0 sizes.length)):=by
 have lo:=qc (f:=0) (B:=150*k+1) (r:=(xs,List.replicate Ls.length 0)) h S.h6 hm hx.len (by simp) h0 (Nat.le_refl _) (by omega) (λx hx=>by rw[List.eq_of_mem_replicate hx];exact Nat.two_pow_pos _) (Nat.zero_le _)
 rw[Nat.sub_zero] at lo
 unfold cj cR
 dsimp? [Mq (sizes:=sizes) (Ls:=Ls) (R:=R) (idle:=idle) (g:=ae 0) (env:=[some (.sh (kM sizes Ls R idle)),some (.sh (tI xs))]) rfl,M1 (sizes:=sizes) (Ls:=Ls) (R:=R) (idle:=idle) (g:=ae 0) (env:=[some (.sh (kM sizes Ls R idle)),some (.sh (tI xs))]) rfl,o4 (levers:=Ls) S hx,nO (sizes:=sizes) hm xs,oR (sizes:=sizes) (levers:=Ls) (g:=c_ (λc=>c==ay) "vault" (ae 0)) (env:=[some (.sh (kM sizes Ls R idle)),some (.sh (tI xs))]) (Mq (R:=R) (idle:=idle) rfl),show fw [tI sizes,.lst (R.map mk),mk (xs,List.replicate Ls.length 0),.int 0]=_ from lo]
end
def qj(xs:List Int):List Int:=xs.map λx=>-x
theorem G6(xs:List Int)(i:Nat):vf (qj xs) i=-vf xs i:=by
 rcases Nat.lt_or_ge i xs.length with h | h
 ·rw[aQ (by simpa [qj] using h),aQ h];simp[qj]
 ·rw[p6 (by simpa [qj] using h),p6 h];rfl
theorem IC{B:Nat}(h:Bd B xs):Bd B (qj xs):=λx hx=>by
 obtain⟨y,hy,rfl⟩:=List.mem_map.mp hx
 rw[Int.natAbs_neg];exact h y hy
section
variable{R:List Row}
def told(sizes:List Int)(Ls:List (List Int))(R:List Row)(idle:List (List Int))(xs:List Int):List Int:=bc idle Ls.length (qj (bw sizes R (xs,List.replicate Ls.length 0) 0 sizes.length).2) Ls.length
theorem AK(S:Sz sizes)(hm:Ls.length<=8)(h:St sizes.length Ls.length sizes A k R)(hk:k<=9)(I:yw sizes.length Ls.length (vf sizes) A Ls.length idle)(hx:DC sizes xs)(h0:∀ i,i<sizes.length->0<=vf xs i/\vf xs i<vf sizes i)(hg:G sizes.length (vf sizes) (DD R) sizes.length 0 (vf xs)) :
  cB [kM sizes Ls R idle,tI xs]=M.ok (tI (told sizes Ls R idle xs))/\(told sizes Ls R idle xs).length=Ls.length/\Led sizes.length (vf sizes) Ls.length A (vf xs) (vf (told sizes Ls R idle xs))/\∀ l,l<Ls.length->0<=vf (told sizes Ls R idle xs) l/\vf (told sizes Ls R idle xs) l<II idle l l:=by
 have l6:=S.h6
 have r2:(List.replicate Ls.length (0:Int)).length=Ls.length:=by simp
 have ll:=iD h (f:=0) (r:=(xs,List.replicate Ls.length 0)) hx.len r2 sizes.length (by omega)
 have dn:=mW h (f:=0) (r:=(xs,List.replicate Ls.length 0)) hx.len r2 h0
 have z:=dn.run h.gd sizes.length 0 (Nat.le_refl _) (by omega) (by rw[Nat.sub_self];exact hg)
 rw[Nat.sub_zero] at z
 have nz:(bw sizes R (xs,List.replicate Ls.length 0) 0 sizes.length).1=List.replicate sizes.length 0:=xU (by rw[ll.1];simp) λi hi=>by rw[z i (by omega),ir]
 have b:=uu h (f:=0) (B:=150*k+1) (r:=(xs,List.replicate Ls.length 0)) hx.len r2 h0 (Nat.le_refl _) (λx hx=>by rw[List.eq_of_mem_replicate hx];exact Nat.two_pow_pos _) sizes.length (by omega)
 have nl:(qj (bw sizes R (xs,List.replicate Ls.length 0) 0 sizes.length).2).length=Ls.length:=by rw[qj,List.length_map];exact ll.2
 have sp:=uV (B:=1500) I nl hm (Nat.le_refl _) (by decide) (by decide) (IC (b.mono (by omega)))
 have led:=tU h (f:=0) (r:=(xs,List.replicate Ls.length 0)) hx.len r2 (P₀:=λ_=>0) (B:=vf xs) (by
  intro i hi
  rw[bb (g:=λ_=>0) λl hl=>by
   show (vf (List.replicate Ls.length 0) l-0)*A l i=0
   rw[ir];simp,c9]
  show vf sizes i∣vf xs i-vf xs i-0
  rw[Int.sub_self];exact Int.dvd_zero _) sizes.length (by omega)
 have led2:Led sizes.length (vf sizes) Ls.length A (vf xs) (vf (qj (bw sizes R (xs,List.replicate Ls.length 0) 0 sizes.length).2)):=by
  refine Led.mix (a:=-1) (b:=0) led led (λi hi=>?_) λl hl=>?_
  ·rw[z i hi]
   exact⟨0,by omega⟩
  ·rw[G6];omega
 refine⟨?_,span_len I nl _ (Nat.le_refl _),qm I nl led2 _ (Nat.le_refl _),λl hl=>uo I nl (Nat.le_refl _) _ (Nat.le_refl _) l (by omega) hl⟩
 have dk:=yn (idle:=idle) S hm h hk hx h0
 have md:∀ y,bh ay "brought_down" cj (ae 0) (aa (ae 1) aj) [some (.sh (kM sizes Ls R idle)),some (.sh (tI xs)),y]=M.ok (mk (bw sizes R (xs,List.replicate Ls.length 0) 0 sizes.length)):=λy=>by
  show M.bind (M.ok (kM sizes Ls R idle)) _=_
  rw[M.aL]
  show cW _ (M.bind (M.ok [tI xs]) _)=_
  rw[av ⟨rfl,Ms⟩,M.aL]
  exact dk
 have cm:bI (bQ 0) none (lr (ae 0)) ((bw sizes R (xs,List.replicate Ls.length 0) 0 sizes.length).2.map PV.int) [none]=M.ok ((bw sizes R (xs,List.replicate Ls.length 0) 0 sizes.length).2.map λx=>.int (-x)):=dZ _ λx _=>by dsimp? []
 have lz:(bw sizes R (xs,List.replicate Ls.length 0) 0 sizes.length).2.length<=sizeLine:=by rw[ll.2];exact aO (by omega)
 have en:PV.tup ((bw sizes R (xs,List.replicate Ls.length 0) 0 sizes.length).2.map λx=>PV.int (-x))=tI (qj (bw sizes R (xs,List.replicate Ls.length 0) 0 sizes.length).2):=by rw[tI,qj,List.map_map];rfl
 unfold cB cY
 dsimp? [md,pL,AI,Mq (sizes:=sizes) (Ls:=Ls) (R:=R) (idle:=idle) (g:=ae 0) (env:=[some (.sh (kM sizes Ls R idle)),some (.sh (tI xs)),some (.sh (mk (bw sizes R (xs,List.replicate Ls.length 0) 0 sizes.length)))]) rfl,kO (Ls:=Ls) l6,nz,um,decide_true,MQ (sizes:=sizes) (Ls:=Ls) (R:=R) (idle:=idle) (g:=ae 0) (env:=[some (.sh (kM sizes Ls R idle)),some (.sh (tI xs)),some (.sh (mk (bw sizes R (xs,List.replicate Ls.length 0) 0 sizes.length)))]) rfl,List.length_map,av lz,cm,en,sp]
 rfl
end
def qP(sizes xs ys:List Int)(t:Int):List Int:=(xs.zip (ys.zip sizes)).map λz=>(z.1+t*z.2.1)%z.2.2
theorem vq{t:Int}(h1:xs.length=sizes.length)(h2:ys.length=sizes.length):(qP sizes xs ys t).length=sizes.length:=by
 simp[qP];omega
theorem Bg{t:Int}(h1:xs.length=sizes.length)(h2:ys.length=sizes.length)(hi:i<sizes.length):vf (qP sizes xs ys t) i=(vf xs i+t*vf ys i)%vf sizes i:=by
 rw[aQ (by rw[vq h1 h2];exact hi),aQ (by omega),aQ (by omega),aQ hi]
 simp[qP]
theorem Bx(p:PV)(n:Nat)(h8:n<=1000):b_ (.lst [p]) (.int (n:Int))=M.ok (.lst (List.replicate n p)):=by
 have h2:[p].length*(n:Int).toNat<=sizeLine:=by
  rw[Int.toNat_natCast]
  exact aO (by show 1*n<=1000;omega)
 have h3:(n:Int)<2^63:=Int.lt_of_le_of_lt (Int.ofNat_le.mpr h8) (by decide)
 have h4:-(2^63)<=(n:Int):=Int.le_trans (by decide) (Int.natCast_nonneg n)
 rw[b_,av ⟨h4,h3,h2⟩,Int.toNat_natCast,pF]
theorem EU(h:b∈List.replicate n a):b=a:=List.eq_of_mem_replicate h
theorem pick(l:List Int)(c:Int)(n:Nat)(hn:l.length=n)(h0:0<n):∃ x,x∈l/\aP (.lst (l.map PV.int)) (.int (c%(n:Int)))=M.ok (.int x):=by
 have h1:0<=c%(n:Int):=Int.emod_nonneg _ (by omega)
 have h2:c%(n:Int)<n:=Int.emod_lt_of_pos _ (by omega)
 obtain⟨j,hj⟩:=Int.eq_ofNat_of_zero_le h1
 have hj':j<l.length:=by omega
 refine⟨l[j],List.getElem_mem _,?_⟩
 rw[hj]
 exact bD (p:=.lst (l.map PV.int)) (j:=j) rfl (by rw[List.getElem?_map,List.getElem?_eq_getElem hj'];rfl)
theorem two{c:Int}:c%2=0\/c%2=1:=by omega
theorem CT(h:i<xs.length):aP (lI xs) (.int (i:Int))=M.ok (.int (vf xs i)) :=
 bD (p:=lI xs) rfl (by rw[List.getElem?_map,List.getElem?_eq_getElem h,aQ h];rfl)
variable{l:Nat}
theorem getD_at{β:Type}(f:α->β){xs:List α}{a:α}{b:β}(h:l<xs.length):(xs.map f).getD l b=f (xs.getD l a):=by
 rw[List.getD_eq_getElem?_getD,List.getD_eq_getElem?_getD,List.getElem?_map,List.getElem?_eq_getElem h];rfl
theorem getD_mem{xs:List α}{a:α}(h:l<xs.length):xs.getD l a∈xs:=by
 rw[List.getD_eq_getElem?_getD,List.getElem?_eq_getElem h];exact List.getElem_mem h
variable{raw:List (List Int)}
theorem C2(S:Sz sizes)(hr:∀ l∈raw,l.length=sizes.length/\Bd 200 l):Jl sizes.length raw.length sizes (raw.map λl=>xf l sizes)/\∀ l,l<raw.length->∀ i,i<sizes.length->AA (raw.map λl=>xf l sizes) l i=vf (raw.getD l []) i%vf sizes i:=by
 have e:∀ l,l<raw.length->∀ i,i<sizes.length->AA (raw.map λl=>xf l sizes) l i=vf (raw.getD l []) i%vf sizes i:=λl hl i hi=>by
  unfold AA
  rw[getD_at (a:=[]) _ hl,Bk,kr (by rw[(hr _ (getD_mem hl)).1];exact hi) hi]
 refine⟨⟨by simp,λl hl=>?_,λl hl i hi=>?_⟩,e⟩
 ·rw[getD_at (a:=[]) _ hl,Bk,ko,(hr _ (getD_mem hl)).1];omega
 ·rw[e l hl i hi]
  have:=S.hx _ (List.getElem_mem hi)
  rw[← aQ hi] at this
  exact⟨Int.emod_nonneg _ (by omega),Int.emod_lt_of_pos _ (by omega)⟩
theorem lF(S:Sz sizes):∀ i,i<sizes.length->0<vf sizes i/\vf sizes i<=360:=λi hi=>by
 have:=S.hx _ (List.getElem_mem hi)
 rw[← aQ hi] at this
 omega
theorem uF(h:xs.length=sizes.length)(h0:∀ i,i<sizes.length->0<=vf xs i/\vf xs i<vf sizes i):DC sizes xs:=⟨h,λz hz=>by
 obtain⟨i,hi,rfl⟩:=List.mem_iff_getElem.mp hz
 rw[List.length_zip] at hi
 have:=h0 i (by omega)
 rw[aQ (by omega),aQ (by omega)] at this
 simpa using this⟩
def lD(ns:List Int)(a b:Nat):List Int:=(ns.drop (HT.dI ns.length 0 (some (a:Int)))).take (HT.dI ns.length ns.length (some (b:Int))-HT.dI ns.length 0 (some (a:Int)))
theorem yW(ns:List Int)(a b:Nat):JL (.j9 (ns.map PV.int)) (some (a:Int)) (some (b:Int))=M.ok (.lst ((lD ns a b).map PV.int)):=by
 show M.ok (PV.lst (qR (ns.map PV.int) _ _))=_
 rw[qR,lD,List.map_take,List.map_drop,List.length_map]
theorem Ak(ns:List Int)(a b:Nat):(lD ns a b).length<=b-a:=by
 unfold lD
 rw[List.length_take,List.length_drop,HT.yd,HT.yd]
 omega
theorem wF{z:Int×Nat}(h:z∈xs.zipIdx):z.2<xs.length:=by
 obtain⟨i,hi,rfl⟩:=List.mem_iff_getElem.mp h
 simp at hi ⊢;exact hi
theorem HL(Ls:List (List Int))(i:Nat):AA Ls Ls.length i=0:=by
 unfold AA
 rw[List.getD_eq_getElem?_getD,List.getElem?_eq_none (Nat.le_refl _)]
 exact p6 (Nat.zero_le _)
section
variable{R:List Row}
theorem xm{m:Str}{sem:List PV->M PV}{x:M (List PV)}(h:(u9 (dw sizes Ls) R idle).lookup m=none):pC ay m sem (kM sizes Ls R idle) x=x.bind λps=>sem (kM sizes Ls R idle::ps):=jr h
theorem KY:vD (λc=>c==ay) "vault" (kM sizes Ls R idle)=M.ok (dw sizes Ls):=jB (beq_self_eq_true _) Jr
theorem Mv:vD (λc=>c==ay) "made_rows" (kM sizes Ls R idle)=M.ok (.lst (R.map mk)):=jB (beq_self_eq_true _) J4
theorem Nb:vD (λc=>c==ay) "idle_rows" (kM sizes Ls R idle)=M.ok (.lst (idle.map tI)):=jB (beq_self_eq_true _) Kf
theorem Dw:pC ao "sizes" aC (dw sizes Ls) (M.ok [])=M.ok (tI sizes):=(jr (fl:=qy sizes Ls) rfl).trans (u6 sizes Ls)
def lst(sizes:List Int)(Ls:List (List Int))(R:List Row)(xs:List Int):List Int:=(bw sizes R (xs,List.replicate Ls.length 0) 0 sizes.length).1
theorem sF(h:St sizes.length Ls.length sizes A k R)(hl:xs.length=sizes.length)(h0:∀ i,i<sizes.length->0<=vf xs i/\vf xs i<vf sizes i) :
  (lst sizes Ls R xs).length=sizes.length/\(∀ i,i<sizes.length->0<=vf (lst sizes Ls R xs) i/\vf (lst sizes Ls R xs) i<aY (vf sizes) (DD R) i)/\(∀ i,i<sizes.length->0<=vf (lst sizes Ls R xs) i/\vf (lst sizes Ls R xs) i<vf sizes i)/\G sizes.length (vf sizes) (DD R) sizes.length 0 (λi=>vf xs i-vf (lst sizes Ls R xs) i):=by
 have r2:(List.replicate Ls.length (0:Int)).length=Ls.length:=by simp
 have ll:=iD h (f:=0) (r:=(xs,List.replicate Ls.length 0)) hl r2 sizes.length (by omega)
 have dn:=mW h (f:=0) (r:=(xs,List.replicate Ls.length 0)) hl r2 h0
 exact⟨ll.1,λi hi=>dn.low h.gd sizes.length (Nat.zero_le _) (Nat.le_refl _) i (Nat.zero_le _) hi,λi hi=>dn.kept h.gd sizes.length (Nat.zero_le _) (Nat.le_refl _) i hi,dn.away h.gd sizes.length (Nat.zero_le _) (Nat.le_refl _) sizes.length (by omega)⟩
def l4(sizes:List Int)(R:List Row):List Int:=(List.range sizes.length).map λd=>aY (vf sizes) (DD R) d
theorem kq:(l4 sizes R).length=sizes.length:=by simp[l4]
theorem yq(h:i<sizes.length):vf (l4 sizes R) i=aY (vf sizes) (DD R) i:=by
 rw[aQ (by rw[kq];exact h)];simp[l4]
def DE(idle:List (List Int)):List Int:=idle.zipIdx.map λz=>vf z.1 z.2
theorem oW:(DE idle).length=idle.length:=by simp[DE]
theorem Cj(h:i<idle.length):vf (DE idle) i=II idle i i:=by
 rw[aQ (by rw[oW];exact h)]
 simp only[DE,List.getElem_map,List.getElem_zipIdx,Nat.zero_add]
 unfold II
 rw[List.getD_eq_getElem?_getD,List.getElem?_eq_getElem h];rfl
theorem BW(S:Sz sizes)(h:St sizes.length Ls.length sizes A k R):fS [kM sizes Ls R idle]=M.ok (tI (l4 sizes R)):=by
 have l6:=S.h6
 have key:bI (bQ 0) none (ai dC (aa (ae 2) (aa (c_ (λc=>c==ay) "made_rows" (ae 1)) (aa (ae 0) aj)))) ((List.range sizes.length).map λ(i:Nat)=>.int (i:Int)) [none,some (.sh (kM sizes Ls R idle)),some (.sh (tI sizes))]=M.ok ((List.range sizes.length).map λd=>.int (aY (vf sizes) (DD R) d)):=by
  refine dZ (inj:=λ(i:Nat)=>PV.int (i:Int)) (List.range sizes.length) λi hi=>?_
  dsimp? [e7,Mv,tJ h.wf h.hs (List.mem_range.mp hi)]
 unfold fS fM
 dsimp? [e7,KY,bK,Dw,jv (n:=(sizes.length:Int)) (by omega) (by omega),Int.toNat_natCast,List.length_map,List.length_range,av (aO (show sizes.length<=1000 by omega)),key]
 rw[tI,l4,List.map_map];rfl
theorem Ag(hm:Ls.length<=8)(I:yw sizes.length Ls.length (vf sizes) A Ls.length idle):fL [kM sizes Ls R idle]=M.ok (tI (DE idle)):=by
 have il:=I.len
 have key:bI (bA 0 1) none (ak aP (ae 1) (ae 0)) (idle.zipIdx.map λz=>.tup [.int (z.2:Int),tI z.1]) [none,none]=M.ok (idle.zipIdx.map λz=>.int (vf z.1 z.2)):=by
  refine eO (p:=λz:List Int×Nat=>PV.int (z.2:Int)) (q:=λz:List Int×Nat=>tI z.1) idle.zipIdx λz hz=>?_
  obtain⟨i,hi,rfl⟩:=List.mem_iff_getElem.mp hz
  rw[List.length_zipIdx] at hi
  have:=I.l2 i (by omega)
  rw[List.getD_eq_getElem?_getD,List.getElem?_eq_getElem hi] at this
  simp only[List.getElem_zipIdx,Nat.zero_add]
  dsimp? [ku (xs:=idle[i]) (i:=i) (by rw[show idle[i].length=Ls.length from this];omega)]
 unfold fL fK
 dsimp? [e7,Nb,kS,List.length_map,List.length_zipIdx,av (aO (show idle.length<=1000 by omega)),key]
 rw[tI,DE,List.map_map];rfl
theorem CO(S:Sz sizes)(hm:Ls.length<=8)(h:St sizes.length Ls.length sizes A k R)(hk:k<=9)(hl:xs.length=sizes.length)(h0:∀ i,i<sizes.length->0<=vf xs i/\vf xs i<vf sizes i)(hn:lst sizes Ls R xs≠List.replicate sizes.length 0) :
  cB [kM sizes Ls R idle,tI xs]=M.ok .cy:=by
 have dk:=yn (idle:=idle) S hm h hk (uF hl h0) h0
 unfold cB cY
 dsimp? [bK,xm (m := "brought_down") rfl,dk,pL,e7,KY,kO (Ls:=Ls) S.h6,um]
 simp only[show ¬ (bw sizes R (xs,List.replicate Ls.length 0) 0 sizes.length).1=List.replicate sizes.length 0 from hn,decide_false]
 dsimp? []
end
section
variable{R:List Row}
theorem wJ(S:Sz sizes){F:List Int}(h:F.length=sizes.length)(k:∀ i,i<sizes.length->0<=vf F i/\vf F i<vf sizes i):Bd 200 F:=λx hx=>by
 obtain⟨i,hi,rfl⟩:=List.mem_iff_getElem.mp hx
 have h2:=k i (by omega)
 rw[aQ hi] at h2
 have:=lF S i (by omega)
 omega
theorem xa(S:Sz sizes){t:Int}(h1:xs.length=sizes.length)(h2:ys.length=sizes.length):(qP sizes xs ys t).length=sizes.length/\(∀ i,i<sizes.length->0<=vf (qP sizes xs ys t) i/\vf (qP sizes xs ys t) i<vf sizes i)/\∀ i,i<sizes.length->vf sizes i∣vf (qP sizes xs ys t) i-(vf xs i+t*vf ys i) :=
 ⟨vq h1 h2,λi hi=>by
  rw[Bg h1 h2 hi]
  have:=lF S i hi
  exact⟨Int.emod_nonneg _ (by omega),Int.emod_lt_of_pos _ (by omega)⟩,λi hi=>by rw[Bg h1 h2 hi];exact cG _ _⟩
structure gu (ns:List Int) (sizes:List Int) (raw Ls:List (List Int)) (R:List Row) (idle:List (List Int)):Prop where
 S:Sz sizes
 hr:∀ l∈raw,l.length=sizes.length/\Bd 200 l
 eL:Ls=raw.map λl=>xf l sizes
 hm:raw.length=Ls.length
 m8:Ls.length<=8
 eA:∀ l,l<raw.length->∀ i,i<sizes.length->AA Ls l i=vf (raw.getD l []) i%vf sizes i
 LL:Jl sizes.length Ls.length sizes Ls
 st:St sizes.length Ls.length sizes (AA Ls) (Ls.length+1) R
 I:yw sizes.length Ls.length (vf sizes) (AA Ls) Ls.length idle
 pr:aJ Ls.length (λj=>II idle j j)*aJ sizes.length (aY (vf sizes) (DD R))=aJ sizes.length (vf sizes)
 ord:∀ j,j<Ls.length->∀ P:bS,Zf (j+1) Ls.length P->Led sizes.length (vf sizes) Ls.length (AA Ls) (λ_=>0) P->II idle j j∣P j
 low:∀ d,d<sizes.length->∀ e,d<e->e<sizes.length->DD R d e<aY (vf sizes) (DD R) e
 nul:∀ d,d<sizes.length->DD R d d=0->∀ i,i<sizes.length->DD R d i=0
 xM:∀ {p:PV} {f:List Int->PV},(f=tI\/f=lI)->cv p=some (sizes.map PV.int)->bY ao bp [.cy] [p,.lst (raw.map f)]=M.ok (dw sizes Ls)
 DV:bY ay cK [] [dw sizes Ls]=M.ok (kM sizes Ls R idle)
theorem gu.get(ns:List Int)(S:Sz sizes)(r8:raw.length<=8)(hr:∀ l∈raw,l.length=sizes.length/\Bd 200 l):∃ Ls R idle,gu ns sizes raw Ls R idle:=by
 have l6:=S.h6
 have sp:=lF S
 obtain⟨LL,eA⟩:=C2 S hr
 have xM:=λ{p:PV} {f:List Int->PV} (hf:f=tI\/f=lI) hp=>sS (p:=p) hf sizes raw hp S r8 λl h=>(hr l h).1
 have hm:raw.length=(raw.map λl=>xf l sizes).length:=by simp
 generalize hLs:(raw.map λl=>xf l sizes)=Ls at *
 rw[hm] at LL r8
 have K:=Aw.all (c:=cf) rfl sp LL yG l6 Ls.length (Nat.le_refl _)
 have DV:=AH S.h1 l6 r8 sp LL
 generalize RK cf sizes Ls sizes.length Ls.length Ls.length=rk at *
 have h:=K.st
 have hl:∀ d,d<sizes.length->(bw sizes rk.1 (row rk.1 d) (d+1) (sizes.length-(d+1))).1.length=sizes.length:=λd hd=>(iD h (h.wf.p4 hd) (h.wf.at2 hd) _ (by omega)).1
 have lg:=uY (D':=DD (mT sizes rk.1 sizes.length)) h.gd (λd e=>vf (bw sizes rk.1 (row rk.1 d) (d+1) (e-(d+1))).1) (λd hd=>mW h (h.wf.p4 hd) (h.wf.at2 hd) λi hi=>h.gd.kd d hd i hi) (λd hd i hi=>by
  show vf (bw sizes rk.1 (row rk.1 d) (d+1) (d+1-(d+1))).1 i=_
  rw[Nat.sub_self];rfl) (λd hd i hi=>by unfold DD;rw[l7 hd])
 refine⟨Ls,mT sizes rk.1 sizes.length,rk.2,S,hr,hLs.symm,hm,r8,eA,LL,Hn K.st l6 (HL Ls),K.o5,?_,K.ord,?_,?_,xM,DV⟩
 ·rw[c8 (f:=aY (vf sizes) (DD (mT sizes rk.1 sizes.length))) (g:=aY (vf sizes) (DD rk.1)) lg.2.1]
  exact K.pr
 ·intro d hd e h1 h2
  rw[lg.2.1 e h2]
  exact lg.2.2.1 d hd e h1 h2
 ·exact lg.2.2.2.1
end
theorem zg(sizes:List Int)(levers:List (List Int)):c7 [dw sizes levers]=M.ok (.int (R sizes)):=by
 unfold c7 dD
 dsimp? [c_,dw,beq_self_eq_true,AL]
theorem ML:pC ao "around" c7 (dw sizes Ls) (M.ok [])=M.ok (.int (R sizes)):=(jr (fl:=qy sizes Ls) rfl).trans (zg sizes Ls)
def KU(sizes ws xs:List Int):Int:=((((ws.zip sizes).map λz=>z.1*(R sizes/z.2)).zip xs).map λz=>z.1*z.2).sum%R sizes
variable{s:Int}
theorem v9(h:Sz sizes)(hs:s∈sizes):0<=R sizes/s/\R sizes/s<2^60:=by
 have h1:=p5 h;have h2:=JH h;have h3:=h.hx s hs
 refine⟨Int.ediv_nonneg (by omega) (by omega),Int.lt_of_le_of_lt (Int.ediv_le_self s (by omega)) h2⟩
theorem BF(h:Sz sizes){w:Int}(hw:0<=w/\w<360)(hs:s∈sizes):(w*(R sizes/s)).natAbs<2^80:=by
 have h1:=v9 h hs
 rw[Int.natAbs_mul]
 have:w.natAbs*(R sizes/s).natAbs<=2^9*2^60:=Nat.mul_le_mul (by omega) (by omega)
 exact Nat.lt_of_le_of_lt this (by decide)
theorem C6(h:Sz sizes){ws:List Int}(hw:DC sizes ws)(hs:DC sizes xs):oN [dw sizes levers,tI ws,tI xs]=M.ok (.int (KU sizes ws xs)):=by
 have l6:=h.h6
 have k1:bI (bA 0 1) none (ak b_ (ae 0) (ak bF (ae 2) (ae 1))) ((ws.zip sizes).map λz=>.tup [.int z.1,.int z.2]) [none,none,some (.sh (.int (R sizes)))]=M.ok ((ws.zip sizes).map λz=>.int (z.1*(R sizes/z.2))):=by
  refine eO (p:=λz:Int×Int=>PV.int z.1) (q:=λz:Int×Int=>PV.int z.2) (ws.zip sizes) λz hz=>?_
  obtain⟨m1,m2⟩:=iQ hz
  have a1:=h.hx z.2 m2;have a2:=tj h hw m1;have a3:=v9 h m2
  dsimp? [aW (i:=R sizes) (show 0<z.2 by omega) (show z.2<2^64 by omega),bg (k:=64) (l:=64) (show z.1.natAbs<2^64 by omega) (show (R sizes/z.2).natAbs<2^64 by omega)]
 have z1:(ws.zip sizes).length<=sizeLine:=by rw[List.length_zip];exact aO (Nat.le_trans (Nat.min_le_right _ _) (by omega))
 let us:=(ws.zip sizes).map λz=>z.1*(R sizes/z.2)
 have k2:bI (bA 0 1) none (ak b_ (ae 0) (ae 1)) ((us.zip xs).map λz=>.tup [.int z.1,.int z.2]) [none,none]=M.ok ((us.zip xs).map λz=>.int (z.1*z.2)):=by
  refine eO (p:=λz:Int×Int=>PV.int z.1) (q:=λz:Int×Int=>PV.int z.2) (us.zip xs) λz hz=>?_
  obtain⟨m1,m2⟩:=iQ hz
  obtain⟨y,hy,e⟩:=List.mem_map.mp m1
  obtain⟨n1,n2⟩:=iQ hy
  have a1:=BF h (tj h hw n1) n2
  rw[e] at a1
  have a2:=tj h hs m2
  dsimp? [bg (k:=80) (l:=64) a1 (show z.2.natAbs<2^64 by omega)]
 have z2:(us.zip xs).length<=sizeLine:=by rw[List.length_zip];exact aO (Nat.le_trans (Nat.min_le_right _ _) (by rw[hs.len];omega))
 have k3:de [.lst ((ws.zip sizes).map λz=>.int (z.1*(R sizes/z.2))),tI xs,.int (R sizes)]=M.ok (.int (KU sizes ws xs)):=by
  have e0:cv (.lst ((ws.zip sizes).map λz=>PV.int (z.1*(R sizes/z.2))))=some (us.map PV.int):=by
   rw[u4,List.map_map];rfl
  have e1:wz [.lst ((us.zip xs).map λz=>PV.int (z.1*z.2))]=M.ok (.int ((us.zip xs).map λz=>z.1*z.2).sum):=by
   have:=uN ((us.zip xs).map λz=>z.1*z.2)
   rw[List.map_map] at this
   exact this
  unfold de d_
  dsimp? [dF (q:=tI xs) us xs e0 rfl,List.length_map,av z2,k2,e1,aS (p5 h)]
  rfl
 unfold oN oP
 dsimp? [o4 (levers:=levers) h hw,o4 (levers:=levers) h hs,bK,ML,Dw,dF (p:=tI ws) (q:=tI sizes) ws sizes rfl rfl,List.length_map,av z1,k1,k3]
theorem uR(xs:List Int):∀ m,m<=xs.length->(xs.take m).sum=aT m (vf xs)
 | 0,_=>by simp[aT]
 | m+1,h=>by
  rw[aT,← uR xs m (by omega),List.take_succ_eq_append_getElem (by omega),List.sum_append,aQ (by omega)];simp
theorem u_(xs:List Int):xs.sum=aT xs.length (vf xs):=by
 rw[← uR xs _ (Nat.le_refl _),List.take_length]
theorem EV{ws:List Int}(h1:ws.length=sizes.length)(h2:xs.length=sizes.length):KU sizes ws xs=dQ sizes.length (vf sizes) (R sizes) (vf ws) (vf xs)%R sizes:=by
 unfold KU dQ
 rw[u_]
 have hl:((((ws.zip sizes).map λz=>z.1*(R sizes/z.2)).zip xs).map λz=>z.1*z.2).length=sizes.length:=by simp;omega
 rw[hl]
 congr 1
 refine bb λi hi=>?_
 rw[aQ (by rw[hl];exact hi),aQ (by omega),aQ (by omega),aQ (by omega)]
 simp only[List.getElem_map,List.getElem_zip]
 rw[Int.mul_assoc,Int.mul_comm (R sizes/_),← Int.mul_assoc]
variable{T:List Row}{ns:List Int}
theorem qe(S:Sz sizes):∀ i,i<sizes.length->vf sizes i∣R sizes:=λi hi=>by rw[aQ hi];exact Kz S (List.getElem_mem hi)
def t7(sizes:List Int)(T:List Row):List Int:=(sizes.zip (l4 sizes T)).map λz=>z.1/z.2
theorem pP:(t7 sizes T).length=sizes.length:=by simp[t7,kq]
theorem yQ(h:i<sizes.length):vf (t7 sizes T) i=eK (vf sizes) (DD T) i:=by
 have e:=yq (R:=T) h
 rw[aQ (by rw[kq];exact h)] at e
 rw[aQ (by rw[pP];exact h)]
 simp only[t7,List.getElem_map,List.getElem_zip]
 rw[e,← aQ h];rfl
theorem GR(h:j<n):Av n (j:Int)=some j:=by
 unfold Av;rw[if_pos (by omega),if_pos (by omega)];simp
theorem wg{v:Int}{env:af}(h:j<xs.length):FQ i (xs.map PV.int) (.int v) env (.int (j:Int))=M.ok (.nx (env.set i (some (.ow ((xs.set j v).map PV.int))))):=by
 show (match Av (xs.map PV.int).length (j:Int) with | some j=>_ | none=>_)=_
 rw[List.length_map,GR h,List.map_set]
theorem qf{v:Int}(h:i<xs.length):vf (xs.set j v) i=if i=j then v else vf xs i:=by
 rw[aQ (by rw[List.length_set];exact h),List.getElem_set,aQ h]
 by_cases z:i=j
 ·rw[if_pos z,if_pos z.symm]
 ·rw[if_neg z,if_neg (Ne.symm z)]
theorem BA(x:Int):Ds (M.ok (.int x))=M.ok (.int x):=Eq.trans rfl rfl
theorem xg(Q:gu ns sizes raw Ls T idle)(hd:d<sizes.length):jx (bJ [kM sizes Ls T idle,.int (d:Int)]) λp=>∃ W:List Int,p=tI W/\W.length=sizes.length/\(∀ i,i<sizes.length->0<=vf W i/\vf W i<vf sizes i)/\Wk sizes.length (vf sizes) (DD T) (R sizes) d 0 (vf W):=by
 have l6:=Q.S.h6
 have l1:=Q.S.h1
 have g:=Q.st.gd
 have rl:=Q.st.wf.len
 have qd:=qe Q.S
 have q0:=p5 Q.S
 have q1:=JH Q.S
 have so:=BW (idle:=idle) Q.S Q.st
 have fl:∀ i,i<sizes.length->0<eK (vf sizes) (DD T) i/\eK (vf sizes) (DD T) i<=vf sizes i/\vf sizes i<=360:=λi hi=>⟨(iP g hi).2.1,(iP g hi).2.2,(lF Q.S i hi).2⟩
 have key:bI (bA 0 1) none (ak bF (ae 0) (ae 1)) ((sizes.zip (l4 sizes T)).map λz=>.tup [.int z.1,.int z.2]) [none,none]=M.ok ((sizes.zip (l4 sizes T)).map λz=>.int (z.1/z.2)):=by
  refine eO (p:=λz:Int×Int=>PV.int z.1) (q:=λz:Int×Int=>PV.int z.2) (sizes.zip (l4 sizes T)) λz hz=>?_
  obtain⟨i,hi,e⟩:=List.mem_iff_getElem.mp (iQ hz).2
  rw[kq] at hi
  have e2:=yq (R:=T) hi
  rw[aQ (by rw[kq];exact hi),e] at e2
  have p:=g.pos hi
  have:=lF Q.S i hi
  dsimp? [aW (i:=z.1) (j:=z.2) (by omega) (by omega)]
 have zl:(sizes.zip (l4 sizes T)).length<=sizeLine:=by rw[List.length_zip];exact aO (Nat.le_trans (Nat.min_le_left _ _) (by omega))
 have ef:PV.lst ((sizes.zip (l4 sizes T)).map λz=>PV.int (z.1/z.2))=lI (t7 sizes T):=by rw[lI,t7,List.map_map];rfl
 have wi:dG [.int (d:Int),.int 0,.int ((sizes.length:Int)-1)]=M.ok (.bl true):=by
  rw[within_int,decide_eq_true (by omega)]
 have e0:BP (.lst [.int 0]) (.int (sizes.length:Int))=M.ok ((List.replicate sizes.length 0).map PV.int):=by
  rw[BP,av ⟨by omega,by omega,by rw[Int.toNat_natCast];exact aO (by show 1*sizes.length<=1000;omega)⟩,Int.toNat_natCast,pF,List.map_replicate]
 unfold bJ dj
 dsimp? [e7,KY,bK,Dw,wi,xm (m := "steps") rfl,so,dF (p:=tI sizes) (q:=tI (l4 sizes T)) sizes (l4 sizes T) rfl rfl,List.length_map,av zl,key,ef,HZ,e0,Kr,ownAt,CT (xs:=t7 sizes T) (i:=d) (by rw[pP];exact hd),yQ hd,ku (xs:=sizes) (i:=d) hd,aS (i:=eK (vf sizes) (DD T) d) (j:=vf sizes d) (by have:=fl d hd;omega),wg (i:=4) (xs:=List.replicate sizes.length 0) (j:=d) (by simp;exact hd),vN d (by omega)]
 refine jx.loop (xs:=List.range d) (inj:=λ(i:Nat)=>.int ((d:Int)-1+(i:Int)*-1)) (λzs env=>∃ (c:Nat) (W:List Int) (y5 y6 y7:Option SV),env=[some (.sh (kM sizes Ls T idle)),some (.sh (.int (d:Int))),some (.sh (tI sizes)),some (.sh (lI (t7 sizes T))),some (.ow (W.map PV.int)),y5,y6,y7]/\c<=d/\zs=(List.range d).drop c/\W.length=sizes.length/\(∀ i,i<sizes.length->0<=vf W i/\vf W i<vf sizes i)/\Wk sizes.length (vf sizes) (DD T) (R sizes) d (d-c) (vf W)) ⟨0,_,_,_,_,rfl,by omega,rfl,by simp,λi hi=>?_,Wk.start g qd hd λi hi=>?_⟩ ?_ ?_
 ·rw[qf (by simp;exact hi),ir]
  have:=fl i hi
  split
  ·rename_i z;subst z;exact⟨Int.emod_nonneg _ (by omega),Int.emod_lt_of_pos _ (by omega)⟩
  ·omega
 ·rw[qf (by simp;exact hi),ir]
 ·rintro k r env ⟨c,W,y5,y6,y7,rfl,hc,hz,Wl,W0,Wt⟩
  obtain⟨c1,c2,c3⟩:=drop_cons hz.symm
  rw[List.length_range] at c1
  have ek:k=c:=by rw[List.getElem?_range c1] at c2;exact(Option.some.inj c2).symm
  subst ek
  obtain⟨a,ha⟩:∃ a,a=d-1-k:=⟨_,rfl⟩
  have ea:((d:Int)-1+(k:Int)*-1)=(a:Int):=by omega
  have an:a<sizes.length:=by omega
  have fa:=fl a an
  have r1:=Q.st.wf.p4 an
  have rk:∀ i,i<sizes.length->0<=vf (row T a).1 i/\vf (row T a).1 i<vf sizes i:=λi hi=>g.kd a an i hi
  have we:=C6 (levers:=Ls) Q.S (uF Wl W0) (uF r1 rk)
  rw[EV Wl r1] at we
  have eq:vf (row T a).1=DD T a:=rfl
  rw[eq] at we
  have p0:0<=dQ sizes.length (vf sizes) (R sizes) (vf W) (DD T a)%R sizes:=Int.emod_nonneg _ (by omega)
  have p1:dQ sizes.length (vf sizes) (R sizes) (vf W) (DD T a)%R sizes<R sizes:=Int.emod_lt_of_pos _ q0
  have fR:eK (vf sizes) (DD T) a∣R sizes:=Int.dvd_trans ⟨_,(iP g an).1.symm⟩ (qd a an)
  have s0:0<R sizes/eK (vf sizes) (DD T) a:=by
   obtain⟨x,hx⟩:=fR
   rw[hx,Int.mul_ediv_cancel_left _ (by omega)]
   rcases Int.lt_trichotomy x 0 with q | q | q
   ·have:=Int.mul_neg_of_pos_of_neg fa.1 q;omega
   ·rw[q] at hx;omega
   ·exact q
  have s1:R sizes/eK (vf sizes) (DD T) a<=R sizes:=Int.ediv_le_self _ (by omega)
  have tw:PV.tup (W.map PV.int)=tI W:=rfl
  dsimp? [bQ,ea,wo,ownAt,uB,e7,KY,tw,Mv,pv (rows:=T) (d:=a) (by omega),pL,we,BA,bK,ML,CT (xs:=t7 sizes T) (i:=a) (by rw[pP];exact an),yQ an,aW (i:=R sizes) (j:=eK (vf sizes) (DD T) a) (by omega) (by omega),aW (i:=dQ sizes.length (vf sizes) (R sizes) (vf W) (DD T a)%R sizes) (j:=R sizes/eK (vf sizes) (DD T) a) (by omega) (by omega),aS (i:=-(dQ sizes.length (vf sizes) (R sizes) (vf W) (DD T a)%R sizes/(R sizes/eK (vf sizes) (DD T) a))) (j:=eK (vf sizes) (DD T) a) (by omega),Kr,wg (i:=4) (xs:=W) (j:=a) (by omega)]
  refine⟨_,rfl,k+1,_,_,_,_,rfl,by omega,c3.symm,by simpa using Wl,λi hi=>?_,?_⟩
  ·rw[qf (by omega)]
   split
   ·rename_i z;subst z
    have h1:=Int.emod_nonneg (-(dQ sizes.length (vf sizes) (R sizes) (vf W) (DD T i)%R sizes/(R sizes/eK (vf sizes) (DD T) i))) (show eK (vf sizes) (DD T) i≠0 by omega)
    have h2:=Int.emod_lt_of_pos (-(dQ sizes.length (vf sizes) (R sizes) (vf W) (DD T i)%R sizes/(R sizes/eK (vf sizes) (DD T) i))) fa.1
    omega
   ·exact W0 i hi
  ·rw[show d-(k+1)=a by omega]
   refine Wk.next g q0 qd hd (w:=vf W) (by rw[show a+1=d-k by omega];exact Wt) (by omega) ?_ λi hi Pm=>?_
   ·rw[qf (by omega),if_pos rfl]
   ·rw[qf (by omega),if_neg Pm]
 ·rintro env ⟨c,W,y5,y6,y7,rfl,hc,hz,Wl,W0,Wt⟩
  have:c=d:=by
   have:=congrArg List.length hz
   rw[List.length_drop,List.length_range] at this
   simp at this;omega
  subst this
  rw[Nat.sub_self] at Wt
  exact⟨_,rfl,W,rfl,Wl,W0,Wt⟩
theorem Jj:pC ao "levers" aZ (dw sizes Ls) (M.ok [])=M.ok (.tup (Ls.map tI)):=(jr (fl:=qy sizes Ls) rfl).trans (sy sizes Ls)
def ad(sizes xs ys:List Int)(t:Int):List Int:=xf ((xs.zip ys).map λz=>z.1+t*z.2) sizes
structure Ws (sizes:List Int) (T:List Row) (d:Nat) (W:List Int):Prop where
 len:W.length=sizes.length
 kd:∀ i,i<sizes.length->0<=vf W i/\vf W i<vf sizes i
 wk:Wk sizes.length (vf sizes) (DD T) (R sizes) d 0 (vf W)
def Kp(sizes xs:List Int):Prop:=xs.length=sizes.length/\∀ i,i<sizes.length->0<=vf xs i/\vf xs i<vf sizes i
theorem Kp.KC(h:Kp sizes xs):DC sizes xs:=uF h.1 h.2
theorem Kp.bd(S:Sz sizes)(h:Kp sizes xs):Bd 200 xs:=wJ S h.1 h.2
theorem uC(ns:List Int)(k:Nat)(hk:k<=100):∃ c,eE [.j9 (ns.map PV.int),.int (k:Int)]=M.ok (.int c):=by
 unfold eE iG
 by_cases h:(k:Int)<(ns.length:Int)
 ·have h':k<ns.length:=by omega
  exact⟨ns[k],by dsimp? [List.length_map,h,decide_true,bD (p:=.j9 (ns.map PV.int)) (j:=k) (x:=.int ns[k]) rfl (by rw[List.getElem?_map,List.getElem?_eq_getElem h'];rfl)]⟩
 ·exact⟨((k:Int)+2)*104729%65537,by dsimp? [List.length_map,h,decide_false,bg (i:=(k:Int)+2) (j:=104729) (k:=31) (l:=31) (by omega) (by decide),aS (i:=((k:Int)+2)*104729) (j:=65537) (by decide)]⟩
theorem qp(c:Int)(k:Nat)(hk:k<=100):∃ x,bU [.int c,.int (k:Int)]=M.ok (.int x)/\0<=x/\x<2147483579:=by
 obtain⟨a,ea,a0⟩:∃ a,cA (.int (c%2147483647*48271+7919*(k:Int)+13)) (.int 2147483629)=M.ok (.int a)/\0<=a/\a<2147483629:=⟨_,aS (by decide),Int.emod_nonneg _ (by decide),Int.emod_lt_of_pos _ (by decide)⟩
 obtain⟨b,eb,b0⟩:∃ b,cA (.int (a*a+104729*(k:Int)+7)) (.int 2147483587)=M.ok (.int b)/\0<=b/\b<2147483587:=⟨_,aS (by decide),Int.emod_nonneg _ (by decide),Int.emod_lt_of_pos _ (by decide)⟩
 refine⟨b*b%2147483579,?_,Int.emod_nonneg _ (by decide),Int.emod_lt_of_pos _ (by decide)⟩
 unfold bU ee
 dsimp? [aS (i:=c) (j:=2147483647) (by decide),bg (i:=c%2147483647) (j:=48271) (k:=32) (l:=31) (by omega) (by decide),bg (i:=7919) (j:=(k:Int)) (k:=31) (l:=31) (by decide) (by omega),ea,bg (i:=a) (j:=a) (k:=32) (l:=32) (by omega) (by omega),bg (i:=104729) (j:=(k:Int)) (k:=31) (l:=31) (by decide) (by omega),eb,bg (i:=b) (j:=b) (k:=32) (l:=32) (by omega) (by omega),aS (i:=b*b) (j:=2147483579) (by decide)]
theorem nK(c:Int)(p:PV)(bases:List Int)(hp:cv p=some (bases.map PV.int))(hb:∀ b∈bases,0<b/\b<2^60)(hl:bases.length<=100):∃ xs:List Int,cT [.int c,p]=M.ok (tI xs)/\xs.length=bases.length/\∀ z∈xs.zip bases,0<=z.1/\z.1<z.2:=by
 suffices h:jx (cT [.int c,p]) λq=>∃ xs:List Int,q=tI xs/\xs.length=bases.length/\∀ z∈xs.zip bases,0<=z.1/\z.1<z.2 by
  obtain⟨_,e,xs,rfl,q⟩:=h
  exact⟨xs,e,q⟩
 unfold cT du
 dsimp? [eh,hp]
 refine jx.loop (xs:=bases) (inj:=PV.int) (λr env=>∃ (d xs:List Int) (left:Int) (y:Option SV),env=[some (.sh (.int left)),some (.sh p),some (.ow (xs.map PV.int)),y]/\bases=d++r/\xs.length=d.length/\∀ z∈xs.zip d,0<=z.1/\z.1<z.2) ⟨[],[],c,none,rfl,rfl,rfl,λ_ h=>nomatch h⟩ ?_ ?_
 ·rintro b r env ⟨d,xs,left,y,rfl,hd,hx,hz⟩
  have QW:=hb b (by rw[hd];simp)
  have dl:d.length<=100:=by
   have:=congrArg List.length hd
   rw[List.length_append] at this;omega
  dsimp? [bQ,kR,ownAt,aS (i:=left) QW.1,kU (xs:=xs.map PV.int) (show (xs.map PV.int).length<1000 by simp;omega),jy,aW (i:=left) QW.1 (show b<2^64 by omega)]
  refine⟨_,rfl,d++[b],xs++[left%b],left/b,_,rfl,by rw[hd];simp,by simp[hx],λz Px=>?_⟩
  rw[List.zip_append hx] at Px
  rcases List.mem_append.mp Px with q | q
  ·exact hz z q
  ·rw[List.zip_cons_cons,List.zip_nil_left] at q
   rw[List.mem_singleton.mp q]
   exact⟨Int.emod_nonneg _ (by omega),Int.emod_lt_of_pos _ QW.1⟩
 ·rintro env ⟨d,xs,left,y,rfl,hd,hx,hz⟩
  rw[List.append_nil] at hd
  subst hd
  dsimp? []
  exact⟨_,rfl,xs,rfl,hx,hz⟩
theorem D5(c:Int):∃ x,eB [.int c]=M.ok (.int x)/\2<=x/\x<=360:=by
 obtain⟨v,hv,ev⟩:=pick [2,3,4,6,8,9,12] (c/3) 7 rfl (by decide)
 obtain⟨w,hw,ew⟩:=pick [1,2,5,10,30] (c/21) 5 rfl (by decide)
 rw[show ((7:Nat):Int)=7 from rfl] at ev
 rw[show ((5:Nat):Int)=5 from rfl] at ew
 have v1:2<=v/\v<=12:=by simp at hv;omega
 have w1:1<=w/\w<=30:=by simp at hw;omega
 unfold eB iU
 by_cases h:c%3=0
 ·refine⟨2+c/3%359,?_,by omega,by omega⟩
  dsimp? [aS (i:=c) (j:=3) (by decide),h,decide_true,aW (i:=c) (j:=3) (by decide) (by decide),aS (i:=c/3) (j:=359) (by decide)]
 ·refine⟨v*w,?_,?_,?_⟩
  ·simp only[List.map_cons,List.map_nil] at ev ew
   dsimp? [aS (i:=c) (j:=3) (by decide),h,decide_false,aW (i:=c) (j:=3) (by decide) (by decide),aS (i:=c/3) (j:=7) (by decide),ev,aW (i:=c) (j:=21) (by decide) (by decide),aS (i:=c/21) (j:=5) (by decide),ew,bg (i:=v) (j:=w) (k:=31) (l:=31) (by omega) (by omega)]
  ·have:2*1<=v*w:=Int.mul_le_mul v1.1 w1.1 (by decide) (by omega)
   omega
  ·have:v*w<=12*30:=Int.mul_le_mul v1.2 w1.2 (by omega) (by decide)
   omega
theorem rT(c:Int):jx (fe [.int c]) λp=>∃ xs:List Int,p=lI xs/\Sz xs:=by
 unfold fe gI
 dsimp? [aS (i:=c) (j:=2) (by decide)]
 rcases two (c:=c) with h | h
 ·obtain⟨m,em,m1,m6⟩:∃ m:Nat,1+c/2%6=(m:Int)/\1<=m/\m<=6:=⟨(1+c/2%6).toNat,by omega,by omega,by omega⟩
  simp only[h,decide_true]
  obtain⟨xs,ex,xl,xb⟩:=nK (c/12) (.lst (List.replicate m (.int 359))) (List.replicate m 359) (by rw[List.map_replicate];rfl) (λb hb=>by rw[EU hb];decide) (by simp;omega)
  rw[List.length_replicate] at xl
  dsimp? [aW (i:=c) (j:=2) (by decide) (by decide),aS (i:=c/2) (j:=6) (by decide),em,aW (i:=c) (j:=12) (by decide) (by decide),Bx (.int 359) m (by omega),ex,List.length_map,av (aO (show xs.length<=1000 by omega)),dZ (f:=ak dM (λ_=>M.ok (.int 2)) (ae 0)) (inj:=PV.int) (h:=λx=>.int (2+x)) (rest:=[]) (x0:=none) xs λa _=>by dsimp? []]
  refine⟨_,rfl,xs.map (2+·),by rw[lI,List.map_map];rfl,by simp;omega,by simp;omega,λx hx=>?_⟩
  obtain⟨y,hy,rfl⟩:=List.mem_map.mp hx
  obtain⟨i,hi,rfl⟩:=List.mem_iff_getElem.mp hy
  have:=xb (xs[i],359) (List.mem_iff_getElem.mpr ⟨i,by simp;omega,by simp⟩)
  simp at this;omega
 ·simp only[h,show ¬ (1:Int)=0 by decide,decide_false]
  obtain⟨v,hv,ev⟩:=pick [1,2,3,4,2,3,5,6] (c/2) 8 rfl (by decide)
  rw[show ((8:Nat):Int)=8 from rfl] at ev
  simp only[List.map_cons,List.map_nil] at ev
  obtain⟨m,rfl,m1,m6⟩:∃ m:Nat,v=(m:Int)/\1<=m/\m<=6:=⟨v.toNat,by simp at hv;omega,by simp at hv;omega,by simp at hv;omega⟩
  have ex:∀ k:Nat,∃ x:Int,k<=100->(∃ y,bU [.int (c/16),.int (k:Int)]=M.ok (.int y)/\eB [.int y]=M.ok (.int x))/\2<=x/\x<=360:=λk=>by
   by_cases hk:k<=100
   ·obtain⟨y,ey,_⟩:=qp (c/16) k hk
    obtain⟨x,e,q⟩:=D5 y
    exact⟨x,λ_=>⟨⟨y,ey,e⟩,q⟩⟩
   ·exact⟨0,λh=>(hk h).elim⟩
  obtain⟨f,hf⟩:=Classical.skolem.mp ex
  have key:bI (bQ 0) none (ai eB (aa (ai bU (aa (ak bF (ae 1) (λ_=>M.ok (.int 16))) (aa (ae 0) aj))) aj)) ((List.range m).map λ(i:Nat)=>.int (i:Int)) [none,some (.sh (.int c))]=M.ok ((List.range m).map λk=>.int (f k)):=by
   refine dZ (inj:=λ(i:Nat)=>PV.int (i:Int)) (List.range m) λi hi=>?_
   have:=List.mem_range.mp hi
   obtain⟨⟨y,e1,e2⟩,_⟩:=hf i (by omega)
   dsimp? [aW (i:=c) (j:=16) (by decide) (by decide),e1,e2]
  dsimp? [aW (i:=c) (j:=2) (by decide) (by decide),aS (i:=c/2) (j:=8) (by decide),ev,jv (n:=(m:Int)) (by omega) (by omega),Int.toNat_natCast,List.length_map,List.length_range,av (aO (show m<=1000 by omega)),key]
  refine⟨_,rfl,(List.range m).map f,by rw[lI,List.map_map];rfl,by simp;omega,by simp;omega,λx hx=>?_⟩
  obtain⟨k,hk,rfl⟩:=List.mem_map.mp hx
  have:=List.mem_range.mp hk
  exact(hf k (by omega)).2
theorem G8(hl:xs.length=ys.length)(h:∀ z∈xs.zip ys,0<=z.1/\z.1<z.2):∀ i,i<ys.length->0<=vf xs i/\vf xs i<vf ys i:=λi hi=>by
 have:=h (xs[i]'(by omega),ys[i]) (List.mem_iff_getElem.mpr ⟨i,by simp;omega,by simp⟩)
 rw[aQ (by omega),aQ hi]
 exact this
theorem sC(S:Sz sizes)(c:Int):jx (dP [.int c,lI sizes]) λp=>∃ xs:List Int,p=tI xs/\xs.length=sizes.length/\∀ z∈xs.zip sizes,0<=z.1/\z.1<z.2:=by
 have l6:=S.h6
 unfold dP gW
 dsimp? [aS (i:=c) (j:=2) (by decide)]
 rcases two (c:=c) with h | h
 ·simp only[h,decide_true]
  obtain⟨xs,ex,xl,xb⟩:=nK (c/2) (lI sizes) sizes rfl (λb hb=>by have:=S.hx b hb;omega) (by omega)
  dsimp? [aW (i:=c) (j:=2) (by decide) (by decide),ex]
  exact⟨_,rfl,xs,rfl,xl,xb⟩
 ·simp only[h,show ¬ (1:Int)=0 by decide,decide_false]
  obtain⟨v,hv,ev⟩:=pick [1,2,3,6,12,30] (c/2) 6 rfl (by decide)
  rw[show ((6:Nat):Int)=6 from rfl] at ev
  simp only[List.map_cons,List.map_nil] at ev
  have v1:1<=v/\v<=30:=by simp at hv;omega
  dsimp? [aW (i:=c) (j:=2) (by decide) (by decide),aS (i:=c/2) (j:=6) (by decide),ev,eh,ny]
  refine jx.loop (xs:=sizes.zipIdx) (inj:=λz=>.tup [.int (z.2:Int),.int z.1]) (λr env=>∃ (d ss:List Int) (y4 y5 y6:Option SV),env=[some (.sh (.int c)),some (.sh (lI sizes)),some (.sh (.int v)),some (.ow (ss.map PV.int)),y4,y5,y6]/\sizes=d++r.map (·.1)/\ss.length=d.length/\(∀ z∈ss.zip d,0<=z.1/\z.1<z.2)/\∀ z∈r,z∈sizes.zipIdx) ⟨[],[],_,_,_,rfl,by simp,rfl,(λ_ h=>nomatch h),λz h=>h⟩ ?_ ?_
  ·rintro⟨s,i⟩ r env ⟨d,ss,y4,y5,y6,rfl,hd,hl,hz,hm⟩
   have hi:=wF (hm (s,i) List.mem_cons_self)
   have hs:=S.hx s (by rw[hd];simp)
   obtain⟨x,ex,x0,x1⟩:=qp (c/12) i (by omega)
   have dl:d.length<=6:=by
    have:=congrArg List.length hd
    simp at this;omega
   have b1:(x/4*v).natAbs<2^62:=by
    rw[Int.natAbs_mul]
    have:(x/4).natAbs*v.natAbs<=2^30*2^5:=Nat.mul_le_mul (by omega) (by omega)
    exact Nat.lt_of_le_of_lt this (by decide)
   have m0:0<=x/4*v%s/\x/4*v%s<s:=⟨Int.emod_nonneg _ (by omega),Int.emod_lt_of_pos _ (by omega)⟩
   obtain⟨o,eo,ho⟩:∃ o:Int,rO [.bl (decide (0<x%4))]=M.ok (.int o)/\(o=0\/o=1):=by
    by_cases q:0<x%4
    ·exact⟨1,by rw[decide_eq_true q];rfl,.inr rfl⟩
    ·exact⟨0,by rw[decide_eq_false q];rfl,.inl rfl⟩
   dsimp? [bA,aW (i:=c) (j:=12) (by decide) (by decide),ex,kR,ownAt,aW (i:=x) (j:=4) (by decide) (by decide),bg (i:=x/4) (j:=v) (k:=31) (l:=31) (by omega) (by omega),aS (i:=x/4*v) (j:=s) (by omega),aS (i:=x) (j:=4) (by decide),eo,bg (i:=x/4*v%s) (j:=o) (k:=31) (l:=31) (by omega) (by omega),kU (xs:=ss.map PV.int) (show (ss.map PV.int).length<1000 by simp;omega),jy]
   refine⟨_,rfl,d++[s],ss++[x/4*v%s*o],_,_,_,rfl,by rw[hd];simp,by simp[hl],λz Px=>?_,λz h=>hm z (List.mem_cons_of_mem _ h)⟩
   rw[List.zip_append hl] at Px
   rcases List.mem_append.mp Px with q | q
   ·exact hz z q
   ·rw[List.zip_cons_cons,List.zip_nil_left] at q
    rw[List.mem_singleton.mp q]
    rcases ho with rfl | rfl <;> simp <;> omega
  ·rintro env ⟨d,ss,y4,y5,y6,rfl,hd,hl,hz,_⟩
   rw[List.map_nil,List.append_nil] at hd
   subst hd
   dsimp? []
   exact⟨_,rfl,ss,rfl,hl,hz⟩
theorem DJ(i j:Nat)(env:af)(p q:PV):J3 i j env [p,q]=M.ok (.nx ((env.set i (some (.sh p))).set j (some (.sh q)))):=rfl
theorem xT(a b:Nat):eX [.int (a:Int),.int (b:Int)]=M.ok (.int (Nat.gcd a b:Nat)):=by
 unfold eX eT
 dsimp? []
 refine xx (λenv=>∃ p q:Nat,env=[some (.sh (.int p)),some (.sh (.int q))]/\Nat.gcd p q=Nat.gcd a b) (λenv=>match env with
  | [_,some (.sh (.int q))]=>q.toNat
  | _=>0) ⟨a,b,rfl,rfl⟩ ?_ ?_
 ·rintro env ⟨p,q,rfl,hg⟩
  by_cases h0:(0:Int)<q
  ·refine .inr ⟨by dsimp? [h0,decide_true],[some (.sh (.int q)),some (.sh (.int ((p%q:Nat):Int)))],?_,⟨q,p%q,rfl,?_⟩,?_⟩
   ·dsimp? [IF,DJ,aS (i:=(p:Int)) h0]
    rfl
   ·rw[← hg,Nat.gcd_comm p q,Nat.gcd_rec q p,Nat.gcd_comm]
   ·show ((p%q:Nat):Int).toNat<(q:Int).toNat
    have:=Nat.mod_lt p (show 0<q by omega)
    omega
  ·exact .inl (by dsimp? [h0,decide_false])
 ·rintro Nm ⟨p,q,rfl,hg⟩ hu
  have hq:q=0:=by
   revert hu
   dsimp? []
   intro hu
   have:(decide ((0:Int)<q))=false:=by injection hu with hu;injection hu
   simp at this
   omega
  subst hq
  rw[Nat.gcd_zero_right] at hg
  subst hg
  dsimp? []
variable{W:List Int}{Ny NH:List (List Int)}{T':List Row}
variable{v:bS}
section
variable{P:List Int}
theorem o6(Q:gu ns sizes raw Ls T idle){d:List Int}(h:Kp sizes d):lst sizes Ls T d=List.replicate sizes.length 0 ↔ G sizes.length (vf sizes) (DD T) sizes.length 0 (vf d):=by
 obtain⟨b1,b2,b3,b4⟩:=sF Q.st h.1 h.2
 constructor
 ·intro z
  exact G.ext (by omega) (λi hi=>by rw[z,ir];omega) b4
 ·intro gx
  refine xU (by simpa using b1) λi hi=>?_
  have g:=Q.st.gd.sub (by omega) gx b4
  have:=G.diff Q.st.gd sizes.length 0 (λi=>vf (lst sizes Ls T d) i) (by omega) (λi hi=>by have:=b3 i hi;omega) (λi _ hi=>by have:=b2 i hi;omega) (G.ext (by omega) (λi _=>by omega) g) i (by omega)
  rw[ir];exact this
theorem ug{xs:List Int}(hx:∀ x∈xs,0<x/\x<2^60):∀ c,c<=xs.length->0<aJ c (vf xs)/\aJ c (vf xs)<2^(60*c+1)
 | 0,_=>⟨show (0:Int)<1 by decide,show (1:Int)<2^1 by decide⟩
 | c+1,h=>by
  obtain⟨a,b⟩:=ug hx c (by omega)
  have q:=hx (vf xs c) (by rw[aQ (by omega)];exact List.getElem_mem _)
  show 0<aJ c (vf xs)*vf xs c/\aJ c (vf xs)*vf xs c<_
  refine⟨Int.mul_pos a q.1,?_⟩
  have e:(2:Int)^(60*(c+1)+1)=2^(60*c+1)*2^60:=by rw[show 60*(c+1)+1=60*c+1+60 by omega,Int.pow_add]
  rw[e]
  exact Int.lt_of_lt_of_le (Int.mul_lt_mul_of_pos_right b q.1) (Int.mul_le_mul_of_nonneg_left (by omega) (Int.le_of_lt (Int.lt_trans a b)))
theorem xR(h:0<a/\a<2^k):a.natAbs<2^k:=by
 have:(a.natAbs:Int)<((2^k:Nat):Int):=by
  rw[Int.natAbs_of_nonneg (by omega)];push_cast;exact h.2
 exact Int.ofNat_lt.mp this
theorem xc(hl:xs.length<=8)(hx:∀ x∈xs,0<x/\x<2^60):gY [tI xs]=M.ok (.int (aJ xs.length (vf xs))):=by
 refine jx.eq ?_
 unfold gY gJ
 dsimp? []
 refine jx.loop (xs:=xs) (inj:=PV.int) (λzs env=>∃ (c:Nat) (y:Option SV),env=[some (.sh (tI xs)),some (.sh (.int (aJ c (vf xs)))),y]/\zs=xs.drop c/\c<=xs.length) ⟨0,_,rfl,rfl,by omega⟩ ?_ ?_
 ·rintro a r env ⟨c,y,rfl,hd,hc⟩
  obtain⟨c1,c2,c3⟩:=drop_cons hd.symm
  rw[List.getElem?_eq_getElem c1] at c2
  have e2:xs[c]=a:=Option.some.inj c2
  have ha:=hx a (by rw[← e2];exact List.getElem_mem _)
  have b:=xR (ug hx c hc)
  have b':(aJ c (vf xs)).natAbs<2^490:=Nat.lt_of_lt_of_le b (Nat.pow_le_pow_right (by decide) (by omega))
  have ep:aJ c (vf xs)*a=aJ (c+1) (vf xs):=by show _=aJ c (vf xs)*vf xs c;rw[aQ c1,e2]
  dsimp? [bQ,bg (i:=aJ c (vf xs)) (j:=a) (k:=490) (l:=60) b' (xR ha),ep]
  exact⟨_,rfl,c+1,_,rfl,c3.symm,by omega⟩
 ·rintro env ⟨c,y,rfl,hd,hc⟩
  have:=congrArg List.length hd
  rw[List.length_drop] at this
  simp at this
  obtain rfl:c=xs.length:=by omega
  dsimp? []
  exact⟨_,rfl,rfl⟩
theorem nZ(Q:gu ns sizes raw Ls T idle):(DE idle).length=Ls.length/\(∀ x∈DE idle,0<x/\x<2^60)/\aJ Ls.length (vf (DE idle))=aJ Ls.length λj=>II idle j j:=by
 have il:=Q.I.len
 refine⟨by rw[oW,il],λx hx=>?_,c8 λj hj=>Cj (by omega)⟩
 obtain⟨i,hi,rfl⟩:=List.mem_iff_getElem.mp hx
 rw[oW,il] at hi
 have:=Cj (idle:=idle) (i:=i) (by omega)
 rw[aQ (by rw[oW];omega)] at this
 rw[this]
 exact⟨Q.I.pos i hi,Q.I.le i hi⟩
theorem kv(Q:gu ns sizes raw Ls T idle):cC [dw sizes Ls]=M.ok (.int (aJ Ls.length λj=>II idle j j)):=by
 obtain⟨a,b,c⟩:=nZ Q
 have p:=xc (xs:=DE idle) (by have:=Q.m8;omega) b
 rw[a,c] at p
 unfold cC dJ
 dsimp? [Q.DV,bK,xm (m := "spans") rfl,Ag (R:=T) Q.m8 Q.I,p]
theorem Fw{t:af->M Bool}{f:af->M PV}{inj h:α->PV}{b:α->Bool}{rest:af}{x0:Option SV}(xs:List α)(Ht:∀ a∈xs,t (some (.sh (inj a))::rest)=M.ok (b a))(H:∀ a∈xs,f (some (.sh (inj a))::rest)=M.ok (h a)):bI (bQ 0) (some t) f (xs.map inj) (x0::rest)=M.ok ((xs.filter b).map h):=by
 induction xs generalizing x0 with
 | nil=>rfl
 | cons a r ih =>
  have i:=ih (x0:=some (.sh (inj a))) (λc hc=>Ht c (List.mem_cons_of_mem _ hc)) λc hc=>H c (List.mem_cons_of_mem _ hc)
  rw[List.map_cons,bI]
  show M.bind (M.ok ((x0::rest).set 0 (some (.sh (inj a))))) _=_
  rw[M.aL,List.set_cons_zero]
  show M.bind (t _) _=_
  rw[Ht a List.mem_cons_self,M.aL]
  cases e:b a with
  | true=>rw[if_pos rfl,H a List.mem_cons_self,M.aL,i,List.filter_cons_of_pos e];rfl
  | false=>rw[if_neg (by simp),i,List.filter_cons_of_neg (by simp[e])]
theorem DU(h:T.length<=1000):g9 [kM sizes Ls T idle]=M.ok (.lst (T.map λr=>tI r.1)):=by
 have key:bI (bQ 0) none (ak aP (ae 0) (λ_=>M.ok (.int 0))) (T.map mk) [none]=M.ok (T.map λr=>tI r.1):=dZ T λr _=>by dsimp? [show aP (mk r) (.int 0)=M.ok (tI r.1) from bD (j:=0) rfl rfl]
 unfold g9 gH
 dsimp? [e7,Mv,List.length_map,av (aO h),key]
def nz(n:Nat)(T:List Row):List (List Int):=(T.filter λr=>!decide (r.1=List.replicate n 0)).map (·.1)
theorem xu{l:List Int}(h:l∈nz n T):∃ d,d<T.length/\(row T d).1=l:=by
 obtain⟨r,hr,rfl⟩:=List.mem_map.mp h
 obtain⟨d,hd,e⟩:=List.mem_iff_getElem.mp (List.mem_filter.mp hr).1
 exact⟨d,hd,by rw[ik hd,e]⟩
theorem Bz(h:d<T.length)(z:(row T d).1≠List.replicate n 0):(row T d).1∈nz n T :=
 List.mem_map.mpr ⟨row T d,List.mem_filter.mpr ⟨by rw[ik h];exact List.getElem_mem _,by simpa using z⟩,rfl⟩
theorem nP(Q:gu ns sizes raw Ls T idle):∃ Wf:Nat->List Int,∀ d,d<sizes.length->bJ [kM sizes Ls T idle,.int (d:Int)]=M.ok (tI (Wf d))/\Ws sizes T d (Wf d):=by
 have h:∀ d:Nat,∃ W,d<sizes.length->bJ [kM sizes Ls T idle,.int (d:Int)]=M.ok (tI W)/\Ws sizes T d W:=λd=>by
  by_cases hd:d<sizes.length
  ·obtain⟨_,e,W,rfl,a,b,c⟩:=xg Q hd
   exact⟨W,λ_=>⟨e,a,b,c⟩⟩
  ·exact⟨[],λh=>absurd h hd⟩
 exact⟨λd=>Classical.choose (h d),λd hd=>Classical.choose_spec (h d) hd⟩
theorem xj{P:bS}(g:Good n (vf sizes) (DD T))(h:∀ l,l<m->G n (vf sizes) (DD T) n 0 (A l))(led:∀ i,i<n->vf sizes i∣v i-aT m λl=>P l*A l i):G n (vf sizes) (DD T) n 0 v :=
 g.lj (by omega) led (G.sum (A:=A) (P:=P) g m h)
theorem cancel{x y c:Int}(ha:0<a)(h1:a*x=c)(h2:y*a=c):x=y:=by
 rw[Int.mul_comm] at h2
 exact Int.eq_of_mul_eq_mul_left (by omega) (h1.trans h2.symm)
theorem mh{l:List Int}(h:l∈Ls):∃ k,k<Ls.length/\AA Ls k=vf l:=by
 obtain⟨k,hk,e⟩:=List.mem_iff_getElem.mp h
 exact⟨k,hk,by unfold AA;rw[List.getD_eq_getElem?_getD,List.getElem?_eq_getElem hk,Option.getD_some,e]⟩
theorem vG(Q:gu ns sizes raw Ls T idle):∃ NH T' Ny,jE [dw sizes Ls]=M.ok (dw sizes NH)/\gu ns sizes (nz sizes.length T) NH T' Ny/\NH=nz sizes.length T:=by
 have tl:=Q.st.wf.len
 have l6:=Q.S.h6
 have kp:∀ l∈nz sizes.length T,Kp sizes l:=λl hl=>by
  obtain⟨d,hd,rfl⟩:=xu hl
  exact⟨Q.st.wf.p4 (by omega),Q.st.gd.kd d (by omega)⟩
 have nl:(nz sizes.length T).length<=T.length:=by unfold nz;rw[List.length_map];exact List.length_filter_le _ _
 obtain⟨NH,T',Ny,Q'⟩:=gu.get ns Q.S (raw:=nz sizes.length T) (by omega) λl hl=>⟨(kp l hl).1,(kp l hl).bd Q.S⟩
 refine⟨NH,T',Ny,?_,Q',?_⟩
 ·have key:bI (bQ 0) (some (ff (ak uJ (ae 0) (ae 1)))) (ae 0) (T.map λr=>tI r.1) [none,some (.sh (tI (List.replicate sizes.length 0)))]=M.ok ((nz sizes.length T).map tI):=by
   have:=Fw (t:=ff (ak uJ (ae 0) (ae 1))) (f:=ae 0) (inj:=λr:Row=>tI r.1) (h:=λr:Row=>tI r.1) (b:=λr=>!decide (r.1=List.replicate sizes.length 0)) (rest:=[some (.sh (tI (List.replicate sizes.length 0)))]) (x0:=none) T (λr _=>by dsimp? [um]) (λr _=>by dsimp? [])
   rw[this,nz,List.map_map];rfl
  unfold jE kQ
  dsimp? [kO (Ls:=Ls) Q.S.h6,bK,Dw,Q.DV,xm (m := "rows") rfl,DU (T:=T) (by omega),List.length_map,av (aO (show T.length<=1000 by omega)),key,Q'.xM (f:=tI) (p:=tI sizes) (.inl rfl) rfl]
 ·rw[Q'.eL];exact(List.map_congr_left λl hl=>pX (kp l hl).KC).trans (List.map_id _)
abbrev GT(sizes:List Int)(T:List Row)(v:bS):Prop:=G sizes.length (vf sizes) (DD T) sizes.length 0 v
structure MO (ns sizes:List Int) (Ls:List (List Int)) (T:List Row) (idle:List (List Int)) (NH:List (List Int)) (T':List Row) (Ny:List (List Int)):Prop where
 Q:(∃ N7,gu ns sizes N7 NH T' Ny)/\NH.length<=sizes.length
 cw:∃ O2 OL T1 OC,gu ns sizes O2 OL T1 OC/\NH=nz sizes.length T1/\∀ v,GT sizes T1 v ↔ GT sizes T' v
 ev:e_ [dw sizes Ls]=M.ok (dw sizes NH)
 c2:aJ NH.length (λj=>II Ny j j)=aJ sizes.length (aY (vf sizes) (DD T))
 c3:aJ sizes.length (aY (vf sizes) (DD T'))=aJ Ls.length λj=>II idle j j
 dead:∀ l,l<NH.length->∀ b,b<sizes.length->R sizes∣dQ sizes.length (vf sizes) (R sizes) (AA NH l) (DD T b)
 all:∀ u:bS,(∀ b,b<sizes.length->R sizes∣dQ sizes.length (vf sizes) (R sizes) u (DD T b))->G sizes.length (vf sizes) (DD T') sizes.length 0 u
theorem zu(Q:gu ns sizes raw Ls T idle):∃ NH T' Ny,MO ns sizes Ls T idle NH T' Ny:=by
 have S:=Q.S
 have l6:=S.h6
 have g:=Q.st.gd
 have hq:=qe S
 have hQ:=p5 S
 obtain⟨Wf,hW⟩:=nP Q
 have kp:∀ l∈(List.range sizes.length).map Wf,Kp sizes l:=λl hl=>by
  obtain⟨d,hd,rfl⟩:=List.mem_map.mp hl
  exact⟨(hW d (List.mem_range.mp hd)).2.len,(hW d (List.mem_range.mp hd)).2.kd⟩
 obtain⟨OL,T1,OC,Q1⟩:=gu.get ns S (raw:=(List.range sizes.length).map Wf) (by simp;omega) λl hl=>⟨(kp l hl).1,(kp l hl).bd S⟩
 have eL:OL=(List.range sizes.length).map Wf:=by rw[Q1.eL];exact(List.map_congr_left λl hl=>pX (kp l hl).KC).trans (List.map_id _)
 have L1:OL.length=sizes.length:=by rw[eL];simp
 have eA:∀ d,d<sizes.length->AA OL d=vf (Wf d):=λd hd=>by
  unfold AA;rw[eL,List.getD_eq_getElem?_getD,List.getElem?_map,List.getElem?_range hd];rfl
 have wk:∀ d,d<sizes.length->Wk sizes.length (vf sizes) (DD T) (R sizes) d 0 (AA OL d):=λd hd=>by rw[eA d hd];exact(hW d hd).2.wk
 have I1:=Q1.I
 have o1:=Q1.ord
 have p1:=Q1.pr
 have s1:=Q1.st
 rw[L1] at I1 o1 p1 s1
 have sp:=Ex g hQ hq wk (J:=II OC) I1.pos I1.zero I1.o5 o1
 obtain⟨NH,T',Ny,ec,Q',Qo⟩:=vG Q1
 have g1:=s1.gd
 have g':=Q'.st.gd
 have t1:=s1.wf.len
 have a1:∀ l,l<NH.length->∃ d,d<sizes.length/\AA NH l=DD T1 d:=λl hl=>by
  obtain⟨d,hd,e⟩:=xu (T:=T1) (n:=sizes.length) (l:=NH[l]) (by rw[← Qo];exact List.getElem_mem _)
  refine⟨d,by omega,?_⟩
  unfold AA DD
  rw[List.getD_eq_getElem?_getD,List.getElem?_eq_getElem hl,Option.getD_some,e]
 have i1:∀ d,d<sizes.length->G sizes.length (vf sizes) (DD T1) sizes.length 0 (DD T' d):=λd hd=>xj g1 (λl hl=>by
  obtain⟨e,he,ea⟩:=a1 l hl
  rw[ea];exact g1.row he (by omega) (Nat.zero_le _)) (Q'.st.led d hd)
 have i2:∀ d,d<sizes.length->G sizes.length (vf sizes) (DD T') sizes.length 0 (DD T1 d):=λd hd=>by
  by_cases z:(row T1 d).1=List.replicate sizes.length 0
  ·exact G.ext (by omega) (λi hi=>by show 0=vf (row T1 d).1 i;rw[z,ir]) (G.zero (by omega))
  ·obtain⟨k,hk,e⟩:=mh (Ls:=NH) (l:=(row T1 d).1) (by rw[Qo];exact Bz (by omega) z)
   show G sizes.length (vf sizes) (DD T') sizes.length 0 (vf (row T1 d).1)
   rw[← e];exact Q'.st.cl k (by omega)
 have se:=AS g1 g' i1 i2
 have pe:aJ sizes.length (λj=>II OC j j)=aJ sizes.length (aY (vf sizes) (DD T)):=c8 sp
 have pa:0<aJ sizes.length (aY (vf sizes) (DD T)):=fq λl hl=>(g.pos hl).1
 have c3:aJ sizes.length (aY (vf sizes) (DD T'))=aJ Ls.length λj=>II idle j j:=by
  rw[← c8 se]
  exact cancel pa (by rw[← pe];exact p1) Q.pr
 have pb:0<aJ Ls.length (λj=>II idle j j):=fq λl hl=>Q.I.pos l hl
 refine⟨NH,T',Ny,⟨⟨_,Q'⟩,by rw[Qo,← t1];unfold nz;rw[List.length_map];exact List.length_filter_le _ _⟩,⟨_,_,T1,_,Q1,Qo,λv=>⟨qr g' i2 sizes.length 0 v (by omega),qr g1 i1 sizes.length 0 v (by omega)⟩⟩,?_,?_,c3,λl hl b hb=>?_,λu hu=>?_⟩
 ·have key:bI (bQ 0) none (bh ay "weights_at" bJ (ae 1) (aa (ae 0) aj)) ((List.range sizes.length).map λ(i:Nat)=>.int (i:Int)) [none,some (.sh (kM sizes Ls T idle))]=M.ok (((List.range sizes.length).map Wf).map tI):=by
   rw[List.map_map]
   refine dZ (inj:=λ(i:Nat)=>PV.int (i:Int)) (List.range sizes.length) λi hi=>?_
   dsimp? [bK,xm (m := "weights_at") rfl,(hW i (List.mem_range.mp hi)).1]
   rfl
  unfold e_ kK
  dsimp? [Q.DV,bK,Dw,jv (n:=(sizes.length:Int)) (by omega) (by omega),Int.toNat_natCast,List.length_map,List.length_range,av (aO (show sizes.length<=1000 by omega)),key,Q1.xM (f:=tI) (p:=tI sizes) (.inl rfl) rfl,ec]
 ·have:=Q'.pr
  rw[c3] at this
  exact(cancel pb Q.pr this).symm
 ·obtain⟨d,hd,e⟩:=a1 l hl
  rw[e]
  exact Dc hq wk (t:=PP T1 d) (s1.led d hd) hb
 ·obtain⟨t,_,ht⟩:=lK g hQ hq wk sizes.length (Nat.le_refl _) u (λi h1 h2=>by omega) hu
  exact xj g' (λd hd=>qr g' i2 sizes.length 0 _ (by omega) (s1.cl d (by omega))) ht
theorem gu.kp(Q:gu ns sizes raw Ls T idle):∀ l∈Ls,Kp sizes l:=λl hl=>by
 obtain⟨k,hk,e⟩:=mh hl
 have a:=Q.LL.at_ k hk
 have b:=Q.LL.kd k hk
 rw[e] at b
 obtain⟨k',Qt,e'⟩:=List.mem_iff_getElem.mp hl
 have c:=Q.LL.at_ k' Qt
 rw[List.getD_eq_getElem?_getD,List.getElem?_eq_getElem Qt,Option.getD_some,e'] at c
 exact⟨c,b⟩
end
variable{H:bS->Prop}{q:PV}{L X Y:List (List Int)}
section
variable{N7 rX:List (List Int)}{TL TX:List Row}{iL iX:List (List Int)}{r s:PV}{K:bS->Prop}
structure Pn (sizes:List Int) (Ls:List (List Int)) (T:List Row) (idle:List (List Int)):Prop where
 S:Sz sizes
 gd:Good sizes.length (vf sizes) (DD T)
 ld:∀ d,d<sizes.length->∃ P,Led sizes.length (vf sizes) Ls.length (AA Ls) (DD T d) P
 cl:∀ l,l<Ls.length->GT sizes T (AA Ls l)
 I:yw sizes.length Ls.length (vf sizes) (AA Ls) Ls.length idle
 pr:aJ Ls.length (λj=>II idle j j)*aJ sizes.length (aY (vf sizes) (DD T))=aJ sizes.length (vf sizes)
 ord:∀ j,j<Ls.length->∀ P:bS,Zf (j+1) Ls.length P->Led sizes.length (vf sizes) Ls.length (AA Ls) (λ_=>0) P->II idle j j∣P j
theorem gu.pn(Q:gu ns sizes raw Ls T idle):Pn sizes Ls T idle:=⟨Q.S,Q.st.gd,λd hd=>⟨_,Q.st.led d hd⟩,λl hl=>Q.st.cl l (by omega),Q.I,Q.pr,Q.ord⟩
theorem Pn.uq(Q:Pn sizes Ls T idle)(h:l<Ls.length):GT sizes T (AA Ls l):=Q.cl l h
theorem Pn.kept(S:Sz sizes)(h:∀ l∈L,Kp sizes l):∃ T idle,Pn sizes L T idle:=by
 have LL:Jl sizes.length L.length sizes L:=by
  have g:∀ l,l<L.length->Kp sizes (L.getD l []):=λl hl=>h _ (getD_mem hl)
  exact⟨rfl,λl hl=>(g l hl).1,λl hl=>(g l hl).2⟩
 have K:=Aw.all (c:=cf) rfl (lF S) LL yG S.h6 L.length (Nat.le_refl _)
 exact⟨_,_,S,K.st.gd,λd hd=>⟨_,K.st.led d hd⟩,λl hl=>K.st.cl l hl,K.o5,K.pr,K.ord⟩
theorem Pn.led(Q:Pn sizes Ls T idle)(h:GT sizes T v):∃ P,Led sizes.length (vf sizes) Ls.length (AA Ls) v P:=by
 have key:∀ k d (v:bS),d+k=sizes.length->G sizes.length (vf sizes) (DD T) k d v->∃ P,Led sizes.length (vf sizes) Ls.length (AA Ls) v P:=by
  intro k
  induction k with
  | zero=>intro d v _ h;exact⟨λ_=>0,λi hi=>by rw[bb (g:=λ_=>0) λl _=>by simp,c9];simpa using h i hi⟩
  | succ k ih =>
   intro d v hn h
   obtain⟨P,hP⟩:=ih (d+1) _ (by omega) h.2
   obtain⟨P',hP'⟩:=Q.ld d (by omega)
   exact⟨_,Led.mix (a:=1) (b:=v d/aY (vf sizes) (DD T) d) hP hP' (λi hi=>⟨0,by omega⟩) λl _=>rfl⟩
 exact key _ 0 v (by omega) h
theorem Pn.mO(Q:Pn sizes Ls T idle)(g':Good sizes.length (vf sizes) (DD T'))(h:∀ l,l<Ls.length->GT sizes T' (AA Ls l))(hv:GT sizes T v):GT sizes T' v:=by
 obtain⟨P,hP⟩:=Q.led hv
 exact xj g' h hP
theorem gu.led(Q:gu ns sizes raw Ls T idle){v:bS}(h:GT sizes T v):∃ P,Led sizes.length (vf sizes) Ls.length (AA Ls) v P:=Q.pn.led h
theorem gu.mO(Q:gu ns sizes raw Ls T idle)(g':Good sizes.length (vf sizes) (DD T'))(h:∀ l,l<Ls.length->GT sizes T' (AA Ls l)){v:bS}(hv:GT sizes T v):GT sizes T' v:=Q.pn.mO g' h hv
theorem gu.uq(Q:gu ns sizes raw Ls T idle)(h:l<Ls.length):GT sizes T (AA Ls l):=Q.st.cl l (by omega)
theorem gu.kept(ns:List Int)(S:Sz sizes)(h8:L.length<=8)(h:∀ l∈L,Kp sizes l):∃ T idle,gu ns sizes L L T idle:=by
 obtain⟨Ls,T,idle,Q⟩:=gu.get ns S h8 λl hl=>⟨(h l hl).1,(h l hl).bd S⟩
 have e:Ls=L:=by rw[Q.eL];exact(List.map_congr_left λl hl=>pX (h l hl).KC).trans (List.map_id _)
 subst e
 exact⟨T,idle,Q⟩
theorem yb(Q:gu ns sizes raw Ls T idle):∃ N7 NH T' Ny,jE [dw sizes Ls]=M.ok (dw sizes NH)/\gu ns sizes N7 NH T' Ny/\NH.length<=sizes.length/\∀ v,GT sizes T' v ↔ GT sizes T v:=by
 obtain⟨NH,T',Ny,ec,Q',Qo⟩:=vG Q
 have t1:=Q.st.wf.len
 have g1:=Q.st.gd
 have g':=Q'.st.gd
 refine⟨_,NH,T',Ny,ec,Q',by rw[Qo,← t1];unfold nz;rw[List.length_map];exact List.length_filter_le _ _,λv=>⟨Q'.mO g1 λl hl=>?_,qr g' (λd hd=>?_) sizes.length 0 v (by omega)⟩⟩
 ·obtain⟨d,hd,e⟩:=xu (T:=T) (n:=sizes.length) (l:=NH[l]) (by rw[← Qo];exact List.getElem_mem _)
  have ea:AA NH l=DD T d:=by
   unfold AA DD
   rw[List.getD_eq_getElem?_getD,List.getElem?_eq_getElem hl,Option.getD_some,e]
  rw[ea];exact g1.row (by omega) (by omega) (Nat.zero_le _)
 ·by_cases z:(row T d).1=List.replicate sizes.length 0
  ·exact G.ext (by omega) (λi hi=>by show 0=vf (row T d).1 i;rw[z,ir]) (G.zero (by omega))
  ·obtain⟨k,hk,e⟩:=mh (Ls:=NH) (l:=(row T d).1) (by rw[Qo];exact Bz (by omega) z)
   show G sizes.length (vf sizes) (DD T') sizes.length 0 (vf (row T d).1)
   rw[← e];exact Q'.uq hk
theorem sep(Q:gu ns sizes raw Ls T idle)(h:∀ u:bS,(∀ b,b<sizes.length->R sizes∣dQ sizes.length (vf sizes) (R sizes) u (DD T b))->R sizes∣dQ sizes.length (vf sizes) (R sizes) u v):GT sizes T v:=by
 have S:=Q.S
 have hq:=qe S
 obtain⟨xs,kx,dv⟩:∃ xs,Kp sizes xs/\∀ i,i<sizes.length->vf sizes i∣vf xs i-v i:=by
  have e:∀ i,i<sizes.length->vf ((List.range sizes.length).map λi=>v i%vf sizes i) i=v i%vf sizes i:=λi hi=>by
   rw[aQ (by simpa using hi)];simp
  refine⟨(List.range sizes.length).map λi=>v i%vf sizes i,⟨by simp,λi hi=>?_⟩,λi hi=>?_⟩
  ·rw[e i hi];have:=lF S i hi;exact⟨Int.emod_nonneg _ (by omega),Int.emod_lt_of_pos _ (by omega)⟩
  ·rw[e i hi];exact cG _ _
 suffices gx:GT sizes T (vf xs) from Q.st.gd.lj (by omega) (λi hi=>by
  obtain⟨x,hx⟩:=dv i hi
  exact⟨-x,by rw[Int.mul_neg,← hx];omega⟩) gx
 apply Classical.byContradiction
 intro ng
 obtain⟨b1,b2,b3,b4⟩:=sF Q.st kx.1 kx.2
 have z:¬ lst sizes Ls T xs=List.replicate sizes.length 0:=λe=>ng ((o6 Q kx).mp e)
 have ex:∃ c,c<sizes.length/\(∀ i,i<c->vf (lst sizes Ls T xs) i=0)/\vf (lst sizes Ls T xs) c≠0:=by
  have:¬ ∀ c,c<=sizes.length->∀ i,i<c->vf (lst sizes Ls T xs) i=0:=λh=>z (xU (by simpa using b1) λi hi=>by rw[ir];exact h sizes.length (Nat.le_refl _) i (by omega))
  apply Classical.byContradiction
  intro no
  refine this λc=>?_
  induction c with
  | zero=>intro _ i hi;omega
  | succ c ih =>
   intro hc i hi
   rcases Nat.lt_or_eq_of_le (Nat.le_of_lt_succ hi) with q | q
   ·exact ih (by omega) i q
   ·subst q
    apply Classical.byContradiction
    intro nz
    exact no ⟨i,by omega,ih (by omega),nz⟩
 obtain⟨c,hc,c0,c1⟩:=ex
 obtain⟨Wf,hW⟩:=nP Q
 have w:=(hW c hc).2
 have r:=b3 c hc
 refine Wk.first Q.st.gd (p5 S) hq hc w.wk c0 (by omega) (b2 c hc).2 ?_
 have k1:=h (vf (Wf c)) λb hb=>w.wk.kill b (Nat.zero_le _) hb
 have k2:=vy (w:=vf (Wf c)) hq sizes.length 0 _ (by omega) (λb _ hb=>w.wk.kill b (Nat.zero_le _) hb) b4
 rw[cP] at k1 k2 ⊢
 exact jM hq (a:=1) (b:=-1) (λi hi=>by
  obtain⟨x,hx⟩:=dv i hi
  exact⟨x,by rw[← hx];omega⟩) k1 k2
def Vr(ns sizes:List Int)(p:PV)(H:bS->Prop):Prop:=∃ raw Ls T idle,p=dw sizes Ls/\gu ns sizes raw Ls T idle/\∀ v,H v ↔ GT sizes T v
def An(sizes:List Int)(H:bS->Prop)(u:bS):Prop:=∀ v,H v->R sizes∣dQ sizes.length (vf sizes) (R sizes) u v
theorem kA(h:Vr ns sizes p H):∃ r,e_ [p]=M.ok r/\Vr ns sizes r (An sizes H)/\∃ O2 OL T1 OC,gu ns sizes O2 OL T1 OC/\r=dw sizes (nz sizes.length T1)/\∀ v,An sizes H v ↔ GT sizes T1 v:=by
 obtain⟨raw,Ls,T,idle,rfl,Q,hH⟩:=h
 obtain⟨NH,T',Ny,E⟩:=zu Q
 obtain⟨⟨N7,Q'⟩,ln⟩:=E.Q
 obtain⟨O2,OL,T1,i1,Q1,e1,c1⟩:=E.cw
 have hq:=qe Q.S
 have key:∀ u,An sizes H u ↔ GT sizes T' u:=λu=>⟨λh=>E.all u λb hb=>h _ ((hH _).mpr (Q.st.gd.row hb (by omega) (Nat.zero_le _))),λh v hv=>by
  obtain⟨P,hP⟩:=Q'.led h
  rw[cP]
  refine o3 hq (λl hl=>?_) hP
  rw[cP]
  exact vy hq sizes.length 0 v (by omega) (λb _ hb=>E.dead l hl b hb) ((hH v).mp hv)⟩
 exact⟨_,E.ev,⟨N7,NH,T',Ny,rfl,Q',key⟩,O2,OL,T1,i1,Q1,by rw[e1],λv=>(key v).trans (c1 v).symm⟩
theorem Vr.an(h:Vr ns sizes p H)(k:∀ u,An sizes H u->R sizes∣dQ sizes.length (vf sizes) (R sizes) u v):H v:=by
 obtain⟨raw,Ls,T,idle,rfl,Q,hH⟩:=h
 exact(hH v).mpr (sep Q λu hu=>k u λw hw=>vy (qe Q.S) sizes.length 0 w (by omega) (λb _ hb=>hu b hb) ((hH w).mp hw))
theorem Vr.ext(h:Vr ns sizes p H)(e:∀ v,H v ↔ K v):Vr ns sizes p K:=by
 obtain⟨raw,Ls,T,idle,rfl,Q,hH⟩:=h
 exact⟨raw,Ls,T,idle,rfl,Q,λv=>(e v).symm.trans (hH v)⟩
end
theorem Dq(xs ys:List (List Int))(f:List Int->PV)(h:xs.length+ys.length<=1000):dM (.lst (xs.map f)) (.lst (ys.map f))=M.ok (.lst ((xs++ys).map f)):=by
 rw[dM,av (aO (by simpa using h)),List.map_append]
theorem Bb(xs ys:List (List Int))(f:List Int->PV)(h:xs.length+ys.length<=1000):dM (.tup (xs.map f)) (.tup (ys.map f))=M.ok (.tup ((xs++ys).map f)):=by
 rw[dM,av (aO (by simpa using h)),List.map_append]
theorem fY(h:l<X.length):AA (X++Y) l=AA X l:=by
 unfold AA;rw[List.getD_eq_getElem?_getD,List.getD_eq_getElem?_getD,List.getElem?_append_left h]
theorem gg:AA (X++Y) (X.length+l)=AA Y l:=by
 unfold AA;rw[List.getD_eq_getElem?_getD,List.getD_eq_getElem?_getD,List.getElem?_append_right (by omega),Nat.add_sub_cancel_left]
theorem jq(f:Nat->Int)(a:Nat):∀ b,aT (a+b) f=aT a f+aT b λl=>f (a+l)
 | 0=>by simp[aT]
 | b+1=>by rw[← Nat.add_assoc,aT,jq f a b,aT];omega
section
variable{N7 rX:List (List Int)}{TL TX:List Row}{iL iX:List (List Int)}{r s:PV}{K:bS->Prop}
def Sm(sizes:List Int)(H K:bS->Prop)(v:bS):Prop:=∃ a b:bS,H a/\K b/\∀ i,i<sizes.length->vf sizes i∣v i-(a i+b i)
theorem wy(QL:Pn sizes L TL iL)(hL:∀ l∈L,Kp sizes l):∃ raw Ls T idle,ia [tI sizes,.tup (L.map tI)]=M.ok (dw sizes Ls)/\gu ns sizes raw Ls T idle/\∀ v,GT sizes T v ↔ GT sizes TL v:=by
 suffices h:jx (ia [tI sizes,.tup (L.map tI)]) λp=>∃ raw Ls T idle,p=dw sizes Ls/\gu ns sizes raw Ls T idle/\∀ v,GT sizes T v ↔ GT sizes TL v by
  obtain⟨_,e,raw,Ls,T,idle,rfl,h⟩:=h
  exact⟨raw,Ls,T,idle,e,h⟩
 have S:=QL.S
 obtain⟨T0,i0,Q0⟩:=gu.kept ns S (L:=[]) (by simp) (by simp)
 unfold ia jU
 dsimp? [show bY ao bp [.cy] [tI sizes,.lst []]=M.ok (dw sizes []) from Q0.xM (f:=tI) (p:=tI sizes) (.inl rfl) rfl]
 refine jx.loop (xs:=L) (inj:=tI) (λzs env=>∃ (y3:Option SV) (raw LC:List (List Int)) (TC:List Row) (iC:List (List Int)) (c:Nat),env=[some (.sh (tI sizes)),some (.sh (.tup (L.map tI))),some (.sh (dw sizes LC)),y3]/\gu ns sizes raw LC TC iC/\LC.length<=6/\zs=L.drop c/\(∀ j,j<c->j<L.length->GT sizes TC (AA L j))/\∀ v,GT sizes TC v->GT sizes TL v) ⟨_,_,_,_,_,0,rfl,Q0,by simp,rfl,λj hj=>by omega,λv hv=>Q0.mO QL.gd (λl hl=>by simp at hl) hv⟩ ?_ ?_
 ·rintro l r env ⟨y3,raw,LC,TC,iC,c,rfl,QC,l3,hz,hd,hi⟩
  obtain⟨c1,c2,c3⟩:=drop_cons hz.symm
  rw[List.getElem?_eq_getElem c1] at c2
  have el:L[c]=l:=Option.some.inj c2
  have ea:AA L c=vf l:=by unfold AA;rw[List.getD_eq_getElem?_getD,List.getElem?_eq_getElem c1,Option.getD_some,el]
  have kl:Kp sizes l:=hL l (by rw[← el];exact List.getElem_mem _)
  obtain⟨T1,i1,Q1⟩:=gu.kept ns S (L:=LC++[l]) (by simp;omega) λx hx=>by
   rcases List.mem_append.mp hx with h | h
   ·exact QC.kp x h
   ·rw[List.mem_singleton.mp h];exact kl
  obtain⟨N7,LC',TC',iC',ec,QC',ln,eq⟩:=yb Q1
  have al:AA (LC++[l]) LC.length=vf l:=by
   have:=gg (X:=LC) (Y:=[l]) (l:=0)
   rw[Nat.add_zero] at this
   rw[this];rfl
  have big:∀ v,GT sizes TC v->GT sizes TC' v:=λv hv=>(eq v).mpr (QC.mO Q1.st.gd (λj hj=>by
   rw[← fY (Y:=[l]) hj];exact Q1.uq (by simp;omega)) hv)
  dsimp? [bQ,bK,Jj,show dM (.lst (LC.map tI)) (.lst [tI l])=M.ok (.lst ((LC++[l]).map tI)) from Dq LC [l] tI (by simp;omega),Q1.xM (f:=tI) (p:=tI sizes) (.inl rfl) rfl,ec]
  refine⟨_,rfl,_,N7,LC',TC',iC',c+1,rfl,QC',by have:=S.h6;omega,c3.symm,λj h1 h2=>?_,λv hv=>Q1.mO QL.gd (λj hj=>?_) ((eq v).mp hv)⟩
  ·rcases Nat.lt_or_eq_of_le (Nat.le_of_lt_succ h1) with h | h
   ·exact big _ (hd j h h2)
   ·subst h
    rw[ea,← al];exact(eq _).mpr (Q1.uq (by simp))
  ·rcases Nat.lt_or_ge j LC.length with h | h
   ·rw[fY h];exact hi _ (QC.uq h)
   ·obtain rfl:j=LC.length:=by simp at hj;omega
    rw[al,← ea];exact QL.uq c1
 ·rintro env ⟨y3,raw,LC,TC,iC,c,rfl,QC,l3,hz,hd,hi⟩
  have hc:L.length<=c:=List.drop_eq_nil_iff.mp hz.symm
  dsimp? []
  exact⟨_,rfl,raw,LC,TC,iC,rfl,QC,λv=>⟨hi v,QL.mO QC.st.gd λj hj=>hd j (by omega) hj⟩⟩
theorem mU:cu [tI sizes,tI sizes]=M.ok .cy:=by
 unfold cu cp
 dsimp? [um,decide_true]
theorem GA(h:Vr ns sizes p H)(k:Vr ns sizes q K):∃ r,jO [p,q]=M.ok r/\Vr ns sizes r (Sm sizes H K):=by
 obtain⟨O2,OL,T1,i1,rfl,Q1,h1⟩:=h
 obtain⟨raw2,Qw,T2,i2,rfl,Q2,h2⟩:=k
 have S:=Q1.S
 have m1:=Q1.m8
 have m2:=Q2.m8
 have kk:∀ x∈OL++Qw,Kp sizes x:=λx hx=>by
  rcases List.mem_append.mp hx with h | h
  ·exact Q1.kp x h
  ·exact Q2.kp x h
 obtain⟨TL,iL,QL⟩:=Pn.kept S kk
 obtain⟨raw,Ls,T,idle,ec,Q,eq⟩:=wy (ns:=ns) QL kk
 refine⟨dw sizes Ls,?_,raw,Ls,T,idle,rfl,Q,λv=>?_⟩
 ·unfold jO jH
  dsimp? [bK,Dw,Jj,mU,Bb OL Qw tI (by omega),ec]
 rw[eq v]
 constructor
 ·rintro⟨a,b,ha,hb,e⟩
  refine QL.gd.lj (by omega) e (G.add (by omega) (Q1.mO QL.gd (λl hl=>?_) ((h1 a).mp ha)) (Q2.mO QL.gd (λl hl=>?_) ((h2 b).mp hb)))
  ·rw[← fY (Y:=Qw) hl];exact QL.uq (by simp;omega)
  ·rw[← gg (X:=OL) (l:=l)];exact QL.uq (by simp;omega)
 ·intro g
  obtain⟨P,hP⟩:=QL.led g
  refine⟨λi=>aT OL.length λl=>P l*AA OL l i,λi=>aT Qw.length λl=>P (OL.length+l)*AA Qw l i,(h1 _).mpr (G.sum Q1.st.gd _ λl hl=>Q1.uq hl),(h2 _).mpr (G.sum (P:=λl=>P (OL.length+l)) Q2.st.gd _ λl hl=>Q2.uq hl),λi hi=>?_⟩
  have:=hP i hi
  rw[List.length_append,jq,bb (g:=λl=>P l*AA OL l i) λl hl=>by rw[fY hl],bb (m:=Qw.length) (g:=λl=>P (OL.length+l)*AA Qw l i) λl hl=>by rw[gg]] at this
  exact this
end
section
variable{N7 rX:List (List Int)}{TL TX:List Row}{iL iX:List (List Int)}{r s:PV}{K:bS->Prop}
theorem Vr.S(h:Vr ns sizes p H):Sz sizes:=by obtain⟨_,_,_,_,_,Q,_⟩:=h;exact Q.S
theorem Vr.zero(h:Vr ns sizes p H):H λ_=>0:=by
 obtain⟨raw,Ls,T,idle,rfl,Q,hH⟩:=h
 exact(hH _).mpr (G.zero (by omega))
theorem El(h:Vr ns sizes p H)(k:Vr ns sizes q K):∃ r,uz [p,q]=M.ok r/\Vr ns sizes r (λv=>H v/\K v)/\∃ O2 OL T1 OC,gu ns sizes O2 OL T1 OC/\r=dw sizes (nz sizes.length T1)/\∀ v,H v/\K v ↔ GT sizes T1 v:=by
 obtain⟨r1,e1,v1,_⟩:=kA h
 obtain⟨r2,e2,v2,_⟩:=kA k
 obtain⟨r3,e3,v3⟩:=GA v1 v2
 obtain⟨r4,e4,v4,O2,OL,T1,i1,Q1,er,c1⟩:=kA v3
 have hq:=qe h.S
 suffices key:∀ v,An sizes (Sm sizes (An sizes H) (An sizes K)) v ↔ H v/\K v from ⟨r4,by unfold uz tN;dsimp? [e1,e2,e3,e4],v4.ext key,O2,OL,T1,i1,Q1,er,λv=>(key v).symm.trans (c1 v)⟩
 refine λv=>⟨λh'=>⟨h.an λu hu=>?_,k.an λu hu=>?_⟩,?_⟩
 ·rw[cP];exact h' u ⟨u,_,hu,v2.zero,λi hi=>⟨0,by omega⟩⟩
 ·rw[cP];exact h' u ⟨_,u,v1.zero,hu,λi hi=>⟨0,by omega⟩⟩
 ·rintro⟨a,b⟩ u ⟨x,y,hx,hy,e⟩
  rw[cP]
  exact jM hq (a:=1) (b:=1) (λi hi=>by rw[Int.one_mul,Int.one_mul];exact e i hi) (hx v a) (hy v b)
end
theorem sj(f:Nat->Int)(a:Nat):∀ b,aJ (a+b) f=aJ a f*aJ b λl=>f (a+l)
 | 0=>by simp[aJ]
 | b+1=>by rw[← Nat.add_assoc,aJ,sj f a b,aJ,Int.mul_assoc]
theorem ya(ha:0<a)(hb:0<b)(h:∀ k,a∣k ↔ b∣k):a=b:=Int.dvd_antisymm (by omega) (by omega) ((h b).mpr (Int.dvd_refl b)) ((h a).mp (Int.dvd_refl a))
section
variable{N7 rX:List (List Int)}{TL TX:List Row}{iL iX:List (List Int)}{r s:PV}{K:bS->Prop}
theorem K6(Q:Pn sizes Ls T idle)(hj:j<Ls.length)(k:Int):II idle j j∣k ↔ ∃ P:bS,Zf (j+1) Ls.length P/\P j=k/\Led sizes.length (vf sizes) Ls.length (AA Ls) (λ_=>0) P:=by
 constructor
 ·rintro⟨c,rfl⟩
  refine⟨λl=>c*II idle j l,λl h1 h2=>by show c*II idle j l=0;rw[Q.I.zero j hj l (by omega) h2,Int.mul_zero],Int.mul_comm _ _,Led.mix (a:=c) (b:=0) (Q.I.o5 j hj) (Q.I.o5 j hj) (λi _=>⟨0,by simp⟩) λl _=>by simp⟩
 ·rintro⟨P,z,rfl,led⟩
  exact Q.ord j hj P z led
theorem Dm(Q:Pn sizes (X++Y) T idle)(QX:Pn sizes X TX iX)(hj:j<X.length):II idle j j=II iX j j:=by
 refine ya (Q.I.pos j (by simp;omega)) (QX.I.pos j hj) λk=>?_
 rw[K6 Q (by simp;omega) k,K6 QX hj k]
 have sx:∀ (P:bS) i,aT X.length (λl=>P l*AA (X++Y) l i)=aT X.length λl=>P l*AA X l i:=λP i=>bb λl hl=>by rw[fY hl]
 constructor
 ·rintro⟨P,z,e,led⟩
  refine⟨P,λl h1 h2=>z l h1 (by simp;omega),e,λi hi=>?_⟩
  have:=led i hi
  rwa [List.length_append,jq,sx,bb (m:=Y.length) (g:=λ_=>0) λl hl=>by rw[z (X.length+l) (by omega) (by simp;omega),Int.zero_mul],c9,Int.add_zero] at this
 ·rintro⟨P,z,e,led⟩
  refine⟨λl=>if l<X.length then P l else 0,λl h1 h2=>?_,by show (if j<X.length then P j else 0)=k;rw[if_pos hj,e],λi hi=>?_⟩
  ·show (if l<X.length then P l else 0)=0
   split
   ·rename_i h;exact z l h1 h
   ·rfl
  ·rw[List.length_append,jq,bb (m:=X.length) (g:=λl=>P l*AA X l i) λl hl=>by rw[fY hl];show (if l<X.length then P l else 0)*_=_;rw[if_pos hl],bb (m:=Y.length) (g:=λ_=>0) λl hl=>by show (if X.length+l<X.length then P (X.length+l) else 0)*_=0;rw[if_neg (by omega),Int.zero_mul],c9,Int.add_zero]
   exact led i hi
theorem Ac(Q:Pn sizes (X++Y) T idle)(QX:Pn sizes X TX iX)(hj:j<Y.length)(k:Int):II idle (X.length+j) (X.length+j)∣k ↔ ∃ P:bS,Zf (j+1) Y.length P/\P j=k/\GT sizes TX λi=>aT Y.length λl=>P l*AA Y l i:=by
 rw[K6 Q (by simp;omega) k]
 constructor
 ·rintro⟨P,z,e,led⟩
  refine⟨λl=>P (X.length+l),λl h1 h2=>z _ (by omega) (by simp;omega),e,?_⟩
  refine QX.gd.lj (by omega) (λi hi=>?_) (G.mul (-1) (by omega) (G.sum (P:=P) QX.gd X.length λl hl=>QX.uq hl))
  obtain⟨c,hc⟩:=led i hi
  rw[List.length_append,jq,bb (m:=X.length) (g:=λl=>P l*AA X l i) λl hl=>by rw[fY hl],bb (m:=Y.length) (g:=λl=>P (X.length+l)*AA Y l i) λl hl=>by rw[gg]] at hc
  replace hc:(0:Int)-(aT X.length (λl=>P l*AA X l i)+aT Y.length λl=>P (X.length+l)*AA Y l i)=vf sizes i*c:=hc
  exact⟨-c,by show aT Y.length (λl=>P (X.length+l)*AA Y l i) - -1*aT X.length (λl=>P l*AA X l i)=vf sizes i*-c;rw[Int.mul_neg,← hc];omega⟩
 ·rintro⟨P,z,e,g⟩
  obtain⟨S,hS⟩:=QX.led g
  refine⟨λl=>if l<X.length then -(S l) else P (l-X.length),λl h1 h2=>?_,?_,λi hi=>?_⟩
  ·show (if l<X.length then -(S l) else P (l-X.length))=0
   rw[if_neg (by omega)];exact z _ (by omega) (by simp at h2;omega)
  ·show (if X.length+j<X.length then -(S (X.length+j)) else P (X.length+j-X.length))=k
   rw[if_neg (by omega),Nat.add_sub_cancel_left,e]
  ·obtain⟨c,hc⟩:=hS i hi
   have e1:=dm (-1) 0 (λl=>S l*AA X l i) (λl=>S l*AA X l i) (λl=>(if l<X.length then -(S l) else P (l-X.length))*AA (X++Y) l i) X.length λl hl=>by rw[fY hl,if_pos hl,Int.neg_mul];omega
   rw[List.length_append,jq,e1,bb (m:=Y.length) (g:=λl=>P l*AA Y l i) λl hl=>by rw[gg];show (if X.length+l<X.length then _ else _)*_=_;rw[if_neg (by omega),Nat.add_sub_cancel_left]]
   exact⟨-c,by rw[Int.mul_neg,← hc];show 0-_=-(aT Y.length (λl=>P l*AA Y l i)-_);omega⟩
theorem BY(Q:Pn sizes Ls T idle)(Q':Pn sizes NH T' Ny)(h:∀ v,GT sizes T v ↔ GT sizes T' v):aJ Ls.length (λj=>II idle j j)=aJ NH.length λj=>II Ny j j:=by
 have g:=Q.gd
 have g':=Q'.gd
 have se:=AS g g' (λd hd=>(h _).mpr (g'.row hd (by omega) (Nat.zero_le _))) (λd hd=>(h _).mp (g.row hd (by omega) (Nat.zero_le _)))
 have p:=Q.pr
 rw[c8 se] at p
 exact cancel (a:=aJ sizes.length (aY (vf sizes) (DD T'))) (fq λl hl=>(g'.pos hl).1) (by rw[Int.mul_comm];exact p) Q'.pr
end
def dot(F xs:List Int):Int:=((F.zip xs).map λz=>z.1*z.2).sum
theorem yO{F:List Int}(h1:F.length=n)(h2:xs.length=n):dot F xs=aT n λi=>vf F i*vf xs i:=by
 unfold dot
 have hl:((F.zip xs).map λz=>z.1*z.2).length=n:=by simp[h1,h2]
 rw[u_,hl]
 refine bb λi hi=>?_
 rw[aQ (by rw[hl];exact hi),aQ (by omega),aQ (by omega)]
 simp
theorem Gj(F xs:List Int):wz [.lst ((F.zip xs).map λz=>PV.int (z.1*z.2))]=M.ok (.int (dot F xs)):=by
 have:=uN ((F.zip xs).map λz=>z.1*z.2)
 rw[List.map_map] at this
 exact this
theorem qi(f:α->Int)(xs:List α)(h:i<xs.length):vf (xs.map f) i=f xs[i]:=by
 rw[aQ (by rw[List.length_map];exact h),List.getElem_map]
theorem yz{F:List Int}{n:Int}(hp:cv p=some (F.map PV.int))(hq:cv q=some (xs.map PV.int))(hF:Bd 200 F)(hx:Bd 200 xs)(hl:xs.length<=100)(hn:0<n):de [p,q,.int n]=M.ok (.int (dot F xs%n)):=by
 have z1:(F.zip xs).length<=sizeLine:=by rw[List.length_zip];exact aO (Nat.le_trans (Nat.min_le_right _ _) (by omega))
 have k:bI (bA 0 1) none (ak b_ (ae 0) (ae 1)) ((F.zip xs).map λz=>.tup [.int z.1,.int z.2]) [none,none]=M.ok ((F.zip xs).map λz=>.int (z.1*z.2)):=by
  refine eO (p:=λz:Int×Int=>PV.int z.1) (q:=λz:Int×Int=>PV.int z.2) (F.zip xs) λz hz=>?_
  obtain⟨m1,m2⟩:=iQ hz
  dsimp? [bg (k:=200) (l:=200) (hF _ m1) (hx _ m2)]
 unfold de d_
 dsimp? [dF (p:=p) (q:=q) F xs hp hq,List.length_map,av z1,k,Gj,aS (i:=dot F xs) hn]
structure Gr (f r:List Int) (t:List (List Int)):Prop where
 Sf:Sz f
 Sr:Sz r
 len:t.length=f.length
 row:∀ l∈t,l.length=r.length
 bd:∀ l∈t,∀ x∈l,x.natAbs<2^20
 dv:∀ i,i<f.length->∀ j,j<r.length->vf r j∣vf f i*AA t i j
variable{t:List (List Int)}
variable{x:List Int}
section
variable{f:List Int}
theorem Gr.at_(g:Gr f r t)(h:i<f.length):t.getD i []∈t:=getD_mem (by rw[g.len];exact h)
def col(t:List (List Int))(j:Nat):List Int:=t.map λl=>vf l j
theorem Ha(g:Gr f r t)(h:i<f.length):vf (col t j) i=AA t i j:=by
 have h':i<t.length:=by rw[g.len];exact h
 rw[col,qi _ _ h']
 unfold AA
 rw[List.getD_eq_getElem?_getD,List.getElem?_eq_getElem h',Option.getD_some]
theorem Ic(g:Gr f r t)(hj:j<r.length):Bd 200 (col t j):=λx hx=>by
 obtain⟨l,hl,rfl⟩:=List.mem_map.mp hx
 have:=g.bd l hl (vf l j) (by rw[aQ (by rw[g.row l hl];exact hj)];exact List.getElem_mem _)
 exact Nat.lt_of_lt_of_le this (by decide)
theorem HV(g:Gr f r t){k:List Int->PV}(hk:k=tI\/k=lI)(hp:cv p=some (t.map k))(hj:j<r.length):kj [p,.int (j:Int)]=M.ok (.lst ((col t j).map PV.int)):=by
 have l6:=g.Sf.h6
 have tl:=g.len
 have key:bI (bQ 0) none (ak aP (ae 0) (ae 1)) (t.map k) [none,some (.sh (.int (j:Int)))]=M.ok ((col t j).map PV.int):=by
  rw[col,List.map_map]
  refine dZ (inj:=k) t λl hl=>?_
  have h:=g.row l hl
  have:aP (k l) (.int (j:Int))=M.ok (.int (vf l j)):=bD (p:=k l) (Gb hk l) (by rw[List.getElem?_map,aQ (by omega),List.getElem?_eq_getElem (by omega)];rfl)
  dsimp? [this]
  rfl
 have zl:t.length<=sizeLine:=aO (by omega)
 unfold kj l8
 dsimp? [hp,List.length_map,av zl,key]
def lC(r:List Int)(t:List (List Int))(x:List Int):List Int:=r.zipIdx.map λa=>dot x (col t a.2)%a.1
def ph(n:Nat)(t:List (List Int))(x:bS):bS:=λj=>aT n λi=>x i*AA t i j
theorem E4(x:List Int):(lC r t x).length=r.length:=by simp[lC]
theorem tQ(g:Gr f r t)(hx:x.length=f.length)(hj:j<r.length):vf (lC r t x) j=ph f.length t (vf x) j%vf r j:=by
 rw[lC,qi _ _ (by rw[List.length_zipIdx];exact hj),List.getElem_zipIdx,aQ hj]
 show dot x (col t (0+j))%r[j]=_
 rw[Nat.zero_add,yO hx (by rw[col,List.length_map,g.len])]
 congr 1
 exact bb λi hi=>by rw[Ha g hi]
theorem De(g:Gr f r t)(hx:x.length=f.length):Kp r (lC r t x):=⟨E4 x,λj hj=>by
 rw[tQ g hx hj]
 have:=lF g.Sr j hj
 exact⟨Int.emod_nonneg _ (by omega),Int.emod_lt_of_pos _ (by omega)⟩⟩
theorem HB(a b:Int){x y z:bS}(h:∀ i,i<f.length->z i=a*x i+b*y i)(j:Nat):ph f.length t z j=a*ph f.length t x j+b*ph f.length t y j :=
 dm a b (λi=>x i*AA t i j) (λi=>y i*AA t i j) _ f.length λi hi=>by rw[h i hi,Int.add_mul,Int.mul_assoc,Int.mul_assoc]
theorem AQ{P:bS}{A:Nat->bS}(j:Nat):∀ m,ph f.length t (λi=>aT m λl=>P l*A l i) j=aT m λl=>P l*ph f.length t (A l) j
 | 0=>by
  show (aT f.length λi=>0*AA t i j)=0
  exact(bb (g:=λ_=>0) λi _=>by rw[Int.zero_mul]).trans (c9 _)
 | m+1=>by
  rw[aT,← AQ j m]
  have:=HB (f:=f) (t:=t) 1 (P m) (x:=λi=>aT m λl=>P l*A l i) (y:=A m) (z:=λi=>aT (m+1) λl=>P l*A l i) (λi _=>by rw[aT,Int.one_mul]) j
  rw[this,Int.one_mul]
def gF(f r:List Int)(t:List (List Int)):List (Str×PV):=[("front_dials", dw f []),("rear_dials", dw r []),("tooth_rows", .tup (t.map tI))]
def gO(f r:List Int)(t:List (List Int)):PV:=.obj bB (gF f r t)
theorem gf:vD (λc=>c==bB) "front_dials" (gO f r t)=M.ok (dw f []):=jB (beq_self_eq_true _) rfl
theorem gr:vD (λc=>c==bB) "rear_dials" (gO f r t)=M.ok (dw r []):=jB (beq_self_eq_true _) rfl
theorem gt:vD (λc=>c==bB) "tooth_rows" (gO f r t)=M.ok (.tup (t.map tI)):=jB (beq_self_eq_true _) rfl
theorem Fo(g:Gr f r t)(hx:Kp f x):eg [gO f r t,tI x]=M.ok (tI (lC r t x)):=by
 have key:bI (bA 0 1) none (ai de (aa (ae 2) (aa (ai kj (aa (ae 3) (aa (ae 0) aj))) (aa (ae 1) aj)))) (r.zipIdx.map λa=>.tup [.int (a.2:Int),.int a.1]) [none,none,some (.sh (tI x)),some (.sh (.tup (t.map tI)))]=M.ok ((lC r t x).map PV.int):=by
  rw[lC,List.map_map]
  refine eO (p:=λa:Int×Nat=>PV.int (a.2:Int)) (q:=λa=>PV.int a.1) r.zipIdx λa ha=>?_
  have h2:=List.snd_lt_of_mem_zipIdx ha
  have h3:=g.Sr.hx _ (List.fst_mem_of_mem_zipIdx ha)
  have l6:=g.Sf.h6
  dsimp? [HV g (p:=.tup (t.map tI)) (k:=tI) (.inl rfl) rfl (show a.2<r.length by omega),yz (p:=tI x) (q:=.lst ((col t a.2).map PV.int)) (n:=a.1) rfl rfl (hx.bd g.Sf) (Ic g (show a.2<r.length by omega)) (by rw[col,List.length_map,g.len];omega) (by omega)]
  rfl
 have zi:r.zipIdx.length<=sizeLine:=by rw[List.length_zipIdx];exact aO (by have:=g.Sr.h6;omega)
 have rs:iZ [tI x,.tup (t.map tI),tI r]=M.ok (tI (lC r t x)):=by
  unfold iZ iJ
  dsimp? [HN,List.length_map,av zi,key]
  rfl
 unfold eg jN
 dsimp? [e7,gf,gr,gt,o4 (levers:=[]) g.Sf hx.KC,bK,Dw,rs]
theorem MP(p:PV):pC bB "led" eg (gO f r t) (M.ok [p])=eg [gO f r t,p]:=(jr (fl:=gF f r t) rfl).trans rfl
theorem Df(g:Gr f r t)(hi:i<f.length):e9 [lI (t.getD i []),.int (vf f i),lI r]=M.ok (.bl true):=by
 have l6:=g.Sr.h6
 obtain⟨l,hl⟩:∃ l,l=t.getD i []:=⟨_,rfl⟩
 have ml:l∈t:=by rw[hl];exact g.at_ hi
 have rl:=g.row l ml
 have fi:=lF g.Sf i hi
 have key:bI (bA 0 1) none (ak uc (ak cA (ak b_ (ae 2) (ae 0)) (ae 1)) (λ_=>M.ok (.int 0))) ((l.zip r).map λa=>.tup [.int a.1,.int a.2]) [none,none,some (.sh (.int (vf f i)))]=M.ok ((l.zip r).map λa=>.bl true):=by
  refine eO (p:=λa:Int×Int=>PV.int a.1) (q:=λa:Int×Int=>PV.int a.2) (l.zip r) λa ha=>?_
  obtain⟨m1,m2⟩:=iQ ha
  have a2:=g.Sr.hx _ m2
  have d:a.2∣vf f i*a.1:=by
   obtain⟨j,hj,e⟩:=List.mem_iff_getElem.mp ha
   rw[List.getElem_zip] at e
   have hj':j<r.length:=by rw[List.length_zip] at hj;omega
   have:=g.dv i hi j hj'
   unfold AA at this
   rw[← hl,aQ hj',aQ (xs:=l) (by omega)] at this
   rw[← e]
   exact this
  dsimp? [bg (i:=vf f i) (j:=a.1) (k:=31) (l:=31) (by omega) (Nat.lt_of_lt_of_le (g.bd l ml _ m1) (by decide)),aS (i:=vf f i*a.1) (j:=a.2) (by omega),Int.emod_eq_zero_of_dvd d,decide_true]
 have z1:(l.zip r).length<=sizeLine:=by rw[List.length_zip];exact aO (Nat.le_trans (Nat.min_le_right _ _) (by omega))
 have ea:((l.zip r).all λ_=>true)=true:=by simp
 rw[← hl]
 unfold e9 eW
 dsimp? [Bw l (r.length:Int) (aO (by omega)),rl,decide_true,dF (p:=lI l) (q:=lI r) l r rfl rfl,List.length_map,av z1,key,AZ (λ_:Int×Int=>true),ea]
theorem rA(g:Gr f r t):gM [lI f,lI r,.lst (t.map lI)]=M.ok .cy:=by
 have l6:=g.Sf.h6
 have tl:=g.len
 have mx:yi (λi j=>if j>i then j else i) [.int (f.length:Int),.int (t.length:Int)]=M.ok (.int (f.length:Int)):=by
  show M.ok (PV.int (if (t.length:Int)>f.length then (t.length:Int) else f.length))=_
  rw[if_neg (by omega)]
 refine jx.eq ?_
 unfold gM gU
 dsimp? [List.length_map,mx,jv (n:=(f.length:Int)) (by omega) (by omega),Int.toNat_natCast]
 refine jx.loop (xs:=List.range f.length) (inj:=λ(i:Nat)=>.int (i:Int)) (λzs env=>(∀ z∈zs,z<f.length)/\∃ y3,env=[some (.sh (lI f)),some (.sh (lI r)),some (.sh (.lst (t.map lI))),y3]) ⟨λz h=>List.mem_range.mp h,_,rfl⟩ ?_ ?_
 ·rintro i r' env ⟨hz,y3,rfl⟩
  have hi:=hz i List.mem_cons_self
  have n1:¬ (f.length:Int)<=(i:Int):=by omega
  have n2:¬ (t.length:Int)<=(i:Int):=by omega
  have i1:aP (.lst (t.map lI)) (.int (i:Int))=M.ok (lI (t.getD i [])):=bD (p:=.lst (t.map lI)) rfl (by rw[List.getElem?_map,List.getD_eq_getElem?_getD,List.getElem?_eq_getElem (by omega)];rfl)
  have i2:aP (lI f) (.int (i:Int))=M.ok (.int (vf f i)):=bD (p:=lI f) rfl (by rw[List.getElem?_map,aQ hi,List.getElem?_eq_getElem hi];rfl)
  dsimp? [bQ,n1,List.length_map,n2,decide_false,i1,i2,Df g hi]
  exact⟨_,rfl,λz h=>hz z (List.mem_cons_of_mem _ h),_,rfl⟩
 ·rintro env ⟨_,y3,rfl⟩
  exact⟨_,rfl,rfl⟩
theorem FE(g:Gr f r t):bY bB lR [] [lI f,lI r,.lst (t.map lI)]=M.ok (gO f r t):=by
 have mf:bY ao bp [.cy] [lI f,.lst []]=M.ok (dw f []):=sS (p:=lI f) (f:=tI) (.inl rfl) f [] rfl g.Sf (by decide) (by simp)
 have mr:bY ao bp [.cy] [lI r,.lst []]=M.ok (dw r []):=sS (p:=lI r) (f:=tI) (.inl rfl) r [] rfl g.Sr (by decide) (by simp)
 have kt:bI (bQ 0) none (ai cJ (aa (ae 0) aj)) (t.map lI) [none]=M.ok (t.map tI):=dZ (inj:=lI) (h:=tI) t λl _=>by dsimp? [];rfl
 have zl:t.length<=sizeLine:=aO (by have:=g.Sf.h6;have:=g.len;omega)
 have key:∀ a,lR a ([lI f,lI r,.lst (t.map lI)]++[])=M.ok (gF f r t):=by
  intro a
  unfold lR kJ
  simp only[pk]
  rw[av (show ([lI f,lI r,PV.lst (t.map lI)]++([]:List PV)).length+1=4 from rfl)]
  simp only[vH,xr]
  dsimp? [i7,mf]
  rw[fU _ _ _ _ _ _ (by simp)]
  dsimp? [i7,mr]
  rw[fU _ _ _ _ _ _ (Nat.lt_of_le_of_lt (gA (Nat.zero_le 0)) (by decide))]
  dsimp? [i7,rA g,List.length_map,av zl,kt]
  rw[fU _ _ _ _ _ _ (Nat.lt_of_le_of_lt (gA (gA (Nat.zero_le 0))) (by decide))]
  dsimp? []
  show cW _ _=_
  rw[av ⟨rfl,rfl⟩]
  rfl
 unfold bY
 rw[xP key];rfl
end
theorem gq(c:Int)(f:Nat->Int)(n:Nat):c*aT n f=aT n λi=>c*f i:=by
 have:=dm c 0 f f (λi=>c*f i) n λi _=>by omega
 rw[this];omega
theorem rR(F:Nat->Nat->Int)(n:Nat):∀ m,(aT n λi=>aT m λj=>F i j)=aT m λj=>aT n λi=>F i j
 | 0=>c9 n
 | m+1=>by
  rw[aT,← rR F n m,dm 1 1 (λi=>aT m λj=>F i j) (λi=>F i m) _ n λi _=>by rw[aT];omega]
  omega
section
variable{f:List Int}{K:bS->Prop}
def DB(r l:List Int)(s:Int):List Int:=(l.zip r).map λb=>s*b.1/b.2
def y_(f r:List Int)(t:List (List Int))(w:List Int):List Int:=(f.zip t).map λa=>dot w (DB r a.2 a.1)%a.1
def sh(f r:List Int)(t:List (List Int))(i j:Nat):Int:=vf f i*AA t i j/vf r j
theorem JC(g:Gr f r t)(hi:i<f.length)(hj:j<r.length):sh f r t i j*vf r j=vf f i*AA t i j:=Int.ediv_mul_cancel (g.dv i hi j hj)
theorem yU{l:List Int}(h:l.length=r.length):(DB r l s).length=r.length:=by simp[DB,h]
theorem Ee(g:Gr f r t)(w:List Int):(y_ f r t w).length=f.length:=by simp[y_,g.len]
theorem Ba(g:Gr f r t){w:List Int}(hw:w.length=r.length)(hi:i<f.length):vf (y_ f r t w) i=(aT r.length λj=>vf w j*sh f r t i j)%vf f i:=by
 have Qh:i<t.length:=by rw[g.len];exact hi
 have rl:=g.row _ (List.getElem_mem Qh)
 rw[y_,qi _ _ (by rw[List.length_zip];omega),List.getElem_zip,yO hw (yU rl)]
 show _%f[i]=_
 rw[← aQ hi]
 congr 1
 refine bb λj hj=>?_
 rw[DB,qi _ _ (by rw[List.length_zip];omega),List.getElem_zip]
 unfold sh AA
 rw[List.getD_eq_getElem?_getD,List.getElem?_eq_getElem Qh,Option.getD_some,aQ hi,aQ hj,aQ (xs:=t[i]) (by omega)]
theorem GN(g:Gr f r t){w:List Int}(hw:w.length=r.length):Kp f (y_ f r t w):=⟨Ee g w,λi hi=>by
 rw[Ba g hw hi]
 have:=lF g.Sf i hi
 exact⟨Int.emod_nonneg _ (by omega),Int.emod_lt_of_pos _ (by omega)⟩⟩
theorem BN(g:Gr f r t){w:List Int}(hw:Kp r w):dr [gO f r t,tI w]=M.ok (tI (y_ f r t w)):=by
 have f6:=g.Sf.h6
 have r6:=g.Sr.h6
 have tl:=g.len
 refine jx.eq ?_
 unfold dr dU
 dsimp? [e7,gf,gr,gt,bK,Dw,eh,dF (p:=tI f) (q:=.tup (t.map tI)) (f:=PV.int) (g:=tI) f t rfl rfl]
 refine jx.loop (xs:=f.zip t) (inj:=λa=>.tup [.int a.1,tI a.2]) (λzs env=>∃ (F:List Int) (y5 y6 y7:Option SV),env=[some (.sh (gO f r t)),some (.sh (tI w)),some (.sh (tI f)),some (.sh (tI r)),some (.ow (F.map PV.int)),y5,y6,y7]/\zs=(f.zip t).drop F.length/\F.length<=f.length/\F=((f.zip t).take F.length).map λa=>dot w (DB r a.2 a.1)%a.1) ⟨[],none,none,none,rfl,rfl,Nat.zero_le _,rfl⟩ ?_ ?_
 ·rintro a rr env ⟨F,y5,y6,y7,rfl,hd,hF,eF⟩
  obtain⟨c1,c2,c3⟩:=drop_cons hd.symm
  have QR:F.length<f.length:=by rw[List.length_zip] at c1;omega
  rw[List.getElem?_eq_getElem c1] at c2
  have c2:=Option.some.inj c2
  have ma:a∈f.zip t:=by rw[← c2];exact List.getElem_mem _
  obtain⟨m1,m2⟩:=List.of_mem_zip (a:=a.1) (b:=a.2) ma
  have a1:=g.Sf.hx _ m1
  have rl:=g.row _ m2
  have bd:∀ b∈a.2.zip r,(a.1*b.1/b.2).natAbs<2^64:=λb hb=>by
   obtain⟨n1,n2⟩:=iQ hb
   have b1:=g.bd _ m2 _ n1
   have b2:=g.Sr.hx _ n2
   have:(a.1*b.1/b.2).natAbs<=(a.1*b.1).natAbs:=Int.natAbs_ediv_le_natAbs _ _
   rw[Int.natAbs_mul] at this
   have h3:a.1.natAbs*b.1.natAbs<=2^20*2^20:=Nat.mul_le_mul (by omega) (by omega)
   exact Nat.lt_of_le_of_lt (Nat.le_trans this h3) (by decide)
  have key:bI (bA 0 1) none (ak bF (ak b_ (ae 2) (ae 0)) (ae 1)) ((a.2.zip r).map λb=>.tup [.int b.1,.int b.2]) [none,none,some (.sh (.int a.1))]=M.ok ((DB r a.2 a.1).map PV.int):=by
   rw[DB,List.map_map]
   refine eO (p:=λb:Int×Int=>PV.int b.1) (q:=λb:Int×Int=>PV.int b.2) (a.2.zip r) λb hb=>?_
   obtain⟨n1,n2⟩:=iQ hb
   have b1:=g.bd _ m2 _ n1
   have b2:=g.Sr.hx _ n2
   dsimp? [bg (i:=a.1) (j:=b.1) (k:=31) (l:=31) (by omega) (Nat.lt_of_lt_of_le b1 (by decide)),aW (i:=a.1*b.1) (j:=b.2) (by omega) (by omega)]
   rfl
  have z1:(a.2.zip r).length<=sizeLine:=by rw[List.length_zip];exact aO (Nat.le_trans (Nat.min_le_right _ _) (by omega))
  have sb:Bd 200 (DB r a.2 a.1):=λx hx=>by
   obtain⟨b,hb,rfl⟩:=List.mem_map.mp hx
   exact Nat.lt_of_lt_of_le (bd b hb) (by decide)
  dsimp? [bA,dF (p:=tI a.2) (q:=tI r) a.2 r rfl rfl,List.length_map,av z1,key,kR,ownAt,yz (p:=tI w) (q:=.lst ((DB r a.2 a.1).map PV.int)) (n:=a.1) rfl rfl (hw.bd g.Sr) sb (by rw[yU rl];omega) (by omega),kU (xs:=F.map PV.int) (show (F.map PV.int).length<1000 by simp;omega),jy]
  refine⟨_,rfl,F++[dot w (DB r a.2 a.1)%a.1],_,_,_,rfl,by rw[List.length_append];exact c3.symm,by rw[List.length_append];exact QR,?_⟩
  rw[List.length_append,List.length_singleton,List.take_succ_eq_append_getElem c1,List.map_append,← eF,c2]
  rfl
 ·rintro env ⟨F,y5,y6,y7,rfl,hd,hF,eF⟩
  have ec:(f.zip t).length<=F.length:=List.drop_eq_nil_iff.mp hd.symm
  rw[List.take_of_length_le ec] at eF
  dsimp? []
  exact⟨_,rfl,by rw[eF];rfl⟩
theorem rN(g:Gr f r t){w:List Int}(hw:w.length=r.length)(x:bS):R f∣dQ f.length (vf f) (R f) (vf (y_ f r t w)) x ↔ R r∣dQ r.length (vf r) (R r) (vf w) (ph f.length t x):=by
 have pf:=p5 g.Sf
 have pr:=p5 g.Sr
 have c:=qz (n:=f.length) (s:=vf f) (Q:=R f) (w:=x) (v:=vf (y_ f r t w)) (u:=λi=>aT r.length λj=>vf w j*sh f r t i j) (qe g.Sf) λi hi=>by rw[Ba g hw hi];exact cG _ _
 rw[cP]
 have e:R r*dQ f.length (vf f) (R f) x (λi=>aT r.length λj=>vf w j*sh f r t i j)=R f*dQ r.length (vf r) (R r) (vf w) (ph f.length t x):=by
  unfold dQ
  rw[gq,gq]
  have h1:(aT f.length λi=>R r*(x i*(aT r.length λj=>vf w j*sh f r t i j)*(R f/vf f i)))=aT f.length λi=>aT r.length λj=>R r*(x i*(vf w j*sh f r t i j)*(R f/vf f i)):=bb λi _=>by
   rw[← gq,show ∀ a b c d:Int,a*(b*c*d)=a*b*d*c by intros;grind,gq,gq]
   exact bb λj _=>by grind
  have h2:(aT r.length λj=>R f*(vf w j*ph f.length t x j*(R r/vf r j)))=aT r.length λj=>aT f.length λi=>R f*(vf w j*(x i*AA t i j)*(R r/vf r j)):=bb λj _=>by
   rw[← gq]
   unfold ph
   rw[show ∀ a b c d:Int,a*(b*c*d)=a*b*d*c by intros;grind,gq,gq]
   exact bb λi _=>by grind
  rw[h1,h2,rR]
  refine bb λj hj=>bb λi hi=>?_
  have s1:=JC g hi hj
  have s2:R f/vf f i*vf f i=R f:=Int.ediv_mul_cancel (qe g.Sf i hi)
  have s3:R r/vf r j*vf r j=R r:=Int.ediv_mul_cancel (qe g.Sr j hj)
  generalize sh f r t i j=s at *
  generalize R f/vf f i=a at *
  generalize R r/vf r j=b at *
  rw[← s2,← s3]
  have:b*vf r j*(x i*(vf w j*s)*a)=b*x i*vf w j*a*(s*vf r j):=by grind
  rw[this,s1]
  grind
 constructor
 ·intro d
  have d2:R f∣dQ f.length (vf f) (R f) x (λi=>aT r.length λj=>vf w j*sh f r t i j):=by
   have:=Int.dvd_sub d c
   rwa [show ∀ a b:Int,a-(a-b)=b by intros;omega] at this
  obtain⟨k,hk⟩:=d2
  rw[hk] at e
  have:R f*(R r*k)=R f*dQ r.length (vf r) (R r) (vf w) (ph f.length t x):=by rw[← e];grind
  exact⟨k,(Int.eq_of_mul_eq_mul_left (by omega) this).symm⟩
 ·rintro⟨k,hk⟩
  rw[hk] at e
  have:R r*dQ f.length (vf f) (R f) x (λi=>aT r.length λj=>vf w j*sh f r t i j)=R r*(R f*k):=by rw[e];grind
  have d2:R f∣dQ f.length (vf f) (R f) x (λi=>aT r.length λj=>vf w j*sh f r t i j):=⟨k,Int.eq_of_mul_eq_mul_left (by omega) this⟩
  have:=Int.dvd_add c d2
  rwa [Int.sub_add_cancel] at this
end
section
variable{f:List Int}{K:bS->Prop}{Lm rm:List (List Int)}{Tm Te:List Row}{im ie:List (List Int)}
theorem CQ{h:List Int->List Int}(hl:l<Ls.length):AA (Ls.map h) l=vf (h (Ls.getD l [])):=by
 unfold AA
 rw[List.getD_eq_getElem?_getD,List.getElem?_map,List.getElem?_eq_getElem hl,Option.map_some,Option.getD_some,List.getD_eq_getElem?_getD,List.getElem?_eq_getElem hl,Option.getD_some]
theorem kG(g:Gr f r t)(V:Vr ns r p H):∃ q,fD [gO f r t,p]=M.ok q/\Vr ns f q λx=>H (ph f.length t x):=by
 obtain⟨_,es,⟨N7,NH,T',Ny,rfl,Q',h'⟩,_⟩:=kA V
 have hL:∀ l∈NH,Kp r l:=λl h=>Q'.kp l h
 have m8:=Q'.m8
 obtain⟨TB,iB,QB⟩:=gu.kept ns g.Sf (L:=NH.map (y_ f r t)) (by simpa using m8) λx hx=>by
  obtain⟨l,hl,rfl⟩:=List.mem_map.mp hx
  exact GN g (hL l hl).1
 obtain⟨q,eq,Vq,_⟩:=kA (⟨_,_,_,_,rfl,QB,λ_=>Iff.rfl⟩:Vr ns f (dw f (NH.map (y_ f r t))) (GT f TB))
 have lv:∀ l,l<NH.length->AA NH l=vf (NH.getD l [])/\AA (NH.map (y_ f r t)) l=vf (y_ f r t (NH.getD l []))/\(NH.getD l []).length=r.length:=λl hl=>⟨rfl,CQ hl,(hL _ (getD_mem hl)).1⟩
 refine⟨q,?_,Vq.ext λx=>⟨λhx=>V.an λu hu=>?_,λhx v hv=>?_⟩⟩
 ·obtain⟨rp,Lp,Tp,ip,rfl,Qp,_⟩:=V
  have key:bI (bQ 0) none (ai dr (aa (ae 1) (aa (ae 0) aj))) (NH.map tI) [none,some (.sh (gO f r t))]=M.ok ((NH.map (y_ f r t)).map tI):=by
   rw[List.map_map]
   refine dZ (inj:=tI) NH λl hl=>?_
   dsimp? [BN g (hL l hl)]
   rfl
  have zl:NH.length<=sizeLine:=aO (by omega)
  unfold fD ij
  dsimp? [e7,gf,gr,bK,Dw,mU,es,Jj,List.length_map,av zl,key,QB.xM (p:=tI f) (f:=tI) (.inl rfl) rfl,eq]
 ·obtain⟨P,hP⟩:=Q'.led ((h' u).mp hu)
  rw[cP]
  refine o3 (qe g.Sr) (λl hl=>?_) hP
  obtain⟨e1,e2,e3⟩:=lv l hl
  rw[cP,e1]
  refine(rN g e3 x).mp ?_
  rw[cP,← e2]
  exact hx _ (QB.uq (by simpa using hl))
 ·obtain⟨P,hP⟩:=QB.led hv
  refine o3 (qe g.Sf) (λl hl=>?_) hP
  obtain⟨e1,e2,e3⟩:=lv l (by simpa using hl)
  rw[cP,e2]
  refine(rN g e3 x).mpr ?_
  rw[← e1]
  exact(h' _).mpr (Q'.uq (by simpa using hl)) _ hx
theorem Cs(g:Gr f r t)(Q:gu ns f raw Ls T idle):∃ Te ie N7 NH T' Ny,gu ns r (Ls.map (lC r t)) (Ls.map (lC r t)) Te ie/\oJ [gO f r t,dw f Ls]=M.ok (dw r NH)/\gu ns r N7 NH T' Ny/\∀ v,GT r T' v ↔ GT r Te v:=by
 have m8:=Q.m8
 have hL:∀ l∈Ls,Kp f l:=λl h=>Q.kp l h
 obtain⟨Te,ie,Qe⟩:=gu.kept ns g.Sr (L:=Ls.map (lC r t)) (by simpa using m8) λx hx=>by
  obtain⟨l,hl,rfl⟩:=List.mem_map.mp hx
  exact De g (hL l hl).1
 obtain⟨N7,NH,T',Ny,ec,Q',_,eq⟩:=yb Qe
 refine⟨Te,ie,N7,NH,T',Ny,Qe,?_,Q',eq⟩
 have key:bI (bQ 0) none (bh bB "led" eg (ae 1) (aa (ae 0) aj)) (Ls.map tI) [none,some (.sh (gO f r t))]=M.ok ((Ls.map (lC r t)).map tI):=by
  rw[List.map_map]
  refine dZ (inj:=tI) Ls λl hl=>?_
  dsimp? [bK,MP,Fo g (hL l hl)]
  rfl
 have zl:Ls.length<=sizeLine:=aO (by omega)
 unfold oJ oZ
 dsimp? [e7,gf,gr,bK,Dw,mU,Jj,List.length_map,av zl,key,Qe.xM (p:=tI r) (f:=tI) (.inl rfl) rfl,ec]
theorem v7(g:Gr f r t)(Q:gu ns f raw Ls T idle)(Qe:gu ns r (Ls.map (lC r t)) (Ls.map (lC r t)) Te ie)(Qm:gu ns f rm Lm Tm im)(hm:∀ v,GT f Tm v ↔ GT f T v/\∀ j,j<r.length->vf r j∣ph f.length t v j):aJ Ls.length (λj=>II idle j j)=aJ Ls.length (λj=>II ie j j)*aJ Lm.length λj=>II im j j:=by
 have S:=Q.S
 obtain⟨T6,i6,Q6⟩:=Pn.kept S (L:=Lm++Ls) λx hx=>(List.mem_append.mp hx).elim (Qm.kp x) (Q.kp x)
 have g6:∀ v,GT f T v ↔ GT f T6 v:=λv=>⟨Q.mO Q6.gd λl hl=>by rw[← gg (X:=Lm) (l:=l)];exact Q6.uq (by simp;omega),Q6.mO Q.st.gd λl hl=>by
  rcases Nat.lt_or_ge l Lm.length with c | c
  ·rw[fY c];exact((hm _).mp (Qm.uq c)).1
  ·obtain⟨m,rfl⟩:∃ m,l=Lm.length+m:=⟨l-Lm.length,by omega⟩
   rw[gg];exact Q.uq (by simp at hl;omega)⟩
 have e6:=BY Q.pn Q6 g6
 rw[List.length_append,sj,c8 (m:=Lm.length) (g:=λj=>II im j j) λj hj=>Dm Q6 Qm.pn hj] at e6
 have el:(Ls.map (lC r t)).length=Ls.length:=by simp
 have ef:aJ Ls.length (λl=>II i6 (Lm.length+l) (Lm.length+l))=aJ Ls.length λl=>II ie l l:=c8 λj hj=>ya (Q6.I.pos _ (by simp;omega)) (Qe.I.pos _ (by simpa using hj)) λk=>by
  rw[Ac Q6 Qm.pn hj k,K6 Qe.pn (by simpa using hj) k,el]
  have key:∀ P:bS,GT f Tm (λi=>aT Ls.length λl=>P l*AA Ls l i) ↔ Led r.length (vf r) Ls.length (AA (Ls.map (lC r t))) (λ_=>0) P:=λP=>by
   rw[hm]
   have e:∀ i,i<r.length->vf r i∣(aT Ls.length λl=>P l*AA (Ls.map (lC r t)) l i)-ph f.length t (λi=>aT Ls.length λl=>P l*AA Ls l i) i:=λi hi=>by
    rw[AQ]
    have e2:=dm 1 (-1) (λl=>P l*AA (Ls.map (lC r t)) l i) (λl=>P l*ph f.length t (AA Ls l) i) (λl=>P l*(AA (Ls.map (lC r t)) l i-ph f.length t (AA Ls l) i)) Ls.length λl _=>by rw[Int.mul_sub];omega
    have d:vf r i∣aT Ls.length λl=>P l*(AA (Ls.map (lC r t)) l i-ph f.length t (AA Ls l) i):=pD λl hl=>Int.dvd_trans (by
     rw[CQ hl,tQ g (Q.kp _ (getD_mem hl)).1 hi]
     exact cG _ _) (Int.dvd_mul_left _ _)
    rw[e2] at d
    rwa [show ∀ a b:Int,1*a+-1*b=a-b by intros;omega] at d
   constructor
   ·rintro⟨_,h⟩ i hi
    have:=Int.dvd_add (e i hi) (h i hi)
    rw[Int.sub_add_cancel] at this
    show vf r i∣0-_
    rw[Int.zero_sub]
    exact Int.dvd_neg.mpr this
   ·intro h
    refine⟨G.sum Q.st.gd _ λl hl=>Q.uq hl,λi hi=>?_⟩
    have h1:vf r i∣0-aT Ls.length λl=>P l*AA (Ls.map (lC r t)) l i:=h i hi
    rw[Int.zero_sub] at h1
    have:=Int.dvd_sub (Int.dvd_neg.mp h1) (e i hi)
    rwa [show ∀ a b:Int,a-(a-b)=b by intros;omega] at this
  exact⟨λ⟨P,a,b,c⟩=>⟨P,a,b,(key P).mp c⟩,λ⟨P,a,b,c⟩=>⟨P,a,b,(key P).mpr c⟩⟩
 rw[e6,ef,Int.mul_comm]
end
section
variable{P:List Int}{f:List Int}
theorem oM(Q:gu ns sizes raw Ls T idle)(hx:Kp sizes xs):∃ b:Bool,da [kM sizes Ls T idle,tI xs]=M.ok (.bl b)/\(b=true ↔ GT sizes T (vf xs)):=by
 have m8:=Q.m8
 by_cases z:lst sizes Ls T xs=List.replicate sizes.length 0
 ·have g:=(o6 Q hx).mp z
  obtain⟨et,_⟩:=AK (k:=Ls.length+1) Q.S m8 Q.st (by omega) Q.I hx.KC hx.2 g
  refine⟨true,?_,λ_=>g,λ_=>rfl⟩
  unfold da eD
  dsimp? [bK,xm (m := "pulls_to") rfl,et,show ∀ xs:List Int,k9 (tI xs) .cy=M.ok (.bl true) from λ_=>rfl]
 ·refine⟨false,?_,⟨(λh=>by cases h),λg=>(z ((o6 Q hx).mpr g)).elim⟩⟩
  unfold da eD
  dsimp? [bK,xm (m := "pulls_to") rfl,CO (idle:=idle) Q.S m8 Q.st (show Ls.length+1<=9 by omega) hx.1 hx.2 z,show k9 .cy .cy=M.ok (.bl false) from rfl]
theorem w5(S:Sz sizes)(h:xs.length=sizes.length/\∀ z∈xs.zip sizes,0<=z.1/\z.1<z.2):Kp sizes xs:=⟨h.1,G8 h.1 h.2⟩
theorem x_{x:Int}:vf (xs++[x]) i=if i<xs.length then vf xs i else if i=xs.length then x else vf (xs++[x]) i:=by
 split
 ·rename_i h
  rw[aQ (by simp;omega),aQ h,List.getElem_append_left h]
 ·split
  ·rename_i h;subst h
   rw[aQ (by simp),List.getElem_append_right (by omega)];simp
  ·rfl
theorem yC(g:Gr f r t)(hx:Kp f x):fy [.lst (t.map lI),lI r,tI x]=M.ok (tI (lC r t x)):=by
 have f6:=g.Sf.h6
 have r6:=g.Sr.h6
 have tl:=g.len
 have xb:=hx.bd g.Sf
 refine jx.eq ?_
 unfold fy jL
 dsimp? [eh,ny]
 refine jx.loop (xs:=r.zipIdx) (inj:=λa=>.tup [.int (a.2:Int),.int a.1]) (λzs env=>∃ (F:List Int) (y4 y5:Option SV),env=[some (.sh (.lst (t.map lI))),some (.sh (lI r)),some (.sh (tI x)),some (.ow (F.map PV.int)),y4,y5]/\zs=r.zipIdx.drop F.length/\F.length<=r.length/\F=(r.zipIdx.take F.length).map λa=>dot x (col t a.2)%a.1) ⟨[],none,none,rfl,rfl,Nat.zero_le _,rfl⟩ ?_ ?_
 ·rintro a rr env ⟨F,y4,y5,rfl,hd,hF,eF⟩
  obtain⟨c1,c2,c3⟩:=drop_cons hd.symm
  have QR:F.length<r.length:=by rw[List.length_zipIdx] at c1;exact c1
  rw[List.getElem?_eq_getElem c1] at c2
  have c2:=Option.some.inj c2
  have ma:a∈r.zipIdx:=by rw[← c2];exact List.getElem_mem _
  have a2:=List.snd_lt_of_mem_zipIdx ma
  have a1:=g.Sr.hx _ (List.fst_mem_of_mem_zipIdx ma)
  have key:bI (bA 0 1) none (ak b_ (ae 0) (ak aP (ae 1) (ae 2))) ((x.zip t).map λz=>.tup [.int z.1,lI z.2]) [none,none,some (.sh (.int (a.2:Int)))]=M.ok ((x.zip (col t a.2)).map λz=>.int (z.1*z.2)):=by
   rw[col,List.zip_map_right,List.map_map]
   refine eO (p:=λz:Int×List Int=>PV.int z.1) (q:=λz=>lI z.2) (x.zip t) λz hz=>?_
   obtain⟨n1,n2⟩:=List.of_mem_zip (a:=z.1) (b:=z.2) hz
   have rl:=g.row _ n2
   have b:=g.bd _ n2 (vf z.2 a.2) (by rw[aQ (by omega)];exact List.getElem_mem _)
   have:aP (lI z.2) (.int (a.2:Int))=M.ok (.int (vf z.2 a.2)):=bD (p:=lI z.2) rfl (by rw[List.getElem?_map,aQ (by omega),List.getElem?_eq_getElem (by omega)];rfl)
   dsimp? [this,bg (i:=z.1) (j:=vf z.2 a.2) (k:=200) (l:=20) (xb _ n1) b]
   rfl
  have z1:(x.zip t).length<=sizeLine:=by rw[List.length_zip];exact aO (Nat.le_trans (Nat.min_le_right _ _) (by omega))
  dsimp? [bA,dF (p:=tI x) (q:=.lst (t.map lI)) (f:=PV.int) (g:=lI) x t rfl rfl,List.length_map,av z1,key,Gj,aS (i:=dot x (col t a.2)) (j:=a.1) (by omega),kR,ownAt,kU (xs:=F.map PV.int) (show (F.map PV.int).length<1000 by simp;omega),jy]
  refine⟨_,rfl,F++[dot x (col t a.2)%a.1],_,_,rfl,by rw[List.length_append];exact c3.symm,by rw[List.length_append];exact QR,?_⟩
  rw[List.length_append,List.length_singleton,List.take_succ_eq_append_getElem c1,List.map_append,← eF,c2]
  rfl
 ·rintro env ⟨F,y4,y5,rfl,hd,hF,eF⟩
  have ec:r.zipIdx.length<=F.length:=List.drop_eq_nil_iff.mp hd.symm
  rw[List.take_of_length_le ec] at eF
  dsimp? []
  exact⟨_,rfl,by rw[eF];rfl⟩
theorem A9(Sf:Sz f)(Sr:Sz r)(c:Int):∃ t:List (List Int),e8 [.int c,lI f,lI r]=M.ok (.lst (t.map lI))/\Gr f r t:=by
 suffices h:jx (e8 [.int c,lI f,lI r]) λp=>∃ t:List (List Int),p=.lst (t.map lI)/\Gr f r t by
  obtain⟨_,e,t,rfl,g⟩:=h
  exact⟨t,e,g⟩
 have f6:=Sf.h6
 have r6:=Sr.h6
 unfold e8 gK
 dsimp? [eh,ny]
 refine jx.loop (xs:=f.zipIdx) (inj:=λa=>.tup [.int (a.2:Int),.int a.1]) (λzs env=>∃ (t:List (List Int)) (y4 y5 y6 y7 y8 y9:Option SV),env=[some (.sh (.int c)),some (.sh (lI f)),some (.sh (lI r)),some (.ow (t.map lI)),y4,y5,y6,y7,y8,y9]/\zs=f.zipIdx.drop t.length/\t.length<=f.length/\(∀ l∈t,l.length=r.length)/\(∀ l∈t,∀ x∈l,x.natAbs<2^20)/\∀ i,i<t.length->∀ j,j<r.length->vf r j∣vf f i*AA t i j) ⟨[],none,none,none,none,none,none,rfl,rfl,Nat.zero_le _,(λ_ h=>nomatch h),(λ_ h=>nomatch h),λi h=>absurd h (Nat.not_lt_zero i)⟩ ?_ ?_
 ·rintro⟨s,i⟩ rr env ⟨t,y4,y5,y6,y7,y8,y9,rfl,hd,ht,tr,tb,td⟩
  obtain⟨c1,c2,c3⟩:=drop_cons hd.symm
  rw[List.length_zipIdx] at c1
  rw[List.getElem?_eq_getElem (by rw[List.length_zipIdx];exact c1)] at c2
  have c2:=Option.some.inj c2
  rw[List.getElem_zipIdx] at c2
  have ei:i=t.length:=by have:=congrArg Prod.snd c2;simp at this;omega
  have es:f[t.length]=s:=congrArg Prod.fst c2
  subst ei
  have ss:=Sf.hx s (by rw[← es];exact List.getElem_mem _)
  dsimp? [bA,eh,ny]
  refine jx.loop (xs:=r.zipIdx) (inj:=λa=>.tup [.int (a.2:Int),.int a.1]) (λzs env=>∃ (F:List Int) (y7 y8 y9:Option SV),env=[some (.sh (.int c)),some (.sh (lI f)),some (.sh (lI r)),some (.ow (t.map lI)),some (.sh (.int (t.length:Int))),some (.sh (.int s)),some (.ow (F.map PV.int)),y7,y8,y9]/\zs=r.zipIdx.drop F.length/\F.length<=r.length/\(∀ x∈F,x.natAbs<2^20)/\∀ j,j<F.length->vf r j∣s*vf F j) ⟨[],_,_,_,rfl,rfl,Nat.zero_le _,(λ_ h=>nomatch h),λj h=>absurd h (Nat.not_lt_zero j)⟩ ?_ ?_
  ·rintro⟨o,j⟩ rr env ⟨F,y7,y8,y9,rfl,hd,hF,Fb,Fd⟩
   obtain⟨e1,e2,e3⟩:=drop_cons hd.symm
   rw[List.length_zipIdx] at e1
   rw[List.getElem?_eq_getElem (by rw[List.length_zipIdx];exact e1)] at e2
   have e2:=Option.some.inj e2
   rw[List.getElem_zipIdx] at e2
   have ej:j=F.length:=by have:=congrArg Prod.snd e2;simp at this;omega
   have eo:r[F.length]=o:=congrArg Prod.fst e2
   subst ej
   have so:=Sr.hx o (by rw[← eo];exact List.getElem_mem _)
   have ro:vf r F.length=o:=by rw[aQ e1,eo]
   obtain⟨u,hu⟩:=Int.eq_ofNat_of_zero_le (show 0<=s by omega)
   obtain⟨n,hn⟩:=Int.eq_ofNat_of_zero_le (show 0<=o by omega)
   obtain⟨x,ex,x0,x1⟩:=qp c (10*t.length+F.length) (by omega)
   rw[show ((10*t.length+F.length:Nat):Int)=10*(t.length:Int)+(F.length:Int) by omega] at ex
   have gd:=xT u n
   have n0:2<=n/\n<=360:=by omega
   have g1:0<Nat.gcd u n:=Nat.gcd_pos_of_pos_right _ (by omega)
   have g2:Nat.gcd u n<=n:=Nat.gcd_le_right _ (by omega)
   have q1:(n:Int)/((Nat.gcd u n:Nat):Int)=((n/Nat.gcd u n:Nat):Int):=by simp
   have q2:n/Nat.gcd u n<=360:=Nat.le_trans (Nat.div_le_self _ _) n0.2
   obtain⟨v,hv⟩:=Int.eq_ofNat_of_zero_le (show 0<=x/4%360 by omega)
   have v1:v<360:=by omega
   obtain⟨o1,eo1,ho1⟩:∃ o:Nat,rO [.bl (decide (0<x%4))]=M.ok (.int (o:Int))/\o<=1:=by
    by_cases q:0<x%4
    ·exact⟨1,by rw[decide_eq_true q];rfl,by decide⟩
    ·exact⟨0,by rw[decide_eq_false q];rfl,by decide⟩
   obtain⟨q,hq⟩:∃ q:Nat,q=n/Nat.gcd u n*v:=⟨_,rfl⟩
   have qb:q<2^18:=by
    rw[hq]
    exact Nat.lt_of_le_of_lt (Nat.mul_le_mul q2 (by omega:v<=360)) (by decide)
   have dv:n∣u*q:=by
    rw[hq]
    have h1:Nat.gcd u n∣u:=Nat.gcd_dvd_left _ _
    have h2:Nat.gcd u n∣n:=Nat.gcd_dvd_right _ _
    obtain⟨a,ha⟩:=h1
    have:u*(n/Nat.gcd u n*v)=n/Nat.gcd u n*Nat.gcd u n*(v*a):=by
     have e:v*u=Nat.gcd u n*(v*a):=by
      conv=>lhs;rw[ha]
      rw[← Nat.mul_assoc,Nat.mul_comm v,Nat.mul_assoc]
     rw[Nat.mul_comm,Nat.mul_assoc,e,← Nat.mul_assoc]
    rw[this,Nat.div_mul_cancel h2]
    exact Nat.dvd_mul_right _ _
   have m1:b_ (.int ((n/Nat.gcd u n:Nat):Int)) (.int (v:Int))=M.ok (.int (q:Int)):=by
    rw[hq]
    generalize n/Nat.gcd u n=d at *
    rw[bg (k:=31) (l:=31) (by omega) (by omega)]
    simp
   have m2:b_ (.int (q:Int)) (.int (o1:Int))=M.ok (.int ((q*o1:Nat):Int)):=by
    rw[bg (k:=31) (l:=31) (by omega) (by omega)]
    simp
   have qo:q*o1<2^18:=Nat.lt_of_le_of_lt (Nat.mul_le_mul_left q ho1) (by omega)
   rw[hn,hu]
   dsimp? [bA,bg (i:=10) (j:=(t.length:Int)) (k:=31) (l:=31) (by decide) (by omega),ex,gd,aW (i:=(n:Int)) (j:=((Nat.gcd u n:Nat):Int)) (by omega) (by omega),q1,aW (i:=x) (j:=4) (by decide) (by decide),aS (i:=x/4) (j:=360) (by decide),hv,m1,aS (i:=x) (j:=4) (by decide),eo1,m2,kR,ownAt,kU (xs:=F.map PV.int) (show (F.map PV.int).length<1000 by simp;omega),jy]
   refine⟨_,rfl,F++[((q*o1:Nat):Int)],_,_,_,rfl,by rw[List.length_append];exact e3.symm,by rw[List.length_append];exact e1,λy hy=>?_,λi hi=>?_⟩
   ·rcases List.mem_append.mp hy with h | h
    ·exact Fb y h
    ·rw[List.mem_singleton.mp h];omega
   ·rw[List.length_append,List.length_singleton] at hi
    by_cases h:i<F.length
    ·rw[x_,if_pos h,← hu];exact Fd i h
    ·have:i=F.length:=by omega
     subst this
     rw[x_,if_neg h,if_pos rfl,ro,hn]
     exact_mod_cast Nat.dvd_trans dv (by rw[← Nat.mul_assoc];exact Nat.dvd_mul_right _ _)
  ·rintro env ⟨F,y7,y8,y9,rfl,hd,hF,Fb,Fd⟩
   have ec:F.length=r.length:=by
    have:=congrArg List.length hd
    rw[List.length_drop,List.length_zipIdx] at this
    simp at this;omega
   dsimp? [kR,ownAt,kU (xs:=t.map lI) (show (t.map lI).length<1000 by simp;omega)]
   refine⟨_,rfl,t++[F],_,_,_,_,_,_,by rw[List.map_append];rfl,by rw[List.length_append];exact c3.symm,by rw[List.length_append];exact c1,λl hl=>?_,λl hl=>?_,λi hi j hj=>?_⟩
   ·rcases List.mem_append.mp hl with h | h
    ·exact tr l h
    ·rw[List.mem_singleton.mp h];exact ec
   ·rcases List.mem_append.mp hl with h | h
    ·exact tb l h
    ·rw[List.mem_singleton.mp h];exact Fb
   ·rw[List.length_append,List.length_singleton] at hi
    by_cases h:i<t.length
    ·rw[fY h];exact td i h j hj
    ·have:i=t.length:=by omega
     subst this
     have:=gg (X:=t) (Y:=[F]) (l:=0)
     rw[Nat.add_zero] at this
     rw[this,aQ c1,es]
     exact Fd j (by omega)
 ·rintro env ⟨t,y4,y5,y6,y7,y8,y9,rfl,hd,ht,tr,tb,td⟩
  have ec:t.length=f.length:=by
   have:=congrArg List.length hd
   rw[List.length_drop,List.length_zipIdx] at this
   simp at this;omega
  dsimp? []
  exact⟨_,rfl,t,rfl,Sf,Sr,ec,tr,tb,λi hi=>td i (by omega)⟩
end
section
variable{P:List Int}{f:List Int}
theorem xo(S:Sz f){B:List (List Int)}(hB:∀ l∈B,Kp f l)(m8:B.length<=8)(c:Int):jx (eU [.int c,.lst (B.map tI),lI f]) λp=>∃ xs:List Int,p=tI xs/\Kp f xs:=by
 have l6:=S.h6
 obtain⟨xs,ed,xk⟩:=nK (c/4) (lI f) f rfl (λb hb=>by have:=S.hx b hb;omega) (by omega)
 have xk:=w5 S xk
 have exM:∀ k:Nat,∃ x:Int,k<=40->bU [.int c,.int (50+(k:Int))]=M.ok (.int x):=λk=>by
  by_cases h:k<=40
  ·obtain⟨x,e,_⟩:=qp c (50+k) (by omega)
   rw[show ((50+k:Nat):Int)=50+(k:Int) by omega] at e
   exact⟨x,λ_=>e⟩
  ·exact⟨0,λz=>(h z).elim⟩
 obtain⟨m,hm⟩:=Classical.skolem.mp exM
 obtain⟨G,hG⟩:∃ G:List Int,G=f.zipIdx.map λa=>m a.2%a.1:=⟨_,rfl⟩
 have Gk:Kp f G:=⟨by simp[hG],λi hi=>by
  rw[hG,qi _ _ (by rw[List.length_zipIdx];exact hi),List.getElem_zipIdx,aQ hi]
  have:=S.hx _ (List.getElem_mem hi)
  exact⟨Int.emod_nonneg _ (by omega),Int.emod_lt_of_pos _ (by omega)⟩⟩
 have k1:bI (bA 0 1) none (ak cA (ai bU (aa (ae 2) (aa (ak dM (λ_=>M.ok (.int 50)) (ae 0)) aj))) (ae 1)) (f.zipIdx.map λa=>.tup [.int (a.2:Int),.int a.1]) [none,none,some (.sh (.int c))]=M.ok (G.map PV.int):=by
  rw[hG,List.map_map]
  refine eO (p:=λa:Int×Nat=>PV.int (a.2:Int)) (q:=λa=>PV.int a.1) f.zipIdx λa ha=>?_
  have h2:=List.snd_lt_of_mem_zipIdx ha
  have:=S.hx _ (List.fst_mem_of_mem_zipIdx ha)
  dsimp? [hm a.2 (by omega),aS (i:=m a.2) (j:=a.1) (by omega)]
  rfl
 have zi:f.zipIdx.length<=sizeLine:=by rw[List.length_zipIdx];exact aO (by omega)
 have walk:∀ F:List Int,Kp f F->∀ {k:Out->M PV} {R:PV->Prop},(∀ F' y4 y5 y6,Kp f F'->jx (k (.nx [some (.sh (.int c)),some (.sh (.lst (B.map tI))),some (.sh (lI f)),some (.sh (lI F')),y4,y5,y6])) R)->jx (M.bind (kE (bA 4 5) (aq (br 6 (ak cA (ai bU (aa (ae 0) (aa (ak dM (λ_=>M.ok (.int 60)) (ae 4)) aj))) (λ_=>M.ok (.int 1000)))) (aq (br 3 (ck (bR (jh wZ (aa (ae 3) (aa (ae 5) (aa (ae 2) aj)))) (p7 0 1 2) none (ak cA (ak dM (ae 0) (ak b_ (ae 3) (ae 1))) (ae 2)) 3 [6]))) au)) (B.zipIdx.map λa=>.tup [.int (a.2:Int),tI a.1]) [some (.sh (.int c)),some (.sh (.lst (B.map tI))),some (.sh (lI f)),some (.sh (lI F)),none,none,none]) k) R:=λF hF k R hk=>by
  refine jx.loop (xs:=B.zipIdx) (inj:=λa=>.tup [.int (a.2:Int),tI a.1]) (λzs env=>(∀ z∈zs,z∈B.zipIdx)/\∃ (F:List Int) (y4 y5 y6:Option SV),env=[some (.sh (.int c)),some (.sh (.lst (B.map tI))),some (.sh (lI f)),some (.sh (lI F)),y4,y5,y6]/\Kp f F) ⟨λz h=>h,F,_,_,_,rfl,hF⟩ ?_ ?_
  ·rintro a rr env ⟨hz,F,y4,y5,y6,rfl,Fk⟩
   have ha:=hz a List.mem_cons_self
   have a2:=List.snd_lt_of_mem_zipIdx ha
   have ka:=hB a.1 (List.fst_mem_of_mem_zipIdx ha)
   obtain⟨x,ex,x0,x1⟩:=qp c (60+a.2) (by omega)
   rw[show ((60+a.2:Nat):Int)=60+(a.2:Int) by omega] at ex
   obtain⟨v,hv⟩:∃ v,v=x%1000:=⟨_,rfl⟩
   have vb:v.natAbs<2^64:=by omega
   obtain⟨k1,k2,k3⟩:=xa (t:=v) S Fk.1 ka.1
   have key:bI (p7 0 1 2) none (ak cA (ak dM (ae 0) (ak b_ (ae 3) (ae 1))) (ae 2)) ((F.zip (a.1.zip f)).map λz=>.tup [.int z.1,.int z.2.1,.int z.2.2]) [none,none,none,some (.sh (.int v))]=M.ok ((qP f F a.1 v).map PV.int):=by
    rw[qP,List.map_map]
    refine ID (p:=λz:Int×Int×Int=>PV.int z.1) (q:=λz=>PV.int z.2.1) (s:=λz=>PV.int z.2.2) (F.zip (a.1.zip f)) λz hz=>?_
    obtain⟨n1,n2⟩:=List.of_mem_zip (a:=z.1) (b:=z.2) hz
    obtain⟨n3,n4⟩:=List.of_mem_zip (a:=z.2.1) (b:=z.2.2) n2
    have:=S.hx _ n4
    dsimp? [bg (i:=v) (j:=z.2.1) (k:=64) (l:=200) vb (ka.bd S _ n3),aS (i:=z.1+v*z.2.1) (j:=z.2.2) (by omega)]
    rfl
   have z1:(F.zip (a.1.zip f)).length<=sizeLine:=by simp only[List.length_zip];exact aO (by omega)
   dsimp? [bA,ex,aS (i:=x) (j:=1000) (by decide),hv.symm,Cr (p:=lI F) (q:=tI a.1) (r:=lI f) F a.1 f rfl rfl rfl,List.length_map,av z1,key]
   exact⟨_,rfl,λz h=>hz z (List.mem_cons_of_mem _ h),_,_,_,_,rfl,k1,k2⟩
  ·rintro env ⟨_,F,y4,y5,y6,rfl,Fk⟩
   exact hk F y4 y5 y6 Fk
 have m2:=aS (i:=c/2) (j:=2) (by decide)
 have m1:=aS (i:=c) (j:=2) (by decide)
 have d2:=aW (i:=c) (j:=2) (by decide) (by decide)
 have d4:=aW (i:=c) (j:=4) (by decide) (by decide)
 unfold eU eZ
 by_cases z1:c/2%2=0 <;> by_cases z2:c%2=0
 ·dsimp? [d4,ed,d2,m2,z1,decide_true,ny,List.length_map,av zi,k1,m1,z2,kS]
  exact walk G Gk λF y4 y5 y6 hF=>⟨_,rfl,F,rfl,hF⟩
 ·dsimp? [d4,ed,d2,m2,z1,decide_true,ny,List.length_map,av zi,k1,m1,z2,decide_false]
  exact⟨_,rfl,G,rfl,Gk⟩
 ·dsimp? [d4,ed,d2,m2,z1,decide_false,m1,z2,decide_true,kS]
  exact walk xs xk λF y4 y5 y6 hF=>⟨_,rfl,F,rfl,hF⟩
 ·dsimp? [d4,ed,d2,m2,z1,decide_false,m1,z2]
  exact⟨_,rfl,xs,rfl,xk⟩
theorem DX(g:Gr f r t)(Q:gu ns f raw Ls T idle):gT [gO f r t,dw f Ls,.lst ((Ls.map (lC r t)).map tI),lI r]=M.ok (.bl true):=by
 have m8:=Q.m8
 obtain⟨Te,ie,N7,Li,Ti,ii,Qe,ei,Qi,hi⟩:=Cs g Q
 obtain⟨T0,i0,Q0⟩:=gu.kept ns g.Sr (L:=[]) (by decide) (by simp)
 have V0:Vr ns r (dw r []) (GT r T0):=⟨_,_,_,_,rfl,Q0,λ_=>Iff.rfl⟩
 have V:Vr ns f (dw f Ls) (GT f T):=⟨_,_,_,_,rfl,Q,λ_=>Iff.rfl⟩
 obtain⟨q,eq,Vq⟩:=kG g V0
 obtain⟨_,em,⟨rm,Lm,Tm,im,rfl,Qm,hm⟩,_⟩:=El V Vq
 have zero:∀ v,GT r T0 v ↔ ∀ j,j<r.length->vf r j∣v j:=λv=>by
  constructor
  ·intro h j hj
   obtain⟨P,hP⟩:=Q0.led h
   have:=hP j hj
   simpa [aT] using this
  ·intro h
   exact Q0.st.gd.lj (by omega) (λj hj=>by simpa using h j hj) (G.zero (by omega))
 have cg:=v7 g Q Qe Qm λv=>(hm v).symm.trans (and_congr Iff.rfl (zero _))
 have ce:=BY Qi.pn Qe.pn hi
 rw[List.length_map] at ce
 have bd:∀ {n raw Ls T idle} {s:List Int},gu n s raw Ls T idle->(aJ Ls.length (λj=>II idle j j)).natAbs<2^500:=λ{n raw Ls T idle s} Q=>by
  have m8:=Q.m8
  obtain⟨x,y,z⟩:=nZ Q
  have:=xR (ug y Ls.length (by omega))
  rw[z] at this
  exact Nat.lt_of_lt_of_le this (Nat.pow_le_pow_right (by decide) (by omega))
 have b1:=bd Qi
 rw[ce] at b1
 have b2:=bd Qm
 have mk0:=Q0.xM (p:=lI r) (f:=tI) (.inl rfl) rfl
 have mke:=Qe.xM (p:=lI r) (f:=tI) (.inl rfl) rfl
 rw[List.map_nil] at mk0
 refine jx.eq ?_
 unfold gT gX
 dsimp? [ei,mke,Qe.DV,Qi.DV,bK,Jj]
 refine jx.loop (xs:=Li) (inj:=tI) (λzs env=>(∀ z∈zs,z∈Li)/\∃ y7,env=[some (.sh (gO f r t)),some (.sh (dw f Ls)),some (.sh (.lst ((Ls.map (lC r t)).map tI))),some (.sh (lI r)),some (.sh (dw r Li)),some (.sh (kM r (Ls.map (lC r t)) Te ie)),some (.sh (kM r Li Ti ii)),y7,none,none]) ⟨λz h=>h,_,rfl⟩ ?_ ?_
 ·rintro l rr env ⟨hz,y7,rfl⟩
  have hl:=hz l List.mem_cons_self
  obtain⟨b,ed,ib⟩:=oM Qe (Qi.kp l hl)
  obtain rfl:=ib.mpr ((hi _).mp (by obtain⟨k,hk,e⟩:=mh hl;rw[← e];exact Qi.uq hk))
  dsimp? [bQ,ed]
  exact⟨_,rfl,λz h=>hz z (List.mem_cons_of_mem _ h),_,rfl⟩
 rintro env ⟨_,y7,rfl⟩
 dsimp? []
 refine jx.loop (xs:=Ls.map (lC r t)) (inj:=tI) (λzs env=>(∀ z∈zs,z∈Ls.map (lC r t))/\∃ y8,env=[some (.sh (gO f r t)),some (.sh (dw f Ls)),some (.sh (.lst ((Ls.map (lC r t)).map tI))),some (.sh (lI r)),some (.sh (dw r Li)),some (.sh (kM r (Ls.map (lC r t)) Te ie)),some (.sh (kM r Li Ti ii)),y7,y8,none]) ⟨λz h=>h,_,rfl⟩ ?_ ?_
 ·rintro l rr env ⟨hz,y8,rfl⟩
  have hl:=hz l List.mem_cons_self
  obtain⟨b,ed,ib⟩:=oM Qi (Qe.kp l hl)
  obtain rfl:=ib.mpr ((hi _).mpr (by obtain⟨k,hk,e⟩:=mh hl;rw[← e];exact Qe.uq hk))
  dsimp? [bQ,ed]
  exact⟨_,rfl,λz h=>hz z (List.mem_cons_of_mem _ h),_,rfl⟩
 rintro env ⟨_,y8,rfl⟩
 dsimp? [mk0,eq,em,kv Q,kv Qi,kv Qm,bg (k:=500) (l:=500) b1 b2,ce,cg,decide_true]
 exact⟨_,rfl,rfl⟩
end
abbrev fI:af->M PV:=ak cA (ak bF (ae 6) (λ_=>M.ok (.int 9))) (λ_=>M.ok (.int 2))
abbrev fV:af->M PV:=ai dP (aa (ak bF (ae 6) (λ_=>M.ok (.int 18))) (aa (ak aP (ly (aa (ae 1) (aa (ae 2) aj))) (ak cA (ak bF (ae 6) (λ_=>M.ok (.int 9))) (λ_=>M.ok (.int 2)))) aj))
abbrev eN(ns f r:List Int)(t:List (List Int))(y:Option SV):af:=[some (.sh (.j9 (ns.map PV.int))),some (.sh (lI f)),some (.sh (lI r)),some (.sh (.lst (t.map lI))),some (.sh (gO f r t)),none,y,none,none,none,none,none,none]
theorem pq{ns f r:List Int}{t:List (List Int)}(Sf:Sz f)(Sr:Sz r):∀ (cs:List Int) (L0 L1:List (List Int)) (y:Option SV),(∀ l∈L0,Kp f l)->(∀ l∈L1,Kp r l)->L0.length<=8->L1.length<=8 ->
  ∃ (QJ QK:List (List Int)) (y':Option SV),xJ 6 fI fV (cs.map PV.int) (eN ns f r t y) (L0.map tI) (L1.map tI)=M.ok (eN ns f r t y',QJ.map tI,QK.map tI)/\(∀ l∈QJ,Kp f l)/\(∀ l∈QK,Kp r l)/\QJ.length<=8/\QK.length<=8
 | [],L0,L1,y,h0,h1,m0,m1=>⟨L0,L1,y,rfl,h0,h1,m0,m1⟩
 | c::cs,L0,L1,y,h0,h1,m0,m1=>by
  have d9:=aW (i:=c) (j:=9) (by decide) (by decide)
  have d18:=aW (i:=c) (j:=18) (by decide) (by decide)
  have m2:=aS (i:=c/9) (j:=2) (by decide)
  have ad:∀ (s:List Int) (l:List Int),Kp s l->∀ L:List (List Int),(∀ l∈L,Kp s l)->∀ x∈L++[l],Kp s x:=λs l kl L h x hx=>by
   rcases List.mem_append.mp hx with q | q
   ·exact h x q
   ·rw[List.mem_singleton.mp q];exact kl
  rw[List.map_cons,xJ]
  show ∃ (QJ QK:List (List Int)) (y':Option SV),M.bind (D4 fI fV (eN ns f r t (some (.sh (.int c)))) _ _) _=_/\_
  rcases show c/9%2=0\/c/9%2=1 by omega with z | z
  ·obtain⟨_,el,l,rfl,lk⟩:=sC Sf (c/18)
   have kl:=w5 Sf lk
   have ei:fI (eN ns f r t (some (.sh (.int c))))=M.ok (.int 0):=by
    unfold fI eN
    dsimp? [d9,m2,z]
   rw[D4,ei,M.aL]
   show ∃ (QJ QK:List (List Int)) (y':Option SV),M.bind (if (L0.map tI).length<8 then (fV (eN ns f r t (some (.sh (.int c))))).bind λv=>M.ok (L0.map tI++[v],L1.map tI) else M.ok (L0.map tI,L1.map tI)) _=_/\_
   by_cases q:(L0.map tI).length<8
   ·have ev:fV (eN ns f r t (some (.sh (.int c))))=M.ok (tI l):=by
     have ix:aP (.lst [lI f,lI r]) (.int 0)=M.ok (lI f):=bD (p:=.lst [lI f,lI r]) (j:=0) rfl rfl
     unfold fV eN
     dsimp? [d18,d9,m2,z,ix,el]
    rw[if_pos q,ev,M.aL,M.aL]
    have:=pq (ns:=ns) (t:=t) Sf Sr cs (L0++[l]) L1 (some (.sh (.int c))) (ad f l kl L0 h0) h1 (by simp at q ⊢;omega) m1
    rw[List.map_append] at this
    exact this
   ·rw[if_neg q,M.aL]
    exact pq Sf Sr cs L0 L1 _ h0 h1 m0 m1
  ·obtain⟨_,el,l,rfl,lk⟩:=sC Sr (c/18)
   have kl:=w5 Sr lk
   have ei:fI (eN ns f r t (some (.sh (.int c))))=M.ok (.int 1):=by
    unfold fI eN
    dsimp? [d9,m2,z]
   rw[D4,ei,M.aL]
   show ∃ (QJ QK:List (List Int)) (y':Option SV),M.bind (if (L1.map tI).length<8 then (fV (eN ns f r t (some (.sh (.int c))))).bind λv=>M.ok (L0.map tI,L1.map tI++[v]) else M.ok (L0.map tI,L1.map tI)) _=_/\_
   by_cases q:(L1.map tI).length<8
   ·have ev:fV (eN ns f r t (some (.sh (.int c))))=M.ok (tI l):=by
     have ix:aP (.lst [lI f,lI r]) (.int 1)=M.ok (lI r):=bD (p:=.lst [lI f,lI r]) (j:=1) rfl rfl
     unfold fV eN
     dsimp? [d18,d9,m2,z,ix,el]
    rw[if_pos q,ev,M.aL,M.aL]
    have:=pq (ns:=ns) (t:=t) Sf Sr cs L0 (L1++[l]) (some (.sh (.int c))) h0 (ad r l kl L1 h1) m0 (by simp at q ⊢;omega)
    rw[List.map_append] at this
    exact this
   ·rw[if_neg q,M.aL]
    exact pq Sf Sr cs L0 L1 _ h0 h1 m0 m1
theorem zM(xs:List Int)(h:xs.length<=100):dM (.lst [.int 0]) (.lst (xs.map PV.int))=M.ok (.lst ((0::xs).map PV.int)):=by
 rw[dM,av (aO (by simp;omega))];rfl
theorem Ig(ns:List Int):rP [.j9 (ns.map PV.int)]=M.ok (.bl true):=by
 obtain⟨c0,ec0⟩:=uC ns 0 (by decide)
 rw[show ((0:Nat):Int)=0 from rfl] at ec0
 obtain⟨c1,ec1⟩:=uC ns 1 (by decide)
 rw[show ((1:Nat):Int)=1 from rfl] at ec1
 obtain⟨c2,ec2⟩:=uC ns 2 (by decide)
 rw[show ((2:Nat):Int)=2 from rfl] at ec2
 obtain⟨_,es,f,rfl,Sf⟩:=rT c0
 obtain⟨_,er,r,rfl,Sr⟩:=rT c1
 obtain⟨t,et,g⟩:=A9 Sf Sr c2
 have gm:=FE g
 obtain⟨L0,L1,y6,e2,k0,k1,m0,m1⟩:=pq (ns:=ns) (t:=t) Sf Sr (lD ns 2 18) [] [] none (by simp) (by simp) (by simp) (by simp)
 obtain⟨T0,i0,Q0⟩:=gu.kept ns Sf m0 k0
 obtain⟨T1,i1,Q1⟩:=gu.kept ns Sr m1 k1
 obtain⟨Te,ie,Qe⟩:=gu.kept ns Sr (L:=[]) (by decide) (by simp)
 have V1:Vr ns r (dw r L1) (GT r T1):=⟨_,_,_,_,rfl,Q1,λ_=>Iff.rfl⟩
 have Ve:Vr ns r (dw r []) (GT r Te):=⟨_,_,_,_,rfl,Qe,λ_=>Iff.rfl⟩
 obtain⟨_,ei,⟨raw2,L2',T2,i2,rfl,Q2,h2⟩⟩:=kG g V1
 obtain⟨_,eb,⟨raw3,L3,T3,i3,rfl,Q3,h3⟩⟩:=kG g Ve
 have il:=DX g Q0
 have j0:aP (.lst [.lst (L0.map tI),.lst (L1.map tI)]) (.int 0)=M.ok (.lst (L0.map tI)):=bD (p:=.lst [.lst (L0.map tI),.lst (L1.map tI)]) (j:=0) rfl rfl
 have j1:aP (.lst [.lst (L0.map tI),.lst (L1.map tI)]) (.int 1)=M.ok (.lst (L1.map tI)):=bD (p:=.lst [.lst (L0.map tI),.lst (L1.map tI)]) (j:=1) rfl rfl
 have mk0:=Q0.xM (p:=lI f) (f:=tI) (.inl rfl) rfl
 have xM:=Q1.xM (p:=lI r) (f:=tI) (.inl rfl) rfl
 have mke:=Qe.xM (p:=lI r) (f:=tI) (.inl rfl) rfl
 rw[List.map_nil] at mke
 have ke:bI (bQ 0) none (ai fy (aa (ae 2) (aa (ae 1) (aa (ae 0) aj)))) (L0.map tI) [none,some (.sh (lI r)),some (.sh (.lst (t.map lI)))]=M.ok ((L0.map (lC r t)).map tI):=by
  rw[List.map_map]
  refine dZ (inj:=tI) L0 λl hl=>?_
  dsimp? [yC g (k0 l hl)]
  rfl
 have zl:L0.length<=sizeLine:=aO (by omega)
 have gw:(C0 [some (.sh (.j9 (ns.map PV.int))),some (.sh (lI f)),some (.sh (lI r)),some (.sh (.lst (t.map lI))),some (.sh (gO f r t)),none,none,none,none,none,none,none,none]=true/\5<13/\7<13):=⟨rfl,by decide,by decide⟩
 refine jx.eq ?_
 unfold rP BD Iv JD
 dsimp? [ec0,es,ec1,er,ec2,et,gm]
 rw[av gw]
 dsimp? [qA,lO,Hj,show JL (.j9 (ns.map PV.int)) (some 2) (some 18)=M.ok (.lst ((lD ns 2 18).map PV.int)) from yW ns 2 18]
 have e2':xJ 6 (ak cA (ak bF (ae 6) λ_=>M.ok (.int 9)) λ_=>M.ok (.int 2)) (ai dP (aa (ak bF (ae 6) λ_=>M.ok (.int 18)) (aa (ak aP (ly (aa (ae 1) (aa (ae 2) aj))) (ak cA (ak bF (ae 6) λ_=>M.ok (.int 9)) λ_=>M.ok (.int 2))) aj))) ((lD ns 2 18).map PV.int) [some (.sh (.j9 (ns.map PV.int))),some (.sh (lI f)),some (.sh (lI r)),some (.sh (.lst (t.map lI))),some (.sh (gO f r t)),none,none,none,none,none,none,none,none] [] []=M.ok (eN ns f r t y6,L0.map tI,L1.map tI):=e2
 rw[e2',M.aL,Hh,M.aL]
 unfold eN
 dsimp? [j0,j1,List.length_map,av zl,ke,mk0,il,xM,ei,Q2.DV,Q1.DV,mke,eb,bK,Jj,qA,lO,Hj,show JL (.j9 (ns.map PV.int)) (some 2) (some 63)=M.ok (.lst ((lD ns 2 63).map PV.int)) from yW ns 2 63,zM (lD ns 2 63) (by have:=Ak ns 2 63;omega)]
 refine jx.loop (xs:=0::lD ns 2 63) (inj:=PV.int) (λzs env=>∃ y6 y12,env=[some (.sh (.j9 (ns.map PV.int))),some (.sh (lI f)),some (.sh (lI r)),some (.sh (.lst (t.map lI))),some (.sh (gO f r t)),some (.sh (.lst [.lst (L0.map tI),.lst (L1.map tI)])),y6,none,some (.sh (.lst ((L0.map (lC r t)).map tI))),some (.sh (kM f L2' T2 i2)),some (.sh (kM r L1 T1 i1)),some (.sh (.lst (L3.map tI))),y12]) ⟨_,_,rfl⟩ ?_ ?_
 ·rintro a rr env ⟨y6,y12,rfl⟩
  obtain⟨_,ex,xs,rfl,xk⟩:=xo Sf (λl h=>Q3.kp l h) Q3.m8 a
  have lk:=De g xk.1
  obtain⟨d0,f0,q0⟩:=oM Q2 xk
  obtain⟨d1,f1,q1⟩:=oM Q1 lk
  obtain rfl:d0=d1:=by
   rw[Bool.eq_iff_iff,q0,q1]
   refine(h2 _).symm.trans ⟨Q1.st.gd.lj (by omega) λj hj=>?_,Q1.st.gd.lj (by omega) λj hj=>?_⟩
   ·rw[tQ g xk.1 hj];exact cG _ _
   ·rw[tQ g xk.1 hj]
    obtain⟨c,hc⟩:vf r j∣ph f.length t (vf xs) j%vf r j-ph f.length t (vf xs) j:=cG _ _
    exact⟨-c,by rw[Int.mul_neg,← hc];omega⟩
  dsimp? [bQ,ex,f0,yC g xk,f1,decide_true]
  exact⟨_,rfl,_,_,rfl⟩
 ·rintro env ⟨y6,y12,rfl⟩
  exact⟨_,rfl,rfl⟩
end wC
theorem PySem.Challenge.cw_dialvault_k56_whole_great_gears_holds : PySem.Challenge.rw_dialvault_k56_whole_great_gears.Holds :=
  wC.hold HD.said λns _ _ => wC.Ig ns
end